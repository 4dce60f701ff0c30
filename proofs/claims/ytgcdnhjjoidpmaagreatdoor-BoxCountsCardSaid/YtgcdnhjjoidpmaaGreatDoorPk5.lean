/- 12 texts in one, in their order. -/
import Derived.Test.YtgcdnhjjoidpmaaGreatDoorPk4
import Derived.Lib.AppendZeros
/- Contracts of package mac: New. -/
namespace Go.Proofs.YtgcdnhjjoidpmaaGreatDoor
open Go.RowKit
/-- a Maker's block, whole -/
def mkCells (d m x : Int) (K X Y : Nat → Nat) : List Value := bytesL 64 K ++ (.int .u32 d :: .int .i32 m :: .int .u32 x :: (bytesL 64 X ++ bytesL 64 Y))
theorem makMem_of {w : World} {g : Nat} {d m x : Int} {K X Y : Nat → Nat} {t : TypeId} (h : w.heap[g]? = some (.cells (mkCells d m x K X Y).toArray t (0, 0))) : MakMem w g d m K X Y := by
  have hz : ∀ (o : Nat), w.frozen? ⟨g, o, none⟩ = false := fun o => by simp [World.frozen?, h]
  have hc : ∀ (o : Nat) v, (mkCells d m x K X Y)[o]? = some v → w.cell? ⟨g, o, none⟩ = some v := fun o v hv => by
    simp only [World.cell?, h]
    rw [List.getElem?_toArray, hv]
    rfl
  refine ⟨arr_of_list h fun j hj => ?_, ⟨hc 64 _ ?_, hc 65 _ ?_, hz _, hz _⟩, arr_of_list h fun j hj => ?_, arr_of_list h fun j hj => ?_⟩
  · unfold mkCells
    rw [Nat.zero_add, List.getElem?_append_left (by rw [bytesL_length]; exact hj)]
  · unfold mkCells
    rw [List.getElem?_append_right (by rw [bytesL_length]; decide), bytesL_length]; rfl
  · unfold mkCells
    rw [List.getElem?_append_right (by rw [bytesL_length]; decide), bytesL_length]; rfl
  · unfold mkCells
    rw [List.getElem?_append_right (by rw [bytesL_length]; omega), bytesL_length, show 67 + j - 64 = j + 1 + 1 + 1 by omega,
      List.getElem?_cons_succ, List.getElem?_cons_succ, List.getElem?_cons_succ, List.getElem?_append_left (by rw [bytesL_length]; exact hj)]
  · unfold mkCells
    rw [List.getElem?_append_right (by rw [bytesL_length]; omega), bytesL_length, show 131 + j - 64 = (j + 64) + 1 + 1 + 1 by omega,
      List.getElem?_cons_succ, List.getElem?_cons_succ, List.getElem?_cons_succ, List.getElem?_append_right (by rw [bytesL_length]; omega), bytesL_length, Nat.add_sub_cancel]
set_option maxRecDepth 100000 in
theorem zeroMaker : Tryz.zeroCells85 = (mkCells 0 0 0 (fun _ => 0) (fun _ => 0) (fun _ => 0)).toArray := by kernel_rfl
theorem maker_made (l : Nat) (key : Nat → Nat) (hl : l ≤ 64) : splice Tryz.zeroCells85.toList 0 (bytesL l key) = mkCells 0 0 0 (fun x => if x < l then key x else 0) (fun _ => 0) (fun _ => 0) := by
  have e2 : bytesL 64 (fun x => if x < l then key x else 0) = bytesL l key ++ (bytesL 64 (fun _ => 0)).drop l := by
    apply List.ext_getElem?
    intro j
    by_cases hj : j < l
    · rw [List.getElem?_append_left (by rw [bytesL_length]; exact hj), bytesL_at hj, bytesL_at (by omega)]
      show some (Value.int .u8 ((if j < l then key j else 0 : Nat) : Int)) = _
      rw [if_pos hj]
    · rw [List.getElem?_append_right (by rw [bytesL_length]; omega), bytesL_length, List.getElem?_drop, show l + (j - l) = j by omega]
      by_cases h2 : j < 64
      · rw [bytesL_at h2, bytesL_at h2]
        show some (Value.int .u8 ((if j < l then key j else 0 : Nat) : Int)) = _
        rw [if_neg hj]
      · rw [List.getElem?_eq_none (by rw [bytesL_length]; omega), List.getElem?_eq_none (by rw [bytesL_length]; omega)]
  rw [zeroMaker]
  unfold splice mkCells
  rw [bytesL_length, Nat.zero_add, List.toList_toArray, List.drop_append_of_le_length (by rw [bytesL_length]; exact hl), e2]
  simp
set_option maxRecDepth 100000 in
set_option maxHeartbeats 800000 in
theorem mnew_le (A : Option Addr) (n cap : Nat) (key : Nat → Nat) (w : World) (hn : n ≤ 64) (hA : SlB w A n key) :
    Calls Tryz.prog 23 #[.slice A n cap] w fun e w' => ∃ g, e = .returned (.pointer (some ⟨g, 0, none⟩)) ∧ w.heap.size ≤ g ∧ MakAt w' g n key ∧ Below w.heap.size w w' := by
  have HA := Lib.hid (hA.keep ((Below.refl _ _).alloc (Nat.le_refl _) (.cells Tryz.zeroCells85 85)))
  have HB := Lib.hid ((Below.refl w.heap.size w).alloc (Nat.le_refl _) (.cells Tryz.zeroCells85 85))
  have HG := Lib.hid (show (w.alloc (.cells Tryz.zeroCells85 85)).heap[w.heap.size]? = some (.cells Tryz.zeroCells85.toList.toArray 85 (0, 0)) by rw [heap_alloc_new, Array.toArray_toList])
  have hd : decide (64 < (n : Int)) = false := by simp; omega
  have HL := Lib.hid (show (bytesL n key).length = Nat.min n 64 by rw [bytesL_length]; show n = min n 64; omega)
  have HP := Lib.hid (copy_parts (k := n) (dp := some ⟨w.heap.size, 0, none⟩) (g := w.heap.size) (off := 0) HA.out (Nat.le_refl _) (fun _ => rfl))
  have HF := Lib.hid (show 0 + (bytesL n key).length ≤ Tryz.zeroCells85.toList.length by
    rw [zeroMaker, bytesL_length]
    simp [mkCells, bytesL_length]
    omega)
  have HK := Lib.hid (maker_made n key hn)
  have hsa : ∀ W : World, (Instr.sliceAt 73 (.pointer (some ⟨w.heap.size, 0, none⟩)) none none none).run Tryz.prog W = .ok (.slice (some ⟨w.heap.size, 0, none⟩) 64 64) W := all_arr 73 64 w.heap.size 0 Tryz.underlying73 (by decide)
  have HN := Lib.hid hn
  clear hA hn
  go_enter Tryz.func23, Tryz.ntmps23
  go_wp2_with ((refine wpList_copy_splice rfl (.tmp 15) (.tmp 16) 22 22 rfl 5 Tryz.underlying22 sizeOf8 (some ⟨w.heap.size, 0, none⟩) A 64 64 n cap rfl rfl w.heap.size 0 _ 85 HG.out (bytesL n key) HL.out HP.out HF.out (bytes_one n key) w.heap.size w HB.out (Nat.le_refl _) ?_); intro w2 hr hb2; rw [HK.out] at hr; have HR := Lib.hid hr; have HB2 := Lib.hid hb2; clear hr hb2)
  go_ret
  exact ⟨w.heap.size, rfl, Nat.le_refl _, Or.inl ((makMem_of HR.out.out).congr (fun j _ => by unfold kf; rw [if_pos HN.out]) (fun _ _ => rfl) (fun _ _ => rfl)), HB2.out⟩
set_option maxRecDepth 100000 in
set_option maxHeartbeats 800000 in
theorem mnew_gt (A : Option Addr) (n cap : Nat) (key : Nat → Nat) (w : World) (hn : 64 < n) (hn2 : n ≤ 100000000000000) (hc : n ≤ cap) (hA : SlB w A n key) (ht : GT w) :
    Calls Tryz.prog 23 #[.slice A n cap] w fun e w' => ∃ g, e = .returned (.pointer (some ⟨g, 0, none⟩)) ∧ w.heap.size ≤ g ∧ MakAt w' g n key ∧ Below w.heap.size w w' := by
  have hd : decide (64 < (n : Int)) = true := by simp; omega
  have HS := Lib.hid (sum1_any w A n cap key hn2 hc hA ht)
  have HN := Lib.hid hn
  clear hA hn ht
  go_enter Tryz.func23, Tryz.ntmps23
  go_wp2_with fail
  refine HS.out.mono ?_
  rintro e w1 ⟨d, rfl, hd1, ha1, hb1⟩
  have HB1 := Lib.hid hb1
  have HA1 := Lib.hid (ha1.slB fun j _ => sha_lt _ _ j)
  have HA := Lib.hid (HA1.out.keep ((Below.refl _ _).alloc (Nat.le_refl _) (.cells Tryz.zeroCells85 85)))
  have HB := Lib.hid ((Below.refl w1.heap.size w1).alloc (Nat.le_refl _) (.cells Tryz.zeroCells85 85))
  have HG := Lib.hid (show (w1.alloc (.cells Tryz.zeroCells85 85)).heap[w1.heap.size]? = some (.cells Tryz.zeroCells85.toList.toArray 85 (0, 0)) by rw [heap_alloc_new, Array.toArray_toList])
  have HL := Lib.hid (show (bytesL 32 (sha n key)).length = Nat.min 32 64 by rw [bytesL_length]; rfl)
  have HP := Lib.hid (copy_parts (k := 32) (dp := some ⟨w1.heap.size, 0, none⟩) (g := w1.heap.size) (off := 0) HA.out (Nat.le_refl _) (fun _ => rfl))
  have HF := Lib.hid (show 0 + (bytesL 32 (sha n key)).length ≤ Tryz.zeroCells85.toList.length by
    rw [zeroMaker, bytesL_length]
    simp [mkCells, bytesL_length])
  have HK := Lib.hid (maker_made 32 (sha n key) (by decide))
  have hsa : ∀ W : World, (Instr.sliceAt 73 (.pointer (some ⟨w1.heap.size, 0, none⟩)) none none none).run Tryz.prog W = .ok (.slice (some ⟨w1.heap.size, 0, none⟩) 64 64) W := all_arr 73 64 w1.heap.size 0 Tryz.underlying73 (by decide)
  clear hd1 ha1 hb1 hd HS
  go_wp2_with ((refine wpList_copy_splice rfl (.tmp 15) (.tmp 16) 22 22 rfl 5 Tryz.underlying22 sizeOf8 (some ⟨w1.heap.size, 0, none⟩) (some ⟨d, 0, none⟩) 64 64 32 32 rfl rfl w1.heap.size 0 _ 85 HG.out (bytesL 32 (sha n key)) HL.out (fun h => ⟨rfl, (HP.out h).2⟩) HF.out (bytes_one 32 (sha n key)) w1.heap.size w1 HB.out (Nat.le_refl _) ?_); intro w2 hr hb2; rw [HK.out] at hr; have HR := Lib.hid hr; have HB2 := Lib.hid hb2; clear hr hb2)
  go_ret
  exact ⟨w1.heap.size, rfl, HB1.out.size, Or.inl ((makMem_of HR.out.out).congr (fun j _ => by unfold kf; exact (if_neg (by have := HN.out; omega)).symm) (fun _ _ => rfl) (fun _ _ => rfl)), HB1.out.trans (HB2.out.mono HB1.out.size)⟩
theorem mnew_any (A : Option Addr) (n cap : Nat) (key : Nat → Nat) (w : World) (hn : n ≤ 100000000000000) (hc : n ≤ cap) (hA : SlB w A n key) (ht : GT w) :
    Calls Tryz.prog 23 #[.slice A n cap] w fun e w' => ∃ g, e = .returned (.pointer (some ⟨g, 0, none⟩)) ∧ w.heap.size ≤ g ∧ MakAt w' g n key ∧ Below w.heap.size w w' := by
  by_cases h : n ≤ 64
  · exact mnew_le A n cap key w h hA
  · exact mnew_gt A n cap key w (by omega) hn hc hA ht
end Go.Proofs.YtgcdnhjjoidpmaaGreatDoor
/- More operations: for regions that draw their order. -/
namespace Go.Proofs.YtgcdnhjjoidpmaaGreatDoor.ord
open Go Go.RowKit
theorem makes_nilCheck {P : Program} {o : Oper} {a : Act} {w : World} {N : Value → World → Prop} {x : Operand} {ad : Addr} (ho : o.op = .nilCheck x) (hx : a.eval x = .pointer (some ad)) (hN : N (.pointer (some ad)) w) : makes P o a w N := by
  unfold makes
  have : (execOp a.eval o).run P w = .ok (.value (.pointer (some ad))) w := by
    simp only [execOp, ho, hx]; rfl
  rw [this]; exact hN
theorem makes_fieldAddr {P : Program} {o : Oper} {a : Act} {w : World} {N : Value → World → Prop} {t : TypeId} {f : Nat} {x : Operand} {vx u : Value} (ho : o.op = .fieldAddr t x f) (hx : a.eval x = vx) (hrun : (Instr.fieldAt t vx f).run P w = .ok u w) (hN : N u w) : makes P o a w N := by
  unfold makes
  have : (execOp a.eval o).run P w = .ok (.value u) w := by
    simp only [execOp, ho, hx, Sem.run_bind]
    rw [hrun]; rfl
  rw [this]; exact hN
end Go.Proofs.YtgcdnhjjoidpmaaGreatDoor.ord
/- Contracts of package mac: a Maker's tags. -/
namespace Go.Proofs.YtgcdnhjjoidpmaaGreatDoor
open Go.RowKit
theorem offs_add (a : Nat) (n : Nat → Nat) : ∀ i, offs a n i = a + offs 0 n i
  | 0 => rfl
  | i + 1 => by show offs a n i + n i = a + (offs 0 n i + n i); rw [offs_add a n i]; omega
theorem run_build2 (w : World) (A0 A1 : Option Addr) (n0 n1 c0 c1 : Nat) : (Instr.buildSlice 25 2 #[(0, .slice A0 n0 c0), (1, .slice A1 n1 c1)]).run Tryz.prog w = .ok (.slice (some ⟨w.heap.size, 0, none⟩) 2 2) (w.alloc (.cells #[.slice A0 n0 c0, .slice A1 n1 c1] 22)) := by go_simp
theorem run_outer (g : Nat) (w : World) : (Instr.fieldAt 85 (.pointer (some ⟨g, 0, none⟩)) 3).run Tryz.prog w = .ok (.pointer (some ⟨g, 131, none⟩)) w := by go_simp
theorem sum2_parts (W : World) (gp cap : Nat) (A0 A1 : Option Addr) (n0 n1 c0 c1 : Nat) (f0 f1 F : Nat → Nat) (hn : n0 + n1 ≤ 100000000000000) (hc0 : n0 ≤ c0) (hc1 : n1 ≤ c1) (hp : Parts W gp 2 (t2 A0 A1) (t2 n0 n1) (t2 c0 c1) (t2 f0 f1)) (hY : By (n0 + n1) F)
    (hF0 : ∀ j, j < n0 → F j = f0 j) (hF1 : ∀ j, j < n1 → F (n0 + j) = f1 j) (ht : GT W) :
    Calls Tryz.prog 39 #[.slice (some ⟨gp, 0, none⟩) 2 cap] W (Dig W (n0 + n1) F) := by
  refine (sum_any gp 2 cap _ _ _ _ F _ (by decide) (by decide) (by show 0 + n0 + n1 ≤ _; omega) hp (fun i hi => ?_) (fun i hi j hj => ?_) (fun j hj => ?_) ht).mono fun e w' h => (Dig.of h (Below.refl _ _)).as (by show 0 + n0 + n1 = _; omega) fun _ _ => rfl
  · rcases two_of hi with rfl | rfl
    · exact hc0
    · exact hc1
  · rcases two_of hi with rfl | rfl
    · show F (0 + j) = f0 j
      rw [Nat.zero_add]; exact hF0 j hj
    · show F (0 + n0 + j) = f1 j
      rw [Nat.zero_add]; exact hF1 j hj
  · have hj : j < 0 + n0 + n1 := hj
    exact hY j (by omega)
--DEFS mm
def mmG (g h n : Nat) (key : Nat → Nat) (m : Nat) (F : Nat → Nat) (w0 : World) : Nat → Value → World → Prop
  | 0, v, _ => v = .pointer (some ⟨g, 0, none⟩)
  | 1, v, _ => v = .pointer (some ⟨g, 0, none⟩)
  | 2, v, _ => v = .pointer (some ⟨g, 131, none⟩)
  | 3, v, _ => v = .slice (some ⟨g, 131, none⟩) 64 64
  | 4, v, _ => v = .pointer (some ⟨h, 0, none⟩)
  | 5, v, w => ∃ d, v = .slice (some ⟨d, 0, none⟩) 32 32 ∧ Arr w d 0 32 (sha (64 + m) (catB 64 (xf 54 n key) F))
  | 6, v, w => ∃ p d, v = .slice (some ⟨p, 0, none⟩) 2 2 ∧ Parts w p 2 (t2 (some ⟨g, 131, none⟩) (some ⟨d, 0, none⟩)) (t2 64 32) (t2 64 32) (t2 (xf 92 n key) (sha (64 + m) (catB 64 (xf 54 n key) F)))
  | 7, v, w => ∃ d, v = .slice (some ⟨d, 0, none⟩) 32 32 ∧ w0.heap.size ≤ d ∧ Arr w d 0 32 (tag n key m F)
  | _, _, _ => True
theorem mmG_stays (g h n : Nat) (key : Nat → Nat) (m : Nat) (F : Nat → Nat) (w0 : World) : ∀ i v w w', mmG g h n key m F w0 i v w → Below w.heap.size w w' → mmG g h n key m F w0 i v w'
  | 0, _, _, _, h, _ => h
  | 1, _, _, _, h, _ => h
  | 2, _, _, _, h, _ => h
  | 3, _, _, _, h, _ => h
  | 4, _, _, _, h, _ => h
  | 5, v, w, w', h_, hb => by
    obtain ⟨d, h1, h2⟩ := h_; exact ⟨d, h1, h2.keep hb⟩
  | 6, v, w, w', h_, hb => by
    obtain ⟨p, d, h1, h2⟩ := h_; exact ⟨p, d, h1, h2.keep hb⟩
  | 7, v, w, w', h_, hb => by
    obtain ⟨d, h1, h2, h3⟩ := h_; exact ⟨d, h1, h2, h3.keep hb⟩
  | _ + 8, _, _, _, _, _ => trivial
--END DEFS mm
/-- what a tag's call leaves -/
def TagP (g n : Nat) (key : Nat → Nat) (m : Nat) (F : Nat → Nat) (w : World) (e : Ending) (w' : World) : Prop :=
  ∃ d, e = .returned (.slice (some ⟨d, 0, none⟩) 32 32) ∧ w.heap.size ≤ d ∧ Arr w' d 0 32 (tag n key m F) ∧ MakReady w' g n key ∧ Chg g w w'
set_option maxRecDepth 100000 in
set_option maxHeartbeats 1600000 in
theorem mmac_any (g n gp k cap : Nat) (key : Nat → Nat) (A : Nat → Option Addr) (l c : Nat → Nat) (f : Nat → Nat → Nat) (F : Nat → Nat) (m : Nat) (w0 : World) (hkey : By n key) (hk : MakAt w0 g n key) (hk0 : 0 < k) (hk2 : k ≤ 1000) (hm : offs 0 l k = m) (hN : m ≤ 10000000000000)
    (hp : Parts w0 gp k A l c f) (hcap : ∀ i, i < k → l i ≤ c i) (hF : ∀ i, i < k → ∀ j, j < l i → F (offs 0 l i + j) = f i j) (hY : By m F) (ht : GT w0) (hG : 1 ≠ g ∧ 0 ≠ g) (hgp : gp ≠ g)
    (hA : ∀ i, i < k → 0 < l i → ∀ B o, A i = some ⟨B, o, none⟩ → B ≠ g) :
    Calls Tryz.prog 43 #[.pointer (some ⟨g, 0, none⟩), .slice (some ⟨gp, 0, none⟩) k cap] w0 (TagP g n key m F w0) := by
  have HO := Lib.hid (once_mac g n key w0 hkey hk)
  have HKY := Lib.hid hkey
  have HGL := Lib.hid hk.lt
  have HGP := Lib.hid (block_lt (a := ⟨gp, 0, none⟩) (hp.cells 0 hk0))
  have HP := Lib.hid hp
  have HCP := Lib.hid hcap
  have HF := Lib.hid (show ∀ i, i < k → ∀ j, j < l i → catB 64 (xf 54 n key) F (offs 64 l i + j) = f i j from fun i hi j hj => by
    rw [offs_add, ← hF i hi j hj]
    unfold catB
    rw [if_neg (by omega), Nat.add_assoc, Nat.add_sub_cancel_left])
  have HM := Lib.hid (show offs 64 l k = 64 + m by rw [offs_add, hm])
  have HN := Lib.hid hN
  have HT := Lib.hid ht
  have HG := Lib.hid hG
  have HGQ := Lib.hid hgp
  have HA := Lib.hid hA
  have HFY := Lib.hid (show By (64 + m) (catB 64 (xf 54 n key) F) from fun j hj => catB_lt (xf_by (by decide) hkey) hY j hj)
  have hfi : ∀ W : World, (Instr.sliceAt 73 (.pointer (some ⟨g, 67, none⟩)) none none none).run Tryz.prog W = .ok (.slice (some ⟨g, 67, none⟩) 64 64) W := all_arr 73 64 g 67 Tryz.underlying73 (by decide)
  have HSA := Lib.hid (all_arr 73 64 g 131 Tryz.underlying73 (by decide))
  clear hkey hk hm hN hp hcap hF hY ht hG hgp hA
  go_enter Tryz.func43, Tryz.ntmps43
  go_wp2_with fail
  refine HO.out.mono ?_
  rintro e w1 ⟨rfl, h1, h2⟩
  have HR1 := Lib.hid h1
  have HC1 := Lib.hid h2
  have HT1 := Lib.hid (HT.out.chg h2 HG.out)
  have HP1 := Lib.hid (HP.out.chg h2 HGQ.out HA.out)
  have HL1 := Lib.hid h1.lt
  clear h1 h2
  go_wp2_with fail
  refine (snew_any (catB 64 (xf 54 n key) F) w1 HT1.out).mono ?_
  rintro e w2 ⟨rfl, h1, h2⟩
  obtain ⟨h, hh⟩ : ∃ h, w1.heap.size = h := ⟨_, rfl⟩
  rw [hh] at h1 ⊢
  have HH := Lib.hid (show w0.heap.size ≤ h by rw [← hh]; exact HC1.out.size)
  have HGH := Lib.hid (show g < h by rw [← hh]; exact HL1.out)
  have HHM := Lib.hid h1
  have HR2 := Lib.hid (HR1.out.keep h2)
  have HC2 := Lib.hid (HC1.out.thenBelow h2)
  have HT2 := Lib.hid (HT1.out.keep h2)
  have HP2 := Lib.hid (HP1.out.keep h2)
  have HGW := Lib.hid (show 1 ≠ h ∧ 0 ≠ h from by rw [← hh]; exact ⟨Nat.ne_of_lt HT1.out.ltk, Nat.ne_of_lt HT1.out.lth⟩)
  clear h1 h2 hh
  go_wp2_with fail
  refine (write1_any w2 h 0 (some ⟨g, 67, none⟩) 64 64 (xf 54 n key) (catB 64 (xf 54 n key) F) (by decide) (Nat.le_refl _) (HR2.out.inner.slB (xf_by (by decide) HKY.out)) (fun j hj => by rw [Nat.zero_add]; unfold catB; rw [if_pos hj]) HHM.out (fun j hj => HFY.out j (by omega)) HT2.out HGW.out (fun _ B o e => by cases e; exact Nat.ne_of_lt HGH.out)).mono ?_
  rintro e w3 ⟨rfl, h1, h2⟩
  have HHM3 := Lib.hid h1
  have HR3 := Lib.hid (HR2.out.chg h2 (Nat.ne_of_lt HGH.out))
  have HC3 := Lib.hid (HC2.out.thenNew h2 HH.out)
  have HT3 := Lib.hid (HT2.out.chg h2 HGW.out)
  have HQ := Lib.hid (show gp ≠ h from Nat.ne_of_lt (Nat.lt_of_lt_of_le HGP.out HH.out))
  have HP3 := Lib.hid (HP2.out.chg h2 HQ.out (HP.out.apart HH.out))
  clear h1 h2
  go_wp2_with fail
  refine (write_any h 64 gp k cap A l c f (catB 64 (xf 54 n key) F) w3 hk2 (by rw [HM.out]; have := HN.out; omega) HP3.out HCP.out HF.out HHM3.out (by rw [HM.out]; exact HFY.out) HT3.out HGW.out HQ.out (HP.out.apart HH.out)).mono ?_
  rintro e w4 ⟨rfl, h1, h2⟩
  rw [HM.out] at h1
  have HHM4 := Lib.hid h1
  have HR4 := Lib.hid (HR3.out.chg h2 (Nat.ne_of_lt HGH.out))
  have HC4 := Lib.hid (HC3.out.thenNew h2 HH.out)
  have HT4 := Lib.hid (HT3.out.chg h2 HGW.out)
  clear h1 h2 hfi HHM3 HR3 HC3 HT3 HP3 HHM HR2 HC2 HT2 HP2
  have HHS := Lib.hid (show ∀ w', Below w4.heap.size w4 w' → Calls Tryz.prog 55 #[.pointer (some ⟨h, 0, none⟩)] w' fun e w'' => ∃ d, e = .returned (.slice (some ⟨d, 0, none⟩) 32 32) ∧ w'.heap.size ≤ d ∧ Arr w'' d 0 32 (sha (64 + m) (catB 64 (xf 54 n key) F)) ∧ Below w'.heap.size w' w'' from fun w' hb =>
    hsum_any h (64 + m) (catB 64 (xf 54 n key) F) w' (by have := HN.out; omega) (HHM4.out.keep hb) HFY.out (HT4.out.keep hb))
  have HOU := Lib.hid (show ∀ w', Below w4.heap.size w4 w' → SlB w' (some ⟨g, 131, none⟩) 64 (xf 92 n key) from fun w' hb => (HR4.out.keep hb).outer.slB (xf_by (by decide) HKY.out))
  have HTG := Lib.hid (show ∀ w', Below w4.heap.size w4 w' → GT w' from fun w' hb => HT4.out.keep hb)
  have HFA := Lib.hid (run_outer g)
  have HBP := Lib.hid (fun (w : World) (d : Nat) => run_build2 w (some ⟨g, 131, none⟩) (some ⟨d, 0, none⟩) 64 32 64 32)
  have hz4 := HC4.out.size
  go_wp2_with fail
  refine ord.wp_region_ordT 8 [[], [0], [1], [2], [], [4], [3, 5], [6]] [(0, 23), (1, 24), (2, 25), (3, 26), (4, 27), (5, 28), (6, 29), (7, 30)] (mmG g h n key m F w0) (by kernel_rfl) (by kernel_rfl) (by kernel_rfl) (mmG_stays _ _ _ _ _ _ _) ((ord.steps_cons ?_ (ord.steps_cons ?_ (ord.steps_cons ?_ (ord.steps_cons ?_ (ord.steps_cons ?_ (ord.steps_cons ?_ (ord.steps_cons ?_ (ord.steps_cons ?_ ord.steps_nil))))))))) ?_
  --STEPS mm
  · intro o ho x w hb hG
    obtain rfl := Option.some.inj ho
    clear ho
    refine Or.inl ⟨ord.want0 rfl, ?_⟩
    exact ord.makes_move rfl ⟨Below.refl _ _, rfl⟩
  · intro o ho x w hb hG
    obtain rfl := Option.some.inj ho
    clear ho
    have h23 : x 0 = .pointer (some ⟨g, 0, none⟩) := hG (0, 23) (List.mem_of_getElem? (i := 0) rfl) rfl
    refine Or.inl ⟨ord.want0 rfl, ?_⟩
    exact ord.makes_nilCheck rfl h23 ⟨Below.refl _ _, rfl⟩
  · intro o ho x w hb hG
    obtain rfl := Option.some.inj ho
    clear ho
    have h24 : x 1 = .pointer (some ⟨g, 0, none⟩) := hG (1, 24) (List.mem_of_getElem? (i := 1) rfl) rfl
    refine Or.inl ⟨ord.want0 rfl, ?_⟩
    exact ord.makes_fieldAddr rfl h24 (HFA.out w) ⟨Below.refl _ _, rfl⟩
  · intro o ho x w hb hG
    obtain rfl := Option.some.inj ho
    clear ho
    have h25 : x 2 = .pointer (some ⟨g, 131, none⟩) := hG (2, 25) (List.mem_of_getElem? (i := 2) rfl) rfl
    refine Or.inl ⟨ord.want0 rfl, ?_⟩
    exact ord.makes_slice rfl h25 rfl rfl rfl (HSA.out w) ⟨Below.refl _ _, rfl⟩
  · intro o ho x w hb hG
    obtain rfl := Option.some.inj ho
    clear ho
    refine Or.inl ⟨ord.want0 rfl, ?_⟩
    exact ord.makes_move rfl ⟨Below.refl _ _, rfl⟩
  · intro o ho x w hb hG
    obtain rfl := Option.some.inj ho
    clear ho
    have h27 : x 4 = .pointer (some ⟨h, 0, none⟩) := hG (4, 27) (List.mem_of_getElem? (i := 4) rfl) rfl
    refine Or.inl ⟨ord.want0 rfl, ?_⟩
    exact ord.makes_call1 Tryz.func55 (by kernel_rfl) (by kernel_rfl) rfl h27 (HHS.out w (of_drew hb)) (fun e w' h => by obtain ⟨d, he, _, h2, h4⟩ := h; exact ⟨_, he, h4, d, rfl, h2⟩)
  · intro o ho x w hb hG
    obtain rfl := Option.some.inj ho
    clear ho
    have h26 : x 3 = .slice (some ⟨g, 131, none⟩) 64 64 := hG (3, 26) (List.mem_of_getElem? (i := 3) rfl) rfl
    have h28 : mmG g h n key m F w0 5 (x 5) w := hG (5, 28) (List.mem_of_getElem? (i := 5) rfl) rfl
    refine Or.inl ⟨ord.want0 rfl, ?_⟩
    obtain ⟨d, hv, ha⟩ := h28
    exact ord.makes_build2 rfl h26 hv (HBP.out w d) ⟨(Below.refl _ _).alloc (Nat.le_refl _) _, _, d, rfl, parts2 _ _ _ _ _ _ _ _ (HOU.out w (of_drew hb)) (ha.slB fun j _ => sha_lt _ _ j)⟩
  · intro o ho x w hb hG
    obtain rfl := Option.some.inj ho
    clear ho
    have h29 : mmG g h n key m F w0 6 (x 6) w := hG (6, 29) (List.mem_of_getElem? (i := 6) rfl) rfl
    refine Or.inl ⟨ord.want0 rfl, ?_⟩
    obtain ⟨p, d, hv, hp⟩ := h29
    exact ord.makes_call1 Tryz.func39 (by kernel_rfl) (by kernel_rfl) rfl hv (sum2_parts w p 2 _ _ 64 32 64 32 _ _ (catB 64 (xf 92 n key) (sha (64 + m) (catB 64 (xf 54 n key) F))) (by decide) (Nat.le_refl _) (Nat.le_refl _) hp (fun j hj => catB_lt (xf_by (by decide) HKY.out) (fun j _ => sha_lt _ _ j) j hj) (fun j hj => by unfold catB; rw [if_pos hj]) (fun j _ => by unfold catB; rw [if_neg (by omega), Nat.add_sub_cancel_left]) (HTG.out w (of_drew hb))) (fun e w' h => by obtain ⟨d, he, h1, h2, h4⟩ := h; exact ⟨_, he, h4, d, rfl, Nat.le_trans hz4 (Nat.le_trans (of_drew hb).size h1), h2⟩)
  --END STEPS mm
  · intro x w5 hb hG
    have e30 : mmG g h n key m F w0 7 (x 7) w5 := hG (7, 30) (List.mem_of_getElem? (i := 7) rfl)
    clear hG
    obtain ⟨d, hx, hd, ha⟩ := e30
    have HD := Lib.hid hd
    have HAD := Lib.hid ha
    have HR5 := Lib.hid (HR4.out.keep hb)
    have HC5 := Lib.hid (HC4.out.thenBelow hb)
    clear hb hd ha hz4
    simp only [ord.puts, ord.put', List.set_cons_zero, List.set_cons_succ, if_true]
    rw [hx]
    simp only [List.drop_succ_cons, List.drop_zero]
    go_wp2_with fail
    go_ret
    exact ⟨d, rfl, HD.out, HAD.out, HR5.out, HC5.out⟩
end Go.Proofs.YtgcdnhjjoidpmaaGreatDoor
/- Contracts of package mac: what a tag leaves; a Maker's Mac of one and two parts. -/
namespace Go.Proofs.YtgcdnhjjoidpmaaGreatDoor
open Go.RowKit
/-- what a call of Mac leaves -/
def TagD (n : Nat) (key : Nat → Nat) (m : Nat) (F : Nat → Nat) (W : World) (e : Ending) (w' : World) : Prop :=
  ∃ d, e = .returned (.slice (some ⟨d, 0, none⟩) 32 32) ∧ W.heap.size ≤ d ∧ Arr w' d 0 32 (tag n key m F) ∧ Below W.heap.size W w'
theorem TagD.from {n : Nat} {key : Nat → Nat} {m : Nat} {F : Nat → Nat} {W0 W : World} {e : Ending} {w' : World} (h : TagD n key m F W e w') (hb : Below W0.heap.size W0 W) : TagD n key m F W0 e w' := by
  obtain ⟨d, he, hd, ha, hb'⟩ := h
  exact ⟨d, he, Nat.le_trans hb.size hd, ha, hb.trans (hb'.mono hb.size)⟩
theorem TagD.as {n m m' : Nat} {key F F' : Nat → Nat} {W : World} {e : Ending} {w' : World} (h : TagD n key m F W e w') (hm : m = m') (hF : ∀ j, j < m → F j = F' j) : TagD n key m' F' W e w' := by
  subst hm
  obtain ⟨d, he, hd, ha, hb'⟩ := h
  exact ⟨d, he, hd, ha.congr fun j _ => tag_congr (fun _ _ => rfl) hF j, hb'⟩
theorem TagP.from {g n : Nat} {key : Nat → Nat} {m : Nat} {F : Nat → Nat} {W0 W : World} {e : Ending} {w' : World} (h : TagP g n key m F W e w') (hb : Below W0.heap.size W0 W) : TagP g n key m F W0 e w' := by
  obtain ⟨d, he, hd, ha, hr, hc⟩ := h
  exact ⟨d, he, Nat.le_trans hb.size hd, ha, hr, (Chg.of_below hb).trans hc⟩
theorem TagP.as {g n m m' : Nat} {key F F' : Nat → Nat} {W : World} {e : Ending} {w' : World} (h : TagP g n key m F W e w') (hm : m = m') (hF : ∀ j, j < m → F j = F' j) : TagP g n key m' F' W e w' := by
  subst hm
  obtain ⟨d, he, hd, ha, hr, hc⟩ := h
  exact ⟨d, he, hd, ha.congr fun j _ => tag_congr (fun _ _ => rfl) hF j, hr, hc⟩
theorem hF_two {A0 A1 : Option Addr} {W : World} {n0 n1 : Nat} {f0 f1 F : Nat → Nat} (h0 : SlB W A0 n0 f0) (h1 : SlB W A1 n1 f1) (hF0 : ∀ j, j < n0 → F j = f0 j) (hF1 : ∀ j, j < n1 → F (n0 + j) = f1 j) :
    (∀ i, i < 2 → ∀ j, j < t2 n0 n1 i → F (offs 0 (t2 n0 n1) i + j) = t2 f0 f1 i j) ∧ By (n0 + n1) F := by
  refine ⟨fun i hi j hj => ?_, fun j hj => ?_⟩
  · rcases two_of hi with rfl | rfl
    · show F (0 + j) = f0 j
      rw [Nat.zero_add]; exact hF0 j hj
    · show F (0 + n0 + j) = f1 j
      rw [Nat.zero_add]; exact hF1 j hj
  · by_cases e : j < n0
    · rw [hF0 j e]; exact h0.byte e
    · have := hF1 (j - n0) (by omega)
      rw [show n0 + (j - n0) = j by omega] at this
      rw [this]; exact h1.byte (by omega)
theorem cap_two {n0 n1 c0 c1 : Nat} (h0 : n0 ≤ c0) (h1 : n1 ≤ c1) : ∀ i, i < 2 → t2 n0 n1 i ≤ t2 c0 c1 i := fun i hi => by
  rcases two_of hi with rfl | rfl
  · exact h0
  · exact h1
theorem offs_two (n0 n1 : Nat) : offs 0 (t2 n0 n1) 2 = n0 + n1 := by show 0 + n0 + n1 = _; omega
theorem mmac1_any (W : World) (g n : Nat) (A : Option Addr) (l c : Nat) (key f : Nat → Nat) (hkey : By n key) (hk : MakAt W g n key) (hl : l ≤ 10000000000000) (hc : l ≤ c) (hA : SlB W A l f) (ht : GT W) (hG : 1 ≠ g ∧ 0 ≠ g) (hO : Off A l g) :
    Calls Tryz.prog 43 #[.pointer (some ⟨g, 0, none⟩), .slice (some ⟨W.heap.size, 0, none⟩) 1 1] (W.alloc (.cells #[.slice A l c] 22)) (TagP g n key l f W) := by
  refine (mmac_any g n W.heap.size 1 1 key (fun _ => A) (fun _ => l) (fun _ => c) (fun _ => f) f l _ hkey (hk.keep (alloc_below _ _)) (by decide) (by decide) (Nat.zero_add l) hl (parts1 A l c f hA) (fun _ _ => hc) (fun i hi j hj => ?_) (fun j hj => hA.byte hj) (ht.alloc _) hG (Nat.ne_of_gt hk.lt) (fun _ _ => hO)).mono fun e w' h => h.from (alloc_below _ _)
  obtain rfl : i = 0 := by omega
  show f (0 + j) = f j
  rw [Nat.zero_add]
theorem mmac2_any (W : World) (g n : Nat) (A0 A1 : Option Addr) (n0 n1 c0 c1 : Nat) (key f0 f1 F : Nat → Nat) (hkey : By n key) (hk : MakAt W g n key) (hl : n0 + n1 ≤ 10000000000000) (hc0 : n0 ≤ c0) (hc1 : n1 ≤ c1) (h0 : SlB W A0 n0 f0) (h1 : SlB W A1 n1 f1)
    (hF0 : ∀ j, j < n0 → F j = f0 j) (hF1 : ∀ j, j < n1 → F (n0 + j) = f1 j) (ht : GT W) (hG : 1 ≠ g ∧ 0 ≠ g) (hO0 : Off A0 n0 g) (hO1 : Off A1 n1 g) :
    Calls Tryz.prog 43 #[.pointer (some ⟨g, 0, none⟩), .slice (some ⟨W.heap.size, 0, none⟩) 2 2] (W.alloc (.cells #[.slice A0 n0 c0, .slice A1 n1 c1] 22)) (TagP g n key (n0 + n1) F W) := by
  refine (mmac_any g n W.heap.size 2 2 key _ _ _ _ F (n0 + n1) _ hkey (hk.keep (alloc_below _ _)) (by decide) (by decide) (offs_two n0 n1) hl (parts2 A0 A1 n0 n1 c0 c1 f0 f1 h0 h1) (cap_two hc0 hc1) (hF_two h0 h1 hF0 hF1).1 (hF_two h0 h1 hF0 hF1).2 (ht.alloc _) hG (Nat.ne_of_gt hk.lt) (fun i hi => ?_)).mono fun e w' h => h.from (alloc_below _ _)
  rcases two_of hi with rfl | rfl
  · exact hO0
  · exact hO1
end Go.Proofs.YtgcdnhjjoidpmaaGreatDoor
/- Contracts of package mac: Same, the length of a label; bytes.Clone. -/
namespace Go.Proofs.YtgcdnhjjoidpmaaGreatDoor
open Go.RowKit
/-- have the first k bytes of both no difference? (what Same gathers) -/
def gath (f g : Nat → Nat) : Nat → Nat
  | 0 => 0
  | k + 1 => gath f g k ||| (f k ^^^ g k)
theorem or_lt8 {a b : Nat} (ha : a < 256) (hb : b < 256) : a ||| b < 256 := Nat.or_lt_two_pow (n := 8) ha hb
theorem gath_lt {f g : Nat → Nat} {n : Nat} (hf : By n f) (hg : By n g) : ∀ k, k ≤ n → gath f g k < 256
  | 0, _ => Nat.zero_lt_succ _
  | k + 1, h => or_lt8 (gath_lt hf hg k (by omega)) (xor_lt8 (hf k (by omega)) (hg k (by omega)))
theorem or_zero {a b : Nat} : a ||| b = 0 ↔ a = 0 ∧ b = 0 := Nat.or_eq_zero_iff
theorem xor_zero {a b : Nat} : a ^^^ b = 0 ↔ a = b := by
  constructor
  · intro h
    have h2 : a ^^^ b ^^^ b = 0 ^^^ b := by rw [h]
    rwa [Nat.xor_assoc, Nat.xor_self, Nat.xor_zero, Nat.zero_xor] at h2
  · rintro rfl; exact Nat.xor_self a
theorem gath_zero (f g : Nat → Nat) : ∀ k, gath f g k = 0 ↔ ∀ j, j < k → f j = g j
  | 0 => ⟨fun _ _ h => absurd h (Nat.not_lt_zero _), fun _ => rfl⟩
  | k + 1 => by
    show gath f g k ||| (f k ^^^ g k) = 0 ↔ _
    rw [or_zero, xor_zero, gath_zero f g k]
    constructor
    · rintro ⟨h1, h2⟩ j hj
      rcases Nat.lt_or_ge j k with h | h
      · exact h1 j h
      · obtain rfl : j = k := by omega
        exact h2
    · exact fun h => ⟨fun j hj => h j (by omega), h k (Nat.lt_succ_self k)⟩
/-- have two rows the same bytes? -/
def sameB (n m : Nat) (f g : Nat → Nat) : Bool := decide (n = m ∧ ∀ j, j < n → f j = g j)
set_option maxHeartbeats 800000 in
theorem same_lt (A B : Option Addr) (n c m c2 : Nat) (f g : Nat → Nat) (w : World) (hn : n ≤ 140737488351232) (hm : m ≤ 140737488351232) (hx : m < n) (hA : SlB w A n f) (hB : SlB w B m g) :
    Calls Tryz.prog 28 #[.slice A n c, .slice B m c2] w fun e w' => e = .returned (.bool (sameB n m f g)) ∧ ∃ k, w' = w.drewN k := by
  have HA := Lib.hid hA
  have HB := Lib.hid hB
  have HFA := Lib.hid (fun j (hj : j < n) => hA.byte hj)
  have HFB := Lib.hid (fun j (hj : j < m) => hB.byte hj)
  clear hA hB
  go_enter Tryz.func28, Tryz.ntmps28
  go_wp2_with fail
  go_loopw [5, 12] (fun d i wr => ∃ k q : Nat, k ≤ m ∧ d = .int .u8 (gath f g k : Nat) ∧ i = .int .i64 k ∧ wr = w.drewN q) (fun _ i _ => m - (intOf i).toNat)
  case atStart => exact ⟨0, 0, Nat.zero_le _, rfl, rfl, rfl⟩
  case round =>
    obtain ⟨k, q, hk, rfl, rfl, hw⟩ := hrel
    have HW := Lib.hid hw
    have hgl := gath_lt (n := m) (fun j hj => HFA.out j (by omega)) (fun j hj => HFB.out j (by omega)) k (by omega)
    by_cases hlt : k < m
    · obtain ⟨B1, o1, rfl, _, h1⟩ := HA.out (by omega)
      obtain ⟨B2, o2, rfl, _, h2⟩ := HB.out (by omega)
      have hc1 : wr.cell? ⟨B1, o1 + k, none⟩ = some (.int .u8 (f k : Nat)) := by rw [hw]; exact (h1 k (by omega)).2
      have hc2 : wr.cell? ⟨B2, o2 + k, none⟩ = some (.int .u8 (g k : Nat)) := by rw [hw]; exact (h2 k (by omega)).2
      have hf1 : f k < 256 := (h1 k (by omega)).1
      have hf2 : g k < 256 := (h2 k (by omega)).1
      have hk1 : (k : Int) < n := by omega
      have hk2 : (k : Int) < m := by omega
      have b1 := u8_xor_nat _ _ hf1 hf2
      have b2 := u8_or_nat _ _ hgl (xor_lt8 hf1 hf2)
      have HS := Lib.hid (show gath f g (k + 1) = gath f g k ||| (f k ^^^ g k) from rfl)
      clear h1 h2 hw
      generalize f k = x at *
      generalize g k = y at *
      generalize gath f g k = z at *
      generalize z ||| (x ^^^ y) = u at *
      generalize x ^^^ y = v at *
      go_wp2_with fail
      go_quiet (fail)
      go_wp2_with fail
      go_roundw
      case rel => exact ⟨k + 1, q + nq, by omega, by rw [HS.out], by go_num, by rw [HW.out, World.drewN_drewN]⟩
      case measure => simp [intOf]; omega
    · have HK := Lib.hid (show k = m by omega)
      have HG := Lib.hid (gath_zero f g k)
      clear hw
      generalize gath f g k = z at *
      by_cases hz : z = 0
      · have hz1 : (((z : Nat) : Int) == 0) = true := by simp; omega
        have HE := Lib.hid (show decide (n = m) = sameB n m f g by
          unfold sameB
          congr 1
          refine propext ⟨fun h => ⟨h, fun j hj => ?_⟩, fun h => h.1⟩
          exact HG.out.1 hz j (by have := HK.out; omega))
        have HZ := Lib.hid hz
        clear hz
        by_cases hnm : n = m
        · have hx2 : ((n : Int) == (m : Int)) = true := by simp; omega
          have HE2 := Lib.hid (HE.out.symm.trans (decide_eq_true hnm))
          clear hnm
          go_wp2_with fail
          go_ret
          exact ⟨by rw [HE2.out]; rfl, q, HW.out⟩
        · have hx2 : ((n : Int) == (m : Int)) = false := by simp; omega
          have HE2 := Lib.hid (HE.out.symm.trans (decide_eq_false hnm))
          clear hnm
          go_wp2_with fail
          go_ret
          exact ⟨by rw [HE2.out]; rfl, q, HW.out⟩
      · have hz1 : (((z : Nat) : Int) == 0) = false := by simp; omega
        have HE := Lib.hid (show sameB n m f g = false by
          unfold sameB
          refine decide_eq_false fun h => hz (HG.out.2 fun j hj => h.2 j (by have := HK.out; omega)))
        clear hz
        go_wp2_with fail
        go_ret
        exact ⟨by rw [HE.out]; rfl, q, HW.out⟩
set_option maxHeartbeats 800000 in
theorem same_ge (A B : Option Addr) (n c m c2 : Nat) (f g : Nat → Nat) (w : World) (hn : n ≤ 140737488351232) (hm : m ≤ 140737488351232) (hx : n ≤ m) (hA : SlB w A n f) (hB : SlB w B m g) :
    Calls Tryz.prog 28 #[.slice A n c, .slice B m c2] w fun e w' => e = .returned (.bool (sameB n m f g)) ∧ ∃ k, w' = w.drewN k := by
  have HA := Lib.hid hA
  have HB := Lib.hid hB
  have HFA := Lib.hid (fun j (hj : j < n) => hA.byte hj)
  have HFB := Lib.hid (fun j (hj : j < m) => hB.byte hj)
  clear hA hB
  go_enter Tryz.func28, Tryz.ntmps28
  go_wp2_with fail
  go_loopw [5, 12] (fun d i wr => ∃ k q : Nat, k ≤ n ∧ d = .int .u8 (gath f g k : Nat) ∧ i = .int .i64 k ∧ wr = w.drewN q) (fun _ i _ => n - (intOf i).toNat)
  case atStart => exact ⟨0, 0, Nat.zero_le _, rfl, rfl, rfl⟩
  case round =>
    obtain ⟨k, q, hk, rfl, rfl, hw⟩ := hrel
    have HW := Lib.hid hw
    have hgl := gath_lt (n := n) (fun j hj => HFA.out j (by omega)) (fun j hj => HFB.out j (by omega)) k (by omega)
    by_cases hlt : k < n
    · obtain ⟨B1, o1, rfl, _, h1⟩ := HA.out (by omega)
      obtain ⟨B2, o2, rfl, _, h2⟩ := HB.out (by omega)
      have hc1 : wr.cell? ⟨B1, o1 + k, none⟩ = some (.int .u8 (f k : Nat)) := by rw [hw]; exact (h1 k (by omega)).2
      have hc2 : wr.cell? ⟨B2, o2 + k, none⟩ = some (.int .u8 (g k : Nat)) := by rw [hw]; exact (h2 k (by omega)).2
      have hf1 : f k < 256 := (h1 k (by omega)).1
      have hf2 : g k < 256 := (h2 k (by omega)).1
      have hk1 : (k : Int) < n := by omega
      have hk2 : (k : Int) < m := by omega
      have b1 := u8_xor_nat _ _ hf1 hf2
      have b2 := u8_or_nat _ _ hgl (xor_lt8 hf1 hf2)
      have HS := Lib.hid (show gath f g (k + 1) = gath f g k ||| (f k ^^^ g k) from rfl)
      clear h1 h2 hw
      generalize f k = x at *
      generalize g k = y at *
      generalize gath f g k = z at *
      generalize z ||| (x ^^^ y) = u at *
      generalize x ^^^ y = v at *
      go_wp2_with fail
      go_quiet (fail)
      go_wp2_with fail
      go_roundw
      case rel => exact ⟨k + 1, q + nq, by omega, by rw [HS.out], by go_num, by rw [HW.out, World.drewN_drewN]⟩
      case measure => simp [intOf]; omega
    · have HK := Lib.hid (show k = n by omega)
      have HG := Lib.hid (gath_zero f g k)
      clear hw
      generalize gath f g k = z at *
      by_cases hz : z = 0
      · have hz1 : (((z : Nat) : Int) == 0) = true := by simp; omega
        have HE := Lib.hid (show decide (n = m) = sameB n m f g by
          unfold sameB
          congr 1
          refine propext ⟨fun h => ⟨h, fun j hj => ?_⟩, fun h => h.1⟩
          exact HG.out.1 hz j (by have := HK.out; omega))
        have HZ := Lib.hid hz
        clear hz
        by_cases hnm : n = m
        · have hx2 : ((n : Int) == (m : Int)) = true := by simp; omega
          have HE2 := Lib.hid (HE.out.symm.trans (decide_eq_true hnm))
          clear hnm
          go_wp2_with fail
          go_ret
          exact ⟨by rw [HE2.out]; rfl, q, HW.out⟩
        · have hx2 : ((n : Int) == (m : Int)) = false := by simp; omega
          have HE2 := Lib.hid (HE.out.symm.trans (decide_eq_false hnm))
          clear hnm
          go_wp2_with fail
          go_ret
          exact ⟨by rw [HE2.out]; rfl, q, HW.out⟩
      · have hz1 : (((z : Nat) : Int) == 0) = false := by simp; omega
        have HE := Lib.hid (show sameB n m f g = false by
          unfold sameB
          refine decide_eq_false fun h => hz (HG.out.2 fun j hj => h.2 j (by have := HK.out; omega)))
        clear hz
        go_wp2_with fail
        go_ret
        exact ⟨by rw [HE.out]; rfl, q, HW.out⟩
theorem same_any (A B : Option Addr) (n c m c2 : Nat) (f g : Nat → Nat) (w : World) (hn : n ≤ 140737488351232) (hm : m ≤ 140737488351232) (hA : SlB w A n f) (hB : SlB w B m g) :
    Calls Tryz.prog 28 #[.slice A n c, .slice B m c2] w fun e w' => e = .returned (.bool (sameB n m f g)) ∧ ∃ k, w' = w.drewN k := by
  by_cases h : m < n
  · exact same_lt A B n c m c2 f g w hn hm h hA hB
  · exact same_ge A B n c m c2 f g w hn hm (by omega) hA hB
/-- what Clone leaves -/
theorem clone_any (A : Option Addr) (n c : Nat) (f : Nat → Nat) (w : World) (hn : n ≤ 100000000000000) (hA : SlB w A n f) (hnil : A = none → n = 0 ∧ c = 0) :
    Calls Tryz.prog 33 #[.slice A n c] w fun e w' => (∃ v, e = .returned v ∧ OwnB w' w.heap.size v n f) ∧ Below w.heap.size w w' := by
  have q8 : ∀ (w : World) (a : Option Addr) (n c : Nat), (binOp .eql 22 (.slice a n c) (.slice none 0 0)).run Tryz.prog w = .ok (.bool a.isNone) w := fun w a n c => Lib.run_eql_slice_nil w _ _ a n c 0 0 Tryz.underlying22
  cases A with
  | none =>
    obtain ⟨rfl, rfl⟩ := hnil rfl
    clear hnil hA hn
    go_enter Tryz.func33, Tryz.ntmps33
    go_wp2_with fail
    go_ret
    exact ⟨⟨_, rfl, OwnB.nil _ _ _⟩, Below.refl _ _⟩
  | some ad =>
    have HA := Lib.hid (hA.keep (alloc_below w (.cells #[] 5)))
    have HF := Lib.hid (fun j (hj : j < n) => hA.byte hj)
    have HO := Lib.hid (OwnB.empty w w.heap.size f (Nat.le_refl _))
    have HB := Lib.hid (alloc_below w (.cells #[] 5))
    have HN := Lib.hid hn
    clear hnil hA hn
    go_enter Tryz.func33, Tryz.ntmps33
    go_wp2_with (refine wpList_appO rfl (.tmp 5) (.tmp 6) rfl w.heap.size _ 0 f rfl HO.out (some ad) n c f rfl HA.out (fun h => by cases h) (by have := HN.out; omega) HB.out.size (fun j hj => absurd hj (Nat.not_lt_zero j)) HF.out ?_; intro A' c' w2 h1 _ _ h4; have H1 := Lib.hid h1; have H4 := Lib.hid h4; clear h1 h4)
    go_ret
    refine ⟨⟨_, rfl, ?_⟩, HB.out.trans H4.out⟩
    have := H1.out
    rw [Nat.zero_add] at this
    exact this.congr fun j _ => rfl
end Go.Proofs.YtgcdnhjjoidpmaaGreatDoor
/- The mathematics of layer 8: what is sealed is opened, and the other way round. -/
namespace Go.Proofs.YtgcdnhjjoidpmaaGreatDoor
open Go.RowKit
variable {nt na N m : Nat} {tk about c : Nat → Nat}
theorem sealF_head (j : Nat) (hj : j < 8 + m) : sealF nt tk na about N m c j = headF N c j := by unfold sealF catB; rw [if_pos hj]
theorem sealF_num (j : Nat) (hj : j < 8) : sealF nt tk na about N m c j = len8 N j := by
  rw [sealF_head j (by omega)]; unfold headF catB; rw [if_pos hj]
theorem sealF_body (j : Nat) (hj : j < m) : sealF nt tk na about N m c (8 + j) = c j := by
  rw [sealF_head _ (by omega)]; unfold headF catB; rw [if_neg (by omega), Nat.add_sub_cancel_left]
theorem sealF_tag (j : Nat) : sealF nt tk na about N m c (8 + m + j) = btag nt tk na about (8 + m) (headF N c) j := by
  unfold sealF
  rw [catB, if_neg (by omega), Nat.add_sub_cancel_left]
/-- the number of a sealed form -/
theorem sealF_numE (hN : N ≤ 9223372036854775807) : numE (sealF nt tk na about N m c) 8 = N := by
  rw [numE_congr 8 (g := len8 N) (fun j hj => sealF_num j hj)]
  exact numE_of N (by simp only [Nat.reducePow]; omega)
theorem sealF_low (hN : N ≤ 9223372036854775807) : sealF nt tk na about N m c 0 ≤ 127 := by
  rw [sealF_num 0 (by decide)]
  have h := (numE_big (f := len8 N) (fun j _ => len8_lt N j)).2
  have e := numE_of N (by simp only [Nat.reducePow]; omega)
  rw [e] at h
  omega
theorem same_of {f g : Nat → Nat} (h : ∀ j, j < 16 → f j = g j) : sameB 16 16 f g = true := decide_eq_true ⟨rfl, h⟩
theorem same_at {f g : Nat → Nat} (h : sameB 16 16 f g = true) (j : Nat) (hj : j < 16) : f j = g j := (of_decide_eq_true h).2 j hj
/-- its tag is right -/
theorem sealF_same {nb : Nat} (hb : nb = 24 + m) : sameB 16 16 (fun j => sealF nt tk na about N m c (nb - 16 + j)) (btag nt tk na about (nb - 16) (sealF nt tk na about N m c)) = true := by
  subst hb
  rw [show 24 + m - 16 = 8 + m by omega]
  refine same_of fun j _ => ?_
  rw [sealF_tag]
  exact (btag_congr (fun i hi => sealF_head i hi) j).symm
/-- what is opened was sealed so -/
theorem sealF_back {nb n : Nat} {key b : Nat → Nat} (hb : By nb b) (h1 : 24 ≤ nb) (hs : sameB 16 16 (fun j => b (nb - 16 + j)) (btag nt tk na about (nb - 16) b) = true) (j : Nat) (hj : j < nb) :
    sealF nt tk na about (numE b 8) (nb - 24) (xorf n key (numE b 8) 0 (xorf n key (numE b 8) 0 (fun j => b (8 + j)))) j = b j := by
  have e1 : ∀ i, i < 8 + (nb - 24) → headF (numE b 8) (xorf n key (numE b 8) 0 (xorf n key (numE b 8) 0 (fun j => b (8 + j)))) i = b i := fun i hi => by
    unfold headF catB
    by_cases h : i < 8
    · rw [if_pos h]
      exact len8_num (fun j hj => hb j (by omega)) i h
    · rw [if_neg h]
      unfold xorf
      rw [Nat.xor_assoc, Nat.xor_self, Nat.xor_zero]
      show b (8 + (i - 8)) = b i
      rw [show 8 + (i - 8) = i by omega]
  by_cases h : j < 8 + (nb - 24)
  · rw [sealF_head j h]; exact e1 j h
  · obtain ⟨t, rfl⟩ : ∃ t, j = 8 + (nb - 24) + t := ⟨j - (8 + (nb - 24)), by omega⟩
    rw [sealF_tag, btag_congr e1]
    have := same_at hs t (by omega)
    rw [show nb - 16 + t = 8 + (nb - 24) + t by omega] at this
    rw [this, show nb - 16 = 8 + (nb - 24) by omega]
theorem xorf_back {n T k : Nat} {key p : Nat → Nat} {f : Nat → Nat} (h : ∀ j, j < k → f j = xorf n key N T p j) (j : Nat) (hj : j < k) : xorf n key N T f j = p j := by
  unfold xorf
  rw [h j hj]
  unfold xorf
  rw [Nat.xor_assoc, Nat.xor_self, Nat.xor_zero]
theorem sealF_congr {c' : Nat → Nat} (h : ∀ j, j < m → c j = c' j) (j : Nat) (_hj : j < 24 + m) : sealF nt tk na about N m c j = sealF nt tk na about N m c' j := by
  have e : ∀ i, i < 8 + m → headF N c i = headF N c' i := fun i hi => catB_congr (m := m) (fun _ _ => rfl) h i hi
  unfold sealF catB
  by_cases hj : j < 8 + m
  · rw [if_pos hj, if_pos hj, e j hj]
  · rw [if_neg hj, if_neg hj, btag_congr e]
end Go.Proofs.YtgcdnhjjoidpmaaGreatDoor
/- Eight bytes in memory. -/
namespace Go.Proofs.YtgcdnhjjoidpmaaGreatDoor
open Go.RowKit
theorem size8b : (Tryz.prog.info? 70).map (·.size) = some 8 := by kernel_rfl
abbrev z8 : Array Value := #[.int .u8 0, .int .u8 0, .int .u8 0, .int .u8 0, .int .u8 0, .int .u8 0, .int .u8 0, .int .u8 0]
theorem made8 (w : World) : Arr (w.alloc (.cells z8 70)) w.heap.size 0 8 (fun _ => 0) := arr_made w _ _ 8 _ rfl
end Go.Proofs.YtgcdnhjjoidpmaaGreatDoor
/- Contracts of package box: numbers in eight bytes, Size, checkKey. -/
namespace Go.Proofs.YtgcdnhjjoidpmaaGreatDoor
open Go.RowKit
set_option maxRecDepth 100000 in
set_option maxHeartbeats 1600000 in
theorem bytesof_any (x : Nat) (w : World) (hx : x ≤ 18446744073709551615) :
    Calls Tryz.prog 37 #[.int .u64 (x : Nat)] w fun e w' => e = .returned (aggB 8 (len8 x)) ∧ Below w.heap.size w w' := by
  have HO := Lib.hid ((made8 w).alloc (.cells z8 70))
  have HM := Lib.hid (made8 (w.alloc (.cells z8 70)))
  have hs1 : (w.alloc (.cells z8 70)).heap.size = w.heap.size + 1 := by simp
  rw [hs1] at HM
  have HB := Lib.hid (((Below.refl w.heap.size w).alloc (Nat.le_refl _) (.cells z8 70)).alloc (by simp) (.cells z8 70))
  clear hs1
  go_enter Tryz.func37, Tryz.ntmps37
  go_wp2_with fail
  generalize hW : (w.alloc (.cells z8 70)).alloc (.cells z8 70) = W at *
  clear hW
  go_loopw [5] (fun v wr => ∃ k : Nat, k ≤ 8 ∧ v = .int .i64 k ∧ Arr wr (w.heap.size + 1) 0 8 (fun j => if j < k then len8 x j else 0) ∧ Arr wr w.heap.size 0 8 (fun _ => 0) ∧ Below w.heap.size w wr) (fun v _ => 8 - (intOf v).toNat)
  case atStart => exact ⟨0, by decide, rfl, HM.out.congr fun j _ => (if_neg (Nat.not_lt_zero _)).symm, HO.out, HB.out⟩
  case round =>
    obtain ⟨k, hk, rfl, h1, h2, h3⟩ := hrel
    have H1 := Lib.hid h1
    have H2 := Lib.hid h2
    have H3 := Lib.hid h3
    clear h1 h2 h3
    by_cases hlt : k < 8
    · obtain ⟨q, q8, y, z, eq, eq8, hq7, hq56, ey, hyx, ez, lz, hz⟩ := shift_byte (x := x) hlt
      have hqi : (q : Int) ≤ 7 := by omega
      have hq8i : (q8 : Int) ≤ 56 := by omega
      have hxi : (x : Int) ≤ 18446744073709551615 := by omega
      have hyi : (y : Int) ≤ 18446744073709551615 := by omega
      have HZ := Lib.hid hz
      have hc3 := H1.out.cell hlt (Nat.zero_add k).symm
      have hf3 := H1.out.frozen hlt (Nat.zero_add k).symm
      rw [if_neg (Nat.lt_irrefl k)] at hc3
      have HM1 := Lib.hid ((H1.out.set hlt (Nat.zero_add k).symm z rfl).congr fun j _ => upto_step (fun _ => 0) (len8 x) k _ HZ.out j)
      have HB1 := Lib.hid (H3.out.setCell (p := ⟨w.heap.size + 1, k, none⟩) (Nat.le_succ _) (.int .u8 (z : Nat)))
      have HO1 := Lib.hid (H2.out.setOther (a := ⟨w.heap.size + 1, k, none⟩) (Nat.ne_of_lt (Nat.lt_succ_self _)) (.int .u8 (z : Nat)))
      clear hz hq7 hq56 hyx
      go_wp2_with fail
      go_roundw
      case rel => exact ⟨k + 1, by omega, by go_num, HM1.out, HO1.out, HB1.out⟩
      case measure => simp [intOf]; omega
    · obtain rfl : k = 8 := by omega
      have HR := Lib.hid (H1.out.congr (f := len8 x) fun j hj => if_pos hj)
      go_wp2_with (first | (refine wpList_loadB rfl 70 (.tmp 3) rfl (w.heap.size + 1) 0 8 rfl _ HR.out _ Tryz.underlying70 rfl size8b ?_) | (refine wpList_storeB rfl 70 (.tmp 2) (.tmp 17) rfl w.heap.size 0 8 _ _ rfl rfl H2.out size8b ?_; intro w2 h1 h2; have HR2 := Lib.hid h1; have HC2 := Lib.hid h2; clear h1 h2))
      exact bodyPost_ret (results_cellB rfl _ _ w.heap.size 0 8 _ rfl HR2.out _ Tryz.underlying70 rfl size8b) rfl ⟨rfl, H3.out.trans (HC2.out.below H3.out.size (Nat.le_refl _))⟩
set_option maxRecDepth 100000 in
theorem numberin_any (A : Option Addr) (c : Nat) (f : Nat → Nat) (w : World) (hA : SlB w A 8 f) :
    Calls Tryz.prog 30 #[.slice A 8 c] w fun e w' => e = .returned (.int .u64 (numE f 8 : Nat)) ∧ w = w' := by
  obtain ⟨B, o, rfl, _, hc⟩ := hA (by decide)
  have HC := Lib.hid hc
  clear hA hc
  go_enter Tryz.func30, Tryz.ntmps30
  go_wp2_with fail
  go_loopw [3, 8] (fun v i wr => ∃ k y : Nat, k ≤ 8 ∧ numE f k = y ∧ v = .int .u64 (y : Nat) ∧ i = .int .i64 k ∧ wr = w) (fun _ i _ => 8 - (intOf i).toNat)
  case atStart => exact ⟨0, 0, by decide, rfl, rfl, rfl, rfl⟩
  case round =>
    obtain ⟨k, y, hk, hy, rfl, rfl, rfl⟩ := hrel
    by_cases hlt : k < 8
    · obtain ⟨x, hx⟩ : ∃ x, f k = x := ⟨_, rfl⟩
      have hc0 := (HC.out k hlt).2
      have hx8 := (HC.out k hlt).1
      rw [hx] at hc0 hx8
      have hyl : y < 72057594037927936 := by
        have h1 := numE_lt (f := f) k (fun j hj => (HC.out j (by omega)).1)
        have h2 : 256 ^ k ≤ 256 ^ 7 := Nat.pow_le_pow_right (by decide) (by omega)
        rw [hy] at h1
        have h3 : (256 : Nat) ^ 7 = 72057594037927936 := by decide
        omega
      have hyi : (y : Int) ≤ 72057594037927935 := by omega
      have hxi : (x : Int) ≤ 255 := by omega
      obtain ⟨z, hz⟩ : ∃ z, z = y * 256 := ⟨_, rfl⟩
      have ez : (y : Int) * 256 = z := by omega
      have hzi : (z : Int) ≤ 18446744073709551615 := by omega
      have ho : bits BinOp.or .u64 (z : Int) (x : Int) = ((z ||| x : Nat) : Int) := u64_or_nat z x (by omega) (by omega)
      have HS := Lib.hid (show numE f (k + 1) = z ||| x by rw [hz, shl_or y x hx8, ← hx, ← hy]; rfl)
      generalize z ||| x = u at *
      clear hx hy hz hyl hx8
      go_wp2_with fail
      go_roundw
      case rel => exact ⟨k + 1, u, by omega, HS.out, by go_num, by go_num, trivial⟩
      case measure => simp [intOf]; omega
    · obtain rfl : k = 8 := by omega
      subst hy
      go_wp2_with fail
      go_ret
      exact ⟨rfl, rfl⟩
/-- what Size answers -/
def sizeI (n : Int) : Int := if n < 0 ∨ 65536 < n then 0 else 24 + n
theorem size_any (n : Int) (w : World) (hn : -9223372036854775808 ≤ n ∧ n ≤ 9223372036854775807) :
    Calls Tryz.prog 13 #[.int .i64 n] w fun e w' => e = .returned (.int .i64 (sizeI n)) ∧ w = w' := by
  by_cases h1 : n < 0
  · have d1 : decide (n < 0) = true := decide_eq_true h1
    have HE := Lib.hid (show sizeI n = 0 from if_pos (Or.inl h1))
    clear h1 hn
    go_enter Tryz.func13, Tryz.ntmps13
    go_wp2_with fail
    go_ret
    exact ⟨by rw [HE.out]; rfl, rfl⟩
  · have d1 : decide (n < 0) = false := decide_eq_false h1
    by_cases h2 : 65536 < n
    · have d2 : decide (65536 < n) = true := decide_eq_true h2
      have HE := Lib.hid (show sizeI n = 0 from if_pos (Or.inr h2))
      clear h1 h2 hn
      go_enter Tryz.func13, Tryz.ntmps13
      go_wp2_with fail
      go_ret
      exact ⟨by rw [HE.out]; rfl, rfl⟩
    · have d2 : decide (65536 < n) = false := decide_eq_false h2
      have HE := Lib.hid (show sizeI n = 24 + n from if_neg (by omega))
      have h3 : 0 ≤ n := by omega
      have h4 : n ≤ 65536 := by omega
      clear h1 h2 hn
      go_enter Tryz.func13, Tryz.ntmps13
      go_wp2_with fail
      go_ret
      exact ⟨by rw [HE.out]; exact congrArg (fun x => Ending.returned (.int .i64 x)) (by omega), rfl⟩
theorem size_at (n : Nat) (w : World) (h : n ≤ 65536) : Calls Tryz.prog 13 #[.int .i64 (n : Nat)] w fun e w' => e = .returned (.int .i64 ((24 + n : Nat) : Int)) ∧ w = w' := by
  refine (size_any n w (by omega)).mono ?_
  rintro e w' ⟨rfl, rfl⟩
  unfold sizeI
  rw [if_neg (by omega)]
  exact ⟨congrArg (fun x => Ending.returned (.int .i64 x)) (by omega), rfl⟩
set_option maxRecDepth 100000 in
/-- what checkKey answers: refused, or not -/
theorem check_arg (A : Option Addr) (len cap : Nat) (N : Int) (w : World) (hl : len ≤ 140737488351232) (h : wrong len N 0) :
    Calls Tryz.prog 27 #[.slice A len cap, .int .i64 N] w fun e w' => e = .returned (.int .i64 1) ∧ w = w' := by
  have HS := Lib.hid (xor_arg A none len cap 0 0 N 0 w hl h)
  clear h
  go_enter Tryz.func27, Tryz.ntmps27
  go_wp2_with (go_at_call 31; refine HS.out.mono ?_; rintro e w1 ⟨rfl, rfl⟩)
  go_ret
  exact ⟨rfl, rfl⟩
set_option maxRecDepth 100000 in
theorem check_any (A : Option Addr) (len n cap N : Nat) (key : Nat → Nat) (w : World) (hn : n = 4 ∨ n = 8) (hl : 4 * n = len) (hA : SlB w A len key) (hN : N ≤ 9223372036854775807) :
    Calls Tryz.prog 27 #[.slice A len cap, .int .i64 (N : Nat)] w fun e w' => e = .returned (.int .i64 0) ∧ Below w.heap.size w w' := by
  have HS := Lib.hid (xor_any A none len n cap 0 0 N 0 key (fun _ => 0) w hn hl hA (SlB.none0 _ _) hN (by decide) (by decide))
  clear hA hn hl hN
  go_enter Tryz.func27, Tryz.ntmps27
  go_wp2_with (go_at_call 31; refine HS.out.mono ?_; rintro e w1 ⟨st, rfl, _, _, h3⟩; have H3 := Lib.hid h3; clear h3)
  go_ret
  exact ⟨rfl, H3.out⟩
end Go.Proofs.YtgcdnhjjoidpmaaGreatDoor
/- append of a row of slices to a row of slices that grows. -/
namespace Go.Proofs.YtgcdnhjjoidpmaaGreatDoor
open Go.RowKit
def catV (n : Nat) (X Y : Nat → Value) (j : Nat) : Value := if j < n then X j else Y (j - n)
theorem valsL_cat (n m : Nat) (X Y : Nat → Value) : valsL n X ++ valsL m Y = valsL (n + m) (catV n X Y) := by
  unfold valsL
  rw [List.range_add, List.map_append, List.map_map]
  congr 1
  · refine List.map_congr_left fun j hj => ?_
    unfold catV
    rw [if_pos (List.mem_range.1 hj)]
  · refine List.map_congr_left fun j _ => ?_
    show Y j = catV n X Y (n + j)
    unfold catV
    rw [if_neg (by omega), Nat.add_sub_cancel_left]
theorem OwnS.cap_le {w : World} {base n : Nat} {v : Value} {X : Nat → Value} (h : OwnS w base v n X) : ∃ A c, v = .slice A n c ∧ n ≤ c ∧ c ≤ maxLen ∧ (A = none → n = 0 ∧ c = 0) := by
  rcases h.2 with ⟨rfl, hn⟩ | ⟨g, cap, cur, rfl, _, _, h1, h2, _⟩
  · subst hn; exact ⟨none, 0, rfl, Nat.le_refl _, by unfold maxLen; omega, fun _ => ⟨rfl, rfl⟩⟩
  · exact ⟨_, cap, rfl, h1, h2, fun h => by cases h⟩
/-- slices that lie in a row -/
def RowOfS (w : World) (A : Option Addr) (m : Nat) (Y : Nat → Value) : Prop := 0 < m → ∃ B o, A = some ⟨B, o, none⟩ ∧ B < w.heap.size ∧ ∀ j, j < m → w.cell? ⟨B, o + j, none⟩ = some (Y j)
theorem RowOfS.keep {w w' : World} {A : Option Addr} {m : Nat} {Y : Nat → Value} (h : RowOfS w A m Y) (hb : Below w.heap.size w w') : RowOfS w' A m Y := fun hm => by
  obtain ⟨B, o, hA, hB, hc⟩ := h hm
  exact ⟨B, o, hA, Nat.lt_of_lt_of_le hB hb.size, fun j hj => (hb.cell (p := ⟨B, o + j, none⟩) hB).trans (hc j hj)⟩
/-- append of any slices, as a run -/
theorem run_appS (w : World) (base : Nat) (v : Value) (n : Nat) (X : Nat → Value) (hown : OwnS w base v n X) (A : Option Addr) (m cap : Nat) (Y : Nat → Value) (hA : RowOfS w A m Y) (hnil : A = none → m = 0 ∧ cap = 0)
    (h1 : ∀ j, j < m → (Y j).oneCell' = true) (hn : n + m ≤ 2000) (hbase : base ≤ w.heap.size) :
    ∃ A' c' w', (Builtin.append_ #[25, 25] 25 #[v, .slice A m cap]).run Tryz.prog w = .ok (.slice A' (n + m) c') w' ∧ OwnS w' base (.slice A' (n + m) c') (n + m) (catV n X Y) ∧ Below base w w' := by
  obtain ⟨i, hi, hz, hsz, hb⟩ := info_parts infoSl
  have fin : ∀ v' w', (Builtin.append_ #[25, 25] 25 #[v, .slice A m cap]).run Tryz.prog w = .ok v' w' → OwnS w' base v' (n + m) (catV n X Y) → Below base w w' →
      ∃ A' c' w', (Builtin.append_ #[25, 25] 25 #[v, .slice A m cap]).run Tryz.prog w = .ok (.slice A' (n + m) c') w' ∧ OwnS w' base (.slice A' (n + m) c') (n + m) (catV n X Y) ∧ Below base w w' := fun v' w' h1 h2 h3 => by
    obtain ⟨A2, c2, rfl, _⟩ := OwnS.cap_le h2
    exact ⟨A2, c2, w', h1, h2, h3⟩
  cases A with
  | none =>
    obtain ⟨rfl, rfl⟩ := hnil rfl
    refine fin v w (run_append_owned_none (P := Tryz.prog) (w := w) base 25 25 22 i 1 Tryz.underlying25 hi v n _ hown) ?_ (Below.refl _ _)
    exact OwnS.congr hown fun j hj => by unfold catV; rw [if_pos (show j < n from hj)]
  | some ad =>
    obtain ⟨v', w', hr, h2, h3, _⟩ := run_append_own (P := Tryz.prog) w base 25 25 22 i (.slice none 0 0) 1 24 Tryz.underlying25 hi hz hsz hb rfl (by decide) v n _ hown ad m cap (valsL m Y) (by simp [valsL])
      (fun j u hj => by
        obtain ⟨hjm, rfl⟩ := valsL_get hj
        obtain ⟨B, off, e, _, hc⟩ := hA (by omega)
        obtain rfl : ad = ⟨B, off, none⟩ := Option.some.inj e
        rw [Go.WideShapes.add_plain]
        exact hc j hjm) (vals_one h1) (by unfold maxLen; omega) (by omega) hbase
    rw [valsL_cat] at h2
    exact fin v' w' hr h2 ((Below.refl base w).grown h3 hbase fun k hk => (hown.lt k hk).1)
/-- append where its run is known, of slices -/
theorem wpList_runS {ops : Array Oper} {rest : List Oper} {o : Oper} {a : Act} {Q : Exit → Act → World → Prop} {w : World} (s x : Operand)
    (ho : o.op = .call { callee := .builtin .append, args := #[s, x], argTypes := #[25, 25] }) (ht : o.type = 25) (hw : Region.wanted o (yielded ops a.tmps) = true)
    {v xv v' : Value} {w' : World} (hs : a.eval s = v) (hx : a.eval x = xv) (hrun : (Builtin.append_ #[25, 25] 25 #[v, xv]).run Tryz.prog w = .ok v' w')
    (h : wpList Tryz.prog ops Q rest (a.put o.dst v') w') : wpList Tryz.prog ops Q (o :: rest) a w := by
  refine wpList_step fun K hK => ?_
  rw [if_pos hw]
  unfold Oper.wp
  simp [execOp, ho, ht, resolve, invoke, builtin, hs, hx, hrun, Result.andThen]
  exact hK _ _ h
end Go.Proofs.YtgcdnhjjoidpmaaGreatDoor
/- slices.Concat: of bytes, and of rows of slices. -/
namespace Go.Proofs.YtgcdnhjjoidpmaaGreatDoor
open Go.RowKit
theorem size_zeroCells (v : Value) (n : Nat) : (Builtin.zeroCells #[v] n).size = n := by simp [Builtin.zeroCells]
set_option maxRecDepth 100000 in
theorem growb_any (n : Nat) (f : Nat → Nat) (w : World) (hn : n ≤ 100000000000000) :
    Calls Tryz.prog 52 #[.slice none 0 0, .int .i64 (n : Nat)] w fun e w' => ∃ v, e = .returned v ∧ OwnB w' w.heap.size v 0 f ∧ Below w.heap.size w w' := by
  by_cases h0 : n = 0
  · subst h0
    clear hn
    go_enter Tryz.func52, Tryz.ntmps52
    go_wp2_with fail
    go_ret
    exact ⟨_, rfl, OwnB.nil _ _ _, Below.refl _ _⟩
  · have hni : (n : Int) ≤ 100000000000000 := by omega
    have hn0 : (0 : Int) < n := by omega
    obtain ⟨i, hi, hz, hsz, hb⟩ := info_parts info8
    have hr : (Builtin.append_ #[22, 3] 22 #[.slice none 0 0, .int .i64 (n : Nat)]).run Tryz.prog w =
      .ok (.slice (some ⟨w.heap.size, 0, none⟩) n (grownCap w n 0 5)) (w.drew.alloc (.cells (Builtin.zeroCells #[.int .u8 0] n ++ Builtin.zeroCells #[.int .u8 0] (grownCap w n 0 5 - n)) 5)) :=
      Lib.run_append_nil_zeros (P := Tryz.prog) w 22 3 22 5 i (.int .u8 0) .i64 .i64 Tryz.underlying22 Tryz.underlying3 hi hz n (by omega) (by omega) (by omega) (by rw [hb]; omega)
    have hG : n ≤ grownCap w n 0 5 := grownCap_ge w _ _ _
    have hG2 : grownCap w n 0 5 ≤ 9223372036854775807 := grownCap_le_maxLen w n 0 5 (by unfold maxLen; omega)
    generalize grownCap w n 0 5 = G at *
    have hGi : (n : Int) ≤ (G : Nat) := by omega
    have HO := Lib.hid (show OwnB (w.drew.alloc (.cells (Builtin.zeroCells #[.int .u8 0] n ++ Builtin.zeroCells #[.int .u8 0] (G - n)) 5)) w.heap.size (.slice (some ⟨w.heap.size, 0, none⟩) 0 G) 0 f from
      World.ownsRow_made w.drew _ G (Nat.le_refl _) (by unfold maxLen; omega) (by rw [Array.size_append, size_zeroCells, size_zeroCells]; omega))
    have HB := Lib.hid (show Below w.heap.size w (w.drew.alloc (.cells (Builtin.zeroCells #[.int .u8 0] n ++ Builtin.zeroCells #[.int .u8 0] (G - n)) 5)) from ((Below.refl _ _).drew).alloc (Nat.le_refl _) _)
    clear hi hz hsz hb h0 hn hG
    generalize (w.drew.alloc (.cells (Builtin.zeroCells #[.int .u8 0] n ++ Builtin.zeroCells #[.int .u8 0] (G - n)) 5)) = W at *
    go_enter Tryz.func52, Tryz.ntmps52
    go_wp2_with (at_builtin; refine Lib.wpList_append_run _ rfl _ _ _ _ rfl _ _ rfl rfl _ _ hr ?_)
    all_goals (go_ret; exact ⟨_, rfl, HO.out, HB.out⟩)
set_option maxRecDepth 100000 in
theorem grows_any (n : Nat) (X : Nat → Value) (w : World) (hn : n ≤ 2000) :
    Calls Tryz.prog 61 #[.slice none 0 0, .int .i64 (n : Nat)] w fun e w' => ∃ v, e = .returned v ∧ OwnS w' w.heap.size v 0 X ∧ Below w.heap.size w w' := by
  by_cases h0 : n = 0
  · subst h0
    clear hn
    go_enter Tryz.func61, Tryz.ntmps61
    go_wp2_with fail
    go_ret
    exact ⟨_, rfl, OwnS.nil _ _ _, Below.refl _ _⟩
  · have hni : (n : Int) ≤ 2000 := by omega
    have hn0 : (0 : Int) < n := by omega
    obtain ⟨i, hi, hz, hsz, hb⟩ := info_parts infoSl
    have hr : (Builtin.append_ #[25, 3] 25 #[.slice none 0 0, .int .i64 (n : Nat)]).run Tryz.prog w =
      .ok (.slice (some ⟨w.heap.size, 0, none⟩) n (grownCap w n 0 22)) (w.drew.alloc (.cells (Builtin.zeroCells #[.slice none 0 0] n ++ Builtin.zeroCells #[.slice none 0 0] (grownCap w n 0 22 - n)) 22)) :=
      Lib.run_append_nil_zeros (P := Tryz.prog) w 25 3 25 22 i (.slice none 0 0) .i64 .i64 Tryz.underlying25 Tryz.underlying3 hi hz n (by omega) (by omega) (by omega) (by rw [hb]; omega)
    have hG : n ≤ grownCap w n 0 22 := grownCap_ge w _ _ _
    have hG2 : grownCap w n 0 22 ≤ 9223372036854775807 := grownCap_le_maxLen w n 0 22 (by unfold maxLen; omega)
    generalize grownCap w n 0 22 = G at *
    have hGi : (n : Int) ≤ (G : Nat) := by omega
    have HO := Lib.hid (show OwnS (w.drew.alloc (.cells (Builtin.zeroCells #[.slice none 0 0] n ++ Builtin.zeroCells #[.slice none 0 0] (G - n)) 22)) w.heap.size (.slice (some ⟨w.heap.size, 0, none⟩) 0 G) 0 X from
      World.ownsRow_made w.drew _ G (Nat.le_refl _) (by unfold maxLen; omega) (by rw [Array.size_append, size_zeroCells, size_zeroCells]; omega))
    have HB := Lib.hid (show Below w.heap.size w (w.drew.alloc (.cells (Builtin.zeroCells #[.slice none 0 0] n ++ Builtin.zeroCells #[.slice none 0 0] (G - n)) 22)) from ((Below.refl _ _).drew).alloc (Nat.le_refl _) _)
    clear hi hz hsz hb h0 hn hG
    generalize (w.drew.alloc (.cells (Builtin.zeroCells #[.slice none 0 0] n ++ Builtin.zeroCells #[.slice none 0 0] (G - n)) 22)) = W at *
    go_enter Tryz.func61, Tryz.ntmps61
    go_wp2_with (at_builtin; refine Lib.wpList_append_run _ rfl _ _ _ _ rfl _ _ rfl rfl _ _ hr ?_)
    all_goals (go_ret; exact ⟨_, rfl, HO.out, HB.out⟩)
end Go.Proofs.YtgcdnhjjoidpmaaGreatDoor
/- slices.Concat: of bytes, and of rows of slices. -/
namespace Go.Proofs.YtgcdnhjjoidpmaaGreatDoor
open Go.RowKit
theorem offs_step {l : Nat → Nat} {k N : Nat} (h : offs 0 l k = N) {j : Nat} (hj : j < k) : offs 0 l j + l j ≤ N := by
  have := offs_le 0 l (j + 1) (k - (j + 1))
  rw [show j + 1 + (k - (j + 1)) = k by omega, h] at this
  exact this
/-- where byte t of all parts comes from -/
theorem offs_in {l : Nat → Nat} : ∀ {k t : Nat}, t < offs 0 l k → ∃ i, i < k ∧ offs 0 l i ≤ t ∧ t < offs 0 l i + l i
  | 0, _, h => absurd h (Nat.not_lt_zero _)
  | k + 1, t, h => by
    rcases Nat.lt_or_ge t (offs 0 l k) with h1 | h1
    · obtain ⟨i, hi, h2⟩ := offs_in h1
      exact ⟨i, by omega, h2⟩
    · exact ⟨k, Nat.lt_succ_self k, h1, h⟩
set_option maxRecDepth 100000 in
set_option maxHeartbeats 1600000 in
theorem catb_any (gp k cap N : Nat) (A : Nat → Option Addr) (l c : Nat → Nat) (f : Nat → Nat → Nat) (F : Nat → Nat) (w : World) (hk : k ≤ 1000) (hkc : k ≤ cap) (hN : offs 0 l k = N) (hN2 : N ≤ 10000000000000)
    (hp : Parts w gp k A l c f) (hg : 0 < k → gp < w.heap.size) (hnil : ∀ i, i < k → A i = none → l i = 0 ∧ c i = 0) (hlc : ∀ i, i < k → l i ≤ c i) (hF : ∀ i, i < k → ∀ j, j < l i → F (offs 0 l i + j) = f i j) :
    Calls Tryz.prog 38 #[.slice (some ⟨gp, 0, none⟩) k cap] w fun e w' => ∃ v, e = .returned v ∧ OwnB w' w.heap.size v N F ∧ Below w.heap.size w w' := by
  have HP := Lib.hid hp
  have HN := Lib.hid hN
  have HF := Lib.hid hF
  have HI := Lib.hid hnil
  have HLC := Lib.hid hlc
  have HG := Lib.hid hg
  have HFY := Lib.hid (show By N F from fun t ht => by
    obtain ⟨i, hi, h1, h2⟩ := offs_in (l := l) (k := k) (t := t) (by omega)
    have := hF i hi (t - offs 0 l i) (by omega)
    rw [show offs 0 l i + (t - offs 0 l i) = t by omega] at this
    rw [this]
    exact (hp.rows i hi).byte (by omega))
  have hki : (k : Int) ≤ 1000 := by omega
  have hN2i : (N : Int) ≤ 10000000000000 := by omega
  clear hp hN hF hnil hlc hg
  go_enter Tryz.func38, Tryz.ntmps38
  go_wp2_with fail
  go_loopw [3, 11] (fun s i wr => ∃ j x : Nat, j ≤ k ∧ offs 0 l j = x ∧ s = .int .i64 x ∧ i = .int .i64 j ∧ wr = w) (fun _ i _ => k - (intOf i).toNat)
  case atStart => exact ⟨0, 0, Nat.zero_le _, rfl, rfl, rfl, rfl⟩
  case round =>
    obtain ⟨j, x, hj, hx, rfl, rfl, rfl⟩ := hrel
    have HX := Lib.hid hx
    clear hx
    by_cases hlt : j < k
    · have hc0 := HP.out.cells j hlt
      have hst := offs_step HN.out hlt
      rw [HX.out] at hst
      obtain ⟨y, hy⟩ : ∃ y, l j = y := ⟨_, rfl⟩
      have hlcj := HLC.out j hlt
      have HS := Lib.hid (show offs 0 l (j + 1) = x + y by rw [← hy, ← HX.out]; rfl)
      rw [hy] at hst hc0 hlcj
      have hji : (j : Int) < k := by omega
      have hsi : (x : Int) + y ≤ 10000000000000 := by omega
      have hs0 : (0 : Int) ≤ (x : Int) + y := by omega
      have hs1 : decide ((x : Int) + y < 0) = false := by rw [decide_eq_false_iff_not]; omega
      clear hy
      go_wp2_with fail
      go_roundw
      case rel => exact ⟨j + 1, x + y, by omega, HS.out, by go_num, by go_num, trivial⟩
      case measure => simp [intOf]; omega
    · obtain rfl : j = k := by omega
      obtain rfl : x = N := by rw [← HX.out, HN.out]
      clear hlt hj HX
      obtain ⟨w0, hw0⟩ : ∃ w0, w0 = wr := ⟨_, rfl⟩
      have HW0 := Lib.hid hw0
      clear hw0
      go_wp2_with fail
      refine (growb_any x F wr (by omega)).mono ?_
      rintro e w1 ⟨v1, rfl, h1, h2⟩
      have H1 := Lib.hid h1
      have H2 := Lib.hid h2
      clear h1 h2
      rw [← HW0.out] at H1 H2 HP HG
      go_wp2_with fail
      go_loopw [6, 27] (fun v i wr => ∃ t : Nat, t ≤ j ∧ i = .int .i64 t ∧ OwnB wr w0.heap.size v (offs 0 l t) F ∧ Below w0.heap.size w0 wr) (fun _ i _ => j - (intOf i).toNat)
      case atStart => exact ⟨0, Nat.zero_le _, rfl, H1.out, H2.out⟩
      case round =>
        obtain ⟨t, ht, rfl, h1, h2⟩ := hrel
        have H3 := Lib.hid h1
        have H4 := Lib.hid h2
        clear h1 h2
        by_cases htl : t < j
        · have hgl := HG.out (by omega)
          have hc0 := (H4.out.cell (p := ⟨gp, t, none⟩) hgl).trans (HP.out.cells t htl)
          have HA := Lib.hid ((HP.out.rows t htl).keep H4.out)
          have hst := offs_step HN.out htl
          have HLT := Lib.hid hst
          have HLCt := Lib.hid (HLC.out t htl)
          have hlcj := HLC.out t htl
          have HE := Lib.hid (show ∀ u, u < offs 0 l t + l t → catB (offs 0 l t) F (f t) u = F u from fun u hu => by
            unfold catB
            by_cases h : u < offs 0 l t
            · rw [if_pos h]
            · rw [if_neg h, ← HF.out t htl (u - offs 0 l t) (by omega), show offs 0 l t + (u - offs 0 l t) = u by omega])
          have hji : (t : Int) < j := by omega
          clear hst
          go_wp2_with (refine wpList_appO rfl (.tmp 31) (.tmp 32) rfl w0.heap.size _ (offs 0 l t) F rfl H3.out (A t) (l t) (c t) (f t) rfl HA.out (HI.out t htl) (by have := HLT.out; omega) H4.out.size (fun u hu => HFY.out u (by have := HLT.out; omega)) (fun u hu => HA.out.byte hu) ?_; intro A4 c4 w4 h1 _ _ h4; have H5 := Lib.hid (OwnB.congr h1 HE.out); have H6 := Lib.hid (H4.out.trans h4); clear h1 h4)
          go_roundw
          case rel => exact ⟨t + 1, by omega, by go_num, H5.out, H6.out⟩
          case measure => simp [intOf]; omega
        · obtain rfl : t = j := by omega
          have H5 := Lib.hid (show OwnB wr w0.heap.size _ x F by have := H3.out; rwa [HN.out] at this)
          go_wp2_with fail
          go_ret
          exact ⟨_, rfl, by rw [← HW0.out]; exact H5.out, by rw [← HW0.out]; exact H4.out⟩
set_option maxRecDepth 100000 in
set_option maxHeartbeats 1600000 in
theorem cats_any (gp k cap N : Nat) (A : Nat → Option Addr) (l c : Nat → Nat) (f : Nat → Nat → Value) (F : Nat → Value) (w : World) (hk : k ≤ 1000) (hkc : k ≤ cap) (hN : offs 0 l k = N) (hN2 : N ≤ 1000)
    (hp : ∀ j, j < k → w.cell? ⟨gp, j, none⟩ = some (.slice (A j) (l j) (c j))) (hpr : ∀ j, j < k → RowOfS w (A j) (l j) (f j)) (hg : 0 < k → gp < w.heap.size) (hnil : ∀ i, i < k → A i = none → l i = 0 ∧ c i = 0) (hlc : ∀ i, i < k → l i ≤ c i)
    (h1 : ∀ i, i < k → ∀ j, j < l i → (f i j).oneCell' = true) (hF : ∀ i, i < k → ∀ j, j < l i → F (offs 0 l i + j) = f i j) :
    Calls Tryz.prog 42 #[.slice (some ⟨gp, 0, none⟩) k cap] w fun e w' => ∃ v, e = .returned v ∧ OwnS w' w.heap.size v N F ∧ Below w.heap.size w w' := by
  have HP := Lib.hid hp
  have HPR := Lib.hid hpr
  have HN := Lib.hid hN
  have HF := Lib.hid hF
  have HI := Lib.hid hnil
  have HLC := Lib.hid hlc
  have HG := Lib.hid hg
  have H11 := Lib.hid h1
  have hki : (k : Int) ≤ 1000 := by omega
  have hN2i : (N : Int) ≤ 1000 := by omega
  clear hp hpr hN hF hnil hlc hg h1
  go_enter Tryz.func42, Tryz.ntmps42
  go_wp2_with fail
  go_loopw [3, 11] (fun s i wr => ∃ j x : Nat, j ≤ k ∧ offs 0 l j = x ∧ s = .int .i64 x ∧ i = .int .i64 j ∧ wr = w) (fun _ i _ => k - (intOf i).toNat)
  case atStart => exact ⟨0, 0, Nat.zero_le _, rfl, rfl, rfl, rfl⟩
  case round =>
    obtain ⟨j, x, hj, hx, rfl, rfl, rfl⟩ := hrel
    have HX := Lib.hid hx
    clear hx
    by_cases hlt : j < k
    · have hc0 := HP.out j hlt
      have hst := offs_step HN.out hlt
      rw [HX.out] at hst
      obtain ⟨y, hy⟩ : ∃ y, l j = y := ⟨_, rfl⟩
      have hlcj := HLC.out j hlt
      have HS := Lib.hid (show offs 0 l (j + 1) = x + y by rw [← hy, ← HX.out]; rfl)
      rw [hy] at hst hc0 hlcj
      have hji : (j : Int) < k := by omega
      have hsi : (x : Int) + y ≤ 1000 := by omega
      have hs0 : (0 : Int) ≤ (x : Int) + y := by omega
      have hs1 : decide ((x : Int) + y < 0) = false := by rw [decide_eq_false_iff_not]; omega
      clear hy
      go_wp2_with fail
      go_roundw
      case rel => exact ⟨j + 1, x + y, by omega, HS.out, by go_num, by go_num, trivial⟩
      case measure => simp [intOf]; omega
    · obtain rfl : j = k := by omega
      obtain rfl : x = N := by rw [← HX.out, HN.out]
      clear hlt hj HX
      obtain ⟨w0, hw0⟩ : ∃ w0, w0 = wr := ⟨_, rfl⟩
      have HW0 := Lib.hid hw0
      clear hw0
      go_wp2_with fail
      refine (grows_any x F wr (by omega)).mono ?_
      rintro e w1 ⟨v1, rfl, h1, h2⟩
      have H1 := Lib.hid h1
      have H2 := Lib.hid h2
      clear h1 h2
      rw [← HW0.out] at H1 H2 HP HPR HG
      go_wp2_with fail
      go_loopw [6, 27] (fun v i wr => ∃ t : Nat, t ≤ j ∧ i = .int .i64 t ∧ OwnS wr w0.heap.size v (offs 0 l t) F ∧ Below w0.heap.size w0 wr) (fun _ i _ => j - (intOf i).toNat)
      case atStart => exact ⟨0, Nat.zero_le _, rfl, H1.out, H2.out⟩
      case round =>
        obtain ⟨t, ht, rfl, h1, h2⟩ := hrel
        have H3 := Lib.hid h1
        have H4 := Lib.hid h2
        clear h1 h2
        by_cases htl : t < j
        · have hgl := HG.out (by omega)
          have hc0 := (H4.out.cell (p := ⟨gp, t, none⟩) hgl).trans (HP.out t htl)
          have HLT := Lib.hid (offs_step HN.out htl)
          obtain ⟨A4, c4, w4, hrun, h5, h6⟩ := run_appS wr w0.heap.size _ (offs 0 l t) F H3.out (A t) (l t) (c t) (f t) ((HPR.out t htl).keep H4.out) (HI.out t htl) (H11.out t htl) (by have := HLT.out; omega) H4.out.size
          have H5 := Lib.hid (OwnS.congr (Y := F) h5 (fun u hu => by
            unfold catV
            by_cases h : u < offs 0 l t
            · rw [if_pos h]
            · rw [if_neg h, ← HF.out t htl (u - offs 0 l t) (by omega), show offs 0 l t + (u - offs 0 l t) = u by omega]))
          have H6 := Lib.hid (H4.out.trans h6)
          have HR := Lib.hid hrun
          have hlcj := HLC.out t htl
          have hji : (t : Int) < j := by omega
          clear h5 h6 hrun
          go_wp2_with (refine wpList_runS (.tmp 31) (.tmp 32) rfl rfl rfl rfl rfl HR.out ?_)
          go_roundw
          case rel => exact ⟨t + 1, by omega, by go_num, H5.out, H6.out⟩
          case measure => simp [intOf]; omega
        · obtain rfl : t = j := by omega
          have H5 := Lib.hid (show OwnS wr w0.heap.size _ x F by have := H3.out; rwa [HN.out] at this)
          go_wp2_with fail
          go_ret
          exact ⟨_, rfl, by rw [← HW0.out]; exact H5.out, by rw [← HW0.out]; exact H4.out⟩
end Go.Proofs.YtgcdnhjjoidpmaaGreatDoor
/- Contracts of package box: tagOf. -/
namespace Go.Proofs.YtgcdnhjjoidpmaaGreatDoor
open Go.RowKit
/-- what tagOf leaves -/
def TagB (g nt : Nat) (tk : Nat → Nat) (na : Nat) (about : Nat → Nat) (m : Nat) (F : Nat → Nat) (w : World) (e : Ending) (w' : World) : Prop :=
  ∃ d, e = .returned (.slice (some ⟨d, 0, none⟩) 16 32) ∧ w.heap.size ≤ d ∧ Arr w' d 0 32 (btag nt tk na about m F) ∧ MakReady w' g nt tk ∧ Chg g w w'
/-- one of the parts that are authenticated: two, and what follows -/
def cons2 {α : Type} (x y : α) (z : Nat → α) (j : Nat) : α := if j = 0 then x else if j = 1 then y else z (j - 2)
theorem cons2_0 {α : Type} (x y : α) (z : Nat → α) : cons2 x y z 0 = x := rfl
theorem cons2_1 {α : Type} (x y : α) (z : Nat → α) : cons2 x y z 1 = y := rfl
theorem cons2_2 {α : Type} (x y : α) (z : Nat → α) (j : Nat) : cons2 x y z (j + 2) = z j := by
  unfold cons2; rw [if_neg (by omega), if_neg (by omega), Nat.add_sub_cancel]
theorem cons2_of {k j : Nat} (h : j < k + 2) : j = 0 ∨ j = 1 ∨ ∃ i, i < k ∧ j = i + 2 := by
  rcases (show j = 0 ∨ j = 1 ∨ 2 ≤ j by omega) with h1 | h1 | h1
  · exact Or.inl h1
  · exact Or.inr (Or.inl h1)
  · exact Or.inr (Or.inr ⟨j - 2, by omega, by omega⟩)
theorem offs_cons2 (x y : Nat) (z : Nat → Nat) : ∀ k, offs 0 (cons2 x y z) (k + 2) = x + y + offs 0 z k
  | 0 => by show 0 + x + y = x + y + 0; omega
  | k + 1 => by
    show offs 0 (cons2 x y z) (k + 2) + cons2 x y z (k + 2) = _
    rw [offs_cons2 x y z k, cons2_2]
    show x + y + offs 0 z k + z k = x + y + (offs 0 z k + z k)
    omega
theorem cell_made (w : World) (c : Array Value) (t : TypeId) (j b : Nat) {v : Value} (hb : w.heap.size = b) (h : c[j]? = some v) : (w.alloc (.cells c t)).cell? ⟨b, j, none⟩ = some v := by
  subst hb; exact (World.cell?_alloc_at _ _ _ _ rfl).trans h
/-- b[:16] of a new row of 32 bytes -/
theorem lo16 (d : Nat) (w : World) : (Instr.sliceAt 22 (.slice (some ⟨d, 0, none⟩) 32 32) none (some (.int .i64 16)) none).run Tryz.prog w = .ok (.slice (some ⟨d, 0, none⟩) 16 32) w :=
  run_lo w (some ⟨d, 0, none⟩) 32 32 16 (by decide)
set_option maxRecDepth 100000 in
set_option maxHeartbeats 1600000 in
theorem tagof_any (g nt k cap na ca m gp : Nat) (tk about : Nat → Nat) (Ab : Option Addr) (A : Nat → Option Addr) (l c : Nat → Nat) (f : Nat → Nat → Nat) (F : Nat → Nat) (w : World) (hkey : By nt tk) (hm : MakAt w g nt tk) (hk0 : 0 < k) (hk : k ≤ 900) (hkc : k ≤ cap)
    (hp : Parts w gp k A l c f) (hlc : ∀ i, i < k → l i ≤ c i) (hN : offs 0 l k = m) (hm2 : m ≤ 1000000000000) (hna : na ≤ 1000000000000) (hac : na ≤ ca) (hA : SlB w Ab na about)
    (hF : ∀ i, i < k → ∀ j, j < l i → F (offs 0 l i + j) = f i j) (hY : By m F) (ht : GT w) (hG : 1 ≠ g ∧ 0 ≠ g) (_hgp : gp ≠ g) (hO : 0 < na → ∀ B o, Ab = some ⟨B, o, none⟩ → B ≠ g)
    (hOA : ∀ i, i < k → 0 < l i → ∀ B o, A i = some ⟨B, o, none⟩ → B ≠ g) :
    Calls Tryz.prog 29 #[.pointer (some ⟨g, 0, none⟩), .slice Ab na ca, .slice (some ⟨gp, 0, none⟩) k cap] w (TagB g nt tk na about m F w) := by
  have HBY := Lib.hid (bytesof_any na w (by omega))
  have HKY := Lib.hid hkey
  have HM := Lib.hid hm
  have HP := Lib.hid hp
  have HLC := Lib.hid hlc
  have HN := Lib.hid hN
  have HM2 := Lib.hid hm2
  have HNA := Lib.hid hna
  have HAC := Lib.hid hac
  have HA := Lib.hid hA
  have HF := Lib.hid hF
  have HY := Lib.hid hY
  have HT := Lib.hid ht
  have HG := Lib.hid hG
  have HO := Lib.hid hO
  have HOA := Lib.hid hOA
  have HGL := Lib.hid hm.lt
  have hnai : (na : Int) ≤ 1000000000000 := by omega
  have hk0' := Lib.hid hk0
  have hk' := Lib.hid hk
  have hkc' := Lib.hid hkc
  clear hkey hm hp hlc hN hm2 hna hac hA hF hY ht hG hO hOA hk0 hk hkc
  go_enter Tryz.func29, Tryz.ntmps29
  go_wp2_with (first | (go_at_call 37; refine HBY.out.mono ?_; rintro e w1 ⟨rfl, h1⟩; have H1 := Lib.hid h1; clear h1) | (refine wpList_storeB rfl 70 (.tmp 7) (.tmp 12) rfl w1.heap.size 0 8 (len8 na) (fun _ => 0) rfl rfl (made8 w1) size8b ?_; intro w2 h1 h2; have HL2 := Lib.hid h1; have HC2 := Lib.hid (H1.out.trans ((((Chg.of_below (alloc_below w1 _)).trans h2).below (Nat.le_refl _) (Nat.le_refl _)).mono H1.out.size)); clear h1 h2; obtain ⟨L, hL⟩ : ∃ L, w1.heap.size = L := ⟨_, rfl⟩; have HLL := Lib.hid (show w.heap.size ≤ L by rw [← hL]; exact H1.out.size); rw [hL] at HL2 ⊢; have hsl := all_arr 70 8 L 0 Tryz.underlying70 (by decide); clear hL))
  obtain ⟨b, hb⟩ : ∃ b, w2.heap.size = b := ⟨_, rfl⟩
  have e1 : (w2.alloc (.cells #[.slice (some ⟨L, 0, none⟩) 8 8, .slice Ab na ca] 22)).heap.size = b + 1 := by simp [hb]
  have c30 := cell_made w2 #[.slice (some ⟨L, 0, none⟩) 8 8, .slice Ab na ca] 22 0 b hb rfl
  have c31 := cell_made w2 #[.slice (some ⟨L, 0, none⟩) 8 8, .slice Ab na ca] 22 1 b hb rfl
  have B3 := alloc_below w2 (.cells #[.slice (some ⟨L, 0, none⟩) 8 8, .slice Ab na ca] 22)
  have hz := HC2.out.size
  rw [hb] at hz ⊢
  generalize w2.alloc (.cells #[.slice (some ⟨L, 0, none⟩) 8 8, .slice Ab na ca] 22) = w3 at *
  have c40 := cell_made w3 #[.slice (some ⟨b, 0, none⟩) 2 2, .slice (some ⟨gp, 0, none⟩) k cap] 25 0 (b + 1) e1 rfl
  have c41 := cell_made w3 #[.slice (some ⟨b, 0, none⟩) 2 2, .slice (some ⟨gp, 0, none⟩) k cap] 25 1 (b + 1) e1 rfl
  have B4 := alloc_below w3 (.cells #[.slice (some ⟨b, 0, none⟩) 2 2, .slice (some ⟨gp, 0, none⟩) k cap] 25)
  have e2 : (w3.alloc (.cells #[.slice (some ⟨b, 0, none⟩) 2 2, .slice (some ⟨gp, 0, none⟩) k cap] 25)).heap.size = b + 2 := by simp [e1]
  generalize w3.alloc (.cells #[.slice (some ⟨b, 0, none⟩) 2 2, .slice (some ⟨gp, 0, none⟩) k cap] 25) = w4 at *
  have d30 := (B4.cell (p := ⟨b, 0, none⟩) (by rw [e1]; exact Nat.lt_succ_self b)).trans c30
  have d31 := (B4.cell (p := ⟨b, 1, none⟩) (by rw [e1]; exact Nat.lt_succ_self b)).trans c31
  have B24 : Below w2.heap.size w2 w4 := B3.trans (B4.mono B3.size)
  have B04 : Below w.heap.size w w4 := HC2.out.trans (B24.mono HC2.out.size)
  have HB4 := Lib.hid B04
  have HP4 := Lib.hid (HP.out.keep B04)
  have HA4 := Lib.hid (HA.out.keep B04)
  have HL4 := Lib.hid (HL2.out.keep B24)
  have HS := Lib.hid (cats_any (b + 1) 2 2 (k + 2) (t2 (some ⟨b, 0, none⟩) (some ⟨gp, 0, none⟩)) (t2 2 k) (t2 2 cap) (t2 (t2 (.slice (some ⟨L, 0, none⟩) 8 8) (.slice Ab na ca)) (fun j => .slice (A j) (l j) (c j)))
    (fun j => .slice (cons2 (some ⟨L, 0, none⟩) Ab A j) (cons2 8 na l j) (cons2 8 ca c j)) w4 (by decide) (by decide) (by show 0 + 2 + k = k + 2; omega) (by have := hk'.out; omega)
    (fun j hj => by rcases two_of hj with rfl | rfl; exact c40; exact c41)
    (fun j hj => by
      rcases two_of hj with rfl | rfl
      · refine fun _ => ⟨b, 0, rfl, by rw [e2]; omega, fun j hj => ?_⟩
        rcases two_of hj with rfl | rfl
        · exact d30
        · exact d31
      · exact fun _ => ⟨gp, 0, rfl, block_lt (a := ⟨gp, 0, none⟩) (HP4.out.cells 0 hk0'.out), fun j hj => by rw [Nat.zero_add]; exact HP4.out.cells j hj⟩)
    (fun _ => by rw [e2]; exact Nat.lt_succ_self _) (fun j hj => by rcases two_of hj with rfl | rfl <;> (intro h; cases h)) (fun j hj => by rcases two_of hj with rfl | rfl; exact Nat.le_refl 2; exact hkc'.out)
    (fun i hi j hj => by
      rcases two_of hi with rfl | rfl
      · rcases two_of hj with rfl | rfl <;> rfl
      · rfl)
    (fun i hi j hj => by
      rcases two_of hi with rfl | rfl
      · rcases two_of hj with rfl | rfl <;> rfl
      · show Value.slice (cons2 _ _ _ (0 + 2 + j)) (cons2 _ _ _ (0 + 2 + j)) (cons2 _ _ _ (0 + 2 + j)) = Value.slice (A j) (l j) (c j)
        rw [show 0 + 2 + j = j + 2 by omega, cons2_2, cons2_2, cons2_2]))
  clear c30 c31 c40 c41 d30 d31 B3 B4 B24 B04 e1 e2 hz hb HP HA HL2 HC2 H1 HBY hsl
  refine HS.out.mono ?_
  rintro e w5 ⟨v, rfl, h1, h2⟩
  obtain ⟨g5, c5, rfl, hc5, hg5, _, hcell⟩ := h1.slice (by omega)
  have hgn : g < g5 := Nat.lt_of_lt_of_le HGL.out (Nat.le_trans HB4.out.size hg5)
  have H5 := Lib.hid (HB4.out.trans (h2.mono HB4.out.size))
  have HP5 := Lib.hid (show Parts w5 g5 (k + 2) (cons2 (some ⟨L, 0, none⟩) Ab A) (cons2 8 na l) (cons2 8 ca c) (cons2 (len8 na) about f) from ⟨hcell, fun j hj => by
    rcases cons2_of hj with rfl | rfl | ⟨i, hi, rfl⟩
    · exact (HL4.out.keep h2).slB (fun j _ => len8_lt na j)
    · exact HA4.out.keep h2
    · rw [cons2_2, cons2_2, cons2_2]
      exact (HP4.out.rows i hi).keep h2⟩)
  have HQ := Lib.hid (mmac_any g nt g5 (k + 2) c5 tk (cons2 (some ⟨L, 0, none⟩) Ab A) (cons2 8 na l) (cons2 8 ca c) (cons2 (len8 na) about f) (authF na about F) (8 + na + m) w5 HKY.out (HM.out.keep H5.out) (by omega) (by have := hk'.out; omega)
    (by rw [offs_cons2, HN.out]) (by have := HNA.out; have := HM2.out; omega) HP5.out
    (fun i hi => by
      rcases cons2_of hi with rfl | rfl | ⟨i, hi, rfl⟩
      · exact Nat.le_refl 8
      · exact HAC.out
      · rw [cons2_2, cons2_2]; exact HLC.out i (by omega))
    (fun i hi j hj => by
      unfold authF catB
      rcases cons2_of hi with rfl | rfl | ⟨i, hi, rfl⟩
      · have hj' : j < 8 := hj
        show (if 0 + j < 8 + na then (if 0 + j < 8 then len8 na (0 + j) else about (0 + j - 8)) else F (0 + j - (8 + na))) = len8 na j
        rw [if_pos (by omega), if_pos (by omega), Nat.zero_add]
      · have hj' : j < na := hj
        show (if 0 + 8 + j < 8 + na then (if 0 + 8 + j < 8 then len8 na (0 + 8 + j) else about (0 + 8 + j - 8)) else F (0 + 8 + j - (8 + na))) = about j
        rw [if_pos (by omega), if_neg (by omega), show 0 + 8 + j - 8 = j by omega]
      · rw [cons2_2] at hj
        rw [cons2_2, offs_cons2, if_neg (by omega), ← HF.out i (by omega) j hj, show 8 + na + offs 0 l i + j - (8 + na) = offs 0 l i + j by omega])
    (authF_by (fun j hj => HA4.out.byte hj) HY.out) (HT.out.keep H5.out) HG.out (Nat.ne_of_gt hgn)
    (fun i hi h0 => by
      rcases cons2_of hi with rfl | rfl | ⟨i, hi, rfl⟩
      · intro B o e
        have := HLL.out
        have := HGL.out
        have e' : some (⟨L, 0, none⟩ : Addr) = some ⟨B, o, none⟩ := e
        injection e' with e'
        injection e' with e1 _ _
        omega
      · exact HO.out h0
      · rw [cons2_2] at h0 ⊢
        exact HOA.out i (by omega) h0))
  clear h1 h2 hcell HS HP4 HA4 HL4 HM HP5 hgn
  go_wp2_with fail
  refine HQ.out.mono ?_
  rintro e w6 ⟨d, rfl, h1, h2, h3, h4⟩
  have HD := Lib.hid (Nat.le_trans H5.out.size h1)
  have H6 := Lib.hid h2
  have H7 := Lib.hid h3
  have H8 := Lib.hid ((Chg.of_below H5.out).trans h4)
  have hlo := lo16 d
  clear h1 h2 h3 h4 HQ
  go_wp2_with fail
  go_ret
  exact ⟨d, rfl, HD.out, H6.out, H7.out, H8.out⟩
end Go.Proofs.YtgcdnhjjoidpmaaGreatDoor
