/- 16 texts in one, in their order. -/
import Derived.Test.YthmlcmlpmolmoaaGreatDoorPk7
/- Contracts of package mac: New. -/
namespace Go.Proofs.YthmlcmlpmolmoaaGreatDoor
open Go.RowKit
/-- a Maker's block, whole -/
def mkCells (d m x : Int) (K X Y : Nat → Nat) : List Value := bytesL 64 K ++ (.int .u32 d :: .int .i32 m :: .int .u32 x :: (bytesL 64 X ++ bytesL 64 Y))
theorem makMem_of {w : World} {g : Nat} {d m x : Int} {K X Y : Nat → Nat} {t : TypeId} (h : w.heap[g]? = some (.cells (mkCells d m x K X Y).toArray t (0, 0))) : MakMem w g d m K X Y := by
  have hz : ∀ (o : Nat), w.frozen? ⟨g, o, none⟩ = false := fun o => by simp [World.frozen?, h]
  have hc : ∀ (o : Nat) v, (mkCells d m x K X Y)[o]? = some v → w.cell? ⟨g, o, none⟩ = some v := fun o v hv => by
    simp only [World.cell?, h]
    rw [List.getElem?_toArray, hv]
    rfl
  refine ⟨arr_of_list h fun j hj => ?_, ⟨hc 64 _ ?_, hc 65 _ ?_, hz _, hz _⟩, arr_of_list h fun j hj => ?_, arr_of_list h fun j hj => ?_⟩
  · unfold mkCells
    rw [Nat.zero_add, List.getElem?_append_left (by rw [bytesL_length]; exact hj)]
  · unfold mkCells
    rw [List.getElem?_append_right (by rw [bytesL_length]; decide), bytesL_length]; rfl
  · unfold mkCells
    rw [List.getElem?_append_right (by rw [bytesL_length]; decide), bytesL_length]; rfl
  · unfold mkCells
    rw [List.getElem?_append_right (by rw [bytesL_length]; omega), bytesL_length, show 67 + j - 64 = j + 1 + 1 + 1 by omega,
      List.getElem?_cons_succ, List.getElem?_cons_succ, List.getElem?_cons_succ, List.getElem?_append_left (by rw [bytesL_length]; exact hj)]
  · unfold mkCells
    rw [List.getElem?_append_right (by rw [bytesL_length]; omega), bytesL_length, show 131 + j - 64 = (j + 64) + 1 + 1 + 1 by omega,
      List.getElem?_cons_succ, List.getElem?_cons_succ, List.getElem?_cons_succ, List.getElem?_append_right (by rw [bytesL_length]; omega), bytesL_length, Nat.add_sub_cancel]
set_option maxRecDepth 100000 in
theorem zeroMaker : Tryz.zeroCells196 = (mkCells 0 0 0 (fun _ => 0) (fun _ => 0) (fun _ => 0)).toArray := by kernel_rfl
theorem maker_made (l : Nat) (key : Nat → Nat) (hl : l ≤ 64) : splice Tryz.zeroCells196.toList 0 (bytesL l key) = mkCells 0 0 0 (fun x => if x < l then key x else 0) (fun _ => 0) (fun _ => 0) := by
  have e2 : bytesL 64 (fun x => if x < l then key x else 0) = bytesL l key ++ (bytesL 64 (fun _ => 0)).drop l := by
    apply List.ext_getElem?
    intro j
    by_cases hj : j < l
    · rw [List.getElem?_append_left (by rw [bytesL_length]; exact hj), bytesL_at hj, bytesL_at (by omega)]
      show some (Value.int .u8 ((if j < l then key j else 0 : Nat) : Int)) = _
      rw [if_pos hj]
    · rw [List.getElem?_append_right (by rw [bytesL_length]; omega), bytesL_length, List.getElem?_drop, show l + (j - l) = j by omega]
      by_cases h2 : j < 64
      · rw [bytesL_at h2, bytesL_at h2]
        show some (Value.int .u8 ((if j < l then key j else 0 : Nat) : Int)) = _
        rw [if_neg hj]
      · rw [List.getElem?_eq_none (by rw [bytesL_length]; omega), List.getElem?_eq_none (by rw [bytesL_length]; omega)]
  rw [zeroMaker]
  unfold splice mkCells
  rw [bytesL_length, Nat.zero_add, List.toList_toArray, List.drop_append_of_le_length (by rw [bytesL_length]; exact hl), e2]
  simp
set_option maxRecDepth 100000 in
set_option maxHeartbeats 800000 in
theorem mnew_le (A : Option Addr) (n cap : Nat) (key : Nat → Nat) (w : World) (hn : n ≤ 64) (hA : SlB w A n key) :
    Calls Tryz.prog 104 #[.slice A n cap] w fun e w' => ∃ g, e = .returned (.pointer (some ⟨g, 0, none⟩)) ∧ w.heap.size ≤ g ∧ MakAt w' g n key ∧ Below w.heap.size w w' := by
  have HA := Lib.hid (hA.keep ((Below.refl _ _).alloc (Nat.le_refl _) (.cells Tryz.zeroCells196 196)))
  have HB := Lib.hid ((Below.refl w.heap.size w).alloc (Nat.le_refl _) (.cells Tryz.zeroCells196 196))
  have HG := Lib.hid (show (w.alloc (.cells Tryz.zeroCells196 196)).heap[w.heap.size]? = some (.cells Tryz.zeroCells196.toList.toArray 196 (0, 0)) by rw [heap_alloc_new, Array.toArray_toList])
  have hd : decide (64 < (n : Int)) = false := by simp; omega
  have HL := Lib.hid (show (bytesL n key).length = Nat.min n 64 by rw [bytesL_length]; show n = min n 64; omega)
  have HP := Lib.hid (copy_parts (k := n) (dp := some ⟨w.heap.size, 0, none⟩) (g := w.heap.size) (off := 0) HA.out (Nat.le_refl _) (fun _ => rfl))
  have HF := Lib.hid (show 0 + (bytesL n key).length ≤ Tryz.zeroCells196.toList.length by
    rw [zeroMaker, bytesL_length]
    simp [mkCells, bytesL_length]
    omega)
  have HK := Lib.hid (maker_made n key hn)
  have hsa : ∀ W : World, (Instr.sliceAt 194 (.pointer (some ⟨w.heap.size, 0, none⟩)) none none none).run Tryz.prog W = .ok (.slice (some ⟨w.heap.size, 0, none⟩) 64 64) W := all_arr 194 64 w.heap.size 0 Tryz.underlying194 (by decide)
  have HN := Lib.hid hn
  clear hA hn
  go_enter Tryz.func104, Tryz.ntmps104
  go_wp2_with ((refine wpList_copy_splice rfl (.tmp 15) (.tmp 16) 22 22 rfl 5 Tryz.underlying22 sizeOf8 (some ⟨w.heap.size, 0, none⟩) A 64 64 n cap rfl rfl w.heap.size 0 _ 196 HG.out (bytesL n key) HL.out HP.out HF.out (bytes_one n key) w.heap.size w HB.out (Nat.le_refl _) ?_); intro w2 hr hb2; rw [HK.out] at hr; have HR := Lib.hid hr; have HB2 := Lib.hid hb2; clear hr hb2)
  go_ret
  exact ⟨w.heap.size, rfl, Nat.le_refl _, Or.inl ((makMem_of HR.out.out).congr (fun j _ => by unfold kf; rw [if_pos HN.out]) (fun _ _ => rfl) (fun _ _ => rfl)), HB2.out⟩
set_option maxRecDepth 100000 in
set_option maxHeartbeats 800000 in
theorem mnew_gt (A : Option Addr) (n cap : Nat) (key : Nat → Nat) (w : World) (hn : 64 < n) (hn2 : n ≤ 100000000000000) (hc : n ≤ cap) (hA : SlB w A n key) (ht : GT w) :
    Calls Tryz.prog 104 #[.slice A n cap] w fun e w' => ∃ g, e = .returned (.pointer (some ⟨g, 0, none⟩)) ∧ w.heap.size ≤ g ∧ MakAt w' g n key ∧ Below w.heap.size w w' := by
  have hd : decide (64 < (n : Int)) = true := by simp; omega
  have HS := Lib.hid (sum1_any w A n cap key hn2 hc hA ht)
  have HN := Lib.hid hn
  clear hA hn ht
  go_enter Tryz.func104, Tryz.ntmps104
  go_wp2_with fail
  refine HS.out.mono ?_
  rintro e w1 ⟨d, rfl, hd1, ha1, hb1⟩
  have HB1 := Lib.hid hb1
  have HA1 := Lib.hid (ha1.slB fun j _ => sha_lt _ _ j)
  have HA := Lib.hid (HA1.out.keep ((Below.refl _ _).alloc (Nat.le_refl _) (.cells Tryz.zeroCells196 196)))
  have HB := Lib.hid ((Below.refl w1.heap.size w1).alloc (Nat.le_refl _) (.cells Tryz.zeroCells196 196))
  have HG := Lib.hid (show (w1.alloc (.cells Tryz.zeroCells196 196)).heap[w1.heap.size]? = some (.cells Tryz.zeroCells196.toList.toArray 196 (0, 0)) by rw [heap_alloc_new, Array.toArray_toList])
  have HL := Lib.hid (show (bytesL 32 (sha n key)).length = Nat.min 32 64 by rw [bytesL_length]; rfl)
  have HP := Lib.hid (copy_parts (k := 32) (dp := some ⟨w1.heap.size, 0, none⟩) (g := w1.heap.size) (off := 0) HA.out (Nat.le_refl _) (fun _ => rfl))
  have HF := Lib.hid (show 0 + (bytesL 32 (sha n key)).length ≤ Tryz.zeroCells196.toList.length by
    rw [zeroMaker, bytesL_length]
    simp [mkCells, bytesL_length])
  have HK := Lib.hid (maker_made 32 (sha n key) (by decide))
  have hsa : ∀ W : World, (Instr.sliceAt 194 (.pointer (some ⟨w1.heap.size, 0, none⟩)) none none none).run Tryz.prog W = .ok (.slice (some ⟨w1.heap.size, 0, none⟩) 64 64) W := all_arr 194 64 w1.heap.size 0 Tryz.underlying194 (by decide)
  clear hd1 ha1 hb1 hd HS
  go_wp2_with ((refine wpList_copy_splice rfl (.tmp 15) (.tmp 16) 22 22 rfl 5 Tryz.underlying22 sizeOf8 (some ⟨w1.heap.size, 0, none⟩) (some ⟨d, 0, none⟩) 64 64 32 32 rfl rfl w1.heap.size 0 _ 196 HG.out (bytesL 32 (sha n key)) HL.out (fun h => ⟨rfl, (HP.out h).2⟩) HF.out (bytes_one 32 (sha n key)) w1.heap.size w1 HB.out (Nat.le_refl _) ?_); intro w2 hr hb2; rw [HK.out] at hr; have HR := Lib.hid hr; have HB2 := Lib.hid hb2; clear hr hb2)
  go_ret
  exact ⟨w1.heap.size, rfl, HB1.out.size, Or.inl ((makMem_of HR.out.out).congr (fun j _ => by unfold kf; exact (if_neg (by have := HN.out; omega)).symm) (fun _ _ => rfl) (fun _ _ => rfl)), HB1.out.trans (HB2.out.mono HB1.out.size)⟩
theorem mnew_any (A : Option Addr) (n cap : Nat) (key : Nat → Nat) (w : World) (hn : n ≤ 100000000000000) (hc : n ≤ cap) (hA : SlB w A n key) (ht : GT w) :
    Calls Tryz.prog 104 #[.slice A n cap] w fun e w' => ∃ g, e = .returned (.pointer (some ⟨g, 0, none⟩)) ∧ w.heap.size ≤ g ∧ MakAt w' g n key ∧ Below w.heap.size w w' := by
  by_cases h : n ≤ 64
  · exact mnew_le A n cap key w h hA
  · exact mnew_gt A n cap key w (by omega) hn hc hA ht
end Go.Proofs.YthmlcmlpmolmoaaGreatDoor
/- More operations: for regions that draw their order. -/
namespace Go.Proofs.YthmlcmlpmolmoaaGreatDoor.ord
open Go Go.RowKit
theorem makes_nilCheck {P : Program} {o : Oper} {a : Act} {w : World} {N : Value → World → Prop} {x : Operand} {ad : Addr} (ho : o.op = .nilCheck x) (hx : a.eval x = .pointer (some ad)) (hN : N (.pointer (some ad)) w) : makes P o a w N := by
  unfold makes
  have : (execOp a.eval o).run P w = .ok (.value (.pointer (some ad))) w := by
    simp only [execOp, ho, hx]; rfl
  rw [this]; exact hN
theorem makes_fieldAddr {P : Program} {o : Oper} {a : Act} {w : World} {N : Value → World → Prop} {t : TypeId} {f : Nat} {x : Operand} {vx u : Value} (ho : o.op = .fieldAddr t x f) (hx : a.eval x = vx) (hrun : (Instr.fieldAt t vx f).run P w = .ok u w) (hN : N u w) : makes P o a w N := by
  unfold makes
  have : (execOp a.eval o).run P w = .ok (.value u) w := by
    simp only [execOp, ho, hx, Sem.run_bind]
    rw [hrun]; rfl
  rw [this]; exact hN
end Go.Proofs.YthmlcmlpmolmoaaGreatDoor.ord
/- Contracts of package mac: a Maker's tags. -/
namespace Go.Proofs.YthmlcmlpmolmoaaGreatDoor
open Go.RowKit
theorem offs_add (a : Nat) (n : Nat → Nat) : ∀ i, offs a n i = a + offs 0 n i
  | 0 => rfl
  | i + 1 => by show offs a n i + n i = a + (offs 0 n i + n i); rw [offs_add a n i]; omega
theorem run_build2 (w : World) (A0 A1 : Option Addr) (n0 n1 c0 c1 : Nat) : (Instr.buildSlice 32 2 #[(0, .slice A0 n0 c0), (1, .slice A1 n1 c1)]).run Tryz.prog w = .ok (.slice (some ⟨w.heap.size, 0, none⟩) 2 2) (w.alloc (.cells #[.slice A0 n0 c0, .slice A1 n1 c1] 22)) := by go_simp
theorem run_outer (g : Nat) (w : World) : (Instr.fieldAt 196 (.pointer (some ⟨g, 0, none⟩)) 3).run Tryz.prog w = .ok (.pointer (some ⟨g, 131, none⟩)) w := by go_simp
theorem sum2_parts (W : World) (gp cap : Nat) (A0 A1 : Option Addr) (n0 n1 c0 c1 : Nat) (f0 f1 F : Nat → Nat) (hn : n0 + n1 ≤ 100000000000000) (hc0 : n0 ≤ c0) (hc1 : n1 ≤ c1) (hp : Parts W gp 2 (t2 A0 A1) (t2 n0 n1) (t2 c0 c1) (t2 f0 f1)) (hY : By (n0 + n1) F)
    (hF0 : ∀ j, j < n0 → F j = f0 j) (hF1 : ∀ j, j < n1 → F (n0 + j) = f1 j) (ht : GT W) :
    Calls Tryz.prog 137 #[.slice (some ⟨gp, 0, none⟩) 2 cap] W (Dig W (n0 + n1) F) := by
  refine (sum_any gp 2 cap _ _ _ _ F _ (by decide) (by decide) (by show 0 + n0 + n1 ≤ _; omega) hp (fun i hi => ?_) (fun i hi j hj => ?_) (fun j hj => ?_) ht).mono fun e w' h => (Dig.of h (Below.refl _ _)).as (by show 0 + n0 + n1 = _; omega) fun _ _ => rfl
  · rcases two_of hi with rfl | rfl
    · exact hc0
    · exact hc1
  · rcases two_of hi with rfl | rfl
    · show F (0 + j) = f0 j
      rw [Nat.zero_add]; exact hF0 j hj
    · show F (0 + n0 + j) = f1 j
      rw [Nat.zero_add]; exact hF1 j hj
  · have hj : j < 0 + n0 + n1 := hj
    exact hY j (by omega)
--DEFS mm
def mmG (g h n : Nat) (key : Nat → Nat) (m : Nat) (F : Nat → Nat) (w0 : World) : Nat → Value → World → Prop
  | 0, v, _ => v = .pointer (some ⟨g, 0, none⟩)
  | 1, v, _ => v = .pointer (some ⟨g, 0, none⟩)
  | 2, v, _ => v = .pointer (some ⟨g, 131, none⟩)
  | 3, v, _ => v = .slice (some ⟨g, 131, none⟩) 64 64
  | 4, v, _ => v = .pointer (some ⟨h, 0, none⟩)
  | 5, v, w => ∃ d, v = .slice (some ⟨d, 0, none⟩) 32 32 ∧ Arr w d 0 32 (sha (64 + m) (catB 64 (xf 54 n key) F))
  | 6, v, w => ∃ p d, v = .slice (some ⟨p, 0, none⟩) 2 2 ∧ Parts w p 2 (t2 (some ⟨g, 131, none⟩) (some ⟨d, 0, none⟩)) (t2 64 32) (t2 64 32) (t2 (xf 92 n key) (sha (64 + m) (catB 64 (xf 54 n key) F)))
  | 7, v, w => ∃ d, v = .slice (some ⟨d, 0, none⟩) 32 32 ∧ w0.heap.size ≤ d ∧ Arr w d 0 32 (tag n key m F)
  | _, _, _ => True
theorem mmG_stays (g h n : Nat) (key : Nat → Nat) (m : Nat) (F : Nat → Nat) (w0 : World) : ∀ i v w w', mmG g h n key m F w0 i v w → Below w.heap.size w w' → mmG g h n key m F w0 i v w'
  | 0, _, _, _, h, _ => h
  | 1, _, _, _, h, _ => h
  | 2, _, _, _, h, _ => h
  | 3, _, _, _, h, _ => h
  | 4, _, _, _, h, _ => h
  | 5, v, w, w', h_, hb => by
    obtain ⟨d, h1, h2⟩ := h_; exact ⟨d, h1, h2.keep hb⟩
  | 6, v, w, w', h_, hb => by
    obtain ⟨p, d, h1, h2⟩ := h_; exact ⟨p, d, h1, h2.keep hb⟩
  | 7, v, w, w', h_, hb => by
    obtain ⟨d, h1, h2, h3⟩ := h_; exact ⟨d, h1, h2, h3.keep hb⟩
  | _ + 8, _, _, _, _, _ => trivial
--END DEFS mm
/-- what a tag's call leaves -/
def TagP (g n : Nat) (key : Nat → Nat) (m : Nat) (F : Nat → Nat) (w : World) (e : Ending) (w' : World) : Prop :=
  ∃ d, e = .returned (.slice (some ⟨d, 0, none⟩) 32 32) ∧ w.heap.size ≤ d ∧ Arr w' d 0 32 (tag n key m F) ∧ MakReady w' g n key ∧ Chg g w w'
set_option maxRecDepth 100000 in
set_option maxHeartbeats 1600000 in
theorem mmac_any (g n gp k cap : Nat) (key : Nat → Nat) (A : Nat → Option Addr) (l c : Nat → Nat) (f : Nat → Nat → Nat) (F : Nat → Nat) (m : Nat) (w0 : World) (hkey : By n key) (hk : MakAt w0 g n key) (hk0 : 0 < k) (hk2 : k ≤ 1000) (hm : offs 0 l k = m) (hN : m ≤ 10000000000000)
    (hp : Parts w0 gp k A l c f) (hcap : ∀ i, i < k → l i ≤ c i) (hF : ∀ i, i < k → ∀ j, j < l i → F (offs 0 l i + j) = f i j) (hY : By m F) (ht : GT w0) (hG : 4 ≠ g ∧ 1 ≠ g) (hgp : gp ≠ g)
    (hA : ∀ i, i < k → 0 < l i → ∀ B o, A i = some ⟨B, o, none⟩ → B ≠ g) :
    Calls Tryz.prog 105 #[.pointer (some ⟨g, 0, none⟩), .slice (some ⟨gp, 0, none⟩) k cap] w0 (TagP g n key m F w0) := by
  have HO := Lib.hid (once_mac g n key w0 hkey hk)
  have HKY := Lib.hid hkey
  have HGL := Lib.hid hk.lt
  have HGP := Lib.hid (block_lt (a := ⟨gp, 0, none⟩) (hp.cells 0 hk0))
  have HP := Lib.hid hp
  have HCP := Lib.hid hcap
  have HF := Lib.hid (show ∀ i, i < k → ∀ j, j < l i → catB 64 (xf 54 n key) F (offs 64 l i + j) = f i j from fun i hi j hj => by
    rw [offs_add, ← hF i hi j hj]
    unfold catB
    rw [if_neg (by omega), Nat.add_assoc, Nat.add_sub_cancel_left])
  have HM := Lib.hid (show offs 64 l k = 64 + m by rw [offs_add, hm])
  have HN := Lib.hid hN
  have HT := Lib.hid ht
  have HG := Lib.hid hG
  have HGQ := Lib.hid hgp
  have HA := Lib.hid hA
  have HFY := Lib.hid (show By (64 + m) (catB 64 (xf 54 n key) F) from fun j hj => catB_lt (xf_by (by decide) hkey) hY j hj)
  have hfi : ∀ W : World, (Instr.sliceAt 194 (.pointer (some ⟨g, 67, none⟩)) none none none).run Tryz.prog W = .ok (.slice (some ⟨g, 67, none⟩) 64 64) W := all_arr 194 64 g 67 Tryz.underlying194 (by decide)
  have HSA := Lib.hid (all_arr 194 64 g 131 Tryz.underlying194 (by decide))
  clear hkey hk hm hN hp hcap hF hY ht hG hgp hA
  go_enter Tryz.func105, Tryz.ntmps105
  go_wp2_with fail
  refine HO.out.mono ?_
  rintro e w1 ⟨rfl, h1, h2⟩
  have HR1 := Lib.hid h1
  have HC1 := Lib.hid h2
  have HT1 := Lib.hid (HT.out.chg h2 HG.out)
  have HP1 := Lib.hid (HP.out.chg h2 HGQ.out HA.out)
  have HL1 := Lib.hid h1.lt
  clear h1 h2
  go_wp2_with fail
  refine (snew_any (catB 64 (xf 54 n key) F) w1 HT1.out).mono ?_
  rintro e w2 ⟨rfl, h1, h2⟩
  obtain ⟨h, hh⟩ : ∃ h, w1.heap.size = h := ⟨_, rfl⟩
  rw [hh] at h1 ⊢
  have HH := Lib.hid (show w0.heap.size ≤ h by rw [← hh]; exact HC1.out.size)
  have HGH := Lib.hid (show g < h by rw [← hh]; exact HL1.out)
  have HHM := Lib.hid h1
  have HR2 := Lib.hid (HR1.out.keep h2)
  have HC2 := Lib.hid (HC1.out.thenBelow h2)
  have HT2 := Lib.hid (HT1.out.keep h2)
  have HP2 := Lib.hid (HP1.out.keep h2)
  have HGW := Lib.hid (show 4 ≠ h ∧ 1 ≠ h from by rw [← hh]; exact ⟨Nat.ne_of_lt HT1.out.ltk, Nat.ne_of_lt HT1.out.lth⟩)
  clear h1 h2 hh
  go_wp2_with fail
  refine (write1_any w2 h 0 (some ⟨g, 67, none⟩) 64 64 (xf 54 n key) (catB 64 (xf 54 n key) F) (by decide) (Nat.le_refl _) (HR2.out.inner.slB (xf_by (by decide) HKY.out)) (fun j hj => by rw [Nat.zero_add]; unfold catB; rw [if_pos hj]) HHM.out (fun j hj => HFY.out j (by omega)) HT2.out HGW.out (fun _ B o e => by cases e; exact Nat.ne_of_lt HGH.out)).mono ?_
  rintro e w3 ⟨rfl, h1, h2⟩
  have HHM3 := Lib.hid h1
  have HR3 := Lib.hid (HR2.out.chg h2 (Nat.ne_of_lt HGH.out))
  have HC3 := Lib.hid (HC2.out.thenNew h2 HH.out)
  have HT3 := Lib.hid (HT2.out.chg h2 HGW.out)
  have HQ := Lib.hid (show gp ≠ h from Nat.ne_of_lt (Nat.lt_of_lt_of_le HGP.out HH.out))
  have HP3 := Lib.hid (HP2.out.chg h2 HQ.out (HP.out.apart HH.out))
  clear h1 h2
  go_wp2_with fail
  refine (write_any h 64 gp k cap A l c f (catB 64 (xf 54 n key) F) w3 hk2 (by rw [HM.out]; have := HN.out; omega) HP3.out HCP.out HF.out HHM3.out (by rw [HM.out]; exact HFY.out) HT3.out HGW.out HQ.out (HP.out.apart HH.out)).mono ?_
  rintro e w4 ⟨rfl, h1, h2⟩
  rw [HM.out] at h1
  have HHM4 := Lib.hid h1
  have HR4 := Lib.hid (HR3.out.chg h2 (Nat.ne_of_lt HGH.out))
  have HC4 := Lib.hid (HC3.out.thenNew h2 HH.out)
  have HT4 := Lib.hid (HT3.out.chg h2 HGW.out)
  clear h1 h2 hfi HHM3 HR3 HC3 HT3 HP3 HHM HR2 HC2 HT2 HP2
  have HHS := Lib.hid (show ∀ w', Below w4.heap.size w4 w' → Calls Tryz.prog 141 #[.pointer (some ⟨h, 0, none⟩)] w' fun e w'' => ∃ d, e = .returned (.slice (some ⟨d, 0, none⟩) 32 32) ∧ w'.heap.size ≤ d ∧ Arr w'' d 0 32 (sha (64 + m) (catB 64 (xf 54 n key) F)) ∧ Below w'.heap.size w' w'' from fun w' hb =>
    hsum_any h (64 + m) (catB 64 (xf 54 n key) F) w' (by have := HN.out; omega) (HHM4.out.keep hb) HFY.out (HT4.out.keep hb))
  have HOU := Lib.hid (show ∀ w', Below w4.heap.size w4 w' → SlB w' (some ⟨g, 131, none⟩) 64 (xf 92 n key) from fun w' hb => (HR4.out.keep hb).outer.slB (xf_by (by decide) HKY.out))
  have HTG := Lib.hid (show ∀ w', Below w4.heap.size w4 w' → GT w' from fun w' hb => HT4.out.keep hb)
  have HFA := Lib.hid (run_outer g)
  have HBP := Lib.hid (fun (w : World) (d : Nat) => run_build2 w (some ⟨g, 131, none⟩) (some ⟨d, 0, none⟩) 64 32 64 32)
  have hz4 := HC4.out.size
  go_wp2_with fail
  refine ord.wp_region_ordT 8 [[], [0], [1], [2], [], [4], [3, 5], [6]] [(0, 23), (1, 24), (2, 25), (3, 26), (4, 27), (5, 28), (6, 29), (7, 30)] (mmG g h n key m F w0) (by kernel_rfl) (by kernel_rfl) (by kernel_rfl) (mmG_stays _ _ _ _ _ _ _) ((ord.steps_cons ?_ (ord.steps_cons ?_ (ord.steps_cons ?_ (ord.steps_cons ?_ (ord.steps_cons ?_ (ord.steps_cons ?_ (ord.steps_cons ?_ (ord.steps_cons ?_ ord.steps_nil))))))))) ?_
  --STEPS mm
  · intro o ho x w hb hG
    obtain rfl := Option.some.inj ho
    clear ho
    refine Or.inl ⟨ord.want0 rfl, ?_⟩
    exact ord.makes_move rfl ⟨Below.refl _ _, rfl⟩
  · intro o ho x w hb hG
    obtain rfl := Option.some.inj ho
    clear ho
    have h23 : x 0 = .pointer (some ⟨g, 0, none⟩) := hG (0, 23) (List.mem_of_getElem? (i := 0) rfl) rfl
    refine Or.inl ⟨ord.want0 rfl, ?_⟩
    exact ord.makes_nilCheck rfl h23 ⟨Below.refl _ _, rfl⟩
  · intro o ho x w hb hG
    obtain rfl := Option.some.inj ho
    clear ho
    have h24 : x 1 = .pointer (some ⟨g, 0, none⟩) := hG (1, 24) (List.mem_of_getElem? (i := 1) rfl) rfl
    refine Or.inl ⟨ord.want0 rfl, ?_⟩
    exact ord.makes_fieldAddr rfl h24 (HFA.out w) ⟨Below.refl _ _, rfl⟩
  · intro o ho x w hb hG
    obtain rfl := Option.some.inj ho
    clear ho
    have h25 : x 2 = .pointer (some ⟨g, 131, none⟩) := hG (2, 25) (List.mem_of_getElem? (i := 2) rfl) rfl
    refine Or.inl ⟨ord.want0 rfl, ?_⟩
    exact ord.makes_slice rfl h25 rfl rfl rfl (HSA.out w) ⟨Below.refl _ _, rfl⟩
  · intro o ho x w hb hG
    obtain rfl := Option.some.inj ho
    clear ho
    refine Or.inl ⟨ord.want0 rfl, ?_⟩
    exact ord.makes_move rfl ⟨Below.refl _ _, rfl⟩
  · intro o ho x w hb hG
    obtain rfl := Option.some.inj ho
    clear ho
    have h27 : x 4 = .pointer (some ⟨h, 0, none⟩) := hG (4, 27) (List.mem_of_getElem? (i := 4) rfl) rfl
    refine Or.inl ⟨ord.want0 rfl, ?_⟩
    exact ord.makes_call1 Tryz.func141 (by kernel_rfl) (by kernel_rfl) rfl h27 (HHS.out w (of_drew hb)) (fun e w' h => by obtain ⟨d, he, _, h2, h4⟩ := h; exact ⟨_, he, h4, d, rfl, h2⟩)
  · intro o ho x w hb hG
    obtain rfl := Option.some.inj ho
    clear ho
    have h26 : x 3 = .slice (some ⟨g, 131, none⟩) 64 64 := hG (3, 26) (List.mem_of_getElem? (i := 3) rfl) rfl
    have h28 : mmG g h n key m F w0 5 (x 5) w := hG (5, 28) (List.mem_of_getElem? (i := 5) rfl) rfl
    refine Or.inl ⟨ord.want0 rfl, ?_⟩
    obtain ⟨d, hv, ha⟩ := h28
    exact ord.makes_build2 rfl h26 hv (HBP.out w d) ⟨(Below.refl _ _).alloc (Nat.le_refl _) _, _, d, rfl, parts2 _ _ _ _ _ _ _ _ (HOU.out w (of_drew hb)) (ha.slB fun j _ => sha_lt _ _ j)⟩
  · intro o ho x w hb hG
    obtain rfl := Option.some.inj ho
    clear ho
    have h29 : mmG g h n key m F w0 6 (x 6) w := hG (6, 29) (List.mem_of_getElem? (i := 6) rfl) rfl
    refine Or.inl ⟨ord.want0 rfl, ?_⟩
    obtain ⟨p, d, hv, hp⟩ := h29
    exact ord.makes_call1 Tryz.func137 (by kernel_rfl) (by kernel_rfl) rfl hv (sum2_parts w p 2 _ _ 64 32 64 32 _ _ (catB 64 (xf 92 n key) (sha (64 + m) (catB 64 (xf 54 n key) F))) (by decide) (Nat.le_refl _) (Nat.le_refl _) hp (fun j hj => catB_lt (xf_by (by decide) HKY.out) (fun j _ => sha_lt _ _ j) j hj) (fun j hj => by unfold catB; rw [if_pos hj]) (fun j _ => by unfold catB; rw [if_neg (by omega), Nat.add_sub_cancel_left]) (HTG.out w (of_drew hb))) (fun e w' h => by obtain ⟨d, he, h1, h2, h4⟩ := h; exact ⟨_, he, h4, d, rfl, Nat.le_trans hz4 (Nat.le_trans (of_drew hb).size h1), h2⟩)
  --END STEPS mm
  · intro x w5 hb hG
    have e30 : mmG g h n key m F w0 7 (x 7) w5 := hG (7, 30) (List.mem_of_getElem? (i := 7) rfl)
    clear hG
    obtain ⟨d, hx, hd, ha⟩ := e30
    have HD := Lib.hid hd
    have HAD := Lib.hid ha
    have HR5 := Lib.hid (HR4.out.keep hb)
    have HC5 := Lib.hid (HC4.out.thenBelow hb)
    clear hb hd ha hz4
    simp only [ord.puts, ord.put', List.set_cons_zero, List.set_cons_succ, if_true]
    rw [hx]
    simp only [List.drop_succ_cons, List.drop_zero]
    go_wp2_with fail
    go_ret
    exact ⟨d, rfl, HD.out, HAD.out, HR5.out, HC5.out⟩
end Go.Proofs.YthmlcmlpmolmoaaGreatDoor
/- Contracts of package mac: what a tag leaves; a Maker's Mac of one and two parts. -/
namespace Go.Proofs.YthmlcmlpmolmoaaGreatDoor
open Go.RowKit
/-- what a call of Mac leaves -/
def TagD (n : Nat) (key : Nat → Nat) (m : Nat) (F : Nat → Nat) (W : World) (e : Ending) (w' : World) : Prop :=
  ∃ d, e = .returned (.slice (some ⟨d, 0, none⟩) 32 32) ∧ W.heap.size ≤ d ∧ Arr w' d 0 32 (tag n key m F) ∧ Below W.heap.size W w'
theorem TagD.from {n : Nat} {key : Nat → Nat} {m : Nat} {F : Nat → Nat} {W0 W : World} {e : Ending} {w' : World} (h : TagD n key m F W e w') (hb : Below W0.heap.size W0 W) : TagD n key m F W0 e w' := by
  obtain ⟨d, he, hd, ha, hb'⟩ := h
  exact ⟨d, he, Nat.le_trans hb.size hd, ha, hb.trans (hb'.mono hb.size)⟩
theorem TagD.as {n m m' : Nat} {key F F' : Nat → Nat} {W : World} {e : Ending} {w' : World} (h : TagD n key m F W e w') (hm : m = m') (hF : ∀ j, j < m → F j = F' j) : TagD n key m' F' W e w' := by
  subst hm
  obtain ⟨d, he, hd, ha, hb'⟩ := h
  exact ⟨d, he, hd, ha.congr fun j _ => tag_congr (fun _ _ => rfl) hF j, hb'⟩
theorem TagP.from {g n : Nat} {key : Nat → Nat} {m : Nat} {F : Nat → Nat} {W0 W : World} {e : Ending} {w' : World} (h : TagP g n key m F W e w') (hb : Below W0.heap.size W0 W) : TagP g n key m F W0 e w' := by
  obtain ⟨d, he, hd, ha, hr, hc⟩ := h
  exact ⟨d, he, Nat.le_trans hb.size hd, ha, hr, (Chg.of_below hb).trans hc⟩
theorem TagP.as {g n m m' : Nat} {key F F' : Nat → Nat} {W : World} {e : Ending} {w' : World} (h : TagP g n key m F W e w') (hm : m = m') (hF : ∀ j, j < m → F j = F' j) : TagP g n key m' F' W e w' := by
  subst hm
  obtain ⟨d, he, hd, ha, hr, hc⟩ := h
  exact ⟨d, he, hd, ha.congr fun j _ => tag_congr (fun _ _ => rfl) hF j, hr, hc⟩
theorem hF_two {A0 A1 : Option Addr} {W : World} {n0 n1 : Nat} {f0 f1 F : Nat → Nat} (h0 : SlB W A0 n0 f0) (h1 : SlB W A1 n1 f1) (hF0 : ∀ j, j < n0 → F j = f0 j) (hF1 : ∀ j, j < n1 → F (n0 + j) = f1 j) :
    (∀ i, i < 2 → ∀ j, j < t2 n0 n1 i → F (offs 0 (t2 n0 n1) i + j) = t2 f0 f1 i j) ∧ By (n0 + n1) F := by
  refine ⟨fun i hi j hj => ?_, fun j hj => ?_⟩
  · rcases two_of hi with rfl | rfl
    · show F (0 + j) = f0 j
      rw [Nat.zero_add]; exact hF0 j hj
    · show F (0 + n0 + j) = f1 j
      rw [Nat.zero_add]; exact hF1 j hj
  · by_cases e : j < n0
    · rw [hF0 j e]; exact h0.byte e
    · have := hF1 (j - n0) (by omega)
      rw [show n0 + (j - n0) = j by omega] at this
      rw [this]; exact h1.byte (by omega)
theorem cap_two {n0 n1 c0 c1 : Nat} (h0 : n0 ≤ c0) (h1 : n1 ≤ c1) : ∀ i, i < 2 → t2 n0 n1 i ≤ t2 c0 c1 i := fun i hi => by
  rcases two_of hi with rfl | rfl
  · exact h0
  · exact h1
theorem offs_two (n0 n1 : Nat) : offs 0 (t2 n0 n1) 2 = n0 + n1 := by show 0 + n0 + n1 = _; omega
theorem mmac1_any (W : World) (g n : Nat) (A : Option Addr) (l c : Nat) (key f : Nat → Nat) (hkey : By n key) (hk : MakAt W g n key) (hl : l ≤ 10000000000000) (hc : l ≤ c) (hA : SlB W A l f) (ht : GT W) (hG : 4 ≠ g ∧ 1 ≠ g) (hO : Off A l g) :
    Calls Tryz.prog 105 #[.pointer (some ⟨g, 0, none⟩), .slice (some ⟨W.heap.size, 0, none⟩) 1 1] (W.alloc (.cells #[.slice A l c] 22)) (TagP g n key l f W) := by
  refine (mmac_any g n W.heap.size 1 1 key (fun _ => A) (fun _ => l) (fun _ => c) (fun _ => f) f l _ hkey (hk.keep (alloc_below _ _)) (by decide) (by decide) (Nat.zero_add l) hl (parts1 A l c f hA) (fun _ _ => hc) (fun i hi j hj => ?_) (fun j hj => hA.byte hj) (ht.alloc _) hG (Nat.ne_of_gt hk.lt) (fun _ _ => hO)).mono fun e w' h => h.from (alloc_below _ _)
  obtain rfl : i = 0 := by omega
  show f (0 + j) = f j
  rw [Nat.zero_add]
theorem mmac2_any (W : World) (g n : Nat) (A0 A1 : Option Addr) (n0 n1 c0 c1 : Nat) (key f0 f1 F : Nat → Nat) (hkey : By n key) (hk : MakAt W g n key) (hl : n0 + n1 ≤ 10000000000000) (hc0 : n0 ≤ c0) (hc1 : n1 ≤ c1) (h0 : SlB W A0 n0 f0) (h1 : SlB W A1 n1 f1)
    (hF0 : ∀ j, j < n0 → F j = f0 j) (hF1 : ∀ j, j < n1 → F (n0 + j) = f1 j) (ht : GT W) (hG : 4 ≠ g ∧ 1 ≠ g) (hO0 : Off A0 n0 g) (hO1 : Off A1 n1 g) :
    Calls Tryz.prog 105 #[.pointer (some ⟨g, 0, none⟩), .slice (some ⟨W.heap.size, 0, none⟩) 2 2] (W.alloc (.cells #[.slice A0 n0 c0, .slice A1 n1 c1] 22)) (TagP g n key (n0 + n1) F W) := by
  refine (mmac_any g n W.heap.size 2 2 key _ _ _ _ F (n0 + n1) _ hkey (hk.keep (alloc_below _ _)) (by decide) (by decide) (offs_two n0 n1) hl (parts2 A0 A1 n0 n1 c0 c1 f0 f1 h0 h1) (cap_two hc0 hc1) (hF_two h0 h1 hF0 hF1).1 (hF_two h0 h1 hF0 hF1).2 (ht.alloc _) hG (Nat.ne_of_gt hk.lt) (fun i hi => ?_)).mono fun e w' h => h.from (alloc_below _ _)
  rcases two_of hi with rfl | rfl
  · exact hO0
  · exact hO1
end Go.Proofs.YthmlcmlpmolmoaaGreatDoor
/- Contracts of package mac: Mac, of one, two and three parts. -/
namespace Go.Proofs.YthmlcmlpmolmoaaGreatDoor
open Go.RowKit
set_option maxHeartbeats 800000 in
theorem mac_any (gp k cap n ck : Nat) (AK : Option Addr) (key : Nat → Nat) (A : Nat → Option Addr) (l c : Nat → Nat) (f : Nat → Nat → Nat) (F : Nat → Nat) (m : Nat) (w : World) (hn : n ≤ 10000000000000) (hck : n ≤ ck) (hAK : SlB w AK n key) (hkey : By n key) (hk0 : 0 < k) (hk2 : k ≤ 1000) (hm : offs 0 l k = m) (hN : m ≤ 10000000000000)
    (hp : Parts w gp k A l c f) (hcap : ∀ i, i < k → l i ≤ c i) (hF : ∀ i, i < k → ∀ j, j < l i → F (offs 0 l i + j) = f i j) (hY : By m F) (ht : GT w) :
    Calls Tryz.prog 61 #[.slice AK n ck, .slice (some ⟨gp, 0, none⟩) k cap] w (TagD n key m F w) := by
  have HW := Lib.hid (mnew_any AK n ck key w (by omega) hck hAK ht)
  have HGP := Lib.hid (block_lt (a := ⟨gp, 0, none⟩) (hp.cells 0 hk0))
  have HP := Lib.hid hp
  have HT := Lib.hid ht
  have HM := Lib.hid (fun (g : Nat) (w1 : World) (h1 : MakAt w1 g n key) (h2 : Parts w1 gp k A l c f) (h3 : GT w1) (h4 : 4 ≠ g ∧ 1 ≠ g) (h5 : gp ≠ g) (h6 : ∀ i, i < k → 0 < l i → ∀ B o, A i = some ⟨B, o, none⟩ → B ≠ g) =>
    mmac_any g n gp k cap key A l c f F m w1 hkey h1 hk0 hk2 hm hN h2 hcap hF hY h3 h4 h5 h6)
  clear hn hck hAK hkey hm hN hp hcap hF hY ht
  go_enter Tryz.func61, Tryz.ntmps61
  go_wp2_with fail
  refine HW.out.mono ?_
  rintro e w1 ⟨g, rfl, hg, h1, h2⟩
  have HQ := Lib.hid (HM.out g w1 h1 (HP.out.keep h2) (HT.out.keep h2) ⟨Nat.ne_of_lt (Nat.lt_of_lt_of_le HT.out.ltk hg), Nat.ne_of_lt (Nat.lt_of_lt_of_le HT.out.lth hg)⟩ (Nat.ne_of_lt (Nat.lt_of_lt_of_le HGP.out hg)) (HP.out.apart hg))
  have HG := Lib.hid hg
  have HB := Lib.hid h2
  clear hg h1 h2
  go_wp2_with fail
  refine HQ.out.mono ?_
  rintro e w2 ⟨d, rfl, hd, ha, _, hc⟩
  have HD := Lib.hid hd
  have HA := Lib.hid ha
  have HC := Lib.hid hc
  clear hd ha hc
  go_wp2_with fail
  go_ret
  exact ⟨d, rfl, Nat.le_trans HB.out.size HD.out, HA.out, HB.out.trans (HC.out.below HB.out.size HG.out)⟩
theorem mac1_any (W : World) (AK A : Option Addr) (n ck l c : Nat) (key f : Nat → Nat) (hn : n ≤ 10000000000000) (hl : l ≤ 10000000000000) (hck : n ≤ ck) (hc : l ≤ c) (hAK : SlB W AK n key) (hkey : By n key) (hA : SlB W A l f) (ht : GT W) :
    Calls Tryz.prog 61 #[.slice AK n ck, .slice (some ⟨W.heap.size, 0, none⟩) 1 1] (W.alloc (.cells #[.slice A l c] 22)) (TagD n key l f W) := by
  refine (mac_any W.heap.size 1 1 n ck AK key (fun _ => A) (fun _ => l) (fun _ => c) (fun _ => f) f l _ hn hck (hAK.keep (alloc_below _ _)) hkey (by decide) (by decide) (Nat.zero_add l) hl (parts1 A l c f hA) (fun _ _ => hc) (fun i hi j hj => ?_) (fun j hj => hA.byte hj) (ht.alloc _)).mono fun e w' h => h.from (alloc_below _ _)
  obtain rfl : i = 0 := by omega
  show f (0 + j) = f j
  rw [Nat.zero_add]
theorem mac2_any (W : World) (AK A0 A1 : Option Addr) (n ck n0 n1 c0 c1 : Nat) (key f0 f1 F : Nat → Nat) (hn : n ≤ 10000000000000) (hl : n0 + n1 ≤ 10000000000000) (hck : n ≤ ck) (hc0 : n0 ≤ c0) (hc1 : n1 ≤ c1) (hAK : SlB W AK n key) (hkey : By n key) (h0 : SlB W A0 n0 f0) (h1 : SlB W A1 n1 f1)
    (hF0 : ∀ j, j < n0 → F j = f0 j) (hF1 : ∀ j, j < n1 → F (n0 + j) = f1 j) (ht : GT W) :
    Calls Tryz.prog 61 #[.slice AK n ck, .slice (some ⟨W.heap.size, 0, none⟩) 2 2] (W.alloc (.cells #[.slice A0 n0 c0, .slice A1 n1 c1] 22)) (TagD n key (n0 + n1) F W) :=
  (mac_any W.heap.size 2 2 n ck AK key _ _ _ _ F (n0 + n1) _ hn hck (hAK.keep (alloc_below _ _)) hkey (by decide) (by decide) (offs_two n0 n1) hl (parts2 A0 A1 n0 n1 c0 c1 f0 f1 h0 h1) (cap_two hc0 hc1) (hF_two h0 h1 hF0 hF1).1 (hF_two h0 h1 hF0 hF1).2 (ht.alloc _)).mono fun e w' h => h.from (alloc_below _ _)
theorem mac3_any (W : World) (AK A0 A1 A2 : Option Addr) (n ck n0 n1 n2 c0 c1 c2 : Nat) (key f0 f1 f2 F : Nat → Nat) (hn : n ≤ 10000000000000) (hl : n0 + n1 + n2 ≤ 10000000000000) (hck : n ≤ ck) (hc0 : n0 ≤ c0) (hc1 : n1 ≤ c1) (hc2 : n2 ≤ c2) (hAK : SlB W AK n key) (hkey : By n key) (h0 : SlB W A0 n0 f0) (h1 : SlB W A1 n1 f1) (h2 : SlB W A2 n2 f2)
    (hY : By (n0 + n1 + n2) F) (hF0 : ∀ j, j < n0 → F j = f0 j) (hF1 : ∀ j, j < n1 → F (n0 + j) = f1 j) (hF2 : ∀ j, j < n2 → F (n0 + n1 + j) = f2 j) (ht : GT W) :
    Calls Tryz.prog 61 #[.slice AK n ck, .slice (some ⟨W.heap.size, 0, none⟩) 3 3] (W.alloc (.cells #[.slice A0 n0 c0, .slice A1 n1 c1, .slice A2 n2 c2] 22)) (TagD n key (n0 + n1 + n2) F W) := by
  refine (mac_any W.heap.size 3 3 n ck AK key _ _ _ _ F (n0 + n1 + n2) _ hn hck (hAK.keep (alloc_below _ _)) hkey (by decide) (by decide) (by show 0 + n0 + n1 + n2 = _; omega) hl (parts3 A0 A1 A2 n0 n1 n2 c0 c1 c2 f0 f1 f2 h0 h1 h2) (fun i hi => ?_) (fun i hi j hj => ?_) hY (ht.alloc _)).mono fun e w' h => h.from (alloc_below _ _)
  · rcases three_of hi with rfl | rfl | rfl
    · exact hc0
    · exact hc1
    · exact hc2
  · rcases three_of hi with rfl | rfl | rfl
    · show F (0 + j) = f0 j
      rw [Nat.zero_add]; exact hF0 j hj
    · show F (0 + n0 + j) = f1 j
      rw [Nat.zero_add]; exact hF1 j hj
    · show F (0 + n0 + n1 + j) = f2 j
      rw [Nat.zero_add]; exact hF2 j hj
end Go.Proofs.YthmlcmlpmolmoaaGreatDoor
/- A number in eight bytes. -/
namespace Go.Proofs.YthmlcmlpmolmoaaGreatDoor
open Go.RowKit
/-- a number in eight bytes -/
def len8 (n j : Nat) : Nat := n / 2 ^ (8 * (7 - j)) % 256
theorem len8_lt (n j : Nat) : len8 n j < 256 := Nat.mod_lt _ (by decide)
end Go.Proofs.YthmlcmlpmolmoaaGreatDoor
/- Eight bytes in memory. -/
namespace Go.Proofs.YthmlcmlpmolmoaaGreatDoor
open Go.RowKit
theorem size8b : (Tryz.prog.info? 107).map (·.size) = some 8 := by kernel_rfl
abbrev z8 : Array Value := #[.int .u8 0, .int .u8 0, .int .u8 0, .int .u8 0, .int .u8 0, .int .u8 0, .int .u8 0, .int .u8 0]
theorem made8 (w : World) : Arr (w.alloc (.cells z8 107)) w.heap.size 0 8 (fun _ => 0) := arr_made w _ _ 8 _ rfl
end Go.Proofs.YthmlcmlpmolmoaaGreatDoor
/- Rows of strings. -/
namespace Go.Proofs.YthmlcmlpmolmoaaGreatDoor
open Go.RowKit
/-- strings, known by a row -/
def StrsAt (w : World) (B o L : Nat) (s : Nat → ByteArray) : Prop := ∀ j, j < L → w.cell? ⟨B, o + j, none⟩ = some (.string (s j))
theorem StrsAt.keep {w w' : World} {B o L : Nat} {s : Nat → ByteArray} (h : StrsAt w B o L s) (hb : Below w.heap.size w w') : StrsAt w' B o L s := fun j hj => (hb.cell (p := ⟨B, o + j, none⟩) (block_lt (a := ⟨B, o + j, none⟩) (h j hj))).trans (h j hj)
theorem StrsAt.drewN {w : World} {B o L : Nat} {s : Nat → ByteArray} (h : StrsAt w B o L s) (n : Nat) : StrsAt (w.drewN n) B o L s := h
/-- the strings of a slice that came in -/
def SlS (w : World) (A : Option Addr) (L : Nat) (s : Nat → ByteArray) : Prop := 0 < L → ∃ B o, A = some ⟨B, o, none⟩ ∧ B < w.heap.size ∧ StrsAt w B o L s
theorem SlS.keep {w w' : World} {A : Option Addr} {L : Nat} {s : Nat → ByteArray} (h : SlS w A L s) (hb : Below w.heap.size w w') : SlS w' A L s := fun hL => by
  obtain ⟨B, o, hA, hB, hs⟩ := h hL
  exact ⟨B, o, hA, Nat.lt_of_lt_of_le hB hb.size, hs.keep hb⟩
end Go.Proofs.YthmlcmlpmolmoaaGreatDoor
/- Contracts of package mac: the length of a label, Fold. -/
namespace Go.Proofs.YthmlcmlpmolmoaaGreatDoor
open Go.RowKit
set_option maxRecDepth 100000 in
set_option maxHeartbeats 1600000 in
theorem length_any (s : ByteArray) (w : World) (hs : s.size ≤ 140737488351232) :
    Calls Tryz.prog 60 #[.string s] w fun e w' => e = .returned (aggB 8 (len8 s.size)) ∧ Below w.heap.size w w' := by
  have HO := Lib.hid ((made8 w).alloc (.cells z8 107))
  have HM := Lib.hid (made8 (w.alloc (.cells z8 107)))
  have hs1 : (w.alloc (.cells z8 107)).heap.size = w.heap.size + 1 := by simp
  rw [hs1] at HM
  have HB := Lib.hid (((Below.refl w.heap.size w).alloc (Nat.le_refl _) (.cells z8 107)).alloc (by simp) (.cells z8 107))
  clear hs1
  go_enter Tryz.func60, Tryz.ntmps60
  go_wp2_with fail
  generalize hW : (w.alloc (.cells z8 107)).alloc (.cells z8 107) = W at *
  clear hW
  obtain ⟨x, hx⟩ : ∃ x, s.size = x := ⟨_, rfl⟩
  rw [hx] at hs
  go_loopw [5] (fun v wr => ∃ k : Nat, k ≤ 8 ∧ v = .int .i64 k ∧ Arr wr (w.heap.size + 1) 0 8 (fun j => if j < k then len8 x j else 0) ∧ Arr wr w.heap.size 0 8 (fun _ => 0) ∧ Below w.heap.size w wr) (fun v _ => 8 - (intOf v).toNat)
  case atStart => exact ⟨0, by decide, rfl, HM.out.congr fun j _ => (if_neg (Nat.not_lt_zero _)).symm, HO.out, HB.out⟩
  case round =>
    obtain ⟨k, hk, rfl, h1, h2, h3⟩ := hrel
    have H1 := Lib.hid h1
    have H2 := Lib.hid h2
    have H3 := Lib.hid h3
    clear h1 h2 h3
    by_cases hlt : k < 8
    · obtain ⟨q, hq⟩ : ∃ q, q = 7 - k := ⟨_, rfl⟩
      obtain ⟨q8, hq8⟩ : ∃ q8, q8 = 8 * q := ⟨_, rfl⟩
      have eq : (7 : Int) - k = q := by omega
      have eq8 : (8 : Int) * q = q8 := by omega
      have hqi : (q : Int) ≤ 7 := by omega
      have hq8i : (q8 : Int) ≤ 56 := by omega
      have hxi : (x : Int) ≤ 140737488351232 := by omega
      obtain ⟨y, hy⟩ : ∃ y, y = x / 2 ^ q8 := ⟨_, rfl⟩
      have hyx : y ≤ x := by rw [hy]; exact Nat.div_le_self _ _
      have ey : (x : Int) / 2 ^ q8 = y := by rw [hy]; simp
      obtain ⟨z, hz⟩ : ∃ z, z = y % 256 := ⟨_, rfl⟩
      have ez : (y : Int) % 256 = z := by omega
      have lz : z < 256 := by omega
      have hyi : (y : Int) ≤ 140737488351232 := by omega
      have HZ := Lib.hid (show len8 x k = z by unfold len8; rw [hz, hy, hq8, hq])
      have hc3 := H1.out.cell hlt (Nat.zero_add k).symm
      have hf3 := H1.out.frozen hlt (Nat.zero_add k).symm
      rw [if_neg (Nat.lt_irrefl k)] at hc3
      have HM1 := Lib.hid ((H1.out.set hlt (Nat.zero_add k).symm z rfl).congr fun j _ => upto_step (fun _ => 0) (len8 x) k _ HZ.out j)
      have HB1 := Lib.hid (H3.out.setCell (p := ⟨w.heap.size + 1, k, none⟩) (Nat.le_succ _) (.int .u8 (z : Nat)))
      have HO1 := Lib.hid (H2.out.setOther (a := ⟨w.heap.size + 1, k, none⟩) (Nat.ne_of_lt (Nat.lt_succ_self _)) (.int .u8 (z : Nat)))
      clear hq hq8 hy hz
      go_wp2_with fail
      go_roundw
      case rel => exact ⟨k + 1, by omega, by go_num, HM1.out, HO1.out, HB1.out⟩
      case measure => simp [intOf]; omega
    · obtain rfl : k = 8 := by omega
      have HR := Lib.hid (H1.out.congr (f := len8 x) fun j hj => if_pos hj)
      go_wp2_with (first | (refine wpList_loadB rfl 107 (.tmp 3) rfl (w.heap.size + 1) 0 8 rfl _ HR.out _ Tryz.underlying107 rfl size8b ?_) | (refine wpList_storeB rfl 107 (.tmp 2) (.tmp 18) rfl w.heap.size 0 8 _ _ rfl rfl H2.out size8b ?_; intro w2 h1 h2; have HR2 := Lib.hid h1; have HC2 := Lib.hid h2; clear h1 h2))
      exact bodyPost_ret (results_cellB rfl _ _ w.heap.size 0 8 _ rfl HR2.out _ Tryz.underlying107 rfl size8b) rfl ⟨by rw [hx], H3.out.trans (HC2.out.below H3.out.size (Nat.le_refl _))⟩
/-- what a row of labels makes of a key: how long it is, and its bytes -/
def fkN (n : Nat) : Nat → Nat
  | 0 => n
  | _ + 1 => 32
def fkF (n : Nat) (key : Nat → Nat) (s : Nat → ByteArray) : Nat → Nat → Nat
  | 0 => key
  | i + 1 => tag (fkN n i) (fkF n key s i) (8 + (s i).size) (catB 8 (len8 (s i).size) (by_ (s i)))
theorem fkF_by {n : Nat} {key : Nat → Nat} {s : Nat → ByteArray} (hk : By n key) : ∀ i, By (fkN n i) (fkF n key s i)
  | 0 => hk
  | _ + 1 => fun _ _ => tag_lt _ _ _ _ _
theorem fkN_le {n K : Nat} (hn : n ≤ K) (h : 32 ≤ K) : ∀ i, fkN n i ≤ K
  | 0 => hn
  | _ + 1 => h
/-- []byte(s), with what its capacity is -/
theorem bytesOf' (s : ByteArray) (w : World) : ∃ cap W, (convert 9 22 (.string s)).run Tryz.prog w = .ok (.slice (some ⟨w.heap.size, 0, none⟩) s.size cap) W ∧
    Below w.heap.size w W ∧ s.size ≤ cap ∧ SlB W (some ⟨w.heap.size, 0, none⟩) s.size (by_ s) := by
  obtain ⟨cap, W, h1, h2, _, h4⟩ := bytesOf s w
  have h5 := run_bytes_of_string w _ _ _ s Tryz.underlying9 Tryz.underlying22 Tryz.underlying5
  have h6 := h1.symm.trans h5
  injection h6 with h6 h7
  injection h6 with _ _ h8
  exact ⟨cap, W, h1, h2, by rw [h8]; exact grownCap_ge _ _ _ _, SlB.of_rowX h4 fun j _ => ⟨by_lt s j, rfl⟩⟩
end Go.Proofs.YthmlcmlpmolmoaaGreatDoor
/- Owned: rows of bytes that may be written over, each by itself. -/
namespace Go.Proofs.YthmlcmlpmolmoaaGreatDoor
open Go.RowKit

/-- what row j holds at place t when k rows and u places of the next one are written over -/
def ov (f : Nat → Nat → Nat) (k u j t : Nat) : Nat := if j < k ∨ (j = k ∧ t < u) then j + 1 else f j t
/-- two rows of bytes, known by a row of two slices -/
structure Rws (R : Nat) (w : World) (g3 : Nat) (A : Nat → Option Addr) (n c g : Nat → Nat) (f : Nat → Nat → Nat) (k u : Nat) : Prop where
  cells : ∀ j, j < R → w.cell? ⟨g3, j, none⟩ = some (.slice (A j) (n j) (c j))
  rows : ∀ j, j < R → 0 < c j → RowX w (g j) 5 (c j) (fun t => .int .u8 (ov f k u j t : Nat))
variable {A : Nat → Option Addr} {n c g : Nat → Nat} {f : Nat → Nat → Nat} {R g3 B : Nat}
theorem Rws.next {w : World} {k : Nat} (h : Rws R w g3 A n c g f k (c k)) : Rws R w g3 A n c g f (k + 1) 0 :=
  ⟨h.cells, fun j hj hc => (h.rows j hj hc).congr fun t ht => by
    congr 2
    unfold ov
    by_cases e : j < k ∨ (j = k ∧ t < c k)
    · rw [if_pos e, if_pos (by omega)]
    · rw [if_neg e, if_neg (by
        rintro (h1 | h1)
        · have : j = k := by omega
          subst this
          exact e (Or.inr ⟨rfl, ht⟩)
        · omega)]⟩
theorem Rws.drewN {w : World} {k u : Nat} (h : Rws R w g3 A n c g f k u) (m : Nat) : Rws R (w.drewN m) g3 A n c g f k u := ⟨h.cells, fun j hj hc => (h.rows j hj hc).drewN m⟩
theorem Rws.write {w : World} {k u : Nat} (h : Rws R w g3 A n c g f k u) (hk : k < R) (hc : 0 < c k) (hne : ∀ i j, i < R → j < R → i ≠ j → 0 < c i → 0 < c j → g i ≠ g j) (h3 : g3 ≠ g k) :
    Rws R (w.setCell ⟨g k, u, none⟩ (.int .u8 ((k : Int) + 1))) g3 A n c g f k (u + 1) :=
  ⟨fun j hj => (World.cell?_setCell_other w ⟨g k, u, none⟩ ⟨g3, j, none⟩ _ (fun e => h3 (congrArg Addr.block e).symm)).trans (h.cells j hj), fun j hj hcj => by
    by_cases e : j = k
    · subst e
      refine ((h.rows j hj hcj).set u _).congr fun t _ => ?_
      by_cases et : t = u
      · rw [if_pos et]; unfold ov; rw [if_pos (by omega)]; rfl
      · rw [if_neg et]
        congr 2
        unfold ov
        by_cases e2 : j < j ∨ (j = j ∧ t < u)
        · rw [if_pos e2, if_pos (by omega)]
        · rw [if_neg e2, if_neg (by omega)]
    · refine ((h.rows j hj hcj).setOther (a := ⟨g k, u, none⟩) (hne j k hj hk e hcj hc) _).congr fun t _ => ?_
      congr 2
      unfold ov
      by_cases e2 : j < k ∨ (j = k ∧ t < u)
      · rw [if_pos e2, if_pos (by omega)]
      · rw [if_neg e2, if_neg (by omega)]⟩

set_option maxHeartbeats 1600000 in
theorem owned_any (cap3 : Nat) (w : World) (hR : R ≤ 200) (h2 : Rws R w g3 A n c g f 0 0) (hA : ∀ j, j < R → 0 < c j → A j = some ⟨g j, 0, none⟩)
    (hne : ∀ i j, i < R → j < R → i ≠ j → 0 < c i → 0 < c j → g i ≠ g j) (h3 : ∀ j, j < R → 0 < c j → g3 ≠ g j) (hB : ∀ j, j < R → 0 < c j → B ≤ g j) (hcl : ∀ j, j < R → c j ≤ 140737488351300) :
    Calls Tryz.prog 14 #[.slice (some ⟨g3, 0, none⟩) R cap3] w fun e w' => e = .returned (.bool true) ∧ Below B w w' := by
  have H2 := Lib.hid h2
  have HA := Lib.hid hA
  have HN := Lib.hid hne
  have H3 := Lib.hid h3
  have HB := Lib.hid hB
  have HC := Lib.hid hcl
  clear h2 hA hne h3 hB hcl
  go_enter Tryz.func14, Tryz.ntmps14
  go_wp2_with fail
  go_loopw [3] (fun i wr => ∃ k : Nat, k ≤ R ∧ i = .int .i64 k ∧ Rws R wr g3 A n c g f k 0 ∧ Below B w wr) (fun i _ => R - (intOf i).toNat)
  case atStart => exact ⟨0, by omega, rfl, H2.out, Below.refl _ _⟩
  case round =>
    obtain ⟨k, hk, rfl, htw, hbl⟩ := hrel
    have HT := Lib.hid htw
    have HBL := Lib.hid hbl
    clear htw hbl
    by_cases hlt : k < R
    · have hlti : (k : Int) < R := by omega
      have hk0 : (0 : Int) ≤ (k : Nat) := by omega
      have hcell := HT.out.cells k hlt
      have hck : ((c k : Nat) : Int) ≤ (c k : Nat) := Int.le_refl _
      have hck0 : (0 : Int) ≤ (c k : Nat) := by omega
      have HCK := HC.out k hlt
      go_wp2_with fail
      go_quiet (fail)
      have HTq := Lib.hid (HT.out.drewN nq)
      have HBq := Lib.hid (drawn HBL.out nq)
      generalize wr.drewN nq = W at *
      by_cases hc0 : c k = 0
      · have e0 : ((c k : Nat) : Int) = 0 := by omega
        have HZ := Lib.hid hc0
        generalize hcc : c k = cc at *
        subst hc0
        clear hcell
        go_wp2_with fail
        go_loopw [5] (fun i wr => i = .int .i64 0 ∧ wr = W) (fun _ _ => 0)
        case atStart => exact ⟨rfl, rfl⟩
        case round =>
          obtain ⟨rfl, rfl⟩ := hrel
          go_wp2_with fail
          go_roundw
          case rel => exact ⟨k + 1, by omega, by go_num, Rws.next (by rw [hcc]; exact HTq.out), HBq.out⟩
          case measure => simp [intOf]; omega
      · have hpos : 0 < c k := by omega
        have hAk := HA.out k hlt hpos
        rw [hAk]
        go_wp2_with fail
        go_loopw [5] (fun i wr => ∃ t : Nat, t ≤ c k ∧ i = .int .i64 t ∧ Rws R wr g3 A n c g f k t ∧ Below B w wr) (fun i _ => c k - (intOf i).toNat)
        case atStart => exact ⟨0, Nat.zero_le _, rfl, HTq.out, HBq.out⟩
        case round =>
          obtain ⟨t, ht, rfl, htw, hbl⟩ := hrel
          have HT2 := Lib.hid htw
          have HB2 := Lib.hid hbl
          clear htw hbl
          by_cases htl : t < c k
          · have hcl := (HT2.out.rows k hlt hpos).cell htl
            have hfr := (HT2.out.rows k hlt hpos).frozen htl
            have HW2 := Lib.hid (HT2.out.write hlt hpos HN.out (H3.out k hlt hpos))
            have HB3 := Lib.hid (HB2.out.setCell (p := ⟨g k, t, none⟩) (HB.out k hlt hpos) (.int .u8 ((k : Int) + 1)))
            generalize ov f k t k t = old at hcl
            go_wp2_with fail
            go_roundw
            case rel => exact ⟨t + 1, by omega, by go_num, HW2.out, HB3.out⟩
            case measure => simp [intOf]; omega
          · obtain rfl : t = c k := by omega
            go_wp2_with fail
            go_roundw
            case rel => exact ⟨k + 1, by omega, by go_num, HT2.out.next, HB2.out⟩
            case measure => simp [intOf]; omega
    · have HK := Lib.hid (show k = R by omega)
      have hk2 : ¬ (k : Int) < R := by omega
      go_wp2_with fail
      go_loopw [6] (fun i wr => ∃ j : Nat, j ≤ R ∧ i = .int .i64 j ∧ Rws R wr g3 A n c g f k 0 ∧ Below B w wr) (fun i _ => R - (intOf i).toNat)
      case atStart => exact ⟨0, by omega, rfl, HT.out, HBL.out⟩
      case round =>
        obtain ⟨j, hj, rfl, htw, hbl⟩ := hrel
        have HT5 := Lib.hid htw
        have HB5 := Lib.hid hbl
        clear htw hbl
        by_cases hjl : j < R
        · have hjli : (j : Int) < R := by omega
          have hj0 : (0 : Int) ≤ (j : Nat) := by omega
          have hcell := HT5.out.cells j hjl
          have hck : ((c j : Nat) : Int) ≤ (c j : Nat) := Int.le_refl _
          have hck0 : (0 : Int) ≤ (c j : Nat) := by omega
          have HCK := HC.out j hjl
          go_wp2_with fail
          go_quiet (fail)
          have HTq := Lib.hid (HT5.out.drewN nq)
          have HBq := Lib.hid (drawn HB5.out nq)
          generalize hWW : World.drewN _ nq = W at *
          clear hWW
          by_cases hc0 : c j = 0
          · have HZ := Lib.hid hc0
            generalize hcc : c j = cc at *
            subst hc0
            clear hcell
            go_wp2_with fail
            go_loopw [8] (fun i wr => i = .int .i64 0 ∧ wr = W) (fun _ _ => 0)
            case atStart => exact ⟨rfl, rfl⟩
            case round =>
              obtain ⟨rfl, rfl⟩ := hrel
              go_wp2_with fail
              go_roundw
              case rel => exact ⟨j + 1, by omega, by go_num, HTq.out, HBq.out⟩
              case measure => simp [intOf]; omega
          · have hpos : 0 < c j := by omega
            have hAk := HA.out j hjl hpos
            rw [hAk]
            go_wp2_with fail
            go_loopw [8] (fun i wr => ∃ t : Nat, t ≤ c j ∧ i = .int .i64 t ∧ wr = W) (fun i _ => c j - (intOf i).toNat)
            case atStart => exact ⟨0, Nat.zero_le _, rfl, rfl⟩
            case round =>
              obtain ⟨t, ht, rfl, rfl⟩ := hrel
              by_cases htl : t < c j
              · have hcl := (HTq.out.rows j hjl hpos).cell htl
                have hov : ov f k 0 j t = j + 1 := by unfold ov; rw [if_pos (by have := HK.out; omega)]
                rw [hov] at hcl
                clear hov
                obtain ⟨j1, ej, hj1⟩ : ∃ j1 : Nat, (j : Int) + 1 = j1 ∧ j + 1 = j1 := ⟨j + 1, by omega, rfl⟩
                rw [hj1] at hcl
                have hj13 : j1 ≤ 200 := by omega
                clear hj1
                go_wp2_with fail
                go_roundw
                case rel => exact ⟨t + 1, by omega, by go_num, trivial⟩
                case measure => simp [intOf]; omega
              · obtain rfl : t = c j := by omega
                go_wp2_with fail
                go_roundw
                case rel => exact ⟨j + 1, by omega, by go_num, HTq.out, HBq.out⟩
                case measure => simp [intOf]; omega
        · obtain rfl : j = R := by omega
          go_wp2_with fail
          go_ret
          exact ⟨rfl, HB5.out⟩
end Go.Proofs.YthmlcmlpmolmoaaGreatDoor
/- Owned, for rows of bytes that lie in blocks of any kind. -/
namespace Go.Proofs.YthmlcmlpmolmoaaGreatDoor
open Go.RowKit

/-- the rows' blocks -/
def InR (R : Nat) (c g : Nat → Nat) (k : Nat) : Prop := ∃ j, j < R ∧ 0 < c j ∧ k = g j
/-- rows of bytes, known by a row of slices -/
structure RwsA (R : Nat) (w : World) (g3 : Nat) (A : Nat → Option Addr) (n c g : Nat → Nat) (f : Nat → Nat → Nat) (k u : Nat) : Prop where
  cells : ∀ j, j < R → w.cell? ⟨g3, j, none⟩ = some (.slice (A j) (n j) (c j))
  rows : ∀ j, j < R → 0 < c j → Arr w (g j) 0 (c j) (ov f k u j)
variable {A : Nat → Option Addr} {n c g : Nat → Nat} {f : Nat → Nat → Nat} {R g3 : Nat}
theorem RwsA.next {w : World} {k : Nat} (h : RwsA R w g3 A n c g f k (c k)) : RwsA R w g3 A n c g f (k + 1) 0 :=
  ⟨h.cells, fun j hj hc => (h.rows j hj hc).congr fun t ht => by
    unfold ov
    by_cases e : j < k ∨ (j = k ∧ t < c k)
    · rw [if_pos e, if_pos (by omega)]
    · rw [if_neg e, if_neg (by
        rintro (h1 | h1)
        · have : j = k := by omega
          subst this
          exact e (Or.inr ⟨rfl, ht⟩)
        · omega)]⟩
theorem RwsA.drewN {w : World} {k u : Nat} (h : RwsA R w g3 A n c g f k u) (m : Nat) : RwsA R (w.drewN m) g3 A n c g f k u := ⟨h.cells, fun j hj hc => (h.rows j hj hc).drewN m⟩
theorem RwsA.write {w : World} {k u : Nat} (h : RwsA R w g3 A n c g f k u) (hk : k < R) (hc : 0 < c k) (hu : u < c k) (hne : ∀ i j, i < R → j < R → i ≠ j → 0 < c i → 0 < c j → g i ≠ g j) (h3 : g3 ≠ g k) :
    RwsA R (w.setCell ⟨g k, u, none⟩ (.int .u8 ((k : Int) + 1))) g3 A n c g f k (u + 1) :=
  ⟨fun j hj => (World.cell?_setCell_other w ⟨g k, u, none⟩ ⟨g3, j, none⟩ _ (fun e => h3 (congrArg Addr.block e).symm)).trans (h.cells j hj), fun j hj hcj => by
    by_cases e : j = k
    · subst e
      refine ((h.rows j hj hcj).set hu (Nat.zero_add u).symm (j + 1) rfl).congr fun t _ => ?_
      by_cases et : t = u
      · rw [if_pos et]; unfold ov; rw [if_pos (by omega)]
      · rw [if_neg et]
        unfold ov
        by_cases e2 : j < j ∨ (j = j ∧ t < u)
        · rw [if_pos e2, if_pos (by omega)]
        · rw [if_neg e2, if_neg (by omega)]
    · refine ((h.rows j hj hcj).setOther (a := ⟨g k, u, none⟩) (hne j k hj hk e hcj hc) _).congr fun t _ => ?_
      unfold ov
      by_cases e2 : j < k ∨ (j = k ∧ t < u)
      · rw [if_pos e2, if_pos (by omega)]
      · rw [if_neg e2, if_neg (by omega)]⟩

set_option maxHeartbeats 1600000 in
theorem owned_arr (cap3 : Nat) (w : World) (hR : R ≤ 200) (h2 : RwsA R w g3 A n c g f 0 0) (hA : ∀ j, j < R → 0 < c j → A j = some ⟨g j, 0, none⟩)
    (hne : ∀ i j, i < R → j < R → i ≠ j → 0 < c i → 0 < c j → g i ≠ g j) (h3 : ∀ j, j < R → 0 < c j → g3 ≠ g j) (hcl : ∀ j, j < R → c j ≤ 140737488351300) :
    Calls Tryz.prog 14 #[.slice (some ⟨g3, 0, none⟩) R cap3] w fun e w' => e = .returned (.bool true) ∧ ChgS (InR R c g) w w' := by
  have H2 := Lib.hid h2
  have HA := Lib.hid hA
  have HN := Lib.hid hne
  have H3 := Lib.hid h3
  have HC := Lib.hid hcl
  clear h2 hA hne h3 hcl
  go_enter Tryz.func14, Tryz.ntmps14
  go_wp2_with fail
  go_loopw [3] (fun i wr => ∃ k : Nat, k ≤ R ∧ i = .int .i64 k ∧ RwsA R wr g3 A n c g f k 0 ∧ ChgS (InR R c g) w wr) (fun i _ => R - (intOf i).toNat)
  case atStart => exact ⟨0, by omega, rfl, H2.out, ChgS.refl _ _⟩
  case round =>
    obtain ⟨k, hk, rfl, htw, hbl⟩ := hrel
    have HT := Lib.hid htw
    have HBL := Lib.hid hbl
    clear htw hbl
    by_cases hlt : k < R
    · have hlti : (k : Int) < R := by omega
      have hk0 : (0 : Int) ≤ (k : Nat) := by omega
      have hcell := HT.out.cells k hlt
      have hck : ((c k : Nat) : Int) ≤ (c k : Nat) := Int.le_refl _
      have hck0 : (0 : Int) ≤ (c k : Nat) := by omega
      have HCK := HC.out k hlt
      go_wp2_with fail
      go_quiet (fail)
      have HTq := Lib.hid (HT.out.drewN nq)
      have HBq := Lib.hid (HBL.out.drewN nq)
      generalize wr.drewN nq = W at *
      by_cases hc0 : c k = 0
      · have e0 : ((c k : Nat) : Int) = 0 := by omega
        have HZ := Lib.hid hc0
        generalize hcc : c k = cc at *
        subst hc0
        clear hcell
        go_wp2_with fail
        go_loopw [5] (fun i wr => i = .int .i64 0 ∧ wr = W) (fun _ _ => 0)
        case atStart => exact ⟨rfl, rfl⟩
        case round =>
          obtain ⟨rfl, rfl⟩ := hrel
          go_wp2_with fail
          go_roundw
          case rel => exact ⟨k + 1, by omega, by go_num, RwsA.next (by rw [hcc]; exact HTq.out), HBq.out⟩
          case measure => simp [intOf]; omega
      · have hpos : 0 < c k := by omega
        have hAk := HA.out k hlt hpos
        rw [hAk]
        go_wp2_with fail
        go_loopw [5] (fun i wr => ∃ t : Nat, t ≤ c k ∧ i = .int .i64 t ∧ RwsA R wr g3 A n c g f k t ∧ ChgS (InR R c g) w wr) (fun i _ => c k - (intOf i).toNat)
        case atStart => exact ⟨0, Nat.zero_le _, rfl, HTq.out, HBq.out⟩
        case round =>
          obtain ⟨t, ht, rfl, htw, hbl⟩ := hrel
          have HT2 := Lib.hid htw
          have HB2 := Lib.hid hbl
          clear htw hbl
          by_cases htl : t < c k
          · have hcl := (HT2.out.rows k hlt hpos).cell htl (Nat.zero_add t).symm
            have hfr := (HT2.out.rows k hlt hpos).frozen htl (Nat.zero_add t).symm
            have HW2 := Lib.hid (HT2.out.write hlt hpos htl HN.out (H3.out k hlt hpos))
            have HB3 := Lib.hid (HB2.out.setCell (a := ⟨g k, t, none⟩) ⟨k, hlt, hpos, rfl⟩ (.int .u8 ((k : Int) + 1)))
            generalize ov f k t k t = old at hcl
            go_wp2_with fail
            go_roundw
            case rel => exact ⟨t + 1, by omega, by go_num, HW2.out, HB3.out⟩
            case measure => simp [intOf]; omega
          · obtain rfl : t = c k := by omega
            go_wp2_with fail
            go_roundw
            case rel => exact ⟨k + 1, by omega, by go_num, HT2.out.next, HB2.out⟩
            case measure => simp [intOf]; omega
    · have HK := Lib.hid (show k = R by omega)
      have hk2 : ¬ (k : Int) < R := by omega
      go_wp2_with fail
      go_loopw [6] (fun i wr => ∃ j : Nat, j ≤ R ∧ i = .int .i64 j ∧ RwsA R wr g3 A n c g f k 0 ∧ ChgS (InR R c g) w wr) (fun i _ => R - (intOf i).toNat)
      case atStart => exact ⟨0, by omega, rfl, HT.out, HBL.out⟩
      case round =>
        obtain ⟨j, hj, rfl, htw, hbl⟩ := hrel
        have HT5 := Lib.hid htw
        have HB5 := Lib.hid hbl
        clear htw hbl
        by_cases hjl : j < R
        · have hjli : (j : Int) < R := by omega
          have hj0 : (0 : Int) ≤ (j : Nat) := by omega
          have hcell := HT5.out.cells j hjl
          have hck : ((c j : Nat) : Int) ≤ (c j : Nat) := Int.le_refl _
          have hck0 : (0 : Int) ≤ (c j : Nat) := by omega
          have HCK := HC.out j hjl
          go_wp2_with fail
          go_quiet (fail)
          have HTq := Lib.hid (HT5.out.drewN nq)
          have HBq := Lib.hid (HB5.out.drewN nq)
          generalize hWW : World.drewN _ nq = W at *
          clear hWW
          by_cases hc0 : c j = 0
          · have HZ := Lib.hid hc0
            generalize hcc : c j = cc at *
            subst hc0
            clear hcell
            go_wp2_with fail
            go_loopw [8] (fun i wr => i = .int .i64 0 ∧ wr = W) (fun _ _ => 0)
            case atStart => exact ⟨rfl, rfl⟩
            case round =>
              obtain ⟨rfl, rfl⟩ := hrel
              go_wp2_with fail
              go_roundw
              case rel => exact ⟨j + 1, by omega, by go_num, HTq.out, HBq.out⟩
              case measure => simp [intOf]; omega
          · have hpos : 0 < c j := by omega
            have hAk := HA.out j hjl hpos
            rw [hAk]
            go_wp2_with fail
            go_loopw [8] (fun i wr => ∃ t : Nat, t ≤ c j ∧ i = .int .i64 t ∧ wr = W) (fun i _ => c j - (intOf i).toNat)
            case atStart => exact ⟨0, Nat.zero_le _, rfl, rfl⟩
            case round =>
              obtain ⟨t, ht, rfl, rfl⟩ := hrel
              by_cases htl : t < c j
              · have hcl := (HTq.out.rows j hjl hpos).cell htl (Nat.zero_add t).symm
                have hov : ov f k 0 j t = j + 1 := by unfold ov; rw [if_pos (by have := HK.out; omega)]
                rw [hov] at hcl
                clear hov
                obtain ⟨j1, ej, hj1⟩ : ∃ j1 : Nat, (j : Int) + 1 = j1 ∧ j + 1 = j1 := ⟨j + 1, by omega, rfl⟩
                rw [hj1] at hcl
                have hj13 : j1 ≤ 200 := by omega
                clear hj1
                go_wp2_with fail
                go_roundw
                case rel => exact ⟨t + 1, by omega, by go_num, trivial⟩
                case measure => simp [intOf]; omega
              · obtain rfl : t = c j := by omega
                go_wp2_with fail
                go_roundw
                case rel => exact ⟨j + 1, by omega, by go_num, HTq.out, HBq.out⟩
                case measure => simp [intOf]; omega
        · obtain rfl : j = R := by omega
          go_wp2_with fail
          go_ret
          exact ⟨rfl, HB5.out⟩
/-- one of three -/
def t3 {α : Type} (x y z : α) (j : Nat) : α := if j = 0 then x else if j = 1 then y else z
theorem ov_none (f : Nat → Nat → Nat) (j t : Nat) : ov f 0 0 j t = f j t := by unfold ov; rw [if_neg (by omega)]
/-- three rows, just put into a row -/
theorem owned_three (W : World) (A0 A1 A2 : Option Addr) (n0 n1 n2 c0 c1 c2 g0 g1 g2 : Nat) (f0 f1 f2 : Nat → Nat) (B : Nat)
    (h0 : 0 < c0 → A0 = some ⟨g0, 0, none⟩ ∧ Arr W g0 0 c0 f0 ∧ B ≤ g0) (h1 : 0 < c1 → A1 = some ⟨g1, 0, none⟩ ∧ Arr W g1 0 c1 f1 ∧ B ≤ g1) (h2 : 0 < c2 → A2 = some ⟨g2, 0, none⟩ ∧ Arr W g2 0 c2 f2 ∧ B ≤ g2)
    (n01 : 0 < c0 → 0 < c1 → g0 ≠ g1) (n02 : 0 < c0 → 0 < c2 → g0 ≠ g2) (n12 : 0 < c1 → 0 < c2 → g1 ≠ g2) (l0 : c0 ≤ 140737488351300) (l1 : c1 ≤ 140737488351300) (l2 : c2 ≤ 140737488351300) (hB : B ≤ W.heap.size) :
    Calls Tryz.prog 14 #[.slice (some ⟨W.heap.size, 0, none⟩) 3 3] (W.alloc (.cells #[.slice A0 n0 c0, .slice A1 n1 c1, .slice A2 n2 c2] 22)) fun e w' => e = .returned (.bool true) ∧ Below B W w' := by
  have hj3 : ∀ j, j < 3 → j = 0 ∨ j = 1 ∨ j = 2 := fun j hj => by omega
  refine (owned_arr (R := 3) (A := t3 A0 A1 A2) (n := t3 n0 n1 n2) (c := t3 c0 c1 c2) (g := t3 g0 g1 g2) (f := t3 f0 f1 f2) 3 _ (by decide) ⟨fun j hj => ?_, fun j hj hc => ?_⟩ ?_ ?_ ?_ ?_).mono ?_
  · rcases hj3 j hj with rfl | rfl | rfl <;> exact (World.cell?_alloc_at _ _ _ _ rfl).trans rfl
  · rcases hj3 j hj with rfl | rfl | rfl
    · exact ((h0 hc).2.1.alloc _).congr fun t _ => (ov_none (t3 f0 f1 f2) 0 t).symm
    · exact ((h1 hc).2.1.alloc _).congr fun t _ => (ov_none (t3 f0 f1 f2) 1 t).symm
    · exact ((h2 hc).2.1.alloc _).congr fun t _ => (ov_none (t3 f0 f1 f2) 2 t).symm
  · intro j hj hc
    rcases hj3 j hj with rfl | rfl | rfl
    · exact (h0 hc).1
    · exact (h1 hc).1
    · exact (h2 hc).1
  · intro i j hi hj hij ci cj
    rcases hj3 i hi with rfl | rfl | rfl <;> rcases hj3 j hj with rfl | rfl | rfl
    · exact absurd rfl hij
    · exact n01 ci cj
    · exact n02 ci cj
    · exact (n01 cj ci).symm
    · exact absurd rfl hij
    · exact n12 ci cj
    · exact (n02 cj ci).symm
    · exact (n12 cj ci).symm
    · exact absurd rfl hij
  · intro j hj hc
    rcases hj3 j hj with rfl | rfl | rfl
    · exact Nat.ne_of_gt ((h0 hc).2.1.lt hc)
    · exact Nat.ne_of_gt ((h1 hc).2.1.lt hc)
    · exact Nat.ne_of_gt ((h2 hc).2.1.lt hc)
  · intro j hj
    rcases hj3 j hj with rfl | rfl | rfl
    · exact l0
    · exact l1
    · exact l2
  rintro e w' ⟨he, h⟩
  refine ⟨he, ((Below.refl W.heap.size W).alloc (Nat.le_refl _) _ |>.mono hB).trans (h.below (by simp; omega) fun k hk => ?_)⟩
  obtain ⟨j, hj, hc, rfl⟩ := hk
  rcases hj3 j hj with rfl | rfl | rfl
  · exact (h0 hc).2.2
  · exact (h1 hc).2.2
  · exact (h2 hc).2.2
/-- one row, just put into a row -/
theorem owned_one (W : World) (g0 n0 c0 : Nat) (f0 : Nat → Nat) (h0 : Arr W g0 0 c0 f0) (l0 : c0 ≤ 140737488351300) :
    Calls Tryz.prog 14 #[.slice (some ⟨W.heap.size, 0, none⟩) 1 1] (W.alloc (.cells #[.slice (some ⟨g0, 0, none⟩) n0 c0] 22)) fun e w' => e = .returned (.bool true) ∧ Chg g0 W w' := by
  refine (owned_arr (R := 1) (A := fun _ => some ⟨g0, 0, none⟩) (n := fun _ => n0) (c := fun _ => c0) (g := fun _ => g0) (f := fun _ => f0) 1 _ (by decide) ⟨fun j hj => ?_, fun j hj hc => ?_⟩ ?_ ?_ ?_ ?_).mono ?_
  · obtain rfl : j = 0 := by omega
    exact (World.cell?_alloc_at _ _ _ _ rfl).trans rfl
  · exact (h0.alloc _).congr fun t _ => (ov_none (fun _ => f0) j t).symm
  · exact fun _ _ _ => rfl
  · intro i j hi hj hij _ _
    omega
  · intro j _ hc
    exact Nat.ne_of_gt (h0.lt hc)
  · exact fun _ _ => l0
  rintro e w' ⟨he, h⟩
  refine ⟨he, (Chg.of_below ((Below.refl W.heap.size W).alloc (Nat.le_refl _) _)).trans ⟨h.os, h.tape, h.output, h.size, fun k hk hn => h.block k hk fun hs => ?_⟩⟩
  obtain ⟨_, _, _, e⟩ := hs
  exact hn e
end Go.Proofs.YthmlcmlpmolmoaaGreatDoor
/- Owned, for rows of which only the length is known. -/
namespace Go.Proofs.YthmlcmlpmolmoaaGreatDoor
open Go.RowKit
def ovV (f : Nat → Nat → Value) (k u j t : Nat) : Value := if j < k ∨ (j = k ∧ t < u) then .int .u8 ((j : Int) + 1) else f j t
/-- rows of cells, known by a row of slices -/
structure RwsV (R : Nat) (w : World) (g3 : Nat) (A : Nat → Option Addr) (n c g : Nat → Nat) (f : Nat → Nat → Value) (k u : Nat) : Prop where
  cells : ∀ j, j < R → w.cell? ⟨g3, j, none⟩ = some (.slice (A j) (n j) (c j))
  rows : ∀ j, j < R → 0 < c j → ArrV w (g j) 0 (c j) (ovV f k u j)
variable {A : Nat → Option Addr} {n c g : Nat → Nat} {f : Nat → Nat → Value} {R g3 : Nat}
theorem RwsV.next {w : World} {k : Nat} (h : RwsV R w g3 A n c g f k (c k)) : RwsV R w g3 A n c g f (k + 1) 0 :=
  ⟨h.cells, fun j hj hc => (h.rows j hj hc).congr fun t ht => by
    unfold ovV
    by_cases e : j < k ∨ (j = k ∧ t < c k)
    · rw [if_pos e, if_pos (by omega)]
    · rw [if_neg e, if_neg (by
        rintro (h1 | h1)
        · have : j = k := by omega
          subst this
          exact e (Or.inr ⟨rfl, ht⟩)
        · omega)]⟩
theorem RwsV.drewN {w : World} {k u : Nat} (h : RwsV R w g3 A n c g f k u) (m : Nat) : RwsV R (w.drewN m) g3 A n c g f k u := ⟨h.cells, fun j hj hc => (h.rows j hj hc).drewN m⟩
theorem RwsV.write {w : World} {k u : Nat} (h : RwsV R w g3 A n c g f k u) (hk : k < R) (hc : 0 < c k) (hu : u < c k) (hne : ∀ i j, i < R → j < R → i ≠ j → 0 < c i → 0 < c j → g i ≠ g j) (h3 : g3 ≠ g k) :
    RwsV R (w.setCell ⟨g k, u, none⟩ (.int .u8 ((k : Int) + 1))) g3 A n c g f k (u + 1) :=
  ⟨fun j hj => (World.cell?_setCell_other w ⟨g k, u, none⟩ ⟨g3, j, none⟩ _ (fun e => h3 (congrArg Addr.block e).symm)).trans (h.cells j hj), fun j hj hcj => by
    by_cases e : j = k
    · subst e
      refine ((h.rows j hj hcj).set hu (Nat.zero_add u).symm (.int .u8 ((j : Int) + 1))).congr fun t _ => ?_
      by_cases et : t = u
      · rw [if_pos et]; unfold ovV; rw [if_pos (by omega)]
      · rw [if_neg et]
        unfold ovV
        by_cases e2 : j < j ∨ (j = j ∧ t < u)
        · rw [if_pos e2, if_pos (by omega)]
        · rw [if_neg e2, if_neg (by omega)]
    · refine ((h.rows j hj hcj).setOther (a := ⟨g k, u, none⟩) (hne j k hj hk e hcj hc) _).congr fun t _ => ?_
      unfold ovV
      by_cases e2 : j < k ∨ (j = k ∧ t < u)
      · rw [if_pos e2, if_pos (by omega)]
      · rw [if_neg e2, if_neg (by omega)]⟩

set_option maxHeartbeats 1600000 in
theorem owned_vals (cap3 : Nat) (w : World) (hR : R ≤ 200) (h2 : RwsV R w g3 A n c g f 0 0) (hA : ∀ j, j < R → 0 < c j → A j = some ⟨g j, 0, none⟩)
    (hne : ∀ i j, i < R → j < R → i ≠ j → 0 < c i → 0 < c j → g i ≠ g j) (h3 : ∀ j, j < R → 0 < c j → g3 ≠ g j) (hcl : ∀ j, j < R → c j ≤ 9223372036854775807) :
    Calls Tryz.prog 14 #[.slice (some ⟨g3, 0, none⟩) R cap3] w fun e w' => e = .returned (.bool true) ∧ ChgS (InR R c g) w w' := by
  have H2 := Lib.hid h2
  have HA := Lib.hid hA
  have HN := Lib.hid hne
  have H3 := Lib.hid h3
  have HC := Lib.hid hcl
  clear h2 hA hne h3 hcl
  go_enter Tryz.func14, Tryz.ntmps14
  go_wp2_with fail
  go_loopw [3] (fun i wr => ∃ k : Nat, k ≤ R ∧ i = .int .i64 k ∧ RwsV R wr g3 A n c g f k 0 ∧ ChgS (InR R c g) w wr) (fun i _ => R - (intOf i).toNat)
  case atStart => exact ⟨0, by omega, rfl, H2.out, ChgS.refl _ _⟩
  case round =>
    obtain ⟨k, hk, rfl, htw, hbl⟩ := hrel
    have HT := Lib.hid htw
    have HBL := Lib.hid hbl
    clear htw hbl
    by_cases hlt : k < R
    · have hlti : (k : Int) < R := by omega
      have hk0 : (0 : Int) ≤ (k : Nat) := by omega
      have hcell := HT.out.cells k hlt
      have hck : ((c k : Nat) : Int) ≤ (c k : Nat) := Int.le_refl _
      have hck0 : (0 : Int) ≤ (c k : Nat) := by omega
      have HCK := HC.out k hlt
      go_wp2_with fail
      go_quiet (fail)
      have HTq := Lib.hid (HT.out.drewN nq)
      have HBq := Lib.hid (HBL.out.drewN nq)
      generalize wr.drewN nq = W at *
      by_cases hc0 : c k = 0
      · have e0 : ((c k : Nat) : Int) = 0 := by omega
        have HZ := Lib.hid hc0
        generalize hcc : c k = cc at *
        subst hc0
        clear hcell
        go_wp2_with fail
        go_loopw [5] (fun i wr => i = .int .i64 0 ∧ wr = W) (fun _ _ => 0)
        case atStart => exact ⟨rfl, rfl⟩
        case round =>
          obtain ⟨rfl, rfl⟩ := hrel
          go_wp2_with fail
          go_roundw
          case rel => exact ⟨k + 1, by omega, by go_num, RwsV.next (by rw [hcc]; exact HTq.out), HBq.out⟩
          case measure => simp [intOf]; omega
      · have hpos : 0 < c k := by omega
        have hAk := HA.out k hlt hpos
        rw [hAk]
        go_wp2_with fail
        go_loopw [5] (fun i wr => ∃ t : Nat, t ≤ c k ∧ i = .int .i64 t ∧ RwsV R wr g3 A n c g f k t ∧ ChgS (InR R c g) w wr) (fun i _ => c k - (intOf i).toNat)
        case atStart => exact ⟨0, Nat.zero_le _, rfl, HTq.out, HBq.out⟩
        case round =>
          obtain ⟨t, ht, rfl, htw, hbl⟩ := hrel
          have HT2 := Lib.hid htw
          have HB2 := Lib.hid hbl
          clear htw hbl
          by_cases htl : t < c k
          · have hcl := (HT2.out.rows k hlt hpos).cell htl (Nat.zero_add t).symm
            have hfr := (HT2.out.rows k hlt hpos).frozen htl (Nat.zero_add t).symm
            have HW2 := Lib.hid (HT2.out.write hlt hpos htl HN.out (H3.out k hlt hpos))
            have HB3 := Lib.hid (HB2.out.setCell (a := ⟨g k, t, none⟩) ⟨k, hlt, hpos, rfl⟩ (.int .u8 ((k : Int) + 1)))
            generalize ovV f k t k t = old at hcl
            go_wp2_with fail
            go_roundw
            case rel => exact ⟨t + 1, by omega, by go_num, HW2.out, HB3.out⟩
            case measure => simp [intOf]; omega
          · obtain rfl : t = c k := by omega
            go_wp2_with fail
            go_roundw
            case rel => exact ⟨k + 1, by omega, by go_num, HT2.out.next, HB2.out⟩
            case measure => simp [intOf]; omega
    · have HK := Lib.hid (show k = R by omega)
      have hk2 : ¬ (k : Int) < R := by omega
      go_wp2_with fail
      go_loopw [6] (fun i wr => ∃ j : Nat, j ≤ R ∧ i = .int .i64 j ∧ RwsV R wr g3 A n c g f k 0 ∧ ChgS (InR R c g) w wr) (fun i _ => R - (intOf i).toNat)
      case atStart => exact ⟨0, by omega, rfl, HT.out, HBL.out⟩
      case round =>
        obtain ⟨j, hj, rfl, htw, hbl⟩ := hrel
        have HT5 := Lib.hid htw
        have HB5 := Lib.hid hbl
        clear htw hbl
        by_cases hjl : j < R
        · have hjli : (j : Int) < R := by omega
          have hj0 : (0 : Int) ≤ (j : Nat) := by omega
          have hcell := HT5.out.cells j hjl
          have hck : ((c j : Nat) : Int) ≤ (c j : Nat) := Int.le_refl _
          have hck0 : (0 : Int) ≤ (c j : Nat) := by omega
          have HCK := HC.out j hjl
          go_wp2_with fail
          go_quiet (fail)
          have HTq := Lib.hid (HT5.out.drewN nq)
          have HBq := Lib.hid (HB5.out.drewN nq)
          generalize hWW : World.drewN _ nq = W at *
          clear hWW
          by_cases hc0 : c j = 0
          · have HZ := Lib.hid hc0
            generalize hcc : c j = cc at *
            subst hc0
            clear hcell
            go_wp2_with fail
            go_loopw [8] (fun i wr => i = .int .i64 0 ∧ wr = W) (fun _ _ => 0)
            case atStart => exact ⟨rfl, rfl⟩
            case round =>
              obtain ⟨rfl, rfl⟩ := hrel
              go_wp2_with fail
              go_roundw
              case rel => exact ⟨j + 1, by omega, by go_num, HTq.out, HBq.out⟩
              case measure => simp [intOf]; omega
          · have hpos : 0 < c j := by omega
            have hAk := HA.out j hjl hpos
            rw [hAk]
            go_wp2_with fail
            go_loopw [8] (fun i wr => ∃ t : Nat, t ≤ c j ∧ i = .int .i64 t ∧ wr = W) (fun i _ => c j - (intOf i).toNat)
            case atStart => exact ⟨0, Nat.zero_le _, rfl, rfl⟩
            case round =>
              obtain ⟨t, ht, rfl, rfl⟩ := hrel
              by_cases htl : t < c j
              · have hcl := (HTq.out.rows j hjl hpos).cell htl (Nat.zero_add t).symm
                have hov : ovV f k 0 j t = .int .u8 ((j : Int) + 1) := by unfold ovV; rw [if_pos (by have := HK.out; omega)]
                rw [hov] at hcl
                clear hov
                obtain ⟨j1, ej, hj1⟩ : ∃ j1 : Nat, (j : Int) + 1 = j1 ∧ j + 1 = j1 := ⟨j + 1, by omega, rfl⟩
                rw [ej] at hcl
                have hj13 : j1 ≤ 200 := by omega
                clear hj1
                go_wp2_with fail
                go_roundw
                case rel => exact ⟨t + 1, by omega, by go_num, trivial⟩
                case measure => simp [intOf]; omega
              · obtain rfl : t = c j := by omega
                go_wp2_with fail
                go_roundw
                case rel => exact ⟨j + 1, by omega, by go_num, HTq.out, HBq.out⟩
                case measure => simp [intOf]; omega
        · obtain rfl : j = R := by omega
          go_wp2_with fail
          go_ret
          exact ⟨rfl, HB5.out⟩
theorem ovV_none (f : Nat → Nat → Value) (j t : Nat) : ovV f 0 0 j t = f j t := by unfold ovV; rw [if_neg (by omega)]
/-- a row that may be written to its end -/
def OwnR (W : World) (A : Option Addr) (c g : Nat) : Prop := 0 < c → A = some ⟨g, 0, none⟩ ∧ ∃ f, ArrV W g 0 c f
namespace OwnR
variable {W W' : World} {A : Option Addr} {c g : Nat}
theorem of_block (h : OwnR W A c g) (e : W'.heap[g]? = W.heap[g]?) : OwnR W' A c g := fun hc => by
  obtain ⟨h1, f, h2⟩ := h hc
  exact ⟨h1, f, h2.of_block e⟩
theorem lt (h : OwnR W A c g) (hc : 0 < c) : g < W.heap.size := by
  obtain ⟨_, f, h2⟩ := h hc
  exact h2.lt hc
theorem keep (h : OwnR W A c g) (hb : Below W.heap.size W W') : OwnR W' A c g := fun hc => h.of_block (hb.block g (h.lt hc)) hc
theorem chg {K : Nat} (h : OwnR W A c g) (hb : Chg K W W') (hK : g ≠ K) : OwnR W' A c g := fun hc => h.of_block (hb.block g (h.lt hc) hK) hc
theorem arr {f : Nat → Nat} (h : Arr W g 0 c f) : OwnR W (some ⟨g, 0, none⟩) c g := fun _ => ⟨rfl, fun j => .int .u8 (f j : Nat), h⟩
end OwnR
theorem OwnB.ownR {w : World} {base n : Nat} {v : Value} {f : Nat → Nat} (h : OwnB w base v n f) : ∃ A c g, v = .slice A n c ∧ OwnR w A c g ∧ (0 < c → base ≤ g) ∧ c ≤ maxLen ∧ n ≤ c := by
  rcases h.2 with ⟨rfl, hn⟩ | ⟨g, cap, cur, rfl, hg, hh, h1, h2, h3, _⟩
  · subst hn; exact ⟨none, 0, 0, rfl, fun h => absurd h (Nat.lt_irrefl 0), fun h => absurd h (Nat.lt_irrefl 0), by unfold maxLen; omega, Nat.le_refl _⟩
  · refine ⟨_, cap, g, rfl, fun _ => ⟨rfl, fun j => cur.getD j undef, fun j hj => ⟨?_, ?_⟩⟩, fun _ => hg, h2, h1⟩
    · simp only [World.cell?, hh]
      rw [Nat.zero_add]
      simp [show j < cur.size by omega]
    · simp [World.frozen?, hh]
/-- rows, just put into a row -/
theorem owned_rows (R : Nat) (W : World) (cs : Array Value) (A : Nat → Option Addr) (n c g : Nat → Nat) (hR : R ≤ 200) (hcs : ∀ j, j < R → cs[j]? = some (.slice (A j) (n j) (c j))) (h : ∀ j, j < R → OwnR W (A j) (c j) (g j))
    (hne : ∀ i j, i < j → j < R → 0 < c i → 0 < c j → g i ≠ g j) (hl : ∀ j, j < R → c j ≤ 9223372036854775807) :
    Calls Tryz.prog 14 #[.slice (some ⟨W.heap.size, 0, none⟩) R R] (W.alloc (.cells cs 22)) fun e w' => e = .returned (.bool true) ∧ ChgS (InR R c g) W w' := by
  have hch : ∀ j, ∃ f : Nat → Value, j < R → 0 < c j → ArrV W (g j) 0 (c j) f := fun j => by
    by_cases hj : j < R ∧ 0 < c j
    · obtain ⟨_, f, hf⟩ := h j hj.1 hj.2
      exact ⟨f, fun _ _ => hf⟩
    · exact ⟨fun _ => undef, fun h1 h2 => absurd ⟨h1, h2⟩ hj⟩
  obtain ⟨f, hf⟩ := Classical.axiomOfChoice hch
  refine (owned_vals (R := R) (A := A) (n := n) (c := c) (g := g) (f := f) R _ hR ⟨fun j hj => ?_, fun j hj hc => ?_⟩ (fun j hj hc => (h j hj hc).1) ?_ ?_ hl).mono ?_
  · exact (World.cell?_alloc_at _ _ _ _ rfl).trans (hcs j hj)
  · exact ((hf j hj hc).alloc _).congr fun t _ => (ovV_none f j t).symm
  · intro i j hi hj hij ci cj
    rcases Nat.lt_or_ge i j with h1 | h1
    · exact hne i j h1 hj ci cj
    · exact (hne j i (by omega) hi cj ci).symm
  · exact fun j hj hc => Nat.ne_of_gt ((h j hj).lt hc)
  rintro e w' ⟨he, h⟩
  refine ⟨he, h.os, h.tape, h.output, Nat.le_trans (by simp) h.size, fun k hk hn => ?_⟩
  rw [h.block k (by simp; omega) hn]
  exact Below.heap_alloc W _ k hk
/-- one of four -/
def q4 {α : Type} (x y z u : α) (j : Nat) : α := if j = 0 then x else if j = 1 then y else if j = 2 then z else u
theorem four_of {j : Nat} (h : j < 4) : j = 0 ∨ j = 1 ∨ j = 2 ∨ j = 3 := by omega
end Go.Proofs.YthmlcmlpmolmoaaGreatDoor
/- Contracts of package mac: Fold. -/
namespace Go.Proofs.YthmlcmlpmolmoaaGreatDoor
open Go.RowKit
/-- a slice of the call's own: its bytes, and that it may be written to its end -/
structure Mine (w : World) (base : Nat) (v : Value) (n : Nat) (f : Nat → Nat) (A : Option Addr) (c g : Nat) : Prop where
  val : v = .slice A n c
  row : SlB w A n f
  own : OwnR w A c g
  from_ : 0 < c → base ≤ g
  le : n ≤ c
  max : c ≤ maxLen
  nil : A = none → n = 0 ∧ c = 0
namespace Mine
variable {w w' : World} {base n : Nat} {v : Value} {f f' : Nat → Nat} {A : Option Addr} {c g : Nat}
theorem keep (h : Mine w base v n f A c g) (hb : Below w.heap.size w w') : Mine w' base v n f A c g := ⟨h.val, h.row.keep hb, h.own.keep hb, h.from_, h.le, h.max, h.nil⟩
theorem congr (h : Mine w base v n f A c g) (e : ∀ j, j < n → f j = f' j) : Mine w base v n f' A c g := ⟨h.val, h.row.congr e, h.own, h.from_, h.le, h.max, h.nil⟩
theorem less (h : Mine w base v n f A c g) {b : Nat} (hb : b ≤ base) : Mine w b v n f A c g := ⟨h.val, h.row, h.own, fun hc => Nat.le_trans hb (h.from_ hc), h.le, h.max, h.nil⟩
theorem of_ownB (h : OwnB w base v n f) (hf : ∀ j, j < n → f j < 256) : ∃ A c g, Mine w base v n f A c g := by
  obtain ⟨A, c, g, rfl, h1, h2, h3, h4⟩ := h.ownR
  obtain ⟨A1, c1, e1, h5⟩ := h.slice hf
  cases e1
  obtain ⟨A2, c2, e2, _, _, h6⟩ := h.cap_le
  cases e2
  exact ⟨A, c, g, rfl, h5, h1, h2, h4, h3, h6⟩
theorem of_arr {d m : Nat} {f : Nat → Nat} (h : Arr w d 0 m f) (hf : By m f) (hd : base ≤ d) (hm : m ≤ maxLen) : Mine w base (.slice (some ⟨d, 0, none⟩) m m) m f (some ⟨d, 0, none⟩) m d :=
  ⟨rfl, h.slB hf, OwnR.arr h, fun _ => hd, Nat.le_refl _, hm, fun h => by cases h⟩
end Mine
/-- what Fold leaves -/
def FoldP (w : World) (n : Nat) (f : Nat → Nat) (e : Ending) (w' : World) : Prop := (∃ v A c g, e = .returned v ∧ Mine w' w.heap.size v n f A c g) ∧ Below w.heap.size w w'
set_option maxRecDepth 100000 in
set_option maxHeartbeats 1600000 in
theorem fold_any (A : Option Addr) (n c : Nat) (key : Nat → Nat) (AL : Option Addr) (L cL : Nat) (s : Nat → ByteArray) (w : World) (hn : n ≤ 1000000000000) (hA : SlB w A n key) (hnil : A = none → n = 0 ∧ c = 0) (hL : L ≤ 1000000) (hS : SlS w AL L s) (hsz : ∀ j, j < L → (s j).size ≤ 1000000000000) (ht : GT w) :
    Calls Tryz.prog 31 #[.slice A n c, .slice AL L cL] w (FoldP w (fkN n L) (fkF n key s L)) := by
  have HCL := Lib.hid (clone_any A n c key w (by omega) hA hnil)
  have HKB := Lib.hid (show By n key from fun j hj => hA.byte hj)
  have HN := Lib.hid hn
  have HS := Lib.hid hS
  have HSZ := Lib.hid hsz
  have HT := Lib.hid ht
  clear hn hA hnil hS hsz ht
  go_enter Tryz.func31, Tryz.ntmps31
  go_wp2_with fail
  refine HCL.out.mono ?_
  rintro e w1 ⟨⟨v, rfl, hown⟩, hb1⟩
  obtain ⟨A1, c1, g1, hmine⟩ := Mine.of_ownB hown HKB.out
  obtain rfl := hmine.val
  have H1 := Lib.hid hmine
  have HB1 := Lib.hid hb1
  clear hown hmine hb1 HCL
  go_wp2_with fail
  go_loopw [5, 13] (fun v i wr => ∃ (k : Nat) (A2 : Option Addr) (c2 g2 : Nat), k ≤ L ∧ i = .int .i64 k ∧ v = .slice A2 (fkN n k) c2 ∧ Mine wr w.heap.size (.slice A2 (fkN n k) c2) (fkN n k) (fkF n key s k) A2 c2 g2 ∧ Below w.heap.size w wr) (fun _ i _ => L - (intOf i).toNat)
  case atStart => exact ⟨0, A1, c1, g1, Nat.zero_le _, rfl, rfl, H1.out, HB1.out⟩
  case round =>
    obtain ⟨k, A2, c2, g2, hk, rfl, rfl, h1, h2⟩ := hrel
    have G1 := Lib.hid h1
    have G2 := Lib.hid h2
    have HNK := Lib.hid (fkN_le (n := n) HN.out (by decide) k)
    clear h1 h2
    by_cases hlt : k < L
    · obtain ⟨B, o, rfl, hB, hsa⟩ := HS.out (by omega)
      have hcell : wr.cell? ⟨B, o + k, none⟩ = some (.string (s k)) := (hsa.keep G2.out) k hlt
      have HZ := Lib.hid (HSZ.out k hlt)
      have hlti : (k : Int) < L := by omega
      have HNX := Lib.hid (show fkF n key s (k + 1) = tag (fkN n k) (fkF n key s k) (8 + (s k).size) (catB 8 (len8 (s k).size) (by_ (s k))) from rfl)
      have HN1 := Lib.hid (show fkN n (k + 1) = 32 from rfl)
      have HFB := Lib.hid (fkF_by (s := s) HKB.out k)
      clear hsa hB
      generalize s k = x at *
      generalize fkN n k = m at *
      generalize fkF n key s k = F at *
      go_wp2_with fail
      refine (length_any x wr (by have := HZ.out; omega)).mono ?_
      rintro e w2 ⟨rfl, hb2⟩
      have HB2 := Lib.hid (G2.out.trans (hb2.mono G2.out.size))
      have HM2 := Lib.hid (G1.out.keep hb2)
      clear hcell hb2
      have HAR := Lib.hid (made8 w2)
      have HM3 := Lib.hid (HM2.out.keep (alloc_below w2 (.cells z8 107)))
      have hB3 := HB2.out.trans ((alloc_below w2 (.cells z8 107)).mono HB2.out.size)
      have HB3 := Lib.hid hB3
      have HWS := Lib.hid (show w.heap.size ≤ w2.heap.size from HB2.out.size)
      clear hB3
      go_wp2_with (refine wpList_storeB rfl 107 (.tmp 8) (.tmp 18) rfl w2.heap.size 0 8 _ _ rfl rfl HAR.out size8b ?_; intro w3 h1 h2; have HA3 := Lib.hid h1; have HC3 := Lib.hid h2; clear h1 h2; obtain ⟨cap, w4, hcv, hb4, hcap, hrow⟩ := bytesOf' x w3; have HB4 := Lib.hid hb4; have HCP := Lib.hid hcap; have HX4 := Lib.hid hrow; clear hb4 hcap hrow)
      clear hcv
      have hm3 := HM3.out
      have HB34 := Lib.hid (HC3.out.below (by simp) (Nat.le_refl _))
      have HG2 := Lib.hid (show 0 < c2 → g2 < w2.heap.size from fun h => HM2.out.own.lt h)
      have HW3 := Lib.hid (HB3.out.trans (HC3.out.below (by have := HWS.out; simp; omega) HWS.out))
      have HWB := Lib.hid (HW3.out.trans (HB4.out.mono HW3.out.size))
      have HM4 := Lib.hid (HM2.out.keep (((alloc_below w2 (.cells z8 107)).trans HB34.out).trans (HB4.out.mono (Nat.le_trans (alloc_below w2 (.cells z8 107)).size HB34.out.size))))
      have HA4 := Lib.hid (HA3.out.keep HB4.out)
      clear hm3
      refine (mac2_any w4 A2 (some ⟨w2.heap.size, 0, none⟩) (some ⟨w3.heap.size, 0, none⟩) m c2 8 x.size 8 cap F (len8 x.size) (by_ x) (catB 8 (len8 x.size) (by_ x)) (by have := HNK.out; omega) (by have := HZ.out; omega) HM4.out.le (Nat.le_refl _) HCP.out HM4.out.row HFB.out (HA4.out.slB fun j _ => len8_lt _ j) HX4.out
        (fun j hj => by unfold catB; rw [if_pos hj]) (fun j _ => by unfold catB; rw [if_neg (by omega), Nat.add_sub_cancel_left]) (HT.out.keep HWB.out)).mono ?_
      rintro e w5 ⟨d, rfl, hd, ha, hb5⟩
      have HB5 := Lib.hid (HWB.out.trans (hb5.mono HWB.out.size))
      have HR := Lib.hid (Mine.of_arr (base := w.heap.size) (f := fkF n key s (k + 1)) (by rw [HNX.out]; exact ha) (by rw [HNX.out]; exact fun j _ => tag_lt _ _ _ _ j) (Nat.le_trans HWB.out.size hd) (by unfold maxLen; omega))
      clear hd ha hb5
      go_wp2_with fail
      go_roundw
      case rel => exact ⟨k + 1, _, 32, d, by omega, by go_num, by rw [HN1.out], by rw [HN1.out]; exact HR.out, HB5.out⟩
      case measure => simp [intOf]; omega
    · obtain rfl : k = L := by omega
      go_wp2_with fail
      go_ret
      exact ⟨⟨_, A2, c2, g2, rfl, G1.out⟩, G2.out⟩
end Go.Proofs.YthmlcmlpmolmoaaGreatDoor
/- Layer 13: names of purposes, what may be asked; contracts of keys.Name, within, and of the document's Name, May. -/
namespace Go.Proofs.YthmlcmlpmolmoaaGreatDoor
open Go.RowKit
/-- the name of a purpose -/
def nmS (p : Int) : ByteArray :=
  if p = 1 then { data := #[116, 111, 107, 101, 110] } else if p = 2 then { data := #[115, 116, 111, 114, 101] } else if p = 3 then { data := #[116, 97, 103] } else if p = 4 then { data := #[97, 117, 100, 105, 116] } else { data := #[] }
def nmB (p : Int) : Bool := decide (1 ≤ p ∧ p ≤ 4)
theorem nmS_size (p : Int) : (nmS p).size ≤ 5 := by
  unfold nmS
  split
  · decide
  · split
    · decide
    · split
      · decide
      · split <;> decide
/-- may these be asked? -/
def kok (t p v : Int) : Bool := decide ((1 ≤ t ∧ t ≤ 64) ∧ (1 ≤ p ∧ p ≤ 4) ∧ (1 ≤ v ∧ v ≤ 255))
def kN (b : Bool) : Nat := if b = true then 32 else 0
def kE (b : Bool) : Int := if b = true then 0 else 1
theorem within_any (n a b : Int) (w : World) : Calls Tryz.prog 69 #[.int .i64 n, .int .i64 a, .int .i64 b] w fun e w' => e = .returned (.bool (decide (a ≤ n ∧ n ≤ b))) ∧ w' = w := by
  by_cases h1 : a ≤ n
  · by_cases h2 : n ≤ b
    · have hd1 : decide (a ≤ n) = true := decide_eq_true h1
      have hd2 : decide (n ≤ b) = true := decide_eq_true h2
      have hr : decide (a ≤ n ∧ n ≤ b) = true := decide_eq_true ⟨h1, h2⟩
      rw [hr]
      clear hr h1 h2
      go_enter Tryz.func69, Tryz.ntmps69
      go_wp2_with fail
      go_ret
      exact ⟨rfl, rfl⟩
    · have hd1 : decide (a ≤ n) = true := decide_eq_true h1
      have hd2 : decide (n ≤ b) = false := decide_eq_false h2
      have hr : decide (a ≤ n ∧ n ≤ b) = false := decide_eq_false fun h => h2 h.2
      rw [hr]
      clear hr h1 h2
      go_enter Tryz.func69, Tryz.ntmps69
      go_wp2_with fail
      go_ret
      exact ⟨rfl, rfl⟩
  · have hd1 : decide (a ≤ n) = false := decide_eq_false h1
    have hr : decide (a ≤ n ∧ n ≤ b) = false := decide_eq_false fun h => h1 h.1
    rw [hr]
    clear hr h1
    go_enter Tryz.func69, Tryz.ntmps69
    go_wp2_with fail
    go_ret
    exact ⟨rfl, rfl⟩
theorem name_cases (p : Int) : p = 1 ∨ p = 2 ∨ p = 3 ∨ p = 4 ∨ ((p == 1) = false ∧ (p == 2) = false ∧ (p == 3) = false ∧ (p == 4) = false ∧ nmS p = { data := #[] } ∧ nmB p = false) := by
  by_cases h1 : p = 1
  · exact Or.inl h1
  by_cases h2 : p = 2
  · exact Or.inr (Or.inl h2)
  by_cases h3 : p = 3
  · exact Or.inr (Or.inr (Or.inl h3))
  by_cases h4 : p = 4
  · exact Or.inr (Or.inr (Or.inr (Or.inl h4)))
  refine Or.inr (Or.inr (Or.inr (Or.inr ⟨by simpa using h1, by simpa using h2, by simpa using h3, by simpa using h4, ?_, decide_eq_false (by omega)⟩)))
  unfold nmS
  rw [if_neg h1, if_neg h2, if_neg h3, if_neg h4]
theorem name_any (p : Int) (w : World) : Calls Tryz.prog 70 #[.int .i64 p] w fun e w' => e = .returned (.tuple #[.string (nmS p), .bool (nmB p)]) ∧ w' = w := by
  rcases name_cases p with rfl | rfl | rfl | rfl | ⟨h1, h2, h3, h4, e1, e2⟩
  · go_enter Tryz.func70, Tryz.ntmps70
    go_wp2_with fail
    go_ret2
    exact ⟨rfl, rfl⟩
  · go_enter Tryz.func70, Tryz.ntmps70
    go_wp2_with fail
    go_ret2
    exact ⟨rfl, rfl⟩
  · go_enter Tryz.func70, Tryz.ntmps70
    go_wp2_with fail
    go_ret2
    exact ⟨rfl, rfl⟩
  · go_enter Tryz.func70, Tryz.ntmps70
    go_wp2_with fail
    go_ret2
    exact ⟨rfl, rfl⟩
  · rw [e1, e2]
    clear e1 e2
    go_enter Tryz.func70, Tryz.ntmps70
    go_wp2_with fail
    go_ret2
    exact ⟨rfl, rfl⟩
theorem rname13_any (p : Int) (w : World) : Calls Tryz.prog 74 #[.int .i64 p] w fun e w' => e = .returned (.tuple #[.string (nmS p), .bool (nmB p)]) ∧ w' = w := by
  rcases name_cases p with rfl | rfl | rfl | rfl | ⟨h1, h2, h3, h4, e1, e2⟩
  · go_enter Tryz.func74, Tryz.ntmps74
    go_wp2_with fail
    go_ret2
    exact ⟨rfl, rfl⟩
  · go_enter Tryz.func74, Tryz.ntmps74
    go_wp2_with fail
    go_ret2
    exact ⟨rfl, rfl⟩
  · go_enter Tryz.func74, Tryz.ntmps74
    go_wp2_with fail
    go_ret2
    exact ⟨rfl, rfl⟩
  · go_enter Tryz.func74, Tryz.ntmps74
    go_wp2_with fail
    go_ret2
    exact ⟨rfl, rfl⟩
  · rw [e1, e2]
    clear e1 e2
    go_enter Tryz.func74, Tryz.ntmps74
    go_wp2_with fail
    go_ret2
    exact ⟨rfl, rfl⟩
theorem rmay_any (A : Option Addr) (n c : Nat) (w : World) : Calls Tryz.prog 38 #[.slice A n c] w fun e w' => e = .returned (.bool (decide (16 ≤ n ∧ n ≤ 64))) ∧ w' = w := by
  by_cases h1 : 16 ≤ n
  · have hd1 : decide ((16 : Int) ≤ n) = true := decide_eq_true (by omega)
    by_cases h2 : n ≤ 64
    · have hd2 : decide ((n : Int) ≤ 64) = true := decide_eq_true (by omega)
      have hr : decide (16 ≤ n ∧ n ≤ 64) = true := decide_eq_true ⟨h1, h2⟩
      rw [hr]
      clear hr h1 h2
      go_enter Tryz.func38, Tryz.ntmps38
      go_wp2_with fail
      go_ret
      exact ⟨rfl, rfl⟩
    · have hd2 : decide ((n : Int) ≤ 64) = false := decide_eq_false (by omega)
      have hr : decide (16 ≤ n ∧ n ≤ 64) = false := decide_eq_false fun h => h2 h.2
      rw [hr]
      clear hr h1 h2
      go_enter Tryz.func38, Tryz.ntmps38
      go_wp2_with fail
      go_ret
      exact ⟨rfl, rfl⟩
  · have hd1 : decide ((16 : Int) ≤ n) = false := decide_eq_false (by omega)
    have hr : decide (16 ≤ n ∧ n ≤ 64) = false := decide_eq_false fun h => h1 h.1
    rw [hr]
    clear hr h1
    go_enter Tryz.func38, Tryz.ntmps38
    go_wp2_with fail
    go_ret
    exact ⟨rfl, rfl⟩
end Go.Proofs.YthmlcmlpmolmoaaGreatDoor
/- Layer 13: what the ring of keys derives, as plain functions; how it lies in memory. -/
namespace Go.Proofs.YthmlcmlpmolmoaaGreatDoor
open Go.RowKit
abbrev bTenant : ByteArray := { data := #[116, 101, 110, 97, 110, 116] }
abbrev bVersion : ByteArray := { data := #[118, 101, 114, 115, 105, 111, 110] }
def lab2 (a b : ByteArray) (j : Nat) : ByteArray := if j = 0 then a else b
def lab3 (a b c : ByteArray) (j : Nat) : ByteArray := if j = 0 then a else if j = 1 then b else c
/-- a tenant's own key -/
def ownF (n : Nat) (key : Nat → Nat) (t : Nat) : Nat → Nat := fkF n key (lab2 bTenant (itoaB t)) 2
theorem ownF_lt (n : Nat) (key : Nat → Nat) (t j : Nat) : ownF n key t j < 256 := tag_lt _ _ _ _ j
/-- a key -/
def keyF (n : Nat) (key : Nat → Nat) (t : Nat) (s : ByteArray) (v : Nat) : Nat → Nat := fkF 32 (ownF n key t) (lab3 s bVersion (itoaB v)) 3
theorem keyF_lt (n : Nat) (key : Nat → Nat) (t : Nat) (s : ByteArray) (v j : Nat) : keyF n key t s v j < 256 := tag_lt _ _ _ _ j
theorem itoaB_small : ∀ n : Nat, n < 256 → (itoaB (n : Int)).size ≤ 3 := by decide +kernel

/-- w' is w but for the cells from a to b of block G, and what is new -/
structure Sect (G a b : Nat) (w w' : World) : Prop where
  chg : Chg G w w'
  cell : ∀ j, j < a ∨ b ≤ j → w'.cell? ⟨G, j, none⟩ = w.cell? ⟨G, j, none⟩
  froz : ∀ j, w'.frozen? ⟨G, j, none⟩ = w.frozen? ⟨G, j, none⟩
namespace Sect
variable {G a b : Nat} {w w' w'' : World}
theorem refl (G a b : Nat) (w : World) : Sect G a b w w := ⟨Chg.refl _ _, fun _ _ => rfl, fun _ => rfl⟩
theorem trans (h : Sect G a b w w') (h' : Sect G a b w' w'') : Sect G a b w w'' := ⟨h.chg.trans h'.chg, fun j hj => (h'.cell j hj).trans (h.cell j hj), fun j => (h'.froz j).trans (h.froz j)⟩
theorem below (h : Sect G a b w w') (hb : Below w'.heap.size w' w'') (hG : G < w.heap.size) : Sect G a b w w'' :=
  have e := hb.block G (Nat.lt_of_lt_of_le hG h.chg.size)
  ⟨h.chg.thenBelow hb, fun j hj => (World.cell?_of_block e).trans (h.cell j hj), fun j => (World.frozen?_of_block e).trans (h.froz j)⟩
theorem setCell (h : Sect G a b w w') {k : Nat} (h1 : a ≤ k) (h2 : k < b) (v : Value) : Sect G a b w (w'.setCell ⟨G, k, none⟩ v) :=
  ⟨h.chg.setCell (Or.inl rfl) v, fun j hj => (cell_off (by omega) v).trans (h.cell j hj), fun j => by rw [World.frozen?_setCell]; exact h.froz j⟩
theorem setCells : ∀ (vs : List Value) (o : Nat) (w' : World), Sect G a b w w' → a ≤ o → o + vs.length ≤ b → Sect G a b w (w'.setCells G o vs)
  | [], _, _, h, _, _ => h
  | v :: r, o, w', h, h1, h2 => by
    rw [World.setCells]
    rw [List.length_cons] at h2
    exact setCells r (o + 1) _ (h.setCell h1 (by omega) v) (by omega) (by omega)
theorem drew (h : Sect G a b w w') : Sect G a b w w'.drew := ⟨h.chg.drew, h.cell, h.froz⟩
end Sect

theorem slB_chg {w w' : World} {M n K : Nat} {f : Nat → Nat} (h : SlB w (some ⟨M, 0, none⟩) n f) (hc : Chg K w w') (hK : M ≠ K) : SlB w' (some ⟨M, 0, none⟩) n f := fun hn => by
  obtain ⟨B, o, e, hB, hh⟩ := h hn
  cases e
  exact ⟨M, 0, rfl, Nat.lt_of_lt_of_le hB hc.size, fun j hj => ⟨(hh j hj).1, (hc.cell hB hK).trans (hh j hj).2⟩⟩
/-- what all keys of one tenant are derived from, at o in block G: not yet made, or made -/
def TenAt (w : World) (G o : Nat) (own : Nat → Nat) : Prop := (OnceAt w G o 0 0 ∧ Arr w G (o + 3) 32 (fun _ => 0)) ∨ (OnceAt w G o 1 0 ∧ Arr w G (o + 3) 32 own)
theorem TenAt.of_block {w w' : World} {G o : Nat} {own : Nat → Nat} (h : TenAt w G o own) (e : w'.heap[G]? = w.heap[G]?) : TenAt w' G o own := h.imp (fun h => ⟨once_block h.1 e, h.2.of_block e⟩) (fun h => ⟨once_block h.1 e, h.2.of_block e⟩)
theorem TenAt.sect {w w' : World} {G o a b : Nat} {own : Nat → Nat} (h : TenAt w G o own) (hs : Sect G a b w w') (hd : o + 35 ≤ a ∨ b ≤ o) : TenAt w' G o own := by
  have h1 : ∀ {d m : Int}, OnceAt w G o d m → OnceAt w' G o d m := fun h => ⟨(hs.cell o (by omega)).trans h.done, (hs.cell (o + 1) (by omega)).trans h.lock, (hs.froz o).trans h.fdone, (hs.froz (o + 1)).trans h.flock⟩
  have h2 : ∀ {f : Nat → Nat}, Arr w G (o + 3) 32 f → Arr w' G (o + 3) 32 f := fun h j hj => ⟨(hs.cell (o + 3 + j) (by omega)).trans (h j hj).1, (hs.froz _).trans (h j hj).2⟩
  exact h.imp (fun h => ⟨h1 h.1, h2 h.2⟩) (fun h => ⟨h1 h.1, h2 h.2⟩)

/-- a ring of keys in block G, its master key in block M; u: a world before it, with the tables -/
structure RingAt (u w : World) (G M c n : Nat) (key : Nat → Nat) : Prop where
  gt : GT u
  p10 : P10 u
  bel : Below u.heap.size u w
  uG : u.heap.size ≤ G
  uM : u.heap.size ≤ M
  ne : M ≠ G
  len : 16 ≤ n ∧ n ≤ 64
  cap : n ≤ c
  cell : w.cell? ⟨G, 0, none⟩ = some (.slice (some ⟨M, 0, none⟩) n c)
  bytes : SlB w (some ⟨M, 0, none⟩) n key
  ten : ∀ k, k < 64 → TenAt w G (1 + k * 35) (ownF n key (k + 1))
namespace RingAt
variable {u w w' : World} {G M c n : Nat} {key : Nat → Nat}
theorem lt (h : RingAt u w G M c n key) : G < w.heap.size := block_lt h.cell
theorem ltM (h : RingAt u w G M c n key) : M < w.heap.size := by
  obtain ⟨B, o, e, hB, _⟩ := h.bytes (by have := h.len; omega)
  cases e; exact hB
theorem tables (h : RingAt u w G M c n key) : GT w ∧ P10 w := ⟨h.gt.keep h.bel, h.p10.keep h.bel⟩
theorem blocks (h : RingAt u w G M c n key) (hb : Below u.heap.size u w') (e1 : w'.heap[G]? = w.heap[G]?) (e2 : w'.heap[M]? = w.heap[M]?) : RingAt u w' G M c n key :=
  ⟨h.gt, h.p10, hb, h.uG, h.uM, h.ne, h.len, h.cap, (World.cell?_of_block e1).trans h.cell, fun hn => by
    obtain ⟨B, o, e, hB, hc⟩ := h.bytes hn
    cases e
    have hl := (hc 0 hn).2
    rw [← World.cell?_of_block e2] at hl
    exact ⟨M, 0, rfl, block_lt hl, fun j hj => ⟨(hc j hj).1, (World.cell?_of_block e2).trans (hc j hj).2⟩⟩, fun k hk => (h.ten k hk).of_block e1⟩
theorem keep (h : RingAt u w G M c n key) (hb : Below w.heap.size w w') : RingAt u w' G M c n key := h.blocks (h.bel.trans (hb.mono h.bel.size)) (hb.block G h.lt) (hb.block M h.ltM)
theorem chg {K : Nat} (h : RingAt u w G M c n key) (hc : Chg K w w') (hK : u.heap.size ≤ K) (h1 : G ≠ K) (h2 : M ≠ K) : RingAt u w' G M c n key :=
  h.blocks (h.bel.trans (hc.below h.bel.size hK)) (hc.block G h.lt h1) (hc.block M h.ltM h2)
theorem chgS {S : Nat → Prop} (h : RingAt u w G M c n key) (hc : ChgS S w w') (hS : ∀ k, S k → u.heap.size ≤ k) (h1 : ¬ S G) (h2 : ¬ S M) : RingAt u w' G M c n key :=
  h.blocks (h.bel.trans (hc.below h.bel.size hS)) (hc.block G h.lt h1) (hc.block M h.ltM h2)
/-- a tenant's beginning changed -/
theorem sect {k : Nat} (h : RingAt u w G M c n key) (hs : Sect G (1 + k * 35) (1 + k * 35 + 35) w w') (ht : TenAt w' G (1 + k * 35) (ownF n key (k + 1))) : RingAt u w' G M c n key :=
  ⟨h.gt, h.p10, h.bel.trans (hs.chg.below h.bel.size h.uG), h.uG, h.uM, h.ne, h.len, h.cap, (hs.cell 0 (by omega)).trans h.cell, slB_chg h.bytes hs.chg h.ne, fun k' hk' => by
    by_cases e : k' = k
    · subst e; exact ht
    · exact (h.ten k' hk').sect hs (by omega)⟩
end RingAt
end Go.Proofs.YthmlcmlpmolmoaaGreatDoor
/- Operations on structs, for regions that draw their order. Nothing here hangs on the program. -/
namespace Go.Proofs.YthmlcmlpmolmoaaGreatDoor.ord
open Go Go.RowKit
theorem makes_ld {P : Program} {o : Oper} {a : Act} {w : World} {N : Value → World → Prop} {t : TypeId} {x : Operand} {vx u : Value} (ho : o.op = .load t x) (hx : a.eval x = vx) (hrun : (Instr.loadAt t vx).run P w = .ok u w) (hN : N u w) : makes P o a w N := by
  unfold makes
  have : (execOp a.eval o).run P w = .ok (.value u) w := by
    simp only [execOp, ho, hx, Sem.run_bind]
    rw [hrun]; rfl
  rw [this]; exact hN
theorem makes_bld2 {P : Program} {o : Oper} {a : Act} {w : World} {N : Value → World → Prop} {t : TypeId} {i1 i2 : Nat} {o1 o2 : Operand} {v1 v2 u : Value} (ho : o.op = .build t #[(i1, o1), (i2, o2)]) (h1 : a.eval o1 = v1) (h2 : a.eval o2 = v2)
    (hrun : (Instr.build t #[(i1, v1), (i2, v2)]).run P w = .ok u w) (hN : N u w) : makes P o a w N := by
  unfold makes
  have : (execOp a.eval o).run P w = .ok (.value u) w := by
    have e : (#[(i1, o1), (i2, o2)] : Array (Nat × Operand)).map (fun (i, x) => (i, a.eval x)) = #[(i1, v1), (i2, v2)] := by simp [h1, h2]
    simp only [execOp, ho, Sem.run_bind]
    rw [e, hrun]; rfl
  rw [this]; exact hN
end Go.Proofs.YthmlcmlpmolmoaaGreatDoor.ord
