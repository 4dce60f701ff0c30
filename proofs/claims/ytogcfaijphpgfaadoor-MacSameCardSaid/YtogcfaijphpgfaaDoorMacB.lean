/- Contracts of package mac: New. -/
import Derived.Test.YtogcfaijphpgfaaDoorMacA
namespace Go.Proofs.YtogcfaijphpgfaaDoor
open Go.RowKit
/-- a Maker's block, whole -/
def mkCells (d m x : Int) (K X Y : Nat → Nat) : List Value := bytesL 64 K ++ (.int .u32 d :: .int .i32 m :: .int .u32 x :: (bytesL 64 X ++ bytesL 64 Y))
theorem makMem_of {w : World} {g : Nat} {d m x : Int} {K X Y : Nat → Nat} {t : TypeId} (h : w.heap[g]? = some (.cells (mkCells d m x K X Y).toArray t (0, 0))) : MakMem w g d m K X Y := by
  have hz : ∀ (o : Nat), w.frozen? ⟨g, o, none⟩ = false := fun o => by simp [World.frozen?, h]
  have hc : ∀ (o : Nat) v, (mkCells d m x K X Y)[o]? = some v → w.cell? ⟨g, o, none⟩ = some v := fun o v hv => by
    simp only [World.cell?, h]
    rw [List.getElem?_toArray, hv]
    rfl
  refine ⟨arr_of_list h fun j hj => ?_, ⟨hc 64 _ ?_, hc 65 _ ?_, hz _, hz _⟩, arr_of_list h fun j hj => ?_, arr_of_list h fun j hj => ?_⟩
  · unfold mkCells
    rw [Nat.zero_add, List.getElem?_append_left (by rw [bytesL_length]; exact hj)]
  · unfold mkCells
    rw [List.getElem?_append_right (by rw [bytesL_length]; decide), bytesL_length]; rfl
  · unfold mkCells
    rw [List.getElem?_append_right (by rw [bytesL_length]; decide), bytesL_length]; rfl
  · unfold mkCells
    rw [List.getElem?_append_right (by rw [bytesL_length]; omega), bytesL_length, show 67 + j - 64 = j + 1 + 1 + 1 by omega,
      List.getElem?_cons_succ, List.getElem?_cons_succ, List.getElem?_cons_succ, List.getElem?_append_left (by rw [bytesL_length]; exact hj)]
  · unfold mkCells
    rw [List.getElem?_append_right (by rw [bytesL_length]; omega), bytesL_length, show 131 + j - 64 = (j + 64) + 1 + 1 + 1 by omega,
      List.getElem?_cons_succ, List.getElem?_cons_succ, List.getElem?_cons_succ, List.getElem?_append_right (by rw [bytesL_length]; omega), bytesL_length, Nat.add_sub_cancel]
set_option maxRecDepth 100000 in
theorem zeroMaker : Tryd.zeroCells54 = (mkCells 0 0 0 (fun _ => 0) (fun _ => 0) (fun _ => 0)).toArray := by kernel_rfl
theorem maker_made (l : Nat) (key : Nat → Nat) (hl : l ≤ 64) : splice Tryd.zeroCells54.toList 0 (bytesL l key) = mkCells 0 0 0 (fun x => if x < l then key x else 0) (fun _ => 0) (fun _ => 0) := by
  have e2 : bytesL 64 (fun x => if x < l then key x else 0) = bytesL l key ++ (bytesL 64 (fun _ => 0)).drop l := by
    apply List.ext_getElem?
    intro j
    by_cases hj : j < l
    · rw [List.getElem?_append_left (by rw [bytesL_length]; exact hj), bytesL_at hj, bytesL_at (by omega)]
      show some (Value.int .u8 ((if j < l then key j else 0 : Nat) : Int)) = _
      rw [if_pos hj]
    · rw [List.getElem?_append_right (by rw [bytesL_length]; omega), bytesL_length, List.getElem?_drop, show l + (j - l) = j by omega]
      by_cases h2 : j < 64
      · rw [bytesL_at h2, bytesL_at h2]
        show some (Value.int .u8 ((if j < l then key j else 0 : Nat) : Int)) = _
        rw [if_neg hj]
      · rw [List.getElem?_eq_none (by rw [bytesL_length]; omega), List.getElem?_eq_none (by rw [bytesL_length]; omega)]
  rw [zeroMaker]
  unfold splice mkCells
  rw [bytesL_length, Nat.zero_add, List.toList_toArray, List.drop_append_of_le_length (by rw [bytesL_length]; exact hl), e2]
  simp
set_option maxRecDepth 100000 in
set_option maxHeartbeats 800000 in
theorem mnew_le (A : Option Addr) (n cap : Nat) (key : Nat → Nat) (w : World) (hn : n ≤ 64) (hA : SlB w A n key) :
    Calls Tryd.prog 11 #[.slice A n cap] w fun e w' => ∃ g, e = .returned (.pointer (some ⟨g, 0, none⟩)) ∧ w.heap.size ≤ g ∧ MakAt w' g n key ∧ Below w.heap.size w w' := by
  have HA := Lib.hid (hA.keep ((Below.refl _ _).alloc (Nat.le_refl _) (.cells Tryd.zeroCells54 54)))
  have HB := Lib.hid ((Below.refl w.heap.size w).alloc (Nat.le_refl _) (.cells Tryd.zeroCells54 54))
  have HG := Lib.hid (show (w.alloc (.cells Tryd.zeroCells54 54)).heap[w.heap.size]? = some (.cells Tryd.zeroCells54.toList.toArray 54 (0, 0)) by rw [heap_alloc_new, Array.toArray_toList])
  have hd : decide (64 < (n : Int)) = false := by simp; omega
  have HL := Lib.hid (show (bytesL n key).length = Nat.min n 64 by rw [bytesL_length]; show n = min n 64; omega)
  have HP := Lib.hid (copy_parts (k := n) (dp := some ⟨w.heap.size, 0, none⟩) (g := w.heap.size) (off := 0) HA.out (Nat.le_refl _) (fun _ => rfl))
  have HF := Lib.hid (show 0 + (bytesL n key).length ≤ Tryd.zeroCells54.toList.length by
    rw [zeroMaker, bytesL_length]
    simp [mkCells, bytesL_length]
    omega)
  have HK := Lib.hid (maker_made n key hn)
  have hsa : ∀ W : World, (Instr.sliceAt 40 (.pointer (some ⟨w.heap.size, 0, none⟩)) none none none).run Tryd.prog W = .ok (.slice (some ⟨w.heap.size, 0, none⟩) 64 64) W := all_arr 40 64 w.heap.size 0 Tryd.underlying40 (by decide)
  have HN := Lib.hid hn
  clear hA hn
  go_enter Tryd.func11, Tryd.ntmps11
  go_wp2_with ((refine wpList_copy_splice rfl (.tmp 15) (.tmp 16) 22 22 rfl 5 Tryd.underlying22 sizeOf8 (some ⟨w.heap.size, 0, none⟩) A 64 64 n cap rfl rfl w.heap.size 0 _ 54 HG.out (bytesL n key) HL.out HP.out HF.out (bytes_one n key) w.heap.size w HB.out (Nat.le_refl _) ?_); intro w2 hr hb2; rw [HK.out] at hr; have HR := Lib.hid hr; have HB2 := Lib.hid hb2; clear hr hb2)
  go_ret
  exact ⟨w.heap.size, rfl, Nat.le_refl _, Or.inl ((makMem_of HR.out.out).congr (fun j _ => by unfold kf; rw [if_pos HN.out]) (fun _ _ => rfl) (fun _ _ => rfl)), HB2.out⟩
set_option maxRecDepth 100000 in
set_option maxHeartbeats 800000 in
theorem mnew_gt (A : Option Addr) (n cap : Nat) (key : Nat → Nat) (w : World) (hn : 64 < n) (hn2 : n ≤ 100000000000000) (hc : n ≤ cap) (hA : SlB w A n key) (ht : GT w) :
    Calls Tryd.prog 11 #[.slice A n cap] w fun e w' => ∃ g, e = .returned (.pointer (some ⟨g, 0, none⟩)) ∧ w.heap.size ≤ g ∧ MakAt w' g n key ∧ Below w.heap.size w w' := by
  have hd : decide (64 < (n : Int)) = true := by simp; omega
  have HS := Lib.hid (sum1_any w A n cap key hn2 hc hA ht)
  have HN := Lib.hid hn
  clear hA hn ht
  go_enter Tryd.func11, Tryd.ntmps11
  go_wp2_with fail
  refine HS.out.mono ?_
  rintro e w1 ⟨d, rfl, hd1, ha1, hb1⟩
  have HB1 := Lib.hid hb1
  have HA1 := Lib.hid (ha1.slB fun j _ => sha_lt _ _ j)
  have HA := Lib.hid (HA1.out.keep ((Below.refl _ _).alloc (Nat.le_refl _) (.cells Tryd.zeroCells54 54)))
  have HB := Lib.hid ((Below.refl w1.heap.size w1).alloc (Nat.le_refl _) (.cells Tryd.zeroCells54 54))
  have HG := Lib.hid (show (w1.alloc (.cells Tryd.zeroCells54 54)).heap[w1.heap.size]? = some (.cells Tryd.zeroCells54.toList.toArray 54 (0, 0)) by rw [heap_alloc_new, Array.toArray_toList])
  have HL := Lib.hid (show (bytesL 32 (sha n key)).length = Nat.min 32 64 by rw [bytesL_length]; rfl)
  have HP := Lib.hid (copy_parts (k := 32) (dp := some ⟨w1.heap.size, 0, none⟩) (g := w1.heap.size) (off := 0) HA.out (Nat.le_refl _) (fun _ => rfl))
  have HF := Lib.hid (show 0 + (bytesL 32 (sha n key)).length ≤ Tryd.zeroCells54.toList.length by
    rw [zeroMaker, bytesL_length]
    simp [mkCells, bytesL_length])
  have HK := Lib.hid (maker_made 32 (sha n key) (by decide))
  have hsa : ∀ W : World, (Instr.sliceAt 40 (.pointer (some ⟨w1.heap.size, 0, none⟩)) none none none).run Tryd.prog W = .ok (.slice (some ⟨w1.heap.size, 0, none⟩) 64 64) W := all_arr 40 64 w1.heap.size 0 Tryd.underlying40 (by decide)
  clear hd1 ha1 hb1 hd HS
  go_wp2_with ((refine wpList_copy_splice rfl (.tmp 15) (.tmp 16) 22 22 rfl 5 Tryd.underlying22 sizeOf8 (some ⟨w1.heap.size, 0, none⟩) (some ⟨d, 0, none⟩) 64 64 32 32 rfl rfl w1.heap.size 0 _ 54 HG.out (bytesL 32 (sha n key)) HL.out (fun h => ⟨rfl, (HP.out h).2⟩) HF.out (bytes_one 32 (sha n key)) w1.heap.size w1 HB.out (Nat.le_refl _) ?_); intro w2 hr hb2; rw [HK.out] at hr; have HR := Lib.hid hr; have HB2 := Lib.hid hb2; clear hr hb2)
  go_ret
  exact ⟨w1.heap.size, rfl, HB1.out.size, Or.inl ((makMem_of HR.out.out).congr (fun j _ => by unfold kf; exact (if_neg (by have := HN.out; omega)).symm) (fun _ _ => rfl) (fun _ _ => rfl)), HB1.out.trans (HB2.out.mono HB1.out.size)⟩
theorem mnew_any (A : Option Addr) (n cap : Nat) (key : Nat → Nat) (w : World) (hn : n ≤ 100000000000000) (hc : n ≤ cap) (hA : SlB w A n key) (ht : GT w) :
    Calls Tryd.prog 11 #[.slice A n cap] w fun e w' => ∃ g, e = .returned (.pointer (some ⟨g, 0, none⟩)) ∧ w.heap.size ≤ g ∧ MakAt w' g n key ∧ Below w.heap.size w w' := by
  by_cases h : n ≤ 64
  · exact mnew_le A n cap key w h hA
  · exact mnew_gt A n cap key w (by omega) hn hc hA ht
end Go.Proofs.YtogcfaijphpgfaaDoor
