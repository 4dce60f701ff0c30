/- Contracts of package aes: a key is made; its round keys. -/
import Derived.Test.YtgfdnhpfdbaddaaAesF
namespace Go.Proofs.Ytgfdnhpfdbaddaa
open Go.RowKit

theorem new_short (A : Option Addr) (len cap : Nat) (w : World) (hl : len ≠ 16) (hl2 : len ≠ 32) (_hl3 : len ≤ 140737488351232) :
    Calls Try.prog 21 #[.slice A len cap] w fun e w' => e = .returned (.tuple #[.pointer none, .int .i64 1]) ∧ w = w' := by
  have hb : ((len : Int) != 16) = true := by simp; omega
  have hb2 : ((len : Int) != 32) = true := by simp; omega
  go_enter Try.func21, Try.ntmps21
  go_wp2_with fail
  go_ret2
  exact ⟨rfl, rfl⟩

/-- a key's block, whole -/
def keyCells (n : Nat) (d m x : Int) (S B U D : Nat → Nat) : List Value := .int .i64 (n : Nat) :: (bytesL 240 S ++ (.int .u32 d :: .int .i32 m :: .int .u32 x :: (bytesL 256 B ++ (bytesL 256 U ++ bytesL 256 D))))
theorem keyMem_of {w : World} {g n : Nat} {d m x : Int} {S B U D : Nat → Nat} {t : TypeId} (h : w.heap[g]? = some (.cells (keyCells n d m x S B U D).toArray t (0, 0))) : KeyMem w g n d m S B U D := by
  have hz : ∀ (o : Nat), w.frozen? ⟨g, o, none⟩ = false := fun o => by simp [World.frozen?, h]
  have hc : ∀ (o : Nat) v, (keyCells n d m x S B U D)[o]? = some v → w.cell? ⟨g, o, none⟩ = some v := fun o v hv => by
    simp only [World.cell?, h]
    rw [List.getElem?_toArray, hv]
    rfl
  refine ⟨hc 0 _ rfl, arr_of_list h fun j hj => ?_, ⟨hc 241 _ ?_, hc 242 _ ?_, hz _, hz _⟩, arr_of_list h fun j hj => ?_, arr_of_list h fun j hj => ?_, arr_of_list h fun j hj => ?_⟩
  · unfold keyCells
    rw [Nat.add_comm, List.getElem?_cons_succ, List.getElem?_append_left (by rw [bytesL_length]; exact hj)]
  · unfold keyCells
    rw [List.getElem?_cons_succ, List.getElem?_append_right (by rw [bytesL_length]; decide), bytesL_length]; rfl
  · unfold keyCells
    rw [List.getElem?_cons_succ, List.getElem?_append_right (by rw [bytesL_length]; decide), bytesL_length]; rfl
  · unfold keyCells
    rw [show 244 + j = (243 + j) + 1 by omega, List.getElem?_cons_succ, List.getElem?_append_right (by rw [bytesL_length]; omega), bytesL_length, show 243 + j - 240 = j + 1 + 1 + 1 by omega,
      List.getElem?_cons_succ, List.getElem?_cons_succ, List.getElem?_cons_succ, List.getElem?_append_left (by rw [bytesL_length]; exact hj)]
  · unfold keyCells
    rw [show 500 + j = (499 + j) + 1 by omega, List.getElem?_cons_succ, List.getElem?_append_right (by rw [bytesL_length]; omega), bytesL_length, show 499 + j - 240 = (j + 256) + 1 + 1 + 1 by omega,
      List.getElem?_cons_succ, List.getElem?_cons_succ, List.getElem?_cons_succ, List.getElem?_append_right (by rw [bytesL_length]; omega), bytesL_length, Nat.add_sub_cancel, List.getElem?_append_left (by rw [bytesL_length]; exact hj)]
  · unfold keyCells
    rw [show 756 + j = (755 + j) + 1 by omega, List.getElem?_cons_succ, List.getElem?_append_right (by rw [bytesL_length]; omega), bytesL_length, show 755 + j - 240 = (j + 512) + 1 + 1 + 1 by omega,
      List.getElem?_cons_succ, List.getElem?_cons_succ, List.getElem?_cons_succ, List.getElem?_append_right (by rw [bytesL_length]; omega), bytesL_length, show j + 512 - 256 = j + 256 by omega, List.getElem?_append_right (by rw [bytesL_length]; omega), bytesL_length, Nat.add_sub_cancel]
set_option maxRecDepth 100000 in
theorem zeroKey : Try.zeroCells70 = (keyCells 0 0 0 0 (fun _ => 0) (fun _ => 0) (fun _ => 0) (fun _ => 0)).toArray := by kernel_rfl
theorem key_made (n l : Nat) (key : Nat → Nat) (hl : l ≤ 240) : splice (Try.zeroCells70.setIfInBounds 0 (.int .i64 (n : Nat))).toList 1 (bytesL l key) = keyCells n 0 0 0 (fun x => if x < l then key x else 0) (fun _ => 0) (fun _ => 0) (fun _ => 0) := by
  have e : (Try.zeroCells70.setIfInBounds 0 (.int .i64 (n : Nat))).toList = keyCells n 0 0 0 (fun _ => 0) (fun _ => 0) (fun _ => 0) (fun _ => 0) := by
    rw [zeroKey, List.setIfInBounds_toArray]; rfl
  have e2 : bytesL 240 (fun x => if x < l then key x else 0) = bytesL l key ++ (bytesL 240 (fun _ => 0)).drop l := by
    apply List.ext_getElem?
    intro j
    by_cases hj : j < l
    · rw [List.getElem?_append_left (by rw [bytesL_length]; exact hj), bytesL_at hj, bytesL_at (by omega)]
      show some (Value.int .u8 ((if j < l then key j else 0 : Nat) : Int)) = _
      rw [if_pos hj]
    · rw [List.getElem?_append_right (by rw [bytesL_length]; omega), bytesL_length, List.getElem?_drop, show l + (j - l) = j by omega]
      by_cases h2 : j < 240
      · rw [bytesL_at h2, bytesL_at h2]
        show some (Value.int .u8 ((if j < l then key j else 0 : Nat) : Int)) = _
        rw [if_neg hj]
      · rw [List.getElem?_eq_none (by rw [bytesL_length]; omega), List.getElem?_eq_none (by rw [bytesL_length]; omega)]
  rw [e]
  unfold splice keyCells
  rw [bytesL_length, Nat.add_comm 1 l, List.drop_succ_cons, List.drop_append_of_le_length (by rw [bytesL_length]; exact hl), e2]
  simp

set_option maxRecDepth 100000 in
set_option maxHeartbeats 800000 in
theorem new_any (A : Option Addr) (n cap : Nat) (key : Nat → Nat) (w : World) (hn : n = 4 ∨ n = 8) (hA : SlB w A (4 * n) key) :
    Calls Try.prog 21 #[.slice A (4 * n) cap] w fun e w' => ∃ g, e = .returned (.tuple #[.pointer (some ⟨g, 0, none⟩), .int .i64 0]) ∧ w.heap.size ≤ g ∧ KeyAt w' g n key ∧ Below w.heap.size w w' := by
  have HA := Lib.hid (hA.keep ((Below.refl _ _).alloc (Nat.le_refl _) (.cells (Try.zeroCells70.setIfInBounds 0 (.int .i64 (n : Nat))) 70)))
  have HB := Lib.hid ((Below.refl w.heap.size w).alloc (Nat.le_refl _) (.cells (Try.zeroCells70.setIfInBounds 0 (.int .i64 (n : Nat))) 70))
  have HG := Lib.hid (show (w.alloc (.cells (Try.zeroCells70.setIfInBounds 0 (.int .i64 (n : Nat))) 70)).heap[w.heap.size]? = some (.cells (Try.zeroCells70.setIfInBounds 0 (.int .i64 (n : Nat))).toList.toArray 70 (0, 0)) by rw [heap_alloc_new, Array.toArray_toList])
  obtain ⟨l, hl⟩ : ∃ l, 4 * n = l := ⟨_, rfl⟩
  have HLE := Lib.hid hl
  rw [hl] at hA HA ⊢
  have hb : (((l : Int) != 16) = true ∧ ((l : Int) != 32) = false) ∨ ((l : Int) != 16) = false := by
    rcases hn with rfl | rfl
    · right; simp; omega
    · left; constructor <;> simp <;> omega
  have hw : wrap64 ((l : Int) / 4) = (n : Nat) := by unfold wrap64; omega
  have hlen : (bytesL l key).length = Nat.min l 240 := by rw [bytesL_length]; show l = min l 240; omega
  have HL := Lib.hid hlen
  have HP := Lib.hid (copy_parts (k := l) (dp := some ⟨w.heap.size, 1, none⟩) (g := w.heap.size) (off := 1) HA.out (Nat.le_refl _) (fun _ => rfl))
  have HF := Lib.hid (show 1 + (bytesL l key).length ≤ (Try.zeroCells70.setIfInBounds 0 (.int .i64 (n : Nat))).toList.length by
    rw [zeroKey, bytesL_length]
    simp [keyCells, bytesL_length]
    omega)
  have HK := Lib.hid (key_made n l key (by omega))
  have HN := Lib.hid hn
  clear hA hn hl hlen
  go_enter Try.func21, Try.ntmps21
  rcases hb with ⟨hb1, hb2⟩ | hb1
  all_goals
    go_wp2_with ((refine wpList_copy_splice rfl (.tmp 21) (.tmp 22) 22 22 rfl 5 Try.underlying22 sizeOf8 (some ⟨w.heap.size, 1, none⟩) A 240 240 l cap rfl rfl w.heap.size 1 _ 70 HG.out (bytesL l key) HL.out HP.out HF.out (bytes_one l key) w.heap.size w HB.out (Nat.le_refl _) ?_); intro w2 hr hb2; rw [HK.out] at hr; have HR := Lib.hid hr; have HB2 := Lib.hid hb2; clear hr hb2)
    go_ret2
    exact ⟨w.heap.size, rfl, Nat.le_refl _, Or.inl ((keyMem_of HR.out.out).congr (fun j _ => by show (if j < l then key j else 0) = (if j < 4 * n then key j else 0); rw [HLE.out]) (fun _ _ => rfl) (fun _ _ => rfl) (fun _ _ => rfl)), HB2.out⟩
end Go.Proofs.Ytgfdnhpfdbaddaa
