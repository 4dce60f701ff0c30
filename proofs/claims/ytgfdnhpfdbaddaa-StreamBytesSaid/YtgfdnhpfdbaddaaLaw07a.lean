/- The laws' small case (layer 7). -/
import Derived.Test.YtgfdnhpfdbaddaaStrD
import Derived.Test.YtgfdnhpfdbaddaaAesN
import Derived.Test.YtgfdnhpfdbaddaaMoreB
namespace Go.Proofs.Ytgfdnhpfdbaddaa
open Go.RowKit
def abcF (j : Nat) : Nat := [97, 98, 99].getD j 0
theorem abc_by : By 3 abcF := (by decide : ∀ j, j < 3 → abcF j < 256)
theorem zero_by (n : Nat) : By n (fun _ => 0) := fun _ _ => Nat.zero_lt_succ _
theorem padk_num {n N B : Nat} {key : Nat → Nat} (hn : 0 < n) (hkey : By (4 * n) key) {i : Nat} (hi : i < 16) : padk n key N B i = nb (encN n (npack (4 * n) key) (npack 16 (cb N B))) i := encN_ok hn hkey (cb_by N B) hi
set_option maxRecDepth 100000 in
theorem pad_zero : padk 4 (fun _ => 0) 0 0 0 = 102 := by
  rw [padk_num (by decide) (zero_by _) (by decide)]
  decide +kernel
theorem xor_num {n N T m : Nat} {key p : Nat → Nat} (hn : 0 < n) (hkey : By (4 * n) key) (hm : T + m ≤ 16) {j : Nat} (hj : j < m) : xorf n key N T p j = p j ^^^ nb (encN n (npack (4 * n) key) (npack 16 (cb N 0))) (T + j) := by
  unfold xorf
  rw [show (T + j) / 16 = 0 by omega, show (T + j) % 16 = T + j by omega, padk_num hn hkey (by omega)]
theorem abc_all : (List.range 3).map (fun j => abcF j ^^^ nb (encN 4 (npack (4 * 4) (fun _ => 0)) (npack 16 (cb 1 0))) (0 + j)) = [25, 233, 174] := by decide +kernel
theorem abc_text : strOf 3 (xorf 4 (fun _ => 0) 1 0 abcF) = ⟨#[25, 233, 174]⟩ := by
  have h : ∀ j, j < 3 → xorf 4 (fun _ => 0) 1 0 abcF j = [25, 233, 174].getD j 0 := fun j hj => by
    rw [xor_num (m := 3) (by decide) (zero_by _) (by decide) hj]
    have h := congrArg (fun l => l[j]?) abc_all
    simp only [List.getElem?_map, List.getElem?_range hj] at h
    rw [List.getD_eq_getElem?_getD, ← h]
    rfl
  rw [strOf_congr 3 _ _ h]
  decide
/-- done twice it is undone -/
theorem xorf_twice {n N T m : Nat} {key p : Nat → Nat} (j : Nat) (_hj : j < m) : xorf n key N T (xorf n key N T p) j = p j := by
  unfold xorf
  rw [Nat.xor_assoc, Nat.xor_self, Nat.xor_zero]
theorem abc_back : strOf 3 (xorf 4 (fun _ => 0) 1 0 (xorf 4 (fun _ => 0) 1 0 abcF)) = ⟨#[97, 98, 99]⟩ := by
  rw [strOf_congr 3 _ abcF (fun j hj => xorf_twice (m := 3) j hj)]
  decide
set_option maxRecDepth 100000 in
set_option maxHeartbeats 1600000 in
theorem small7_any (w : World) : Calls Try.prog 8 #[] w fun e w' => e = .returned (.bool true) ∧ Below w.heap.size w w' := by
  have hmk : ∀ W : World, (Instr.makeSlice 22 (.int .i64 16) (.int .i64 16)).run Try.prog W = .ok (.slice (some ⟨W.heap.size, 0, none⟩) 16 16) (W.alloc (.cells (madeCells #[.int .u8 0] 16) 5)) := fun W => by
    obtain ⟨i, hi, hz, hsz, hb⟩ := info_parts info8
    have := run_make (P := Try.prog) W 22 5 i (.int .u8 0) Try.underlying22 hi hz .i64 .i64 16 16 (by omega) (by omega) (by rw [hb]; omega) (by omega)
    rw [this, hsz]
    rfl
  have HL := Lib.hid (fun w : World => lit_slB w 5 (3, 4) [97, 98, 99] (fun j => by rcases j with _ | _ | _ | j <;> simp))
  have kc := fun (w : World) C n c => kconv w C n c w.heap.size rfl
  have kc2 := fun (w : World) o C n c => kconv (w.alloc o) C n c (w.heap.size + 1) (by simp)
  go_enter Try.func8, Try.ntmps8
  go_wp2_with fail
  clear kc kc2 hmk
  have hR := rowB_made w 16
  have e1 : (w.alloc (.cells (madeCells #[.int .u8 0] 16) 5)).heap.size = w.heap.size + 1 := by simp
  have b1 := alloc_below w (.cells (madeCells #[.int .u8 0] 16) 5)
  generalize w.alloc (.cells (madeCells #[.int .u8 0] 16) 5) = w1 at *
  have hP : SlB (w1.alloc (.cells #[.int .u8 97, .int .u8 98, .int .u8 99] 5 (3, 4))) (some ⟨w.heap.size + 1, 0, none⟩) 3 abcF := by
    rw [← e1]
    exact HL.out w1
  have hR2 := hR.alloc (.cells #[.int .u8 97, .int .u8 98, .int .u8 99] 5 (3, 4))
  have b2 := b1.alloc (by omega) (.cells #[.int .u8 97, .int .u8 98, .int .u8 99] 5 (3, 4))
  generalize w1.alloc (.cells #[.int .u8 97, .int .u8 98, .int .u8 99] 5 (3, 4)) = w2 at *
  have HR := Lib.hid (show SlB w2 (some ⟨w.heap.size, 0, none⟩) 16 (fun _ => 0) from hR2.slB0 (Nat.le_refl 16) (fun _ _ => Nat.zero_lt_succ _))
  have HP := Lib.hid hP
  have HB2 := Lib.hid b2
  clear hR e1 b1 hP hR2 b2 HL
  obtain ⟨kb, hkb⟩ : ∃ kb, w.heap.size = kb := ⟨_, rfl⟩
  rw [hkb] at HR HP ⊢
  clear hkb
  refine (xor_any (some ⟨kb, 0, none⟩) (some ⟨kb + 1, 0, none⟩) 16 4 16 3 3 1 0 (fun _ => 0) abcF w2 (Or.inl rfl) rfl HR.out HP.out (by decide) (by decide) (by decide)).mono ?_
  rintro e w3 ⟨sa, rfl, h1, h2, h3⟩
  have HA := Lib.hid (show SlB w3 (some ⟨sa, 0, none⟩) 3 (xorf 4 (fun _ => 0) 1 0 abcF) from h2.slB0 (Nat.le_refl 3) (xorf_lt (Or.inl rfl) (zero_by _) abc_by))
  have HR3 := Lib.hid (HR.out.keep h3)
  have HB3 := Lib.hid (HB2.out.trans (h3.mono HB2.out.size))
  clear h1 h2 h3 HR HP
  go_wp2_with fail
  refine (xor_any (some ⟨kb, 0, none⟩) (some ⟨sa, 0, none⟩) 16 4 16 3 3 1 0 (fun _ => 0) (xorf 4 (fun _ => 0) 1 0 abcF) w3 (Or.inl rfl) rfl HR3.out HA.out (by decide) (by decide) (by decide)).mono ?_
  rintro e w4 ⟨sb, rfl, h1, h2, h3⟩
  have HB := Lib.hid (show SlB w4 (some ⟨sb, 0, none⟩) 3 (xorf 4 (fun _ => 0) 1 0 (xorf 4 (fun _ => 0) 1 0 abcF)) from h2.slB0 (Nat.le_refl 3) (xorf_lt (Or.inl rfl) (zero_by _) (xorf_lt (Or.inl rfl) (zero_by _) abc_by)))
  have HA4 := Lib.hid (HA.out.keep h3)
  have HR4 := Lib.hid (HR3.out.keep h3)
  have HB4 := Lib.hid (HB3.out.trans (h3.mono HB3.out.size))
  clear h1 h2 h3 HR3 HA HB3
  go_wp2_with fail
  refine (pad_any (some ⟨kb, 0, none⟩) 16 4 16 0 0 (fun _ => 0) w4 (by decide) (by decide) (Or.inl rfl) rfl HR4.out).mono ?_
  rintro e w5 ⟨st, rfl, h1, h2, h3⟩
  have hcb := convSl (cap := 3) (HB.out.keep h3) (Nat.le_refl 3)
  rw [abc_back] at hcb
  have hca := convSl (cap := 3) (HA4.out.keep h3) (Nat.le_refl 3)
  rw [abc_text] at hca
  have hc0 := h2.cell (j := 0) (k := 0) (by decide) rfl
  rw [pad_zero] at hc0
  have HB5 := Lib.hid (HB4.out.trans (h3.mono HB4.out.size))
  clear h1 h2 h3 HR4 HA4 HB HB4
  go_wp2_with fail
  go_ret
  exact ⟨rfl, HB5.out⟩
end Go.Proofs.Ytgfdnhpfdbaddaa
