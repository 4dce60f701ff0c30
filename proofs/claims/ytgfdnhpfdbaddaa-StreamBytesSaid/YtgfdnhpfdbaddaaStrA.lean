/- Contracts of package stream: the block of two numbers. -/
import Derived.Test.YtgfdnhpfdbaddaaLen8
import Derived.Test.YtgfdnhpfdbaddaaArrM
namespace Go.Proofs.Ytgfdnhpfdbaddaa
open Go.RowKit
/-- two numbers in sixteen bytes -/
def cb (N B : Nat) : Nat → Nat := catB 8 (len8 N) (len8 B)
theorem cb_by (N B : Nat) : By 16 (cb N B) := fun j hj => catB_lt (n := 8) (m := 8) (fun j _ => len8_lt N j) (fun j _ => len8_lt B j) j hj
def jn (N B k j : Nat) : Nat := if j < 8 then (if j < k then len8 N j else 0) else if j < 8 + k then len8 B (j - 8) else 0
theorem jn_step {N B k : Nat} (hk : k < 8) (j : Nat) : (if j = 8 + k then len8 B k else if j = k then len8 N k else jn N B k j) = jn N B (k + 1) j := by
  unfold jn
  by_cases h1 : j = 8 + k
  · subst h1
    rw [if_pos rfl, if_neg (by omega), if_pos (by omega), show 8 + k - 8 = k by omega]
  · rw [if_neg h1]
    by_cases h2 : j = k
    · subst h2
      rw [if_pos rfl, if_pos hk, if_pos (by omega)]
    · rw [if_neg h2]
      by_cases h8 : j < 8
      · rw [if_pos h8, if_pos h8]
        by_cases h : j < k
        · rw [if_pos h, if_pos (by omega)]
        · rw [if_neg h, if_neg (by omega)]
      · rw [if_neg h8, if_neg h8]
        by_cases h : j < 8 + k
        · rw [if_pos h, if_pos (by omega)]
        · rw [if_neg h, if_neg (by omega)]
theorem jn_end {N B j : Nat} (hj : j < 16) : jn N B 8 j = cb N B j := by
  unfold jn cb catB
  by_cases h8 : j < 8
  · rw [if_pos h8, if_pos h8, if_pos h8]
  · rw [if_neg h8, if_neg h8, if_pos (by omega)]
theorem size16 : (Try.prog.info? 46).map (·.size) = some 16 := by kernel_rfl
abbrev y16 : Array Value := #[.int .u8 0, .int .u8 0, .int .u8 0, .int .u8 0, .int .u8 0, .int .u8 0, .int .u8 0, .int .u8 0, .int .u8 0, .int .u8 0, .int .u8 0, .int .u8 0, .int .u8 0, .int .u8 0, .int .u8 0, .int .u8 0]
theorem made16 (w : World) : Arr (w.alloc (.cells y16 46)) w.heap.size 0 16 (fun _ => 0) := arr_made w _ _ 16 _ rfl
/-- byte k of a number, as the code reckons it -/
theorem shift_byte {x k : Nat} (hk : k < 8) : ∃ q q8 y z : Nat, (7 : Int) - k = q ∧ (8 : Int) * q = q8 ∧ q ≤ 7 ∧ q8 ≤ 56 ∧ (x : Int) / 2 ^ q8 = y ∧ y ≤ x ∧ (y : Int) % 256 = z ∧ z < 256 ∧ len8 x k = z := by
  refine ⟨7 - k, 8 * (7 - k), x / 2 ^ (8 * (7 - k)), x / 2 ^ (8 * (7 - k)) % 256, by omega, by omega, by omega, by omega, by simp, Nat.div_le_self _ _, by omega, Nat.mod_lt _ (by decide), rfl⟩
set_option maxRecDepth 100000 in
set_option maxHeartbeats 1600000 in
theorem join_any (N B : Nat) (w : World) (hN : N ≤ 9223372036854775807) (hB : B ≤ 9223372036854775807) :
    Calls Try.prog 23 #[.int .i64 (N : Nat), .int .i64 (B : Nat)] w fun e w' => e = .returned (aggB 16 (cb N B)) ∧ Below w.heap.size w w' := by
  have HO := Lib.hid ((made16 w).alloc (.cells y16 46))
  have HM := Lib.hid (made16 (w.alloc (.cells y16 46)))
  have hs1 : (w.alloc (.cells y16 46)).heap.size = w.heap.size + 1 := by simp
  rw [hs1] at HM
  have HB := Lib.hid (((Below.refl w.heap.size w).alloc (Nat.le_refl _) (.cells y16 46)).alloc (by simp) (.cells y16 46))
  clear hs1
  go_enter Try.func23, Try.ntmps23
  go_wp2_with fail
  generalize hW : (w.alloc (.cells y16 46)).alloc (.cells y16 46) = W at *
  clear hW
  go_loopw [8] (fun v wr => ∃ k : Nat, k ≤ 8 ∧ v = .int .i64 k ∧ Arr wr (w.heap.size + 1) 0 16 (jn N B k) ∧ Arr wr w.heap.size 0 16 (fun _ => 0) ∧ Below w.heap.size w wr) (fun v _ => 8 - (intOf v).toNat)
  case atStart => exact ⟨0, by decide, rfl, HM.out.congr fun j hj => by unfold jn; rw [if_neg (Nat.not_lt_zero _)]; by_cases h : j < 8; rw [if_pos h]; rw [if_neg h, if_neg (by omega)], HO.out, HB.out⟩
  case round =>
    obtain ⟨k, hk, rfl, h1, h2, h3⟩ := hrel
    have H1 := Lib.hid h1
    have H2 := Lib.hid h2
    have H3 := Lib.hid h3
    clear h1 h2 h3
    by_cases hlt : k < 8
    · obtain ⟨q, q8, y, z, eq, eq8, hq7, hq56, ey, hyx, ez, lz, hz⟩ := shift_byte (x := N) hlt
      obtain ⟨q', q8', y', z', eq', eq8', _, _, ey', hyx', ez', lz', hz'⟩ := shift_byte (x := B) hlt
      obtain rfl : q = q' := by omega
      obtain rfl : q8 = q8' := by omega
      have hqi : (q : Int) ≤ 7 := by omega
      have hq8i : (q8 : Int) ≤ 56 := by omega
      have hxi : (N : Int) ≤ 9223372036854775807 := by omega
      have hxi' : (B : Int) ≤ 9223372036854775807 := by omega
      have hyi : (y : Int) ≤ 9223372036854775807 := by omega
      have hyi' : (y' : Int) ≤ 9223372036854775807 := by omega
      obtain ⟨k8, hk8, hk8i⟩ : ∃ k8, 8 + k = k8 ∧ (8 : Int) + k = (k8 : Nat) := ⟨8 + k, rfl, by omega⟩
      have hk8l : k8 < 16 := by omega
      have hc3 := H1.out.cell (j := k) (by omega) (Nat.zero_add k).symm
      have hf3 := H1.out.frozen (j := k) (by omega) (Nat.zero_add k).symm
      have hA1 := H1.out.set (i := k) (by omega) (Nat.zero_add k).symm z (v := .int .u8 (z : Nat)) rfl
      have hc4 := hA1.cell hk8l (Nat.zero_add k8).symm
      have hf4 := hA1.frozen hk8l (Nat.zero_add k8).symm
      have HM1 := Lib.hid ((hA1.set hk8l (Nat.zero_add k8).symm z' (v := .int .u8 (z' : Nat)) rfl).congr (f := jn N B (k + 1)) fun j _ => by rw [← hk8, ← hz, ← hz']; exact jn_step hlt j)
      generalize jn N B k k = o1 at hc3
      generalize (if k8 = k then z else jn N B k k8) = o2 at hc4
      have HB1 := Lib.hid ((H3.out.setCell (p := ⟨w.heap.size + 1, k, none⟩) (Nat.le_succ _) (.int .u8 (z : Nat))).setCell (p := ⟨w.heap.size + 1, k8, none⟩) (Nat.le_succ _) (.int .u8 (z' : Nat)))
      have HO1 := Lib.hid ((H2.out.setOther (a := ⟨w.heap.size + 1, k, none⟩) (Nat.ne_of_lt (Nat.lt_succ_self _)) (.int .u8 (z : Nat))).setOther (a := ⟨w.heap.size + 1, k8, none⟩) (Nat.ne_of_lt (Nat.lt_succ_self _)) (.int .u8 (z' : Nat)))
      have HKK := Lib.hid hk8
      clear hz hz' hA1 hk8 hq7 hq56 hyx hyx'
      go_wp2_with fail
      go_roundw
      case rel => exact ⟨k + 1, by omega, by go_num, HM1.out, HO1.out, HB1.out⟩
      case measure => simp [intOf]; omega
    · obtain rfl : k = 8 := by omega
      have HR := Lib.hid (H1.out.congr (f := cb N B) fun j hj => jn_end hj)
      go_wp2_with (first | (refine wpList_loadB rfl 46 (.tmp 5) rfl (w.heap.size + 1) 0 16 rfl _ HR.out _ Try.underlying46 rfl size16 ?_) | (refine wpList_storeB rfl 46 (.tmp 4) (.tmp 28) rfl w.heap.size 0 16 _ _ rfl rfl H2.out size16 ?_; intro w2 h1 h2; have HR2 := Lib.hid h1; have HC2 := Lib.hid h2; clear h1 h2))
      exact bodyPost_ret (results_cellB rfl _ _ w.heap.size 0 16 _ rfl HR2.out _ Try.underlying46 rfl size16) rfl ⟨rfl, H3.out.trans (HC2.out.below H3.out.size (Nat.le_refl _))⟩
end Go.Proofs.Ytgfdnhpfdbaddaa
