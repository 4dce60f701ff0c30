/- Layer 15, the code: New, isPrefix. -/
import Derived.Carry
import Derived.Test.YtcohkhjfncknpaaRouA
import Derived.Test.YtcohkhjfncknpaaDigN
namespace Go.Proofs.Ytcohkhjfncknpaa
set_option maxRecDepth 100000
open Go.RowKit
/-! ### what can be a prefix -/
theorem acc_lt {s : ByteArray} (hd : s.data.toList.all isDig = true) : ∀ k, k ≤ s.size → acc s k < 10 ^ k
  | 0, _ => by simp [acc]
  | k + 1, h => by
    have ih := acc_lt hd k (by omega)
    obtain ⟨h1, h2⟩ := dig_at s k (by omega) hd
    have h3 := dg_eq s k (by omega)
    simp only [acc]
    rw [Nat.pow_succ]
    omega
def isP (p : ByteArray) : Bool := decide (faultOf p.data.toList = 0 ∧ 1 ≤ p.size ∧ p.size ≤ 8)
theorem dnE_isP {p : ByteArray} (h1 : 1 ≤ p.size) (h8 : p.size ≤ 8) : (dnE p == 0) = isP p := by
  unfold dnE isP
  by_cases hf : faultOf p.data.toList = 0
  · rw [if_neg (by rw [hf]; decide), if_neg (by omega)]
    have h := acc_lt (fault_zero hf).1 p.size (Nat.le_refl _)
    have h2 : (10 : Nat) ^ p.size ≤ 10 ^ 8 := Nat.pow_le_pow_right (by omega) h8
    rw [if_neg (by omega)]
    simp [hf, h1, h8]
  · rw [if_pos hf]
    simp [hf]
theorem isp_any (p : ByteArray) (w : World) (hp : p.size ≤ maxLen) : Calls Try.prog 22 #[.string p] w fun e w' => e = .returned (.bool (isP p)) ∧ ∃ n, w' = w.drewN n := by
  by_cases h1 : 1 ≤ p.size
  · by_cases h8 : p.size ≤ 8
    · have HE := Lib.hid (dnE_isP h1 h8)
      have HN := Lib.hid (number_any p w hp)
      have t1 : decide (((p.size : Nat) : Int) < 1) = false := decide_eq_false (by omega)
      have t2 : decide ((8 : Int) < ((p.size : Nat) : Int)) = false := decide_eq_false (by omega)
      clear h1 h8 hp
      go_enter Try.func22, Try.ntmps22
      go_wp2_with fail
      refine HN.out.mono ?_
      rintro e w1 ⟨rfl, n, rfl⟩
      clear HN
      go_wp2_with fail
      go_ret
      exact ⟨by rw [← HE.out]; rfl, n, rfl⟩
    · have HE := Lib.hid (show isP p = false from decide_eq_false fun h => h8 h.2.2)
      have t1 : decide (((p.size : Nat) : Int) < 1) = false := decide_eq_false (by omega)
      have t2 : decide ((8 : Int) < ((p.size : Nat) : Int)) = true := decide_eq_true (by omega)
      clear h1 h8 hp
      go_enter Try.func22, Try.ntmps22
      go_wp2_with fail
      go_ret
      exact ⟨by rw [HE.out]; rfl, 0, rfl⟩
  · have HE := Lib.hid (show isP p = false from decide_eq_false fun h => h1 h.2.1)
    have t1 : decide (((p.size : Nat) : Int) < 1) = true := decide_eq_true (by omega)
    clear h1 hp
    go_enter Try.func22, Try.ntmps22
    go_wp2_with fail
    go_ret
    exact ⟨by rw [HE.out]; rfl, 0, rfl⟩
/-! ### New -/
theorem new15_any (u w : World) (hb : Below u.heap.size u w) : Calls Try.prog 9 #[] w fun e w' => ∃ G B, e = .returned (.pointer (some ⟨G, 0, none⟩)) ∧ TblA u G B w' [] (fun k => k = G ∨ k = B) ∧ (w.heap.size ≤ G ∧ w.heap.size ≤ B) ∧ Below w.heap.size w w' := by
  have hmm := @run_makeMap Try.prog
  have HM := Lib.hid (MpW.made w)
  have HB := Lib.hid hb
  clear hb
  go_enter Try.func9, Try.ntmps9
  go_wp2_with fail
  go_ret
  have b1 : Below w.heap.size w (w.alloc (.map #[] 0)) := alloc_below _ _
  have b2 : Below w.heap.size w ((w.alloc (.map #[] 0)).alloc (.cells #[.map (some w.heap.size)] 50)) := b1.alloc b1.size _
  have us := HB.out.size
  refine ⟨w.heap.size + 1, w.heap.size, rfl, ⟨?_, by omega, by omega, ?_, by omega, ?_, ?_, ⟨List.Pairwise.nil, Nat.zero_le _, fun r hr => by cases hr⟩, fun k => Iff.rfl⟩, ⟨by omega, Nat.le_refl _⟩, b2⟩
  · exact HB.out.trans (b2.mono us)
  · simp
  · exact World.cell?_alloc_at _ _ _ _ (by simp)
  · exact HM.out.block (Below.heap_alloc _ _ _ (by simp))
end Go.Proofs.Ytcohkhjfncknpaa
