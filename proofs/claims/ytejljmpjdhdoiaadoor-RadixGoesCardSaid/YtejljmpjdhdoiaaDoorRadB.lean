/- Contracts of package radix: modulus, Value, Digits. -/
import Derived.Test.YtejljmpjdhdoiaaDoorRadA
namespace Go.Proofs.YtejljmpjdhdoiaaDoor
open Go.RowKit

def mdE (m : Int) (f : Nat → Int) (n : Nat) : Int := if pw m ≠ 0 ∧ okN (pw m) f n = true then 0 else 1
def mdV (m : Int) (f : Nat → Int) (n : Nat) : Int := if mdE m f n = 0 then (pw m : Nat) else 0
theorem md_bad {m : Int} {f : Nat → Int} {n : Nat} (h : pw m = 0 ∨ okN (pw m) f n = false) : mdE m f n = 1 ∧ mdV m f n = 0 := by
  have e : mdE m f n = 1 := if_neg (by rintro ⟨h1, h2⟩; rcases h with h | h; exact h1 h; rw [h] at h2; cases h2)
  exact ⟨e, by unfold mdV; rw [e]; rfl⟩
theorem md_ok {m : Int} {f : Nat → Int} {n : Nat} (h : pw m ≠ 0) (h' : okN (pw m) f n = true) : mdE m f n = 0 ∧ mdV m f n = (pw m : Nat) := by
  have e : mdE m f n = 0 := if_pos ⟨h, h'⟩
  exact ⟨e, by unfold mdV; rw [e]; rfl⟩

set_option maxHeartbeats 400000 in
theorem modulus_any (m : Int) (A : Option Addr) (n c : Nat) (f : Nat → Int) (w : World) (hn : n ≤ 1000) (hp : Pws w)
    (hA : 0 < n → ∃ g, A = some ⟨g, 0, none⟩ ∧ ∀ i, i < n → w.cell? ⟨g, i, none⟩ = some (.int .i64 (f i))) :
    Calls Tryd.prog 28 #[.int .i64 m, .slice A n c] w fun e w' => e = .returned (.tuple #[.int .i64 (mdV m f n), .int .i64 (mdE m f n)]) ∧ w = w' := by
  have HC := Lib.hid (xpower_any m w hp)
  have HA := Lib.hid hA
  clear hA hp
  by_cases h : pw m = 0
  · have HZ := Lib.hid (md_bad (f := f) (n := n) (Or.inl h))
    rw [h] at HC
    clear h
    go_enter Tryd.func28, Tryd.ntmps28
    go_wp2_with fail
    refine HC.out.mono ?_
    rintro e w' ⟨rfl, rfl⟩
    go_wp2_with fail
    go_ret2
    exact ⟨by rw [HZ.out.1, HZ.out.2]; rfl, rfl⟩
  · have HG := Lib.hid (fun h' => md_ok (f := f) (n := n) h h')
    have HBad := Lib.hid (fun h' => md_bad (m := m) (f := f) (n := n) (Or.inr h'))
    have hle := pw_le m
    have hne : (((pw m : Nat) : Int) == 0) = false := by simp; omega
    clear h
    generalize pw m = p at *
    go_enter Tryd.func28, Tryd.ntmps28
    go_wp2_with fail
    refine HC.out.mono ?_
    rintro e w' ⟨rfl, rfl⟩
    go_wp2_with fail
    go_loop [15] (fun i => ∃ k : Nat, k ≤ n ∧ i = .int .i64 k ∧ okN p f k = true) (fun i => n - (intOf i).toNat)
    case atStart => exact ⟨0, Nat.zero_le _, rfl, rfl⟩
    case round =>
      obtain ⟨k, hk, rfl, hok⟩ := hrel
      have HOK := Lib.hid hok
      clear hok
      by_cases hlt : k < n
      · obtain ⟨g, rfl, hcell⟩ := HA.out (by omega)
        have hc := hcell k hlt
        clear hcell
        by_cases h1 : f k < 0
        · have HB := Lib.hid (HBad.out (okN_bad hlt (Or.inl h1)))
          generalize f k = y at *
          go_wp2_with fail
          go_ret2
          exact ⟨by rw [HB.out.1, HB.out.2]; rfl, rfl⟩
        · by_cases h2 : (p : Int) ≤ f k
          · have HB := Lib.hid (HBad.out (okN_bad hlt (Or.inr h2)))
            generalize f k = y at *
            go_wp2_with fail
            go_ret2
            exact ⟨by rw [HB.out.1, HB.out.2]; rfl, rfl⟩
          · have HN := Lib.hid (okN_step HOK.out (by omega) (by omega))
            generalize f k = y at *
            go_wp2_with fail
            go_round
            case rel => exact ⟨k + 1, by omega, by go_num, HN.out⟩
            case measure => simp [intOf]; omega
      · obtain rfl : k = n := by omega
        have HZ := Lib.hid (HG.out HOK.out)
        go_wp2_with fail
        go_ret2
        exact ⟨by rw [HZ.out.1, HZ.out.2]; rfl, rfl⟩
end Go.Proofs.YtejljmpjdhdoiaaDoor
