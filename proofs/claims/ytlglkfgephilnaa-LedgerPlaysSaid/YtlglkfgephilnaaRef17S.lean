/- The document's Same (layer 17). -/
import Derived.Test.YtlglkfgephilnaaLedE
namespace Go.Proofs.Ytlglkfgephilnaa
set_option maxRecDepth 100000
open Go.RowKit
set_option maxHeartbeats 3200000 in
theorem rsame17_any (A : Option Addr) (c : Nat) (F : List Po) (A' : Option Addr) (c' : Nat) (F' : List Po) (w : World) (hF : LiS poE w A F) (hF' : LiS poE w A' F') (hl : F.length ≤ 140737488355328) (hl' : F'.length ≤ 140737488355328) :
    Calls Try.prog 10 #[.slice A F.length c, .slice A' F'.length c'] w fun e w' => e = .returned (.bool (decide (F = F'))) ∧ Below w.heap.size w w' := by
  have HF := Lib.hid hF
  have HF' := Lib.hid hF'
  clear hF hF'
  by_cases hN : F.length = F'.length
  · have HN := Lib.hid hN
    have hN' : ((F.length : Int) != F'.length) = false := by simp [hN]
    clear hN
    go_enter Try.func10, Try.ntmps10
    go_wp2_with fail
    clear hN'
    go_loopw [5] (fun i wr => ∃ k d : Nat, k ≤ F.length ∧ i = .int .i64 k ∧ wr = w.drewN d ∧ ∀ j (h : j < F.length) (h' : j < F'.length), j < k → F[j] = F'[j]) (fun i _ => F.length - (intOf i).toNat)
    case atStart => exact ⟨0, 0, Nat.zero_le _, rfl, rfl, fun j _ _ hj => absurd hj (by omega)⟩
    case round =>
      obtain ⟨k, d, hk, rfl, rfl, hr⟩ := hrel
      have HR := Lib.hid hr
      clear hr
      by_cases hlt : k < F.length
      · have hlt' : k < F'.length := by have := HN.out; omega
        obtain ⟨B, o, rfl, hB, c1, c2, c5, c6⟩ := po_at (HF.out.drewN d) hlt
        obtain ⟨B', o', rfl, hB', c3, c4, c7, c8⟩ := po_at (HF'.out.drewN d) hlt'
        have hk1 : (k : Int) < F.length := by omega
        have hk2 : (k : Int) < F'.length := by omega
        generalize hx : F[k] = x at *
        generalize hy : F'[k] = y at *
        have HX := Lib.hid (And.intro hx hy)
        clear hx hy
        generalize hW : w.drewN d = Wd at *
        have HWd := Lib.hid hW
        clear hW
        have hq := fun w => run_neqPo x y w
        obtain ⟨b, hb⟩ : ∃ b, decide (x ≠ y) = b := ⟨_, rfl⟩
        rw [hb] at hq
        have HQ := Lib.hid hb
        clear hb
        cases b with
        | false =>
          have HX2 := Lib.hid (show x = y by
            have h1 := of_decide_eq_false HQ.out
            exact Classical.byContradiction h1)
          go_wp2_with fail
          go_quiet (fail)
          go_wp2_with fail
          go_roundw
          case rel => exact ⟨k + 1, d + nq, by omega, by go_num, by rw [← HWd.out, World.drewN_drewN], fun j h h' hj => by
            rcases Nat.lt_or_ge j k with h1 | h1
            · exact HR.out j h h' h1
            · obtain rfl : j = k := by omega
              rw [HX.out.1, HX.out.2]; exact HX2.out⟩
          case measure => simp [intOf]; omega
        | true =>
          have HX2 := Lib.hid (show decide (F = F') = false by
            have h1 := of_decide_eq_true HQ.out
            refine decide_eq_false fun h => ?_
            subst h
            exact h1 (HX.out.1.symm.trans HX.out.2))
          go_wp2_with fail
          go_quiet (fail)
          go_wp2_with fail
          go_ret
          exact ⟨by rw [HX2.out]; rfl, by rw [← HWd.out, World.drewN_drewN]; exact drawn (Below.refl _ _) _⟩
      · obtain rfl : k = F.length := by omega
        have HX2 := Lib.hid (show decide (F = F') = true from decide_eq_true (List.ext_getElem HN.out fun j h h' => HR.out j h h' h))
        go_wp2_with fail
        go_ret
        exact ⟨by rw [HX2.out]; rfl, drawn (Below.refl _ _) _⟩
  · have hN' : ((F.length : Int) != F'.length) = true := by simp; omega
    have HX2 := Lib.hid (show decide (F = F') = false from decide_eq_false fun h => hN (by rw [h]))
    clear hN
    go_enter Try.func10, Try.ntmps10
    go_wp2_with fail
    go_ret
    exact ⟨by rw [HX2.out]; rfl, Below.refl _ _⟩
end Go.Proofs.Ytlglkfgephilnaa
