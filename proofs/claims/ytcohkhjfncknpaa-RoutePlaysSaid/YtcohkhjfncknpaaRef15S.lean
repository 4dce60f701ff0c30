/- The document's Same (layer 15). -/
import Derived.Test.YtcohkhjfncknpaaRouE
namespace Go.Proofs.Ytcohkhjfncknpaa
set_option maxRecDepth 100000
open Go.RowKit
set_option maxHeartbeats 3200000 in
theorem rsame15_any (A : Option Addr) (c : Nat) (F : List Rt) (A' : Option Addr) (c' : Nat) (F' : List Rt) (w : World) (hF : LiS rtE w A F) (hF' : LiS rtE w A' F') (hl : F.length ≤ 140737488355328) (hl' : F'.length ≤ 140737488355328) :
    Calls Try.prog 21 #[.slice A F.length c, .slice A' F'.length c'] w fun e w' => e = .returned (.bool (decide (F = F'))) ∧ Below w.heap.size w w' := by
  have HF := Lib.hid hF
  have HF' := Lib.hid hF'
  clear hF hF'
  by_cases hN : F.length = F'.length
  · have HN := Lib.hid hN
    have hN' : ((F.length : Int) != F'.length) = false := by simp [hN]
    clear hN
    go_enter Try.func21, Try.ntmps21
    go_wp2_with fail
    clear hN'
    go_loopw [5] (fun i wr => ∃ k d : Nat, k ≤ F.length ∧ i = .int .i64 k ∧ wr = w.drewN d ∧ ∀ j (h : j < F.length) (h' : j < F'.length), j < k → F[j] = F'[j]) (fun i _ => F.length - (intOf i).toNat)
    case atStart => exact ⟨0, 0, Nat.zero_le _, rfl, rfl, fun j _ _ hj => absurd hj (by omega)⟩
    case round =>
      obtain ⟨k, d, hk, rfl, rfl, hr⟩ := hrel
      have HR := Lib.hid hr
      clear hr
      by_cases hlt : k < F.length
      · have hlt' : k < F'.length := by have := HN.out; omega
        obtain ⟨B, o, rfl, hB, c1, c2⟩ := rt_at (HF.out.drewN d) hlt
        obtain ⟨B', o', rfl, hB', c3, c4⟩ := rt_at (HF'.out.drewN d) hlt'
        have hk1 : (k : Int) < F.length := by omega
        have hk2 : (k : Int) < F'.length := by omega
        have HK := Lib.hid (show ∀ a b : Rt, (a = b) ↔ (a.p = b.p ∧ a.t = b.t) from fun a b => ⟨fun h => by rw [h]; exact ⟨rfl, rfl⟩, fun h => by cases a; cases b; simp only at h; rw [h.1, h.2]⟩)
        generalize hx : F[k] = x at *
        generalize hy : F'[k] = y at *
        have HX := Lib.hid (And.intro hx hy)
        clear hx hy
        generalize hW : w.drewN d = Wd at *
        have HWd := Lib.hid hW
        clear hW
        have hq := fun w => run_neqRt x.p y.p x.t y.t w
        obtain ⟨b, hb⟩ : ∃ b, (!(x.p.toList == y.p.toList && x.t == y.t)) = b := ⟨_, rfl⟩
        rw [hb] at hq
        have HQ := Lib.hid hb
        clear hb
        cases b with
        | false =>
          have HX2 := Lib.hid (show x = y by
            have := HQ.out
            rw [str_eq15] at this
            exact (HK.out x y).2 (by simpa using this))
          go_wp2_with fail
          go_quiet (fail)
          go_wp2_with fail
          go_roundw
          case rel => exact ⟨k + 1, d + nq, by omega, by go_num, by rw [← HWd.out, World.drewN_drewN], fun j h h' hj => by
            rcases Nat.lt_or_ge j k with h1 | h1
            · exact HR.out j h h' h1
            · obtain rfl : j = k := by omega
              rw [HX.out.1, HX.out.2]; exact HX2.out⟩
          case measure => simp [intOf]; omega
        | true =>
          have HX2 := Lib.hid (show decide (F = F') = false by
            have h1 := HQ.out
            rw [str_eq15] at h1
            refine decide_eq_false fun h => ?_
            subst h
            have h2 := HX.out.1.symm.trans HX.out.2
            subst h2
            simp at h1)
          go_wp2_with fail
          go_quiet (fail)
          go_wp2_with fail
          go_ret
          exact ⟨by rw [HX2.out]; rfl, by rw [← HWd.out, World.drewN_drewN]; exact drawn (Below.refl _ _) _⟩
      · obtain rfl : k = F.length := by omega
        have HX2 := Lib.hid (show decide (F = F') = true from decide_eq_true (List.ext_getElem HN.out fun j h h' => HR.out j h h' h))
        go_wp2_with fail
        go_ret
        exact ⟨by rw [HX2.out]; rfl, drawn (Below.refl _ _) _⟩
  · have hN' : ((F.length : Int) != F'.length) = true := by simp; omega
    have HX2 := Lib.hid (show decide (F = F') = false from decide_eq_false fun h => hN (by rw [h]))
    clear hN
    go_enter Try.func21, Try.ntmps21
    go_wp2_with fail
    go_ret
    exact ⟨by rw [HX2.out]; rfl, Below.refl _ _⟩
end Go.Proofs.Ytcohkhjfncknpaa
