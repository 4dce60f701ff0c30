/- Layer 15: a table of acts. -/
import Derived.Test.YtcohkhjfncknpaaRouK
import Derived.Test.YtcohkhjfncknpaaActs15
namespace Go.Proofs.Ytcohkhjfncknpaa
set_option maxRecDepth 100000
open Go.RowKit
/-- an act on a list -/
def actR (L : List Rt) (d m : Int) (x : ByteArray) : List Rt := if d = 0 then puN L x m else if d = 1 then dropR L x else L
/-- what the first k acts make -/
def mdL (D M : Nat → Int) (T : Nat → ByteArray) : Nat → List Rt
  | 0 => []
  | k + 1 => actR (mdL D M T k) (D k) (M k) (T k)
def mdN (n : Nat) : Nat := if n < 100 then n else 100
/-- what made leaves -/
def MadeP (u : World) (w : World) (L : List Rt) (e : Ending) (w' : World) : Prop :=
  ∃ G TA O, e = .returned (.pointer (some ⟨G, 0, none⟩)) ∧ TKit u G TA ∧ TA w' L O ∧ (∀ k, O k → w.heap.size ≤ k) ∧ Below w.heap.size w w'
theorem TStep.next {TA : World → List Rt → (Nat → Prop) → Prop} {w W w2 : World} {O : Nat → Prop} {L : List Rt} (h : TStep TA W O w2 L) (hb : Below w.heap.size w W) (ho : ∀ q, O q → w.heap.size ≤ q) : ∃ O', TA w2 L O' ∧ (∀ q, O' q → w.heap.size ≤ q) ∧ Below w.heap.size w w2 := by
  obtain ⟨O', h1, h2, h3⟩ := h
  refine ⟨O', h1, fun q hq => ?_, hb.trans (h2.below hb.size ho)⟩
  rcases h3 q hq with h | h
  · exact ho q h
  · exact Nat.le_trans hb.size h
set_option maxHeartbeats 3200000 in
theorem made15_any (hN : NewT) (A : Option Addr) (n c : Nat) (D M : Nat → Int) (T : Nat → ByteArray) (u w : World) (hv : Ev u) (hb : Below u.heap.size u w) (hn : n ≤ 140737488355328) (hT : ∀ j, j < n → (T j).size ≤ maxLen) (hact : ActsIn w A n D M T) :
    Calls Try.prog 18 #[.slice A n c] w (MadeP u w (mdL D M T (mdN n))) := by
  have HN := Lib.hid (hN u w hv hb)
  have HA := Lib.hid hact
  have HT := Lib.hid hT
  clear hN hv hb hact hT
  go_enter Try.func18, Try.ntmps18
  go_wp2_with fail
  refine HN.out.mono ?_
  rintro e w1 ⟨G, TA, O, rfl, hkit, ha, hnew, hb1⟩
  have HK := Lib.hid hkit
  have HA1 := Lib.hid ha
  have HW1 := Lib.hid hnew
  have HB1 := Lib.hid hb1
  clear hkit ha hnew hb1 HN
  go_wp2_with fail
  go_loopw [4] (fun i wr => ∃ (k : Nat) (O : Nat → Prop), i = .int .i64 k ∧ k ≤ n ∧ k ≤ 100 ∧ TA wr (mdL D M T k) O ∧ (∀ q, O q → w.heap.size ≤ q) ∧ Below w.heap.size w wr) (fun i _ => n - (intOf i).toNat)
  case atStart => exact ⟨0, O, rfl, Nat.zero_le _, Nat.zero_le _, HA1.out, HW1.out, HB1.out⟩
  case round =>
    obtain ⟨k, O, rfl, hk, hk100, ha, ho, hb⟩ := hrel
    have HAk := Lib.hid ha
    have HOk := Lib.hid ho
    have HBk := Lib.hid hb
    clear ha ho hb HA1 HW1 HB1
    by_cases hlt : k < n ∧ k < 100
    · obtain ⟨hl1, hl2⟩ := hlt
      have hki : (k : Int) < n := by omega
      have hk1i : (k : Int) < 100 := by omega
      obtain ⟨B, o, rfl, hBl, hc⟩ := (HA.out.keep HBk.out (Nat.le_refl _)) (by omega)
      obtain ⟨a0, a1, a2⟩ := hc k hl1
      have HX := Lib.hid (HT.out k hl1)
      have HNX := Lib.hid (show mdL D M T (k + 1) = actR (mdL D M T k) (D k) (M k) (T k) from rfl)
      have HACT := Lib.hid (show ∀ w2, Below w.heap.size w w2 → w2.cell? ⟨B, o + k * 3, none⟩ = some (.int .i64 (D k)) ∧ w2.cell? ⟨B, o + k * 3 + 2, none⟩ = some (.string (T k)) from fun w2 hb => by
        obtain ⟨B', o', e, _, hc'⟩ := (HA.out.keep hb (Nat.le_refl _)) (by omega)
        cases e
        exact ⟨(hc' k hl1).1, (hc' k hl1).2.2⟩)
      clear hc
      generalize D k = d at *
      generalize M k = mm at *
      generalize T k = x at *
      by_cases hd0 : d = 0
      · subst hd0
        have HE := Lib.hid (show mdL D M T (k + 1) = puN (mdL D M T k) x mm by rw [HNX.out]; exact if_pos rfl)
        have HBd := Lib.hid (show Below w.heap.size w wr.drew from HBk.out.trans (Below.refl _ _).drew)
        have HAd := Lib.hid (HK.out.below HAk.out (Below.refl wr.heap.size wr).drew)
        generalize mdL D M T k = Lk at *
        go_wp2_with fail
        go_region_with (go_at_call 11; refine (HK.out.put wr.drew _ O x mm HAd.out HX.out).mono ?_; rintro e w2 ⟨rfl, hs⟩; obtain ⟨O2, h1, h2, h3⟩ := TStep.next hs HBd.out HOk.out; have H1 := Lib.hid h1; have H2 := Lib.hid h2; have H3 := Lib.hid h3; have b0 := (HACT.out w2 h3).1; clear hs h1 h2 h3)
        all_goals
          go_wp2_with fail
          go_roundw
          case rel => exact ⟨k + 1, O2, by go_num, by omega, by omega, by rw [HE.out]; exact H1.out, H2.out, H3.out⟩
          case measure => simp [intOf]; omega
      · by_cases hd1 : d = 1
        · subst hd1
          have HE := Lib.hid (show mdL D M T (k + 1) = dropR (mdL D M T k) x by rw [HNX.out]; exact (if_neg (by decide)).trans (if_pos rfl))
          generalize mdL D M T k = Lk at *
          go_wp2_with fail
          refine (HK.out.drop wr _ O x HAk.out HX.out).mono ?_
          rintro e w2 ⟨rfl, hs⟩
          obtain ⟨O2, h1, h2, h3⟩ := TStep.next hs HBk.out HOk.out
          have H1 := Lib.hid h1
          have H2 := Lib.hid h2
          have H3 := Lib.hid h3
          clear hs h1 h2 h3
          go_wp2_with fail
          go_roundw
          case rel => exact ⟨k + 1, O2, by go_num, by omega, by omega, by rw [HE.out]; exact H1.out, H2.out, H3.out⟩
          case measure => simp [intOf]; omega
        · have HE := Lib.hid (show mdL D M T (k + 1) = mdL D M T k by rw [HNX.out]; exact (if_neg hd0).trans (if_neg hd1))
          have q0 : (d == 0) = false := by simpa using hd0
          have q1 : (d == 1) = false := by simpa using hd1
          generalize mdL D M T k = Lk at *
          go_wp2_with fail
          go_roundw
          case rel => exact ⟨k + 1, O, by go_num, by omega, by omega, by rw [HE.out]; exact HAk.out, HOk.out, HBk.out⟩
          case measure => simp [intOf]; omega
    · have hlt2 : ¬ k < n ∨ (k < n ∧ ¬ k < 100) := by omega
      have HE := Lib.hid (show mdN n = k by unfold mdN; split <;> omega)
      clear hlt
      rcases hlt2 with hl1 | ⟨hl1, hl2⟩
      · have d1 : ¬ (k : Int) < n := by omega
        go_wp2_with fail
        go_ret
        exact ⟨G, TA, O, rfl, HK.out, by rw [HE.out]; exact HAk.out, HOk.out, HBk.out⟩
      · have d1 : (k : Int) < n := by omega
        have d2 : ¬ (k : Int) < 100 := by omega
        go_wp2_with fail
        go_ret
        exact ⟨G, TA, O, rfl, HK.out, by rw [HE.out]; exact HAk.out, HOk.out, HBk.out⟩
end Go.Proofs.Ytcohkhjfncknpaa
