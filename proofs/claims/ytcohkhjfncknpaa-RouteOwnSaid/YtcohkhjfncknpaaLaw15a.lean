/- Law RouteOwn (layer 15). -/
import Derived.Test.YtcohkhjfncknpaaRouK
namespace Go.Proofs.Ytcohkhjfncknpaa
set_option maxRecDepth 100000
open Go.RowKit
theorem fnd_nil (s : ByteArray) : ∀ k, fndR [] s k = none
  | 0 => rfl
  | k + 1 => by
    unfold fndR
    rw [fnd_nil s k]
    split <;> rfl
theorem pre_app (p s : ByteArray) : (p ++ s).extract 0 p.size = p := by
  apply toList_inj
  rw [ByteArray.toList_eq, ByteArray.toList_eq, Lib.extract_data]
  rw [ByteArray.data_append, Array.toList_append, List.drop_zero, Nat.sub_zero]
  exact List.take_left' (Array.length_toList ..)
theorem own_fnd {p s : ByteArray} {t : Int} (h1 : 1 ≤ p.size) (h2 : p.size ≤ 8) : fndR [⟨p, t⟩] (p ++ s) 8 = some t := by
  have hsz : (p ++ s).size = p.size + s.size := ByteArray.size_append ..
  refine fndR_of (j := p.size) h1 h2 (by omega) ?_ fun i hi _ hi2 => ?_
  · rw [pre_app]
    show (if p = p then some t else none) = _
    rw [if_pos rfl]
  · show (if p = (p ++ s).extract 0 i then some t else none) = _
    rw [if_neg fun e => ?_]
    have : ((p ++ s).extract 0 i).size = i := by rw [ByteArray.size_extract]; omega
    rw [← e] at this
    omega
/-- what a new table then has, and finds -/
theorem own_cases (p : ByteArray) (t : Int) (s : ByteArray) : (puE [] p t = 0 ∧ puN [] p t = [⟨p, t⟩] ∧ fdV [⟨p, t⟩] (p ++ s) = t ∧ fdI [⟨p, t⟩] (p ++ s) = true) ∨ (puE [] p t = 1 ∧ puN [] p t = [] ∧ fdV [] (p ++ s) = 0 ∧ fdI [] (p ++ s) = false) := by
  cases hk : puK p t with
  | true =>
    have hk2 := of_decide_eq_true hk
    have e : puE [] p t = 0 := by unfold puE; rw [hk]; rfl
    refine Or.inl ⟨e, by unfold puN; rw [e]; rfl, ?_, ?_⟩
    · unfold fdV; rw [own_fnd hk2.2.1.1 hk2.2.1.2]; rfl
    · unfold fdI; rw [own_fnd hk2.2.1.1 hk2.2.1.2]; rfl
  | false =>
    have e : puE [] p t = 1 := by unfold puE; rw [hk]; rfl
    refine Or.inr ⟨e, by unfold puN; rw [e]; rfl, ?_, ?_⟩
    · unfold fdV; rw [fnd_nil]; rfl
    · unfold fdI; rw [fnd_nil]; rfl
set_option maxHeartbeats 1600000 in
theorem own15_any (hN : NewT) (p : ByteArray) (t : Int) (s : ByteArray) (w : World) (hp : p.size ≤ 140737488355328) (hs : s.size ≤ 140737488355328) (hv : ∀ w', Below w.heap.size w w' → Ev w') :
    Calls Try.prog 7 #[.string p, .int .i64 t, .string s] w fun e w' => e = .returned (.bool true) ∧ Below w.heap.size w w' := by
  have HS := Lib.hid (small15_any hN w (hv w (Below.refl _ _)))
  have HN := Lib.hid (fun w1 (hb : Below w.heap.size w w1) => hN w w1 (hv w (Below.refl _ _)) hb)
  have HZ := Lib.hid (show p.size ≤ maxLen ∧ (p ++ s).size ≤ maxLen from ⟨by unfold maxLen; omega, by rw [ByteArray.size_append]; unfold maxLen; omega⟩)
  have HC := Lib.hid (own_cases p t s)
  have hsz : ¬ 9223372036854775807 < p.size + s.size := by omega
  clear hN hv hp hs
  go_enter Try.func7, Try.ntmps7
  go_wp2_with fail
  refine HS.out.mono ?_
  rintro e w1 ⟨rfl, hb1⟩
  have HB1 := Lib.hid hb1
  clear hb1
  go_wp2_with fail
  refine (HN.out w1 HB1.out).mono ?_
  rintro e w2 ⟨G, TA, O, rfl, hkit, ha, _, _⟩
  have HK := Lib.hid hkit
  have HA2 := Lib.hid ha
  clear hkit ha HN HS
  go_wp2_with fail
  refine (HK.out.put w2 [] O p t HA2.out HZ.out.1).mono ?_
  rintro e w3 ⟨rfl, O3, h3, _⟩
  rcases HC.out with ⟨c1, c2, c3, c4⟩ | ⟨c1, c2, c3, c4⟩
  all_goals
    rw [c2] at h3
    rw [c1]
    have HA3 := Lib.hid h3
    have HF := Lib.hid (And.intro c3 c4)
    clear h3 c1 c2 c3 c4
    go_wp2_with fail
    refine (HK.out.find w3 _ O3 (p ++ s) HA3.out HZ.out.2).mono ?_
    rintro e w4 ⟨rfl, O4, h4, _⟩
    rw [HF.out.1, HF.out.2]
    have HB4 := Lib.hid (HK.out.bel _ _ _ h4)
    clear h4
    go_wp2_with fail
    go_ret
    exact ⟨rfl, HB4.out⟩
end Go.Proofs.Ytcohkhjfncknpaa
