/- Layer 15: two tables and a row apart from both; what Put changes for other texts. -/
import Derived.Test.YtcohkhjfncknpaaLaw15c
namespace Go.Proofs.Ytcohkhjfncknpaa
set_option maxRecDepth 100000
open Go.RowKit
def bgS (s p : ByteArray) : Bool := decide (p.size ≤ s.size ∧ s.extract 0 p.size = p)
theorem begins15_any (s p : ByteArray) (w : World) : Calls Try.prog 20 #[.string s, .string p] w fun e w' => e = .returned (.bool (bgS s p)) ∧ w' = w := by
  by_cases m1 : p.size ≤ s.size
  · by_cases m2 : (s.extract 0 p.size).toList = p.toList
    · have HE := Lib.hid (show bgS s p = true from decide_eq_true ⟨m1, toList_inj m2⟩)
      go_enter Try.func20, Try.ntmps20
      go_wp2_with fail
      go_ret
      exact ⟨by rw [HE.out]; rfl, rfl⟩
    · have HE := Lib.hid (show bgS s p = false from decide_eq_false fun h => m2 (by rw [h.2]))
      have m3 : ((s.extract 0 p.size).toList == p.toList) = false := by simpa using m2
      go_enter Try.func20, Try.ntmps20
      go_wp2_with fail
      go_ret
      exact ⟨by rw [HE.out]; rfl, rfl⟩
  · have HE := Lib.hid (show bgS s p = false from decide_eq_false fun h => m1 h.1)
    go_enter Try.func20, Try.ntmps20
    go_wp2_with fail
    go_ret
    exact ⟨by rw [HE.out]; rfl, rfl⟩
theorem OwL.chgO {w w' : World} {base : Nat} {v : Value} {F : List Rt} {S : Nat → Prop} (h : OwL rtE 41 w base v F) (hc : ChgS S w w') (hS : ∀ g, v.ownBlock = some g → ¬ S g) : OwL rtE 41 w' base v F := by
  rcases h with ⟨h1, h2 | ⟨g, cap, cur, e, hg, hh, r⟩⟩
  · exact ⟨h1, Or.inl h2⟩
  · exact ⟨h1, Or.inr ⟨g, cap, cur, e, hg, (hc.block g (Array.getElem?_eq_some_iff.1 hh).1 (hS g (by rw [e]; rfl))).trans hh, r⟩⟩
/-- two tables, and a row, all apart -/
def BothW (TA TA' : World → List Rt → (Nat → Prop) → Prop) (w : World) (L L' : List Rt) (b : Nat) (v : Value) (F : List Rt) : Prop :=
  ∃ O O', TA w L O ∧ TA' w L' O' ∧ (∀ k, O k → ¬ O' k) ∧ OwL rtE 41 w b v F ∧ ∀ g, v.ownBlock = some g → ¬ O g ∧ ¬ O' g
section
variable {u w w' : World} {G G' b : Nat} {TA TA' : World → List Rt → (Nat → Prop) → Prop} {L L' L1 F : List Rt} {v : Value} {f : FuncId} {args : Array Value} {r : Value}
theorem BothW.both (h : BothW TA TA' w L L' b v F) : BothT TA TA' w L L' := by
  obtain ⟨O, O', h1, h2, h3, _, _⟩ := h
  exact ⟨O, O', h1, h2, h3⟩
theorem BothW.row (h : BothW TA TA' w L L' b v F) : OwL rtE 41 w b v F := by
  obtain ⟨O, O', _, _, _, h4, _⟩ := h
  exact h4
theorem BothW.below (hK : TKit u G TA) (hK' : TKit u G' TA') (h : BothW TA TA' w L L' b v F) (hb : Below w.heap.size w w') : BothW TA TA' w' L L' b v F := by
  obtain ⟨O, O', h1, h2, h3, h4, h5⟩ := h
  exact ⟨O, O', hK.below h1 hb, hK'.below h2 hb, h3, h4.keep hb, h5⟩
/-- the first list, which is that row -/
theorem BothT.first (hK : TKit u G TA) (hK' : TKit u G' TA') (h : BothT TA TA' w L L') : Calls Try.prog 19 #[.pointer (some ⟨G, 0, none⟩)] w fun e w' => ∃ v, e = .returned v ∧ BothW TA TA' w' L L' w.heap.size v L := by
  obtain ⟨O, O', h1, h2, h3⟩ := h
  refine (hK.list w L O h1).mono ?_
  rintro e w' ⟨v, O1, he, ho, hv, k1, k2, k3⟩
  exact ⟨v, he, O1, O', k1, hK'.keep _ _ _ _ _ h2 k2 fun k hk => ⟨(hK.own _ _ _ h1 k hk).1, h3 k hk⟩, fun k hk hk' => by
    rcases k3 k hk with h4 | h4
    · exact h3 k h4 hk'
    · have := (hK'.own _ _ _ h2 k hk').2; omega, ho, fun g hg => ⟨hv g hg, fun h => by
      have := (ho.lt g hg).1
      have := (hK'.own _ _ _ h2 g h).2
      omega⟩⟩
theorem BothW.left (hK : TKit u G TA) (hK' : TKit u G' TA') (h : BothW TA TA' w L L' b v F) (hc : ∀ O, TA w L O → Calls Try.prog f args w fun e w' => e = .returned r ∧ TStep TA w O w' L1) : Calls Try.prog f args w fun e w' => e = .returned r ∧ BothW TA TA' w' L1 L' b v F := by
  obtain ⟨O, O', h1, h2, h3, h5, h6⟩ := h
  refine (hc O h1).mono ?_
  rintro e w' ⟨he, O1, k1, k2, k3⟩
  exact ⟨he, O1, O', k1, hK'.keep _ _ _ _ _ h2 k2 fun k hk => ⟨(hK.own _ _ _ h1 k hk).1, h3 k hk⟩, fun k hk hk' => by
    rcases k3 k hk with h4 | h4
    · exact h3 k h4 hk'
    · have := (hK'.own _ _ _ h2 k hk').2; omega, h5.chgO k2 fun g hg => (h6 g hg).1, fun g hg => ⟨fun hk => by
      rcases k3 g hk with h4 | h4
      · exact (h6 g hg).1 h4
      · have := (h5.lt g hg).2; omega, (h6 g hg).2⟩⟩
/-- a further list of either, beside that row -/
theorem BothW.listl (hK : TKit u G TA) (hK' : TKit u G' TA') (h : BothW TA TA' w L L' b v F) : Calls Try.prog 19 #[.pointer (some ⟨G, 0, none⟩)] w fun e w' => ∃ v2, e = .returned v2 ∧ OwL rtE 41 w' w.heap.size v2 L ∧ BothW TA TA' w' L L' b v F := by
  obtain ⟨O, O', h1, h2, h3, h5, h6⟩ := h
  refine (hK.list w L O h1).mono ?_
  rintro e w' ⟨v2, O1, he, ho, _, k1, k2, k3⟩
  exact ⟨v2, he, ho, O1, O', k1, hK'.keep _ _ _ _ _ h2 k2 fun k hk => ⟨(hK.own _ _ _ h1 k hk).1, h3 k hk⟩, fun k hk hk' => by
    rcases k3 k hk with h4 | h4
    · exact h3 k h4 hk'
    · have := (hK'.own _ _ _ h2 k hk').2; omega, h5.chgO k2 fun g hg => (h6 g hg).1, fun g hg => ⟨fun hk => by
      rcases k3 g hk with h4 | h4
      · exact (h6 g hg).1 h4
      · have := (h5.lt g hg).2; omega, (h6 g hg).2⟩⟩
theorem BothW.listr (hK : TKit u G TA) (hK' : TKit u G' TA') (h : BothW TA TA' w L L' b v F) : Calls Try.prog 19 #[.pointer (some ⟨G', 0, none⟩)] w fun e w' => ∃ v2, e = .returned v2 ∧ OwL rtE 41 w' w.heap.size v2 L' ∧ BothW TA TA' w' L L' b v F := by
  obtain ⟨O, O', h1, h2, h3, h5, h6⟩ := h
  refine (hK'.list w L' O' h2).mono ?_
  rintro e w' ⟨v2, O1, he, ho, _, k1, k2, k3⟩
  exact ⟨v2, he, ho, O, O1, hK.keep _ _ _ _ _ h1 k2 fun k hk => ⟨(hK'.own _ _ _ h2 k hk).1, fun h => h3 k h hk⟩, k1, fun k hk hk' => by
    rcases k3 k hk' with h4 | h4
    · exact h3 k hk h4
    · have := (hK.own _ _ _ h1 k hk).2; omega, h5.chgO k2 fun g hg => (h6 g hg).2, fun g hg => ⟨(h6 g hg).1, fun hk => by
      rcases k3 g hk with h4 | h4
      · exact (h6 g hg).2 h4
      · have := (h5.lt g hg).2; omega⟩⟩
end
/-- a route changes nothing for texts that do not begin with it -/
theorem apart_fnd {L : List Rt} {p s : ByteArray} {t : Int} (h : bgS s p = false) : fdV (puN L p t) s = fdV L s ∧ fdI (puN L p t) s = fdI L s := by
  have h := of_decide_eq_false h
  have e : fndR (puN L p t) s 8 = fndR L s 8 := by
    unfold puN
    split
    · refine fndR_congr fun j h1 h2 h3 => ?_
      rw [atR_put, if_neg fun e => h ?_]
      have hz : (s.extract 0 j).size = j := by rw [ByteArray.size_extract]; omega
      rw [e]
      exact ⟨by rw [hz]; exact h3, by rw [hz]⟩
    · rfl
  exact ⟨by unfold fdV; rw [e], by unfold fdI; rw [e]⟩
/-- Put and Drop of a new one -/
theorem apart_drop {L : List Rt} {p : ByteArray} {t : Int} (ok : RtOk L) (h1 : puE L p t = 0) (h2 : (atR L p).isSome = false) : drE (puN L p t) p = 0 ∧ dropR (puN L p t) p = L := by
  have hn : atR L p = none := by cases h : atR L p with | none => rfl | some _ => rw [h] at h2; cases h2
  have e : puN L p t = putR L p t := if_pos h1
  rw [e]
  refine ⟨?_, rise_ext (dropR_rise (putR_rise ok.rise _ _) _) ok.rise fun x => ?_⟩
  · unfold drE; rw [atR_put, if_pos rfl]; rfl
  · rw [atR_drop, atR_put]
    by_cases hx : p = x
    · subst hx; rw [if_pos rfl, hn]
    · rw [if_neg hx, if_neg hx]
end Go.Proofs.Ytcohkhjfncknpaa
