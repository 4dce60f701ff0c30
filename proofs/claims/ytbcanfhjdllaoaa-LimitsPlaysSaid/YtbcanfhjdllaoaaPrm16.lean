/- Layer 16: a rule, an act as parameters. -/
import Derived.Test.YtbcanfhjdllaoaaActs16
namespace Go.Proofs.Ytbcanfhjdllaoaa
set_option maxRecDepth 100000
open Go.RowKit Go.ChangeShapes Go.WideShapes Go.ChangeAt
theorem open_rule {H : Type} {enc : TypeId × Value → H} {W : World} {base : Nat} {v : Value} {d : DataW H} {p : List MemPlace}
    (hval : Value.okWide Try.prog W .any base 38 v) (h : DataW.Trod enc Try.prog W 0 (fun _ => true) true 38 v d p) : ∃ r : Rl, v = ruW r.k r.t r.s r.o := by
  obtain ⟨cs, rfl, _⟩ := okWide_struct Try.underlying38 hval
  obtain ⟨fuel, hf⟩ := h
  obtain ⟨r, hr⟩ := rule_dec hf
  have hr' : cs.toList = [.int .i64 r.k, .int .i64 r.t, .int .i64 r.s, .int .i64 r.o] := hr
  exact ⟨r, congrArg Value.agg (Array.toList_inj.1 hr')⟩
theorem open_act {H : Type} {enc : TypeId × Value → H} {W : World} {base : Nat} {v : Value} {d : DataW H} {p : List MemPlace}
    (hval : Value.okWide Try.prog W .any base 40 v) (h : DataW.Trod enc Try.prog W 0 (fun _ => true) true 40 v d p) : ∃ x : Ac, v = acV x ∧ x.c.size ≤ maxLen := by
  obtain ⟨cs, rfl, _⟩ := okWide_struct Try.underlying40 hval
  obtain ⟨fuel, hf⟩ := h
  obtain ⟨x, hx, hs⟩ := ac_dec hf
  have hx' : cs.toList = acL x := hx
  exact ⟨x, congrArg Value.agg (Array.toList_inj.1 hx'), hs⟩
end Go.Proofs.Ytbcanfhjdllaoaa
