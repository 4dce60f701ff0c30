/- Layer 16: an act on a book. -/
import Derived.Test.YtbcanfhjdllaoaaLim16
namespace Go.Proofs.Ytbcanfhjdllaoaa
set_option maxRecDepth 100000
open Go.RowKit
/-- an act: what to do, a rule, a card, an amount, a tick -/
structure Ac where
  d : Int
  r : Rl
  c : ByteArray
  a : Int
  n : Int
abbrev acL (x : Ac) : List Value := [.int .i64 x.d, .int .i64 x.r.k, .int .i64 x.r.t, .int .i64 x.r.s, .int .i64 x.r.o, .string x.c, .int .i64 x.a, .int .i64 x.n]
abbrev acV (x : Ac) : Value := .agg #[.int .i64 x.d, .int .i64 x.r.k, .int .i64 x.r.t, .int .i64 x.r.s, .int .i64 x.r.o, .string x.c, .int .i64 x.a, .int .i64 x.n]
def doE (L : List Us) (x : Ac) : Int := if x.d = 1 then unE L x.r x.c x.a x.n else trE L x.r x.c x.a x.n
def doN (L : List Us) (x : Ac) : List Us := if x.d = 1 then unN L x.r x.c x.a x.n else trN L x.r x.c x.a x.n
theorem do_ok {L : List Us} (h : BkOk L) (x : Ac) : BkOk (doN L x) := by
  unfold doN
  split
  · exact un_ok h _ _ _ _
  · exact tr_ok h _ _ _ _
theorem BStep.after {TA : World → List Us → (Nat → Prop) → Prop} {w w2 w' : World} {O : Nat → Prop} {L : List Us} (hb : Below w.heap.size w w2) (h : BStep TA w2 O w' L) : BStep TA w O w' L := by
  obtain ⟨O', h1, h2, h3⟩ := h
  exact ⟨O', h1, (ChgS.of_below hb).trans h2, fun k hk => (h3 k hk).imp id fun h => Nat.le_trans hb.size h⟩
theorem do16_any {u w : World} {G : Nat} {TA : World → List Us → (Nat → Prop) → Prop} {L : List Us} {O : Nat → Prop} (hK : BKit u G TA) (h : TA w L O) (x : Ac) (hc : x.c.size ≤ maxLen) :
    Calls Try.prog 14 #[.pointer (some ⟨G, 0, none⟩), acV x] w fun e w' => e = .returned (.int .i64 (doE L x)) ∧ BStep TA w O w' (doN L x) := by
  have HB := Lib.hid (alloc_below w (.cells #[.int .i64 x.d, .int .i64 x.r.k, .int .i64 x.r.t, .int .i64 x.r.s, .int .i64 x.r.o, .string x.c, .int .i64 x.a, .int .i64 x.n] 40))
  have hb := HB.out
  have HT := Lib.hid (hK.try_ _ L O x.r.k x.r.t x.r.s x.r.o x.c x.a x.n (hK.below h hb) hc)
  have HU := Lib.hid (hK.undo _ L O x.r.k x.r.t x.r.s x.r.o x.c x.a x.n (hK.below h hb) hc)
  clear h hc hb hK
  obtain ⟨d, ⟨k, t, s, o⟩, c, a, n⟩ := x
  simp only at HB HT HU
  by_cases hd : d = 1
  · subst hd
    have HE := Lib.hid (show doE L ⟨1, ⟨k, t, s, o⟩, c, a, n⟩ = unE L ⟨k, t, s, o⟩ c a n ∧ doN L ⟨1, ⟨k, t, s, o⟩, c, a, n⟩ = unN L ⟨k, t, s, o⟩ c a n from ⟨if_pos rfl, if_pos rfl⟩)
    go_enter Try.func14, Try.ntmps14
    go_wp2_with fail
    refine HU.out.mono ?_
    rintro e w2 ⟨rfl, h2⟩
    have H2 := Lib.hid (h2.after HB.out)
    clear h2
    go_wp2_with fail
    go_ret
    rw [HE.out.1, HE.out.2]
    exact ⟨rfl, H2.out⟩
  · have HE := Lib.hid (show doE L ⟨d, ⟨k, t, s, o⟩, c, a, n⟩ = trE L ⟨k, t, s, o⟩ c a n ∧ doN L ⟨d, ⟨k, t, s, o⟩, c, a, n⟩ = trN L ⟨k, t, s, o⟩ c a n from ⟨if_neg hd, if_neg hd⟩)
    have q : (d == 1) = false := by simpa using hd
    clear hd
    go_enter Try.func14, Try.ntmps14
    go_wp2_with fail
    refine HT.out.mono ?_
    rintro e w2 ⟨rfl, h2⟩
    have H2 := Lib.hid (h2.after HB.out)
    clear h2
    go_wp2_with fail
    go_ret
    rw [HE.out.1, HE.out.2]
    exact ⟨rfl, H2.out⟩
end Go.Proofs.Ytbcanfhjdllaoaa
