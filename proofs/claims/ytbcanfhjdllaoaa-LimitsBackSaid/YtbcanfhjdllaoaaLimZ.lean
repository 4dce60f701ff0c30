/- Layer 16: two books, acted on and listed in one region (LimitsBack); what Try and Undo leave. -/
import Derived.Test.YtbcanfhjdllaoaaActs16
import Derived.Test.YtbcanfhjdllaoaaLimH
import Derived.Test.YtbcanfhjdllaoaaRef16S
import Derived.Test.YtbcanfhjdllaoaaOrdZ
namespace Go.Proofs.Ytbcanfhjdllaoaa
set_option maxRecDepth 100000
open Go.RowKit
/-- what Try and then Undo leave of a card's use -/
theorem back_facts {L : List Us} {r : Rl} {c : ByteArray} {a t : Int} (ok : BkOk L) (k : TrK L r c a t) :
    unE (trN L r c a t) r c a t = 0 ∧ (unN (trN L r c a t) r c a t).length = (trN L r c a t).length ∧ ∀ u ∈ unN (trN L r c a t) r c a t, u.c = c → u = getU L c (winW r t) := by
  have hok := tr_ok ok r c a t
  have hgc := get_card (L := L) (c := c) (W := winW r t)
  have g := get_ok ok k.my.c (win_nn (t := t) k.my.rk.1 k.my.t.1) (win_le (t := t) k.my.rk.1 k.my.t)
  have g1 := g.n0
  have g2 := g.s0
  have ha := k.my.a
  have hn : trN L r c a t = putU L (nxtU (getU L c (winW r t)) a) := by unfold trN; rw [if_pos (tr_iff.2 k)]
  obtain ⟨gn, gs, hgu⟩ : ∃ n s, getU L c (winW r t) = ⟨c, winW r t, n, s⟩ := by
    generalize getU L c (winW r t) = gu at *
    obtain ⟨gc, gw, gn, gs⟩ := gu
    exact ⟨gn, gs, by have h1 := hgc.1; have h2 := hgc.2; simp only at h1 h2; rw [h1, h2]⟩
  rw [hgu] at hn g1 g2 ⊢
  simp only at g1 g2
  have hmem : nxtU ⟨c, winW r t, gn, gs⟩ a ∈ trN L r c a t := by rw [hn]; exact put_mem
  have hf : fndU (trN L r c a t) c = some (nxtU ⟨c, winW r t, gn, gs⟩ a) := fnd_of (v := nxtU ⟨c, winW r t, gn, gs⟩ a) hok.apart hmem
  generalize trN L r c a t = T at *
  have hu : unK T c a (winW r t) = some ⟨c, winW r t, gn, gs⟩ := by
    unfold unK
    rw [hf]
    show (if winW r t = winW r t ∧ gn + 1 ≠ 0 ∧ a ≤ gs + a then some (⟨c, winW r t, gn + 1 - 1, gs + a - a⟩ : Us) else none) = _
    rw [if_pos ⟨rfl, by omega, by omega⟩, show gn + 1 - 1 = gn by omega, show gs + a - a = gs by omega]
  have hm := my_iff.2 k.my
  refine ⟨?_, ?_, ?_⟩
  · unfold unE
    rw [if_pos hm, hu]
    rfl
  · unfold unN
    rw [if_pos hm, hu]
    unfold setU
    exact List.length_map ..
  · unfold unN
    rw [if_pos hm, hu]
    intro u hu2 hc
    rcases mem_set hu2 with e | ⟨_, e⟩
    · exact e
    · exact absurd hc e
/-- the old use, looked for among the first k -/
def OldI (L : List Us) (c : ByteArray) (W : Int) (k : Nat) (o : Us) : Prop := (o = ⟨c, W, 0, 0⟩ ∧ ∀ j (h : j < L.length), j < k → ¬ (L[j].c = c ∧ L[j].w = W)) ∨ ∃ j, ∃ h : j < L.length, j < k ∧ o = L[j] ∧ L[j].c = c ∧ L[j].w = W
theorem OldI.done {L : List Us} {c : ByteArray} {W : Int} {k : Nat} {o : Us} (ok : BkOk L) (h : OldI L c W k o) (hk : L.length ≤ k) : o = getU L c W := by
  unfold getU
  rcases h with ⟨rfl, h⟩ | ⟨j, hj, _, rfl, h1, h2⟩
  · cases hf : fndU L c with
    | none => rfl
    | some v =>
      obtain ⟨hv, hc⟩ := fnd_mem hf
      obtain ⟨j, hj, rfl⟩ := List.getElem_of_mem hv
      exact (if_neg fun e => h j hj (by omega) ⟨hc, e⟩).symm
  · have := fnd_of ok.apart (List.getElem_mem hj)
    rw [h1] at this
    rw [this]
    exact (if_pos h2).symm
theorem OldI.no {L : List Us} {c : ByteArray} {W : Int} {k : Nat} {o : Us} (h : OldI L c W k o) (hk : k < L.length) (hn : ¬ (L[k].c = c ∧ L[k].w = W)) : OldI L c W (k + 1) o := by
  rcases h with ⟨e, h⟩ | ⟨j, hj, h0, e, h1⟩
  · refine Or.inl ⟨e, fun j hj hjk => ?_⟩
    rcases Nat.lt_or_ge j k with h2 | h2
    · exact h j hj h2
    · obtain rfl : j = k := by omega
      exact hn
  · exact Or.inr ⟨j, hj, by omega, e, h1⟩
theorem OldI.yes {L : List Us} {c : ByteArray} {W : Int} {k : Nat} (hk : k < L.length) (hn : L[k].c = c ∧ L[k].w = W) : OldI L c W (k + 1) L[k] := Or.inr ⟨k, hk, by omega, rfl, hn⟩
theorem OwL.chgU {w w' : World} {base : Nat} {v : Value} {F : List Us} {S : Nat → Prop} (h : OwL usE 31 w base v F) (hc : ChgS S w w') (hS : ∀ g, v.ownBlock = some g → ¬ S g) : OwL usE 31 w' base v F := by
  rcases h with ⟨h1, h2 | ⟨g, cap, cur, e, hg, hh, r⟩⟩
  · exact ⟨h1, Or.inl h2⟩
  · exact ⟨h1, Or.inr ⟨g, cap, cur, e, hg, (hc.block g (Array.getElem?_eq_some_iff.1 hh).1 (hS g (by rw [e]; rfl))).trans hh, r⟩⟩
/-- two books, apart -/
def BothU (TA TB : World → List Us → (Nat → Prop) → Prop) (w : World) (L M : List Us) : Prop := ∃ O P, TA w L O ∧ TB w M P ∧ ∀ k, O k → ¬ P k
section
variable {u w w' : World} {G G' : Nat} {TA TB : World → List Us → (Nat → Prop) → Prop} {L M L1 : List Us}
theorem BothU.below (hK : BKit u G TA) (hK' : BKit u G' TB) (h : BothU TA TB w L M) (hb : Below w.heap.size w w') : BothU TA TB w' L M := by
  obtain ⟨O, P, h1, h2, h3⟩ := h
  exact ⟨O, P, hK.below h1 hb, hK'.below h2 hb, h3⟩
theorem BothU.bel (hK : BKit u G TA) (h : BothU TA TB w L M) : Below u.heap.size u w := by
  obtain ⟨O, P, h1, _⟩ := h
  exact hK.bel _ _ _ h1
/-- a row of the first list that stands apart from both books -/
def RowZ (w : World) (O P : Nat → Prop) (L1 : List Us) (v : Value) : Prop := ∃ b, OwL usE 31 w b v L1 ∧ ∀ g, v.ownBlock = some g → ¬ O g ∧ ¬ P g
/-- the region in which both are acted on (5, 11), both are listed (15, 17) and the lists are held against each other -/
structure JZ (u : World) (TA TB : World → List Us → (Nat → Prop) → Prop) (L L1 : List Us) (c : Nat → Option Value) (w : World) : Prop where
  both : ∃ O P, TA w (if (c 5).isSome = true then L1 else L) O ∧ TB w (if (c 11).isSome = true then L1 else L) P ∧ (∀ k, O k → ¬ P k) ∧ (∀ v, c 15 = some v → RowZ w O P L1 v) ∧ (∀ v, c 17 = some v → RowZ w O P L1 v)
  c12 : (c 12).isSome = true → (c 5).isSome = true ∧ (c 11).isSome = true
  c13 : (c 13).isSome = true → (c 12).isSome = true
variable {c : Nat → Option Value} {f : FuncId} {args : Array Value} {r : Value}
theorem updZ_ne {c : Nat → Option Value} {q : Nat} {v : Value} {i : Nat} (h : i ≠ q) : ord.updZ c q v i = c i := if_neg h
theorem updZ_eq {c : Nat → Option Value} {q : Nat} {v : Value} : ord.updZ c q v q = some v := if_pos rfl
/-- an operation that changes nothing -/
theorem JZ.keep (h : JZ u TA TB L L1 c w) {q : Nat} (hq : q ≠ 5 ∧ q ≠ 11 ∧ q ≠ 12 ∧ q ≠ 13 ∧ q ≠ 15 ∧ q ≠ 17) (v : Value) : JZ u TA TB L L1 (ord.updZ c q v) w := by
  obtain ⟨h1, h2, h3, h4, h5, h6⟩ := hq
  refine ⟨?_, ?_, ?_⟩
  · rw [updZ_ne h1.symm, updZ_ne h2.symm, updZ_ne h5.symm, updZ_ne h6.symm]
    exact h.both
  · rw [updZ_ne h1.symm, updZ_ne h2.symm, updZ_ne h3.symm]
    exact h.c12
  · rw [updZ_ne h3.symm, updZ_ne h4.symm]
    exact h.c13
theorem JZ.k12 (h : JZ u TA TB L L1 c w) {x y : Value} (h5 : c 5 = some x) (h11 : c 11 = some y) (v : Value) : JZ u TA TB L L1 (ord.updZ c 12 v) w := by
  refine ⟨?_, ?_, ?_⟩
  · rw [updZ_ne (by decide), updZ_ne (by decide), updZ_ne (by decide), updZ_ne (by decide)]
    exact h.both
  · exact fun _ => ⟨by rw [updZ_ne (by decide), h5]; rfl, by rw [updZ_ne (by decide), h11]; rfl⟩
  · rw [updZ_eq]
    exact fun _ => rfl
theorem JZ.k13 (h : JZ u TA TB L L1 c w) {x : Value} (h12 : c 12 = some x) (v : Value) : JZ u TA TB L L1 (ord.updZ c 13 v) w := by
  refine ⟨?_, ?_, ?_⟩
  · rw [updZ_ne (by decide), updZ_ne (by decide), updZ_ne (by decide), updZ_ne (by decide)]
    exact h.both
  · rw [updZ_ne (by decide), updZ_ne (by decide), updZ_ne (by decide)]
    exact h.c12
  · exact fun _ => by rw [updZ_ne (by decide), h12]; rfl
theorem JZ.below (hK : BKit u G TA) (hK' : BKit u G' TB) (h : JZ u TA TB L L1 c w) (hb : Below w.heap.size w w') : JZ u TA TB L L1 c w' := by
  obtain ⟨⟨O, P, h1, h2, h3, h4, h5⟩, h6, h7⟩ := h
  exact ⟨⟨O, P, hK.below h1 hb, hK'.below h2 hb, h3, fun v hv => by
    obtain ⟨b, k1, k2⟩ := h4 v hv
    exact ⟨b, k1.keep hb, k2⟩, fun v hv => by
    obtain ⟨b, k1, k2⟩ := h5 v hv
    exact ⟨b, k1.keep hb, k2⟩⟩, h6, h7⟩
theorem JZ.bel (hK : BKit u G TA) (h : JZ u TA TB L L1 c w) : Below u.heap.size u w := by
  obtain ⟨⟨O, P, h1, _⟩, _⟩ := h
  exact hK.bel _ _ _ h1
/-- rows that stand apart are as they were behind a call of one of the books -/
theorem RowZ.left {O O1 P : Nat → Prop} {v : Value} (h : RowZ w O P L1 v) (hc : ChgS O w w') (hO : ∀ k, O1 k → O k ∨ w.heap.size ≤ k) : RowZ w' O1 P L1 v := by
  obtain ⟨b, k1, k2⟩ := h
  refine ⟨b, k1.chgU hc (fun g hg => (k2 g hg).1), fun g hg => ⟨fun hx => ?_, (k2 g hg).2⟩⟩
  rcases hO g hx with h | h
  · exact (k2 g hg).1 h
  · have := (k1.lt g hg).2; omega
theorem RowZ.right {O P P1 : Nat → Prop} {v : Value} (h : RowZ w O P L1 v) (hc : ChgS P w w') (hP : ∀ k, P1 k → P k ∨ w.heap.size ≤ k) : RowZ w' O P1 L1 v := by
  obtain ⟨b, k1, k2⟩ := h
  refine ⟨b, k1.chgU hc (fun g hg => (k2 g hg).2), fun g hg => ⟨(k2 g hg).1, fun hx => ?_⟩⟩
  rcases hP g hx with h | h
  · exact (k2 g hg).2 h
  · have := (k1.lt g hg).2; omega
theorem JZ.doL (hK : BKit u G TA) (hK' : BKit u G' TB) (h : JZ u TA TB L L1 c w) (hc : c 5 = none) (hcall : ∀ w O, TA w L O → Calls Try.prog f args w fun e w' => e = .returned r ∧ BStep TA w O w' L1) :
    Calls Try.prog f args w fun e w' => e = .returned r ∧ JZ u TA TB L L1 (ord.updZ c 5 r) w' := by
  obtain ⟨⟨O, P, h1, h2, h3, h4, h5⟩, h6, h7⟩ := h
  rw [hc] at h1
  refine (hcall w O h1).mono ?_
  rintro e w' ⟨he, O1, k1, k2, k3⟩
  refine ⟨he, ⟨⟨O1, P, ?_, ?_, fun k hk hp => ?_, ?_, ?_⟩, ?_, ?_⟩⟩
  · rw [updZ_eq]; exact k1
  · rw [updZ_ne (by decide)]; exact hK'.keep _ _ _ _ _ h2 k2 fun k hk => ⟨(hK.own _ _ _ h1 k hk).1, h3 k hk⟩
  · rcases k3 k hk with h | h
    · exact h3 k h hp
    · have := (hK'.own _ _ _ h2 k hp).2; omega
  · rw [updZ_ne (by decide)]; exact fun v hv => (h4 v hv).left k2 k3
  · rw [updZ_ne (by decide)]; exact fun v hv => (h5 v hv).left k2 k3
  · rw [updZ_ne (by decide), updZ_eq, updZ_ne (by decide)]; exact fun h => ⟨rfl, (h6 h).2⟩
  · rw [updZ_ne (by decide), updZ_ne (by decide)]; exact h7
theorem JZ.doR (hK : BKit u G TA) (hK' : BKit u G' TB) (h : JZ u TA TB L L1 c w) (hc : c 11 = none) (hcall : ∀ w O, TB w L O → Calls Try.prog f args w fun e w' => e = .returned r ∧ BStep TB w O w' L1) :
    Calls Try.prog f args w fun e w' => e = .returned r ∧ JZ u TA TB L L1 (ord.updZ c 11 r) w' := by
  obtain ⟨⟨O, P, h1, h2, h3, h4, h5⟩, h6, h7⟩ := h
  rw [hc] at h2
  refine (hcall w P h2).mono ?_
  rintro e w' ⟨he, P1, k1, k2, k3⟩
  refine ⟨he, ⟨⟨O, P1, ?_, ?_, fun k hk hp => ?_, ?_, ?_⟩, ?_, ?_⟩⟩
  · rw [updZ_ne (by decide)]; exact hK.keep _ _ _ _ _ h1 k2 fun k hk => ⟨(hK'.own _ _ _ h2 k hk).1, fun ho => h3 k ho hk⟩
  · rw [updZ_eq]; exact k1
  · rcases k3 k hp with h | h
    · exact h3 k hk h
    · have := (hK.own _ _ _ h1 k hk).2; omega
  · rw [updZ_ne (by decide)]; exact fun v hv => (h4 v hv).right k2 k3
  · rw [updZ_ne (by decide)]; exact fun v hv => (h5 v hv).right k2 k3
  · rw [updZ_ne (by decide), updZ_ne (by decide), updZ_eq]; exact fun h => ⟨(h6 h).1, rfl⟩
  · rw [updZ_ne (by decide), updZ_ne (by decide)]; exact h7
theorem JZ.listL (hK : BKit u G TA) (hK' : BKit u G' TB) (h : JZ u TA TB L L1 c w) {x : Value} (h13 : c 13 = some x) :
    Calls Try.prog 17 #[.pointer (some ⟨G, 0, none⟩)] w fun e w' => ∃ v, e = .returned v ∧ JZ u TA TB L L1 (ord.updZ c 15 v) w' ∧ ∃ A cc, v = .slice A L1.length cc := by
  have h5' := h.c12 (h.c13 (by rw [h13]; rfl))
  obtain ⟨⟨O, P, h1, h2, h3, h4, h5⟩, h6, h7⟩ := h
  rw [if_pos h5'.1] at h1
  rw [if_pos h5'.2] at h2
  refine (hK.list w L1 O h1).mono ?_
  rintro e w' ⟨v, O1, he, ho, hv, k1, k2, k3⟩
  refine ⟨v, he, ⟨⟨O1, P, ?_, ?_, fun k hk hp => ?_, ?_, ?_⟩, ?_, ?_⟩, by obtain ⟨A, cc, e, _⟩ := ho.cap_le; exact ⟨A, cc, e⟩⟩
  · rw [updZ_ne (by decide), if_pos h5'.1]; exact k1
  · rw [updZ_ne (by decide), if_pos h5'.2]; exact hK'.keep _ _ _ _ _ h2 k2 fun k hk => ⟨(hK.own _ _ _ h1 k hk).1, h3 k hk⟩
  · rcases k3 k hk with h | h
    · exact h3 k h hp
    · have := (hK'.own _ _ _ h2 k hp).2; omega
  · rw [updZ_eq]
    intro v' hv'
    injection hv' with hv'
    subst hv'
    exact ⟨_, ho, fun g hg => ⟨hv g hg, fun hp => by have := (hK'.own _ _ _ h2 g hp).2; have := (ho.lt g hg).1; omega⟩⟩
  · rw [updZ_ne (by decide)]; exact fun v hv => (h5 v hv).left k2 k3
  · rw [updZ_ne (by decide), updZ_ne (by decide), updZ_ne (by decide)]; exact h6
  · rw [updZ_ne (by decide), updZ_ne (by decide)]; exact h7
theorem JZ.listR (hK : BKit u G TA) (hK' : BKit u G' TB) (h : JZ u TA TB L L1 c w) {x : Value} (h13 : c 13 = some x) :
    Calls Try.prog 17 #[.pointer (some ⟨G', 0, none⟩)] w fun e w' => ∃ v, e = .returned v ∧ JZ u TA TB L L1 (ord.updZ c 17 v) w' ∧ ∃ A cc, v = .slice A L1.length cc := by
  have h5' := h.c12 (h.c13 (by rw [h13]; rfl))
  obtain ⟨⟨O, P, h1, h2, h3, h4, h5⟩, h6, h7⟩ := h
  rw [if_pos h5'.1] at h1
  rw [if_pos h5'.2] at h2
  refine (hK'.list w L1 P h2).mono ?_
  rintro e w' ⟨v, P1, he, ho, hv, k1, k2, k3⟩
  refine ⟨v, he, ⟨⟨O, P1, ?_, ?_, fun k hk hp => ?_, ?_, ?_⟩, ?_, ?_⟩, by obtain ⟨A, cc, e, _⟩ := ho.cap_le; exact ⟨A, cc, e⟩⟩
  · rw [updZ_ne (by decide), if_pos h5'.1]; exact hK.keep _ _ _ _ _ h1 k2 fun k hk => ⟨(hK'.own _ _ _ h2 k hk).1, fun ho => h3 k ho hk⟩
  · rw [updZ_ne (by decide), if_pos h5'.2]; exact k1
  · rcases k3 k hp with h | h
    · exact h3 k hk h
    · have := (hK.own _ _ _ h1 k hk).2; omega
  · rw [updZ_ne (by decide)]; exact fun v hv => (h4 v hv).right k2 k3
  · rw [updZ_eq]
    intro v' hv'
    injection hv' with hv'
    subst hv'
    exact ⟨_, ho, fun g hg => ⟨fun hp => by have := (hK.own _ _ _ h1 g hp).2; have := (ho.lt g hg).1; omega, hv g hg⟩⟩
  · rw [updZ_ne (by decide), updZ_ne (by decide), updZ_ne (by decide)]; exact h6
  · rw [updZ_ne (by decide), updZ_ne (by decide)]; exact h7
theorem JZ.same (hK : BKit u G TA) (hK' : BKit u G' TB) (h : JZ u TA TB L L1 c w) {x y : Value} (h15 : c 15 = some x) (h17 : c 17 = some y) (hl1 : L1.length ≤ 16) :
    Calls Try.prog 10 #[x, y] w fun e w' => e = .returned (.bool true) ∧ JZ u TA TB L L1 (ord.updZ c 18 (.bool true)) w' := by
  have hj := h
  obtain ⟨⟨O, P, h1, h2, h3, h4, h5⟩, h6, h7⟩ := h
  obtain ⟨b, o1, _⟩ := h4 _ h15
  obtain ⟨b', o2, _⟩ := h5 _ h17
  obtain ⟨A, cc, rfl, l1⟩ := o1.slice
  obtain ⟨A', cc', rfl, l2⟩ := o2.slice
  have hl : L1.length ≤ 140737488355328 := by omega
  refine (rsame16_any A cc L1 A' cc' L1 w l1 l2 hl hl).mono ?_
  rintro e w' ⟨he, hb⟩
  rw [decide_eq_true rfl] at he
  exact ⟨he, (hj.below hK hK' hb).keep (by decide) _⟩
end
end Go.Proofs.Ytbcanfhjdllaoaa
