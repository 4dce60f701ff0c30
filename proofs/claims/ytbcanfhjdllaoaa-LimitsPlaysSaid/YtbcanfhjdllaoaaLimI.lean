/- Layer 16, the code's book as laws use it. -/
import Derived.Test.YtbcanfhjdllaoaaLimV
import Derived.Test.YtbcanfhjdllaoaaLimL
import Derived.Test.YtbcanfhjdllaoaaLimR
namespace Go.Proofs.Ytbcanfhjdllaoaa
set_option maxRecDepth 100000
open Go.RowKit
theorem RBk.chgS {u w w' : World} {G : Nat} {L : List Us} {v : Value} {T : Nat → Prop} (h : RBk u G w L v) (hc : ChgS T w w') (hT : ∀ k, T k → u.heap.size ≤ k ∧ ¬ (k = G ∨ v.ownBlock = some k)) : RBk u G w' L v := by
  have hG := block_lt (a := ⟨G, 0, none⟩) h.cell
  have hn : ¬ T G := fun e => (hT G e).2 (Or.inl rfl)
  refine ⟨h.bel.trans (hc.below h.bel.size fun k hk => (hT k hk).1), h.uX, (hc.cell hG hn).trans h.cell, (World.frozen?_of_block (hc.block G hG hn)).trans h.froz, ?_, h.ne, h.ok⟩
  rcases h.own with ⟨h1, h2 | ⟨g, cap, cur, e, hg, hh, r⟩⟩
  · exact ⟨h1, Or.inl h2⟩
  · exact ⟨h1, Or.inr ⟨g, cap, cur, e, hg, (hc.block g (Array.getElem?_eq_some_iff.1 hh).1 fun e2 => (hT g e2).2 (Or.inr (by rw [e]; rfl))).trans hh, r⟩⟩
theorem bkit (u : World) (G : Nat) : BKit u G (TAc u G) where
  bel := fun _ _ _ ⟨_, h, _⟩ => h.bel
  own := fun w L O ⟨v, h, hO⟩ k hk => by
    rcases (hO k).1 hk with rfl | hk
    · exact ⟨h.uX, block_lt (a := ⟨k, 0, none⟩) h.cell⟩
    · exact h.own.lt k hk
  ok := fun _ _ _ ⟨_, h, _⟩ => h.ok
  keep := fun w w' L O T ⟨v, h, hO⟩ hc hT => ⟨v, h.chgS hc fun k hk => ⟨(hT k hk).1, fun e => (hT k hk).2 ((hO k).2 e)⟩, hO⟩
  try_ := fun w L O k t s o c a n ⟨v, h, hO⟩ _ => by
    cases hm : myK ⟨k, t, s, o⟩ c a n with
    | true => exact (ctry16_good u G L v k t s o c a n w h (my_iff.1 hm)).mono fun e w' ⟨h1, h2⟩ => ⟨h1, TAc.step hO h2⟩
    | false => exact (ctry16_bad u G L v k t s o c a n w h hm).mono fun e w' ⟨h1, h2⟩ => ⟨h1, TAc.step hO h2⟩
  undo := fun w L O k t s o c a n ⟨v, h, hO⟩ _ => by
    cases hm : myK ⟨k, t, s, o⟩ c a n with
    | true => exact (cundo16_good u G L v k t s o c a n w h (my_iff.1 hm)).mono fun e w' ⟨h1, h2⟩ => ⟨h1, TAc.step hO h2⟩
    | false => exact (cundo16_bad u G L v k t s o c a n w h hm).mono fun e w' ⟨h1, h2⟩ => ⟨h1, TAc.step hO h2⟩
  list := fun w L O ⟨v, h, hO⟩ => (clist16_any u G L v w h).mono fun e w' ⟨v', h1, h2, hb⟩ => ⟨v', O, h1, h2, fun g hg hO2 => by
    have h3 := (h2.lt g hg).1
    rcases (hO g).1 hO2 with rfl | hk
    · have := block_lt (a := ⟨g, 0, none⟩) h.cell
      simp only at this
      omega
    · have := (h.own.lt g hk).2
      omega, ⟨v, h.keep hb, hO⟩, ChgS.of_below hb, fun _ hk => Or.inl hk⟩
theorem limok : LimOk where
  new := fun u w _ hb => (cnew16_any u w hb).mono fun e w' ⟨G, h1, h2, h3, h4⟩ => ⟨G, TAc u G, fun k => k = G ∨ (Value.slice none 0 0).ownBlock = some k, h1, bkit u G, ⟨_, h2, fun _ => Iff.rfl⟩, (fun k hk => hk.elim (fun e => e ▸ h3) (fun e => (by cases e))), h4⟩
  right := fun w k t s o _ => cright_any k t s o w
theorem resok : ResOk where
  good := fun u w A c F _ hb hF hok => (cres16_any u A c F w hb hF (by have := hok.few; omega)).mono fun e w' ⟨h1, h2⟩ => by
    rcases h2 with ⟨_, G, v, h3, h4, h5⟩ | ⟨h3, _⟩
    · exact ⟨G, TAc u G, fun k => k = G ∨ v.ownBlock = some k, h3, bkit u G, ⟨v, h4, fun _ => Iff.rfl⟩, h5, h1⟩
    · exact absurd hok h3
  bad := fun w A c F _ hF hl _ hok => (cres16_any w A c F w (Below.refl _ _) hF hl).mono fun e w' ⟨h1, h2⟩ => by
    rcases h2 with ⟨h3, _⟩ | ⟨_, h3⟩
    · exact absurd h3 hok
    · exact ⟨h3, h1⟩
end Go.Proofs.Ytbcanfhjdllaoaa
