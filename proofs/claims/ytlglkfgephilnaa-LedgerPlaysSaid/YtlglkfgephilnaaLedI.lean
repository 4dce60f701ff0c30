/- Layer 17, the code's ledger as laws use it. -/
import Derived.Test.YtlglkfgephilnaaLedR
namespace Go.Proofs.Ytlglkfgephilnaa
set_option maxRecDepth 100000
open Go.RowKit
/-- the code's ledger in block G, its map in block B, of the blocks O -/
def TLg (u : World) (G B : Nat) (w : World) (L : List Po) (O : Nat → Prop) : Prop := ∃ v, LgA u G B w L v ∧ ∀ k, O k ↔ (k = G ∨ k = B ∨ v.ownBlock = some k)
theorem TLg.step {u w w' : World} {G B : Nat} {L' : List Po} {O : Nat → Prop} {v : Value} (hO : ∀ k, O k ↔ (k = G ∨ k = B ∨ v.ownBlock = some k)) (h : LkA u G B w v w' L') : LgStep (TLg u G B) w O w' L' := by
  obtain ⟨v', h1, h2, h3⟩ := h
  refine ⟨fun k => k = G ∨ k = B ∨ v'.ownBlock = some k, ⟨v', h1, fun k => Iff.rfl⟩, chgS_wide17 h2 fun k hk => (hO k).2 hk, fun k hk => ?_⟩
  rcases hk with rfl | rfl | hk
  · exact Or.inl ((hO k).2 (Or.inl rfl))
  · exact Or.inl ((hO k).2 (Or.inr (Or.inl rfl)))
  · rcases h3 k hk with h | h
    · exact Or.inl ((hO k).2 (Or.inr (Or.inr h)))
    · exact Or.inr h
theorem LgA.chgS {u w w' : World} {G B : Nat} {L : List Po} {v : Value} {T : Nat → Prop} (h : LgA u G B w L v) (hc : ChgS T w w') (hT : ∀ k, T k → u.heap.size ≤ k ∧ ¬ (k = G ∨ k = B ∨ v.ownBlock = some k)) : LgA u G B w' L v := by
  have hG := block_lt (a := ⟨G, 0, none⟩) h.r.cell
  refine ⟨h.r.chgS hc fun k hk => ⟨(hT k hk).1, fun e => (hT k hk).2 (e.elim Or.inl fun e => Or.inr (Or.inr e))⟩, h.uB, (hc.cell hG fun e => (hT G e).2 (Or.inl rfl)).trans h.cel1, h.mp.block (hc.block B h.mp.lt fun e => (hT B e).2 (Or.inr (Or.inl rfl))), h.neB, h.neV, h.tot⟩
theorem TLg.lt {u w : World} {G B : Nat} {L : List Po} {O : Nat → Prop} (h : TLg u G B w L O) : ∀ k, O k → u.heap.size ≤ k ∧ k < w.heap.size := by
  obtain ⟨v, h, hO⟩ := h
  intro k hk
  rcases (hO k).1 hk with rfl | rfl | hk
  · exact ⟨h.r.uX, block_lt (a := ⟨k, 0, none⟩) h.r.cell⟩
  · exact ⟨h.uB, h.mp.lt⟩
  · exact h.r.own.lt k hk
theorem lgkit (u : World) (G B : Nat) : LgKit u G (TLg u G B) where
  bel := fun _ _ _ ⟨_, h, _⟩ => h.r.bel
  own := fun w L O h k hk => h.lt k hk
  ok := fun _ _ _ ⟨_, h, _⟩ => h.ok
  keep := fun w w' L O T ⟨v, h, hO⟩ hc hT => ⟨v, h.chgS hc fun k hk => ⟨(hT k hk).1, fun e => (hT k hk).2 ((hO k).2 e)⟩, hO⟩
  approve := fun w L O k a t ⟨v, h, hO⟩ _ _ => (capp17_any u G B L v k a t w h).mono fun e w' ⟨h1, h2⟩ => ⟨h1, TLg.step hO h2⟩
  reverse := fun w L O k ⟨v, h, hO⟩ hk => (crev17_any u G B L v k w h hk).mono fun e w' ⟨h1, h2⟩ => ⟨h1, TLg.step hO h2⟩
  ask := fun w L O k ⟨v, h, hO⟩ hk => (cask17_any u G B L v k w h hk).mono fun e w' ⟨h1, h2⟩ => ⟨h1, TLg.step hO (LkA.same h h2)⟩
  close := fun w L O ⟨v, h, hO⟩ => (cclose17_any u G B L v w h).mono fun e w' ⟨h1, h2⟩ => ⟨h1, TLg.step hO h2⟩
  total := fun w L O ⟨v, h, hO⟩ => (ctotal17_any u G L v w h.r).mono fun e w' ⟨h1, h2⟩ => ⟨h1, TLg.step hO (LkA.same h h2)⟩
  list := fun w L O ⟨v, h, hO⟩ => (clist17_any u G L v w h.r).mono fun e w' ⟨v', h1, h2, hb⟩ => ⟨v', O, h1, h2, fun g hg hO2 => by
    have h3 := (h2.lt g hg).1
    have h4 := (TLg.lt ⟨v, h, hO⟩ g hO2).2
    omega, ⟨v, h.keep hb, hO⟩, ChgS.of_below hb, fun _ hk => Or.inl hk⟩
theorem lgnew : LgNew := fun u w hb => (cnew17_any u w hb).mono fun e w' ⟨G, B, h1, h2, ⟨h3, h4⟩, h5⟩ => ⟨G, TLg u G B, fun k => k = G ∨ k = B ∨ (Value.slice none 0 0).ownBlock = some k, h1, lgkit u G B, ⟨_, h2, fun _ => Iff.rfl⟩, (fun k hk => by
    rcases hk with rfl | rfl | hk
    · exact h3
    · exact h4
    · cases hk), h5⟩
theorem lgres : LgRes where
  good := fun u w A c F hb hF hok => (cres17_any u A c F w hb hF (by have := hok.few; omega)).mono fun e w' ⟨h1, h2⟩ => by
    rcases h2 with ⟨_, G, B, v, h3, h4, h5⟩ | ⟨h3, _⟩
    · exact ⟨G, TLg u G B, fun k => k = G ∨ k = B ∨ v.ownBlock = some k, h3, lgkit u G B, ⟨v, h4, fun _ => Iff.rfl⟩, h5, h1⟩
    · exact absurd hok h3
  bad := fun w A c F hF hl _ hok => (cres17_any w A c F w (Below.refl _ _) hF hl).mono fun e w' ⟨h1, h2⟩ => by
    rcases h2 with ⟨h3, _⟩ | ⟨_, h3⟩
    · exact absurd h3 hok
    · exact ⟨h3, h1⟩
end Go.Proofs.Ytlglkfgephilnaa
