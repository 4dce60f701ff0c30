/- Layer 15, the code's table as laws use it. -/
import Derived.Test.YtcohkhjfncknpaaRouD
import Derived.Test.YtcohkhjfncknpaaRouG
import Derived.Test.YtcohkhjfncknpaaRouH
namespace Go.Proofs.Ytcohkhjfncknpaa
open Go.RowKit
theorem tkit (u : World) (G B : Nat) : TKit u G (TblA u G B) where
  bel := fun _ _ _ h => h.bel
  own := fun w L O h k hk => by
    rcases (h.own k).1 hk with rfl | rfl
    · exact ⟨h.uG, h.lG⟩
    · exact ⟨h.uB, h.mp.lt⟩
  ok := fun _ _ _ h => h.ok
  keep := fun _ _ _ _ _ h hc hT => h.keep hc hT
  put := fun w L O p t h hp => by
    cases hk : puK p t with
    | false => exact cput_arg h p t hp hk
    | true =>
      cases ha : (atR L p).isSome with
      | true => exact cput_ok h p t hp hk (Or.inl ha)
      | false =>
        by_cases hf : 24 ≤ L.length
        · exact cput_full h p t hp hk ha hf
        · exact cput_ok h p t hp hk (Or.inr (by omega))
  drop := fun _ _ _ p h hp => cdrop_any h p hp
  find := fun _ _ _ s h hs => cfind_any h s hs
  list := fun _ _ _ h => clist_any h
/-- what New does -/
theorem tnew : NewT := fun u w _ hb =>
  (new15_any u w hb).mono fun e w' ⟨G, B, he, ht, ⟨h1, h2⟩, hbw⟩ => ⟨G, TblA u G B, _, he, tkit u G B, ht, fun k hk => by rcases hk with rfl | rfl; exact h1; exact h2, hbw⟩
end Go.Proofs.Ytcohkhjfncknpaa
