/- Layer 17: the code's ledger (as LgKit says) beside the document's, and blocks that are kept; all apart. -/
import Derived.Test.YtlglkfgephilnaaLedK
import Derived.Test.YtlglkfgephilnaaRef17V
namespace Go.Proofs.Ytlglkfgephilnaa
set_option maxRecDepth 100000
open Go.RowKit
theorem RLg.chgS {u w w' : World} {G : Nat} {L : List Po} {v : Value} {T : Nat → Prop} (h : RLg u G w L v) (hc : ChgS T w w') (hT : ∀ k, T k → u.heap.size ≤ k ∧ ¬ (k = G ∨ v.ownBlock = some k)) : RLg u G w' L v := by
  have hG := block_lt (a := ⟨G, 0, none⟩) h.cell
  have hn : ¬ T G := fun e => (hT G e).2 (Or.inl rfl)
  refine ⟨h.bel.trans (hc.below h.bel.size fun k hk => (hT k hk).1), h.uX, (hc.cell hG hn).trans h.cell, (World.frozen?_of_block (hc.block G hG hn)).trans h.froz, ?_, h.ne, h.ok⟩
  rcases h.own with ⟨h1, h2 | ⟨g, cap, cur, e, hg, hh, r⟩⟩
  · exact ⟨h1, Or.inl h2⟩
  · exact ⟨h1, Or.inr ⟨g, cap, cur, e, hg, (hc.block g (Array.getElem?_eq_some_iff.1 hh).1 fun e2 => (hT g e2).2 (Or.inr (by rw [e]; rfl))).trans hh, r⟩⟩
/-- the code's ledger with the posts L, the document's with M, blocks S that are as they were in w0; all apart -/
def TwoG (u : World) (LA : World → List Po → (Nat → Prop) → Prop) (X : Nat) (S : Nat → Prop) (w0 w : World) (L M : List Po) : Prop :=
  ∃ O v, LA w L O ∧ RLg u X w M v ∧ (¬ O X ∧ ∀ g, v.ownBlock = some g → ¬ O g) ∧ ∀ k, S k → (¬ O k ∧ k ≠ X ∧ v.ownBlock ≠ some k) ∧ k < w.heap.size ∧ w.heap[k]? = w0.heap[k]?
section
variable {u w w' w0 : World} {G X : Nat} {LA : World → List Po → (Nat → Prop) → Prop} {S T : Nat → Prop} {L M L1 : List Po} {f : FuncId} {args : Array Value} {r : Value}
theorem TwoG.bel (h : TwoG u LA X S w0 w L M) : Below u.heap.size u w := by
  obtain ⟨_, _, _, h2, _⟩ := h
  exact h2.bel
theorem TwoG.ok (hK : LgKit u G LA) (h : TwoG u LA X S w0 w L M) : LgOk L := by
  obtain ⟨_, _, h1, _⟩ := h
  exact hK.ok _ _ _ h1
theorem TwoG.held (h : TwoG u LA X S w0 w L M) {k : Nat} (hk : S k) : w.heap[k]? = w0.heap[k]? := by
  obtain ⟨_, _, _, _, _, h4⟩ := h
  exact (h4 k hk).2.2
theorem TwoG.free (h : TwoG u LA X S w0 w L M) (w1 : World) : TwoG u LA X (fun _ => False) w1 w L M := by
  obtain ⟨O, v, h1, h2, h3, h4⟩ := h
  exact ⟨O, v, h1, h2, h3, fun k hk => absurd hk id⟩
theorem TwoG.below (hK : LgKit u G LA) (h : TwoG u LA X S w0 w L M) (hb : Below w.heap.size w w') : TwoG u LA X S w0 w' L M := by
  obtain ⟨O, v, h1, h2, h3, h4⟩ := h
  exact ⟨O, v, hK.below h1 hb, h2.keep hb, h3, fun k hk => ⟨(h4 k hk).1, Nat.lt_of_lt_of_le (h4 k hk).2.1 hb.size, (hb.block k (h4 k hk).2.1).trans (h4 k hk).2.2⟩⟩
/-- new blocks kept besides -/
theorem TwoG.more (hK : LgKit u G LA) (h : TwoG u LA X S w0 w L M) (hb : Below w.heap.size w w') (hT : ∀ k, T k → w.heap.size ≤ k ∧ k < w'.heap.size) : TwoG u LA X (fun k => S k ∨ T k) w' w' L M := by
  obtain ⟨O, v, h1, h2, h3, h4⟩ := h
  refine ⟨O, v, hK.below h1 hb, h2.keep hb, h3, fun k hk => ?_⟩
  rcases hk with hk | hk
  · exact ⟨(h4 k hk).1, Nat.lt_of_lt_of_le (h4 k hk).2.1 hb.size, rfl⟩
  · have hl := hT k hk
    refine ⟨⟨fun ho => ?_, fun e => ?_, fun e => ?_⟩, hl.2, rfl⟩
    · have := (hK.own _ _ _ h1 k ho).2; omega
    · have : X < w.heap.size := block_lt (a := ⟨X, 0, none⟩) h2.cell
      omega
    · have := (h2.own.lt k e).2; omega
/-- what a call of the code's ledger leaves -/
theorem TwoG.leftS {O1 : Nat → Prop} (hK : LgKit u G LA) {O : Nat → Prop} {v : Value} (h1 : LA w L O) (h2 : RLg u X w M v) (h3 : ¬ O X ∧ ∀ g, v.ownBlock = some g → ¬ O g) (h4 : ∀ k, S k → (¬ O k ∧ k ≠ X ∧ v.ownBlock ≠ some k) ∧ k < w.heap.size ∧ w.heap[k]? = w0.heap[k]?)
    (k1 : LA w' L1 O1) (k2 : ChgS O w w') (k3 : ∀ k, O1 k → O k ∨ w.heap.size ≤ k) : RLg u X w' M v ∧ (¬ O1 X ∧ ∀ g, v.ownBlock = some g → ¬ O1 g) ∧ ∀ k, S k → (¬ O1 k ∧ k ≠ X ∧ v.ownBlock ≠ some k) ∧ k < w'.heap.size ∧ w'.heap[k]? = w0.heap[k]? := by
  have _ := k1
  have hX : X < w.heap.size := block_lt (a := ⟨X, 0, none⟩) h2.cell
  refine ⟨h2.chgS k2 fun k hk => ⟨(hK.own _ _ _ h1 k hk).1, fun e => ?_⟩, ⟨fun e => ?_, fun g hg e => ?_⟩, fun k hk => ⟨⟨fun e => ?_, (h4 k hk).1.2⟩, Nat.lt_of_lt_of_le (h4 k hk).2.1 k2.size, (k2.block k (h4 k hk).2.1 (h4 k hk).1.1).trans (h4 k hk).2.2⟩⟩
  · rcases e with rfl | e
    · exact h3.1 hk
    · exact h3.2 k e hk
  · rcases k3 X e with e | e
    · exact h3.1 e
    · omega
  · rcases k3 g e with e | e
    · exact h3.2 g hg e
    · have := (h2.own.lt g hg).2; omega
  · rcases k3 k e with e | e
    · exact (h4 k hk).1.1 e
    · have := (h4 k hk).2.1; omega
theorem TwoG.left (hK : LgKit u G LA) (h : TwoG u LA X S w0 w L M) (hc : ∀ O, LA w L O → Calls Try.prog f args w fun e w' => e = .returned r ∧ LgStep LA w O w' L1) :
    Calls Try.prog f args w fun e w' => e = .returned r ∧ TwoG u LA X S w0 w' L1 M := by
  obtain ⟨O, v, h1, h2, h3, h4⟩ := h
  refine (hc O h1).mono ?_
  rintro e w' ⟨he, O1, k1, k2, k3⟩
  obtain ⟨a1, a2, a3⟩ := TwoG.leftS hK h1 h2 h3 h4 k1 k2 k3
  exact ⟨he, O1, v, k1, a1, a2, a3⟩
/-- a call of the document's ledger -/
theorem TwoG.right (hK : LgKit u G LA) (h : TwoG u LA X S w0 w L M) (hc : ∀ v, RLg u X w M v → Calls Try.prog f args w fun e w' => e = .returned r ∧ LkS u X w v w' L1) :
    Calls Try.prog f args w fun e w' => e = .returned r ∧ TwoG u LA X S w0 w' L L1 := by
  obtain ⟨O, v, h1, h2, h3, h4⟩ := h
  refine (hc v h2).mono ?_
  rintro e w' ⟨he, v1, k1, k2, k3⟩
  refine ⟨he, O, v1, hK.keep _ _ _ _ _ h1 k2 fun k hk => ?_, k1, ⟨h3.1, fun g hg e => ?_⟩, fun k hk => ⟨⟨(h4 k hk).1.1, (h4 k hk).1.2.1, fun e => ?_⟩, Nat.lt_of_lt_of_le (h4 k hk).2.1 k2.size, (k2.block k (h4 k hk).2.1 fun e => ?_).trans (h4 k hk).2.2⟩⟩
  · rcases hk with rfl | hk
    · exact ⟨h2.uX, h3.1⟩
    · exact ⟨(h2.own.lt k hk).1, h3.2 k hk⟩
  · rcases k3 g hg with e1 | e1
    · exact h3.2 g e1 e
    · have := (hK.own _ _ _ h1 g e).2; omega
  · rcases k3 k e with e1 | e1
    · exact (h4 k hk).1.2.2 e1
    · have := (h4 k hk).2.1; omega
  · rcases e with rfl | e
    · exact (h4 _ hk).1.2.1 rfl
    · exact (h4 k hk).1.2.2 e
/-- a call of the document's ledger that only makes new memory -/
theorem TwoG.right0 (hK : LgKit u G LA) (h : TwoG u LA X S w0 w L M) (hc : ∀ v, RLg u X w M v → Calls Try.prog f args w fun e w' => e = .returned r ∧ Below w.heap.size w w') :
    Calls Try.prog f args w fun e w' => e = .returned r ∧ TwoG u LA X S w0 w' L M :=
  h.right hK fun v hv => (hc v hv).mono fun _ _ ⟨he, hb⟩ => ⟨he, LkS.same hv hb⟩
/-- its list: a row apart from both and from what is kept -/
theorem TwoG.list (hK : LgKit u G LA) (h : TwoG u LA X S w0 w L M) : Calls Try.prog 25 #[.pointer (some ⟨G, 0, none⟩)] w fun e w' => ∃ y, e = .returned y ∧ OwL poE 31 w' w.heap.size y L ∧ TwoG u LA X (fun k => S k ∨ y.ownBlock = some k) w' w' L M := by
  obtain ⟨O, v, h1, h2, h3, h4⟩ := h
  refine (hK.list w L O h1).mono ?_
  rintro e w' ⟨y, O1, he, ho, hv, k1, k2, k3⟩
  obtain ⟨a1, a2, a3⟩ := TwoG.leftS hK h1 h2 h3 h4 k1 k2 k3
  have hX : X < w.heap.size := block_lt (a := ⟨X, 0, none⟩) h2.cell
  refine ⟨y, he, ho, O1, v, k1, a1, a2, fun k hk => ?_⟩
  rcases hk with hk | hk
  · exact ⟨(a3 k hk).1, (a3 k hk).2.1, rfl⟩
  · have hl := ho.lt k hk
    refine ⟨⟨hv k hk, fun e => by omega, fun e => ?_⟩, hl.2, rfl⟩
    have := (h2.own.lt k e).2; omega
/-- the document's posts, in memory -/
theorem TwoG.ref (h : TwoG u LA X S w0 w L M) : ∃ A c, w.cell? ⟨X, 0, none⟩ = some (.slice A M.length c) ∧ LiS poE w A M := by
  obtain ⟨_, v, _, h2, _⟩ := h
  obtain ⟨A, c, rfl, hl⟩ := h2.own.slice
  exact ⟨A, c, h2.cell, hl⟩
/-- blocks that are kept, changed -/
theorem TwoG.chg (hK : LgKit u G LA) (h : TwoG u LA X S w0 w L M) (hc : ChgS T w w') (hT : ∀ k, T k → S k ∧ u.heap.size ≤ k) : TwoG u LA X S w' w' L M := by
  obtain ⟨O, v, h1, h2, h3, h4⟩ := h
  refine ⟨O, v, hK.keep _ _ _ _ _ h1 hc fun k hk => ⟨(hT k hk).2, (h4 k (hT k hk).1).1.1⟩, h2.chgS hc fun k hk => ⟨(hT k hk).2, fun e => ?_⟩, h3, fun k hk => ⟨(h4 k hk).1, Nat.lt_of_lt_of_le (h4 k hk).2.1 hc.size, rfl⟩⟩
  rcases e with rfl | e
  · exact (h4 _ (hT _ hk).1).1.2.1 rfl
  · exact (h4 k (hT k hk).1).1.2.2 e
/-- two ledgers that were just made -/
theorem TwoG.new {O : Nat → Prop} {v : Value} (hK : LgKit u G LA) (h1 : LA w L O) (hb : Below w.heap.size w w') (h2 : RLg u X w' M v) (hX : ∀ k, (k = X ∨ v.ownBlock = some k) → w.heap.size ≤ k) : TwoG u LA X (fun _ => False) w' w' L M := by
  refine ⟨O, v, hK.below h1 hb, h2, ⟨fun e => ?_, fun g hg e => ?_⟩, fun _ hk => absurd hk id⟩
  · have := (hK.own _ _ _ h1 X e).2
    have := hX X (Or.inl rfl)
    omega
  · have := (hK.own _ _ _ h1 g e).2
    have := hX g (Or.inr hg)
    omega
end
end Go.Proofs.Ytlglkfgephilnaa
