/- Layer 16: the code's book beside the document's. -/
import Derived.Test.YtbcanfhjdllaoaaLimI
import Derived.Test.YtbcanfhjdllaoaaRef16T
import Derived.Test.YtbcanfhjdllaoaaRef16U
import Derived.Test.YtbcanfhjdllaoaaRef16V
import Derived.Test.YtbcanfhjdllaoaaRef16S
import Derived.Test.YtbcanfhjdllaoaaPrm16
namespace Go.Proofs.Ytbcanfhjdllaoaa
set_option maxRecDepth 100000
open Go.RowKit
/-- the code's book with the uses L, the document's with M, blocks S besides; all apart -/
def TwoS (u : World) (G X : Nat) (S : Nat → Prop) (w : World) (L M : List Us) : Prop :=
  ∃ v v', RBk u G w L v ∧ RBk u X w M v' ∧ G ≠ X ∧ v.ownBlock ≠ some X ∧ v'.ownBlock ≠ some G ∧ (∀ g, v.ownBlock = some g → v'.ownBlock ≠ some g) ∧ ∀ k, S k → (u.heap.size ≤ k ∧ k < w.heap.size) ∧ k ≠ G ∧ k ≠ X ∧ v.ownBlock ≠ some k ∧ v'.ownBlock ≠ some k
section
variable {u w w' : World} {G X : Nat} {S T : Nat → Prop} {L M L1 : List Us} {f : FuncId} {args : Array Value} {r : Value}
theorem TwoS.swap (h : TwoS u G X S w L M) : TwoS u X G S w M L := by
  obtain ⟨v, v', h1, h2, h3, h4, h5, h6, h7⟩ := h
  exact ⟨v', v, h2, h1, h3.symm, h5, h4, fun g hg e => h6 g e hg, fun k hk => ⟨(h7 k hk).1, (h7 k hk).2.2.1, (h7 k hk).2.1, (h7 k hk).2.2.2.2, (h7 k hk).2.2.2.1⟩⟩
theorem TwoS.bel (h : TwoS u G X S w L M) : Below u.heap.size u w := by
  obtain ⟨v, v', h1, _⟩ := h
  exact h1.bel
theorem TwoS.below (h : TwoS u G X S w L M) (hb : Below w.heap.size w w') : TwoS u G X S w' L M := by
  obtain ⟨v, v', h1, h2, h3, h4, h5, h6, h7⟩ := h
  exact ⟨v, v', h1.keep hb, h2.keep hb, h3, h4, h5, h6, fun k hk => ⟨⟨(h7 k hk).1.1, Nat.lt_of_lt_of_le (h7 k hk).1.2 hb.size⟩, (h7 k hk).2⟩⟩
theorem TwoS.less (h : TwoS u G X S w L M) (hT : ∀ k, T k → S k) : TwoS u G X T w L M := by
  obtain ⟨v, v', h1, h2, h3, h4, h5, h6, h7⟩ := h
  exact ⟨v, v', h1, h2, h3, h4, h5, h6, fun k hk => h7 k (hT k hk)⟩
/-- new blocks set apart -/
theorem TwoS.more (h : TwoS u G X S w L M) (hb : Below w.heap.size w w') (hT : ∀ k, T k → w.heap.size ≤ k ∧ k < w'.heap.size) : TwoS u G X (fun k => S k ∨ T k) w' L M := by
  have hh := h.below hb
  obtain ⟨v, v', h1, h2, h3, h4, h5, h6, h7⟩ := hh
  obtain ⟨a, a', k1, k2, _⟩ := h
  refine ⟨v, v', h1, h2, h3, h4, h5, h6, fun k hk => ?_⟩
  rcases hk with hk | hk
  · exact h7 k hk
  · have hl := hT k hk
    have e1 : v = a := by
      have := (hb.cell (p := ⟨G, 0, none⟩) (block_lt k1.cell)).trans k1.cell
      rw [h1.cell] at this
      exact Option.some.inj this
    have e2 : v' = a' := by
      have := (hb.cell (p := ⟨X, 0, none⟩) (block_lt k2.cell)).trans k2.cell
      rw [h2.cell] at this
      exact Option.some.inj this
    have g1 : G < w.heap.size := block_lt (a := ⟨G, 0, none⟩) k1.cell
    have g2 : X < w.heap.size := block_lt (a := ⟨X, 0, none⟩) k2.cell
    have g3 := k1.bel.size
    refine ⟨⟨by omega, hl.2⟩, by omega, by omega, fun e => ?_, fun e => ?_⟩
    · have := (k1.own.lt k (e1 ▸ e)).2
      omega
    · have := (k2.own.lt k (e2 ▸ e)).2
      omega
/-- blocks apart are changed -/
theorem TwoS.chg (h : TwoS u G X S w L M) (hc : ChgS T w w') (hT : ∀ k, T k → S k) : TwoS u G X S w' L M := by
  obtain ⟨v, v', h1, h2, h3, h4, h5, h6, h7⟩ := h
  refine ⟨v, v', h1.chgS hc fun k hk => ⟨(h7 k (hT k hk)).1.1, fun e => ?_⟩, h2.chgS hc fun k hk => ⟨(h7 k (hT k hk)).1.1, fun e => ?_⟩, h3, h4, h5, h6, fun k hk => ⟨⟨(h7 k hk).1.1, Nat.lt_of_lt_of_le (h7 k hk).1.2 hc.size⟩, (h7 k hk).2⟩⟩
  · rcases e with rfl | e
    · exact (h7 k (hT k hk)).2.1 rfl
    · exact (h7 k (hT k hk)).2.2.2.1 e
  · rcases e with rfl | e
    · exact (h7 k (hT k hk)).2.2.1 rfl
    · exact (h7 k (hT k hk)).2.2.2.2 e
/-- a call of the first one -/
theorem TwoS.left (h : TwoS u G X S w L M) (hc : ∀ v, RBk u G w L v → Calls Try.prog f args w fun e w' => e = .returned r ∧ RkS u G w v w' L1) :
    Calls Try.prog f args w fun e w' => e = .returned r ∧ TwoS u G X S w' L1 M ∧ ∀ k, S k → w'.heap[k]? = w.heap[k]? := by
  obtain ⟨v, v', h1, h2, h3, h4, h5, h6, h7⟩ := h
  refine (hc v h1).mono ?_
  rintro e w' ⟨he, v1, k1, k2, k3⟩
  have g2 : X < w.heap.size := block_lt (a := ⟨X, 0, none⟩) h2.cell
  refine ⟨he, ⟨v1, v', k1, h2.chgS k2 fun k hk => ?_, h3, fun e => ?_, h5, fun g hg e => ?_, fun k hk => ⟨⟨(h7 k hk).1.1, Nat.lt_of_lt_of_le (h7 k hk).1.2 k2.size⟩, (h7 k hk).2.1, (h7 k hk).2.2.1, fun e => ?_, (h7 k hk).2.2.2.2⟩⟩, fun k hk => k2.block k (h7 k hk).1.2 fun e => ?_⟩
  · rcases hk with rfl | hk
    · exact ⟨h1.uX, fun e => e.elim h3 h5⟩
    · exact ⟨(h1.own.lt k hk).1, fun e => e.elim (fun e => h4 (e ▸ hk)) (h6 k hk)⟩
  · rcases k3 X e with e | e
    · exact h4 e
    · omega
  · rcases k3 g hg with e1 | e1
    · exact h6 g e1 e
    · have := (h2.own.lt g e).2
      omega
  · rcases k3 k e with e1 | e1
    · exact (h7 k hk).2.2.2.1 e1
    · have := (h7 k hk).1.2
      omega
  · rcases e with rfl | e
    · exact (h7 k hk).2.1 rfl
    · exact (h7 k hk).2.2.2.1 e
theorem TwoS.right (h : TwoS u G X S w M L) (hc : ∀ v, RBk u X w L v → Calls Try.prog f args w fun e w' => e = .returned r ∧ RkS u X w v w' L1) :
    Calls Try.prog f args w fun e w' => e = .returned r ∧ TwoS u G X S w' M L1 ∧ ∀ k, S k → w'.heap[k]? = w.heap[k]? :=
  (h.swap.left hc).mono fun _ _ ⟨h1, h2, h3⟩ => ⟨h1, h2.swap, h3⟩
/-- two books that were just made -/
theorem TwoS.new {v v' : Value} (h1 : RBk u G w L v) (hb : Below w.heap.size w w') (h2 : RBk u X w' M v') (hX : ∀ k, (k = X ∨ v'.ownBlock = some k) → w.heap.size ≤ k) : TwoS u G X (fun _ => False) w' L M := by
  have g1 : G < w.heap.size := block_lt (a := ⟨G, 0, none⟩) h1.cell
  refine ⟨v, v', h1.keep hb, h2, fun e => ?_, fun e => ?_, fun e => ?_, fun g hg e => ?_, fun _ hk => absurd hk id⟩
  · have := hX X (Or.inl rfl)
    omega
  · have := hX X (Or.inl rfl)
    have := (h1.own.lt X e).2
    omega
  · have := hX G (Or.inr e)
    omega
  · have := hX g (Or.inr e)
    have := (h1.own.lt g hg).2
    omega
end
theorem do16c {u w : World} {G : Nat} {L : List Us} {v : Value} (h : RBk u G w L v) (x : Ac) (hc : x.c.size ≤ maxLen) :
    Calls Try.prog 14 #[.pointer (some ⟨G, 0, none⟩), acV x] w fun e w' => e = .returned (.int .i64 (doE L x)) ∧ RkS u G w v w' (doN L x) :=
  (do16_any (bkit u G) (O := fun k => k = G ∨ v.ownBlock = some k) ⟨v, h, fun _ => Iff.rfl⟩ x hc).mono fun e w' ⟨h1, O', ⟨v', k1, k2⟩, k3, k4⟩ => ⟨h1, v', k1, k3, fun g hg => by
    rcases k4 g ((k2 g).2 (Or.inr hg)) with (e | e) | e
    · exact absurd e (k1.ne g hg)
    · exact Or.inl e
    · exact Or.inr e⟩
theorem rtry16_any (u : World) (X : Nat) (L : List Us) (v : Value) (r : Rl) (c : ByteArray) (a t : Int) (w : World) (h : RBk u X w L v) :
    Calls Try.prog 16 #[.pointer (some ⟨X, 0, none⟩), ruV r, .string c, .int .i64 a, .int .i64 t] w fun e w' => e = .returned (.int .i64 (trE L r c a t)) ∧ RkS u X w v w' (trN L r c a t) := by
  cases hm : myK r c a t with
  | true => exact rtry16_good u X L v r.k r.t r.s r.o c a t w h (my_iff.1 hm)
  | false => exact rtry16_bad u X L v r c a t w h hm
theorem rundo16_any (u : World) (X : Nat) (L : List Us) (v : Value) (r : Rl) (c : ByteArray) (a t : Int) (w : World) (h : RBk u X w L v) :
    Calls Try.prog 15 #[.pointer (some ⟨X, 0, none⟩), ruV r, .string c, .int .i64 a, .int .i64 t] w fun e w' => e = .returned (.int .i64 (unE L r c a t)) ∧ RkS u X w v w' (unN L r c a t) := by
  cases hm : myK r c a t with
  | true => exact rundo16_good u X L v r.k r.t r.s r.o c a t w h (my_iff.1 hm)
  | false => exact rundo16_bad u X L v r c a t w h hm
/-- a whole use stored into a row of its own -/
theorem own_facts {w : World} {base g n c k : Nat} {F : List Us} (h : OwL usE 31 w base (.slice (some ⟨g, 0, none⟩) n c) F) (hk : k < F.length) (x0 x1 x2 : Value) :
    (w.cell? ⟨g, k * 4, none⟩ = some (.string F[k].c) ∧ w.frozen? ⟨g, k * 4, none⟩ = false) ∧
    ((w.setCell ⟨g, k * 4, none⟩ x0).cell? ⟨g, k * 4 + 1, none⟩ = some (.int .i64 F[k].w) ∧ (w.setCell ⟨g, k * 4, none⟩ x0).frozen? ⟨g, k * 4 + 1, none⟩ = false) ∧
    (((w.setCell ⟨g, k * 4, none⟩ x0).setCell ⟨g, k * 4 + 1, none⟩ x1).cell? ⟨g, k * 4 + 2, none⟩ = some (.int .i64 F[k].n) ∧ ((w.setCell ⟨g, k * 4, none⟩ x0).setCell ⟨g, k * 4 + 1, none⟩ x1).frozen? ⟨g, k * 4 + 2, none⟩ = false) ∧
    ((((w.setCell ⟨g, k * 4, none⟩ x0).setCell ⟨g, k * 4 + 1, none⟩ x1).setCell ⟨g, k * 4 + 2, none⟩ x2).cell? ⟨g, k * 4 + 3, none⟩ = some (.int .i64 F[k].s) ∧ (((w.setCell ⟨g, k * 4, none⟩ x0).setCell ⟨g, k * 4 + 1, none⟩ x1).setCell ⟨g, k * 4 + 2, none⟩ x2).frozen? ⟨g, k * 4 + 3, none⟩ = false) := by
  obtain ⟨_, ⟨c0, c1, c2, c3⟩, cf⟩ := us_own2 h hk
  have ne : ∀ {W : World} {i j : Nat} {y : Value}, i ≠ j → (W.setCell ⟨g, i, none⟩ y).cell? ⟨g, j, none⟩ = W.cell? ⟨g, j, none⟩ := fun {W i j y} hij => World.cell?_setCell_other W ⟨g, i, none⟩ ⟨g, j, none⟩ y (fun e => hij (congrArg Addr.off e))
  refine ⟨⟨c0, cf _⟩, ⟨(ne (by omega)).trans c1, by rw [World.frozen?_setCell]; exact cf _⟩, ⟨(ne (by omega)).trans ((ne (by omega)).trans c2), by rw [World.frozen?_setCell, World.frozen?_setCell]; exact cf _⟩, ⟨(ne (by omega)).trans ((ne (by omega)).trans ((ne (by omega)).trans c3)), by rw [World.frozen?_setCell, World.frozen?_setCell, World.frozen?_setCell]; exact cf _⟩⟩
theorem own_set4 {w : World} {base g n c k : Nat} {F : List Us} (h : OwL usE 31 w base (.slice (some ⟨g, 0, none⟩) n c) F) (hn : n = F.length) (hk : k < F.length) (z : Us) :
    OwL usE 31 ((((w.setCell ⟨g, k * 4, none⟩ (.string z.c)).setCell ⟨g, k * 4 + 1, none⟩ (.int .i64 z.w)).setCell ⟨g, k * 4 + 2, none⟩ (.int .i64 z.n)).setCell ⟨g, k * 4 + 3, none⟩ (.int .i64 z.s)) base (.slice (some ⟨g, 0, none⟩) n c) (F.set k z) := by
  obtain ⟨a0, _⟩ := h.set1 hn (List.getElem?_eq_getElem hk) (i := 0) (y := ⟨z.c, F[k].w, F[k].n, F[k].s⟩) (u := .string z.c) (by decide) rfl
  obtain ⟨a1, _⟩ := a0.set1 (by rw [List.length_set]; exact hn) (j := k) (i := 1) (x := ⟨z.c, F[k].w, F[k].n, F[k].s⟩) (y := ⟨z.c, z.w, F[k].n, F[k].s⟩) (u := .int .i64 z.w) (List.getElem?_set_self hk) (by decide) rfl
  rw [List.set_set] at a1
  obtain ⟨a2, _⟩ := a1.set1 (by rw [List.length_set]; exact hn) (j := k) (i := 2) (x := ⟨z.c, z.w, F[k].n, F[k].s⟩) (y := ⟨z.c, z.w, z.n, F[k].s⟩) (u := .int .i64 z.n) (List.getElem?_set_self hk) (by decide) rfl
  rw [List.set_set] at a2
  obtain ⟨a3, _⟩ := a2.set1 (by rw [List.length_set]; exact hn) (j := k) (i := 3) (x := ⟨z.c, z.w, z.n, F[k].s⟩) (y := z) (u := .int .i64 z.s) (List.getElem?_set_self hk) (by decide) rfl
  rw [List.set_set] at a3
  exact a3
/-- how many uses there are at most -/
theorem uses_len40 {H : Type} {ts : List TypeId} {ds : List (DataW H)} (h : (DataW.weightsEach Try.prog ts ds).all (· ≤ reachBytes) = true) {j : Nat} {d : DataW H} (ht : ts[j]? = some 22) (hd : ds[j]? = some d)
    {n c : Nat} {X : Prop} (z : n ≤ c ∧ X ∧ ∃ els sp, (d = .slice els sp ∧ els.length + sp.length = c) ∨ (d = .nil ∧ c = 0)) : n * 40 ≤ 140737488351232 := by
  obtain ⟨h1, _, els, sp, h2⟩ := z
  rcases h2 with ⟨rfl, h2⟩ | ⟨_, h2⟩
  · have h3 := sized_slice h ht hd Try.underlying22
    rw [show Try.prog.bytesOf 31 = 40 by kernel_rfl] at h3
    have : reachBytes = 140737488351232 := rfl
    omega
  · omega
end Go.Proofs.Ytbcanfhjdllaoaa
