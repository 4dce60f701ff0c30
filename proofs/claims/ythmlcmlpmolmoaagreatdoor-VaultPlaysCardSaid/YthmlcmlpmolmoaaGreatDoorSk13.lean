/- 11 texts in one, in their order: what the cards need of them. -/
import Derived.Test.YthmlcmlpmolmoaaGreatDoorSk12
import Derived.Conc.MuLone
namespace Go.Proofs.YthmlcmlpmolmoaaGreatDoor
set_option maxRecDepth 100000
open Go.RowKit
def begL : List Value := .int .u32 0 :: .int .i32 0 :: .int .u32 0 :: bytesL 32 (fun _ => 0)
theorem begL_length : begL.length = 35 := by unfold begL; simp [bytesL_length]
theorem zeroRing : Tryz.zeroCells130 = (Value.slice none 0 0 :: (List.replicate 64 begL).flatten).toArray := by kernel_rfl
theorem flat_rep (L : List Value) : ∀ (m k j : Nat), k < m → j < L.length → (List.replicate m L).flatten[k * L.length + j]? = L[j]?
  | 0, _, _, hk, _ => absurd hk (Nat.not_lt_zero _)
  | m + 1, 0, j, _, hj => by
    rw [List.replicate_succ, List.flatten_cons, Nat.zero_mul, Nat.zero_add, List.getElem?_append_left hj]
  | m + 1, k + 1, j, hk, hj => by
    rw [List.replicate_succ, List.flatten_cons, List.getElem?_append_right (by rw [Nat.succ_mul]; omega), show (k + 1) * L.length + j - L.length = k * L.length + j by rw [Nat.succ_mul]; omega]
    exact flat_rep L m k j (by omega) hj
theorem ring_cells {w : World} {G : Nat} {v : Value} {t : TypeId} (h : w.heap[G]? = some (.cells (Tryz.zeroCells130.setIfInBounds 0 v) t (0, 0))) :
    w.cell? ⟨G, 0, none⟩ = some v ∧ ∀ k, k < 64 → ∀ own, TenAt w G (1 + k * 35) own := by
  rw [zeroRing] at h
  generalize hL : (List.replicate 64 begL).flatten = L at *
  have hr : ∀ k j, k < 64 → j < 35 → L[k * 35 + j]? = begL[j]? := fun k j hk hj => by
    rw [← hL]
    have := flat_rep begL 64 k j hk (by rw [begL_length]; exact hj)
    rwa [begL_length] at this
  clear hL
  have e : (Value.slice none 0 0 :: L).toArray.setIfInBounds 0 v = (v :: L).toArray := by simp
  rw [e] at h
  have hz : ∀ (o : Nat), w.frozen? ⟨G, o, none⟩ = false := fun o => Lib.frozen_of_heap h o
  have hc : ∀ (o : Nat) x, (v :: L)[o]? = some x → w.cell? ⟨G, o, none⟩ = some x := fun o x hx => (Lib.cell_of_heap h o).trans (by rw [List.getElem?_toArray]; exact hx)
  refine ⟨hc 0 v rfl, fun k hk own => Or.inl ⟨⟨hc _ _ ?_, hc _ _ ?_, hz _, hz _⟩, fun j hj => ⟨hc _ _ ?_, hz _⟩⟩⟩
  · rw [show 1 + k * 35 = k * 35 + 1 by omega, List.getElem?_cons_succ]; exact hr k 0 hk (by decide)
  · rw [show 1 + k * 35 + 1 = (k * 35 + 1) + 1 by omega, List.getElem?_cons_succ, hr k 1 hk (by decide)]; rfl
  · rw [show 1 + k * 35 + 3 + j = (k * 35 + (j + 3)) + 1 by omega, List.getElem?_cons_succ, hr k (j + 3) hk (by omega)]
    unfold begL
    rw [List.getElem?_cons_succ, List.getElem?_cons_succ, List.getElem?_cons_succ]
    exact bytesL_at hj
theorem knew_bad (A : Option Addr) (n c : Nat) (w : World) (hn : ¬ (16 ≤ n ∧ n ≤ 64)) :
    Calls Tryz.prog 35 #[.slice A n c] w fun e w' => e = .returned (.tuple #[.pointer none, .int .i64 1]) ∧ w' = w := by
  have HT := Lib.hid (within_any (n : Int) 16 64 w)
  rw [show decide (16 ≤ (n : Int) ∧ (n : Int) ≤ 64) = false from decide_eq_false (by omega)] at HT
  clear hn
  go_enter Tryz.func35, Tryz.ntmps35
  go_wp2_with (go_at_call 69; refine HT.out.mono ?_; rintro e w1 ⟨rfl, rfl⟩)
  go_ret2
  exact ⟨rfl, rfl⟩
set_option maxHeartbeats 1600000 in
theorem knew_good (A : Option Addr) (n c : Nat) (key : Nat → Nat) (u w : World) (hn : 16 ≤ n ∧ n ≤ 64) (hA : SlB w A n key) (hnil : A = none → n = 0 ∧ c = 0) (hgt : GT u) (hp : P10 u) (hbel : Below u.heap.size u w) :
    Calls Tryz.prog 35 #[.slice A n c] w fun e w' => ∃ G M cc, e = .returned (.tuple #[.pointer (some ⟨G, 0, none⟩), .int .i64 0]) ∧ w.heap.size ≤ G ∧ w.heap.size ≤ M ∧ RingAt u w' G M cc n key ∧ Below w.heap.size w w' := by
  have HT := Lib.hid (within_any (n : Int) 16 64 w)
  rw [show decide (16 ≤ (n : Int) ∧ (n : Int) ≤ 64) = true from decide_eq_true (by omega)] at HT
  have HC := Lib.hid (clone_any A n c key w (by omega) hA hnil)
  have HY := Lib.hid (show By n key from fun j hj => hA.byte hj)
  have HN := Lib.hid hn
  have HU := Lib.hid hbel
  have HG := Lib.hid hgt
  have HP := Lib.hid hp
  clear hn hA hnil hgt hp hbel
  go_enter Tryz.func35, Tryz.ntmps35
  go_wp2_with (go_at_call 69; refine HT.out.mono ?_; rintro e w1 ⟨rfl, rfl⟩)
  refine HC.out.mono ?_
  rintro e w2 ⟨⟨v, rfl, hown⟩, hb2⟩
  obtain ⟨A1, c1, g1, hmine⟩ := Mine.of_ownB hown HY.out
  obtain rfl := hmine.val
  have H1 := Lib.hid hmine
  have HB2 := Lib.hid hb2
  clear hown hmine hb2 HC
  go_wp2_with fail
  go_ret2
  have hh := heap_alloc_new w2 (.cells (Tryz.zeroCells130.setIfInBounds 0 (.slice A1 n c1)) 130)
  have hb3 := alloc_below w2 (.cells (Tryz.zeroCells130.setIfInBounds 0 (.slice A1 n c1)) 130)
  generalize w2.alloc (.cells (Tryz.zeroCells130.setIfInBounds 0 (.slice A1 n c1)) 130) = w3 at *
  have hN := HN.out
  have hm := H1.out
  obtain ⟨rfl, _⟩ := hm.own (Nat.lt_of_lt_of_le (by omega) hm.le)
  have hg := hm.from_ (Nat.lt_of_lt_of_le (by omega) hm.le)
  have hgl := hm.own.lt (Nat.lt_of_lt_of_le (by omega) hm.le)
  obtain ⟨k1, k2⟩ := ring_cells hh
  have hbb := HB2.out.trans (hb3.mono HB2.out.size)
  exact ⟨w2.heap.size, g1, c1, rfl, HB2.out.size, hg, ⟨HG.out, HP.out, HU.out.trans (hbb.mono HU.out.size), Nat.le_trans HU.out.size HB2.out.size, Nat.le_trans HU.out.size hg, by omega, hN, hm.le, k1, hm.row.keep hb3, fun k hk => k2 k hk _⟩, hbb⟩
end Go.Proofs.YthmlcmlpmolmoaaGreatDoor
namespace Go.Proofs.YthmlcmlpmolmoaaGreatDoor
set_option maxRecDepth 100000
open Go.RowKit
structure SecS (S : Nat → Prop) (G a b : Nat) (w w' : World) : Prop where
  chg : ChgS S w w'
  cell : ∀ j, j < a ∨ b ≤ j → w'.cell? ⟨G, j, none⟩ = w.cell? ⟨G, j, none⟩
  froz : ∀ j, w'.frozen? ⟨G, j, none⟩ = w.frozen? ⟨G, j, none⟩
namespace SecS
variable {S : Nat → Prop} {G a b K : Nat} {w w' w'' : World}
theorem refl (S : Nat → Prop) (G a b : Nat) (w : World) : SecS S G a b w w := ⟨ChgS.refl _ _, fun _ _ => rfl, fun _ => rfl⟩
theorem set (h : SecS S G a b w w') (hS : S G) {k : Nat} (h1 : a ≤ k) (h2 : k < b) (v : Value) : SecS S G a b w (w'.setCell ⟨G, k, none⟩ v) :=
  ⟨h.chg.setCell hS v, fun j hj => (cell_off (by omega) v).trans (h.cell j hj), fun j => by rw [World.frozen?_setCell]; exact h.froz j⟩
theorem chgK (h : SecS S G a b w w') (hc : Chg K w' w'') (hK : S K) (hne : G ≠ K) (hG : G < w.heap.size) : SecS S G a b w w'' :=
  have e := hc.block G (Nat.lt_of_lt_of_le hG h.chg.size) hne
  ⟨h.chg.trans (ChgS.of_chg hc hK), fun j hj => (World.cell?_of_block e).trans (h.cell j hj), fun j => (World.frozen?_of_block e).trans (h.froz j)⟩
theorem below (h : SecS S G a b w w') (hb : Below w'.heap.size w' w'') (hG : G < w.heap.size) : SecS S G a b w w'' :=
  have e := hb.block G (Nat.lt_of_lt_of_le hG h.chg.size)
  ⟨h.chg.trans (ChgS.of_below hb), fun j hj => (World.cell?_of_block e).trans (h.cell j hj), fun j => (World.frozen?_of_block e).trans (h.froz j)⟩
theorem drew (h : SecS S G a b w w') : SecS S G a b w w'.drew := ⟨⟨h.chg.os, h.chg.tape, h.chg.output, h.chg.size, h.chg.block⟩, h.cell, h.froz⟩
end SecS
def Made (w : World) (G o : Nat) (F : Nat → Nat) : Prop := ∃ B c, w.cell? ⟨G, o + 3, none⟩ = some (.slice (some ⟨B, 0, none⟩) 32 c) ∧ SlB w (some ⟨B, 0, none⟩) 32 F
theorem Made.keep {w w' : World} {G o : Nat} {F : Nat → Nat} (h : Made w G o F) (hb : Below w.heap.size w w') : Made w' G o F := by
  obtain ⟨B, c, h1, h2⟩ := h
  exact ⟨B, c, (hb.cell (p := ⟨G, o + 3, none⟩) (block_lt h1)).trans h1, h2.keep hb⟩
theorem slB_block {w w' : World} {B n : Nat} {f : Nat → Nat} (h : SlB w (some ⟨B, 0, none⟩) n f) (e : w'.heap[B]? = w.heap[B]?) : SlB w' (some ⟨B, 0, none⟩) n f := fun hn => by
  obtain ⟨B', o, e2, hB, hc⟩ := h hn
  cases e2
  have hl := (hc 0 hn).2
  rw [← World.cell?_of_block e] at hl
  exact ⟨B, 0, rfl, block_lt hl, fun j hj => ⟨(hc j hj).1, (World.cell?_of_block e).trans (hc j hj).2⟩⟩
def CphAt (w : World) (O : Nat → Prop) (G R o : Nat) (F : Nat → Nat) : Prop :=
  w.frozen? ⟨G, o + 3, none⟩ = false ∧ ((OnceAt w G o 0 0 ∧ w.cell? ⟨G, o + 3, none⟩ = some (.slice none 0 0)) ∨
    (OnceAt w G o 1 0 ∧ ∃ B c, O B ∧ B ≠ G ∧ B ≠ R ∧ w.cell? ⟨G, o + 3, none⟩ = some (.slice (some ⟨B, 0, none⟩) 32 c) ∧ SlB w (some ⟨B, 0, none⟩) 32 F))
theorem CphAt.move {w w' : World} {O O' : Nat → Prop} {G R o : Nat} {F : Nat → Nat} (h : CphAt w O G R o F) (hc : ∀ j, o ≤ j → j < o + 4 → w'.cell? ⟨G, j, none⟩ = w.cell? ⟨G, j, none⟩) (hf : ∀ j, w'.frozen? ⟨G, j, none⟩ = w.frozen? ⟨G, j, none⟩)
    (hB : ∀ B, O B → B ≠ G → B ≠ R → O' B ∧ w'.heap[B]? = w.heap[B]?) : CphAt w' O' G R o F := by
  have ho : ∀ {d m : Int}, OnceAt w G o d m → OnceAt w' G o d m := fun h => ⟨(hc o (by omega) (by omega)).trans h.done, (hc (o + 1) (by omega) (by omega)).trans h.lock, (hf o).trans h.fdone, (hf (o + 1)).trans h.flock⟩
  refine ⟨(hf _).trans h.1, ?_⟩
  rcases h.2 with ⟨h1, h2⟩ | ⟨h1, B, c, k1, k2, k3, k4, k5⟩
  · exact Or.inl ⟨ho h1, (hc _ (by omega) (by omega)).trans h2⟩
  · exact Or.inr ⟨ho h1, B, c, (hB B k1 k2 k3).1, k2, k3, (hc _ (by omega) (by omega)).trans k4, slB_block k5 (hB B k1 k2 k3).2⟩
structure VlA (u : World) (G R M c n : Nat) (key : Nat → Nat) (t : Int) (f : Nat) (w : World) (V : Int) (O : Nat → Prop) : Prop where
  tabs : Tabs u
  ring : RingAt u w R M c n key
  tok : 1 ≤ t ∧ t ≤ 64
  uG : u.heap.size ≤ G
  neR : R ≠ G
  neM : M ≠ G
  oG : O G
  oR : O R
  oM : O M
  own : ∀ k, O k → u.heap.size ≤ k ∧ k < w.heap.size
  kind : ∀ k, O k → ∀ s, w.cell? ⟨k, 0, none⟩ ≠ some (.string s)
  cR : w.cell? ⟨G, 0, none⟩ = some (.pointer (some ⟨R, 0, none⟩))
  cT : w.cell? ⟨G, 1, none⟩ = some (.int .i64 t)
  cV : ∃ C : Nat, w.cell? ⟨G, 2, none⟩ = some (.int .i64 (C : Nat)) ∧ 1 ≤ C ∧ V = min (C : Int) 255 ∧ C + f ≤ 4611686018427387904
  fV : w.frozen? ⟨G, 2, none⟩ = false
  cph : ∀ k, k < 255 → CphAt w O G R (3 + k * 4) (vK n key t ((k + 1 : Nat) : Int))
namespace VlA
variable {u w w' : World} {G R M c n f : Nat} {key : Nat → Nat} {t V : Int} {O O' : Nat → Prop}
theorem lt (h : VlA u G R M c n key t f w V O) : G < w.heap.size := block_lt h.cR
theorem rng (h : VlA u G R M c n key t f w V O) : 1 ≤ V ∧ V ≤ 255 := by
  obtain ⟨C, _, h1, rfl, _⟩ := h.cV
  omega
theorem tabsW (h : VlA u G R M c n key t f w V O) : Tabs w := h.tabs.keep h.ring.bel
theorem blocks (h : VlA u G R M c n key t f w V O) (hb : Below u.heap.size u w') (hz : w.heap.size ≤ w'.heap.size) (he : ∀ k, O k → w'.heap[k]? = w.heap[k]?) : VlA u G R M c n key t f w' V O :=
  have eG := he G h.oG
  ⟨h.tabs, h.ring.blocks hb (he R h.oR) (he M h.oM), h.tok, h.uG, h.neR, h.neM, h.oG, h.oR, h.oM, fun k hk => ⟨(h.own k hk).1, Nat.lt_of_lt_of_le (h.own k hk).2 hz⟩,
    fun k hk s e => h.kind k hk s ((World.cell?_of_block (he k hk)).symm.trans e), (World.cell?_of_block eG).trans h.cR, (World.cell?_of_block eG).trans h.cT,
    by obtain ⟨C, h1, h2⟩ := h.cV; exact ⟨C, (World.cell?_of_block eG).trans h1, h2⟩, (World.frozen?_of_block eG).trans h.fV,
    fun k hk => (h.cph k hk).move (fun _ _ _ => World.cell?_of_block eG) (fun _ => World.frozen?_of_block eG) fun B hB _ _ => ⟨hB, he B hB⟩⟩
theorem chgS {T : Nat → Prop} (h : VlA u G R M c n key t f w V O) (hc : ChgS T w w') (hT : ∀ k, T k → u.heap.size ≤ k ∧ ¬ O k) : VlA u G R M c n key t f w' V O :=
  h.blocks (h.ring.bel.trans (hc.below h.ring.bel.size fun k hk => (hT k hk).1)) hc.size fun k hk => hc.block k (h.own k hk).2 fun ht => (hT k ht).2 hk
theorem keep (h : VlA u G R M c n key t f w V O) (hb : Below w.heap.size w w') : VlA u G R M c n key t f w' V O :=
  h.chgS (T := fun _ => False) (ChgS.of_below hb) fun _ hk => absurd hk id
theorem next (h : VlA u G R M c n key t f w V O) {k : Nat} (hk : k < 255) (hs : SecS (fun q => q = G ∨ q = R) G (3 + k * 4) (3 + k * 4 + 4) w w') (hr : RingAt u w' R M c n key)
    (hO : ∀ q, O q → O' q) (hO' : ∀ q, O' q → O q ∨ (w.heap.size ≤ q ∧ q < w'.heap.size ∧ ∀ s, w'.cell? ⟨q, 0, none⟩ ≠ some (.string s))) (hc : CphAt w' O' G R (3 + k * 4) (vK n key t ((k + 1 : Nat) : Int))) : VlA u G R M c n key t f w' V O' :=
  ⟨h.tabs, hr, h.tok, h.uG, h.neR, h.neM, hO _ h.oG, hO _ h.oR, hO _ h.oM,
    fun q hq => by
      rcases hO' q hq with e | ⟨e1, e2, _⟩
      · exact ⟨(h.own q e).1, Nat.lt_of_lt_of_le (h.own q e).2 hs.chg.size⟩
      · exact ⟨Nat.le_trans h.ring.bel.size e1, e2⟩,
    fun q hq s e => by
      rcases hO' q hq with e1 | ⟨_, _, e3⟩
      · by_cases hG : q = G
        · subst hG
          exact h.kind q e1 s ((hs.cell 0 (by omega)).symm.trans e)
        · by_cases hR : q = R
          · subst hR
            rw [hr.cell] at e
            cases e
          · exact h.kind q e1 s ((World.cell?_of_block (hs.chg.block q (h.own q e1).2 (by omega))).symm.trans e)
      · exact e3 s e,
    (hs.cell 0 (by omega)).trans h.cR, (hs.cell 1 (by omega)).trans h.cT, by obtain ⟨C, h1, h2⟩ := h.cV; exact ⟨C, (hs.cell 2 (by omega)).trans h1, h2⟩, (hs.froz 2).trans h.fV,
    fun j hj => by
      by_cases e : j = k
      · subst e; exact hc
      · exact (h.cph j hj).move (fun i _ _ => hs.cell i (by omega)) hs.froz fun B hB h1 h2 => ⟨hO B hB, hs.chg.block B (h.own B hB).2 (by omega)⟩⟩
theorem rot {C : Nat} (h : VlA u G R M c n key t (f + 1) w V O) (hC : w.cell? ⟨G, 2, none⟩ = some (.int .i64 (C : Nat))) :
    VlA u G R M c n key t f (w.setCell ⟨G, 2, none⟩ (.int .i64 ((C + 1 : Nat) : Int))) (roN V) O ∧ ChgS O w (w.setCell ⟨G, 2, none⟩ (.int .i64 ((C + 1 : Nat) : Int))) := by
  have hc := (Chg.refl G w).setCell (a := ⟨G, 2, none⟩) (Or.inl rfl) (.int .i64 ((C + 1 : Nat) : Int))
  have hf : ∀ j, (w.setCell ⟨G, 2, none⟩ (.int .i64 ((C + 1 : Nat) : Int))).frozen? ⟨G, j, none⟩ = w.frozen? ⟨G, j, none⟩ := fun j => by rw [World.frozen?_setCell]
  refine ⟨⟨h.tabs, h.ring.chg hc h.uG h.neR h.neM, h.tok, h.uG, h.neR, h.neM, h.oG, h.oR, h.oM, fun k hk => ⟨(h.own k hk).1, Nat.lt_of_lt_of_le (h.own k hk).2 hc.size⟩, fun k hk s e => ?_, (cell_off (by decide) _).trans h.cR, (cell_off (by decide) _).trans h.cT, ?_, (hf 2).trans h.fV,
    fun k hk => (h.cph k hk).move (fun j h1 _ => cell_off (by omega) _) hf fun B hB h1 _ => ⟨hB, hc.block B (h.own B hB).2 h1⟩⟩, ChgS.of_chg hc h.oG⟩
  · by_cases hG : k = G
    · subst hG
      exact h.kind k hk s ((cell_off (by decide) _).symm.trans e)
    · exact h.kind k hk s ((hc.cell (h.own k hk).2 hG).symm.trans e)
  · obtain ⟨C', h1, h2, h3, h4⟩ := h.cV
    rw [hC] at h1
    injection h1 with h1
    injection h1 with _ h1
    refine ⟨C + 1, World.cell?_setCell_same w ⟨G, 2, none⟩ _ hC, by omega, ?_, by omega⟩
    unfold roN
    split <;> omega
end VlA
end Go.Proofs.YthmlcmlpmolmoaaGreatDoor
namespace Go.Proofs.YthmlcmlpmolmoaaGreatDoor
open Go.MuLone
set_option maxRecDepth 100000 in
set_option maxHeartbeats 1600000 in
theorem slow_vlt (b off : Nat) (p1 p2 p3 : Value) (w : World) (h : OnceAt w b off 0 0) (R : World → Prop)
    (hF : Calls Tryz.prog 79 #[p1, p2, p3] (w.setCell ⟨b, off + 1, none⟩ (.int .i32 1)) fun e w' => e = .returned (.tuple #[]) ∧ R w') (hR : ∀ w', R w' → OnceAt w' b off 0 1) :
    Calls Tryz.prog 119 #[.pointer (some ⟨b, off, none⟩), .func (.func 79) #[] #[p1, p2, p3]] w fun e w' => e = .returned (.tuple #[]) ∧
      ∃ w1, R w1 ∧ w' = (w1.drew.setCell ⟨b, off, none⟩ (.int .u32 1)).setCell ⟨b, off + 1, none⟩ (.int .i32 0) := by
  have hl := run_call_load (P := Tryz.prog) Tryz.func149 (by kernel_rfl) (by kernel_rfl) (by kernel_rfl) .u32 (by kernel_rfl) (w := w.setCell ⟨b, off + 1, none⟩ (.int .i32 1)) (a := ⟨b, off, none⟩) (x := 0) ((World.cell?_setCell_other _ ⟨b, off + 1, none⟩ ⟨b, off, none⟩ _ (by simp)).trans h.done)
  have hnot : ∀ (x : Bool) (w : World), (Op.unary .not (.bool x)).run Tryz.prog w = .ok (.bool (!x)) w := fun _ _ => rfl
  have HR := Lib.hid hR
  have HF := Lib.hid hF
  have H := Lib.hid h
  clear hR hF h
  go_enter_defers Tryz.func119, Tryz.ntmps119
  go_wp2_with (first | (go_at_call 150; refine (lock_free muLib ⟨b, off + 1, none⟩ _ H.out.lock H.out.flock).mono ?_; rintro e w' ⟨rfl, rfl⟩) | (go_at_call 118; go_in) | (go_at_call 79; refine HF.out.mono ?_; rintro e w' ⟨rfl, hw⟩; have HW := Lib.hid hw; clear hw))
  have h1 := HR.out _ HW.out
  refine leaves_cons (f := 152) (args := #[.pointer (some ⟨b, off, none⟩), .bool true]) (by simp) (by simp [go_sem]) ?_
  refine (store_deferred ⟨b, off, none⟩ (.int .u32 0) .returning _ h1.done h1.fdone).mono ?_
  rintro e u' w'' ⟨rfl, rfl, rfl⟩
  refine leaves_cons (f := 151) (args := #[.pointer (some ⟨b, off + 1, none⟩)]) (by simp [settle]) (by simp [go_sem]) ?_
  refine (unlock_deferred muLib ⟨b, off + 1, none⟩ _ _ ?_ (by simp [h1.flock])).mono ?_
  · refine (World.cell?_setCell_other _ ⟨b, off, none⟩ ⟨b, off + 1, none⟩ _ (by simp)).trans ?_
    rw [World.cell?_drew]
    exact h1.lock
  rintro e u' w'' ⟨rfl, rfl, rfl⟩
  exact ⟨_, results_none rfl _ _ _, rfl, w', HW.out, rfl⟩
theorem do_first_vlt (b off : Nat) (p1 p2 p3 : Value) (w : World) (h : OnceAt w b off 0 0) (R : World → Prop)
    (hF : Calls Tryz.prog 79 #[p1, p2, p3] (w.setCell ⟨b, off + 1, none⟩ (.int .i32 1)) fun e w' => e = .returned (.tuple #[]) ∧ R w') (hR : ∀ w', R w' → OnceAt w' b off 0 1) :
    Calls Tryz.prog 78 #[.pointer (some ⟨b, off, none⟩), .func (.func 79) #[] #[p1, p2, p3]] w fun e w' => e = .returned (.tuple #[]) ∧
      ∃ w1, R w1 ∧ w' = (w1.drew.setCell ⟨b, off, none⟩ (.int .u32 1)).setCell ⟨b, off + 1, none⟩ (.int .i32 0) := by
  have hl := run_call_load (P := Tryz.prog) Tryz.func149 (by kernel_rfl) (by kernel_rfl) (by kernel_rfl) .u32 (by kernel_rfl) h.done
  have hnot : ∀ (x : Bool) (w : World), (Op.unary .not (.bool x)).run Tryz.prog w = .ok (.bool (!x)) w := fun _ _ => rfl
  have HS := Lib.hid (slow_vlt b off p1 p2 p3 w h R hF hR)
  clear hR hF h
  go_enter Tryz.func78, Tryz.ntmps78
  go_wp2_with (first | (go_at_call 119; refine HS.out.mono ?_; rintro e w' ⟨rfl, hw⟩; have HW := Lib.hid hw; clear hw) | (go_at_call 118; go_in))
  go_end0
  exact ⟨rfl, HW.out⟩
end Go.Proofs.YthmlcmlpmolmoaaGreatDoor
namespace Go.Proofs.YthmlcmlpmolmoaaGreatDoor.ord
open Go Go.RowKit
structure Pre (R : World → World → Prop) : Prop where
  refl : ∀ w, R w w
  trans : ∀ a b c, R a b → R b c → R a c
def StepR (R : World → World → Prop) (P : Program) (ops : Array Oper) (D : List (List Nat)) (L : List (Nat × Nat)) (G : Nat → Value → World → Prop) (a0 : Act) (w0 : World) (p : Nat × Nat) : Prop :=
  ∀ o, ops[p.1]? = some o → ∀ (x : Nat → Value) (w : World), R w0 w → (∀ q ∈ L, dep D p.1 q.1 = true → G q.1 (x q.1) w) →
    (Region.wanted o (yielded ops (puts x (dep D p.1) L a0).tmps) = true ∧ makes P o (puts x (dep D p.1) L a0) w (fun v w' => R w w' ∧ G p.1 v w')) ∨
    (Region.wanted o (yielded ops (puts x (dep D p.1) L a0).tmps) = false ∧ G p.1 undef w)
section
variable {P : Program} {ops : Array Oper} {Q : Exit → Act → World → Prop} {D : List (List Nat)} {L : List (Nat × Nat)} {G : Nat → Value → World → Prop} {a0 : Act} {w0 : World} {listed0 : Array Bool} {R : World → World → Prop}
structure InvR (R : World → World → Prop) (N : Nat) (ops : Array Oper) (L : List (Nat × Nat)) (G : Nat → Value → World → Prop) (a0 : Act) (w0 : World) (listed0 listed : Array Bool) (a : Act) (w : World) : Prop where
  grow : R w0 w
  defers : a.defers = a0.defers
  size : a.tmps.size = a0.tmps.size
  lsize : listed.size = listed0.size
  old : ∀ s, (∀ q ∈ L, q.2 = s → listed.getD q.1 false = false) → a.tmps[s]? = a0.tmps[s]?
  new : ∀ q ∈ L, listed.getD q.1 false = true → ∃ v, a.tmps[q.2]? = some v ∧ G q.1 v w
  closed : ∀ q ∈ L, listed.getD q.1 false = true → ∀ o, ops[q.1]? = some o → ∀ j, waits o j = true → listed.getD j false = true
  tail : ∀ t, N ≤ t → t < ops.size → listed.getD t true = false
theorem done_eqRR {N : Nat} (hn2 : (L.map (·.2)).Nodup) (hsz : ∀ q ∈ L, q.2 < a0.tmps.size) {listed : Array Bool} {a : Act} {w : World} (I : InvR R N ops L G a0 w0 listed0 listed a w) (hl : ∀ q ∈ L, listed.getD q.1 false = true) (hn1 : (L.map (·.1)).Nodup) :
    ∃ x : Nat → Value, (∀ q ∈ L, G q.1 (x q.1) w) ∧ a = puts x (fun _ => true) L a0 := by
  have hx : ∃ x : Nat → Value, ∀ q ∈ L, a.tmps[q.2]? = some (x q.1) ∧ G q.1 (x q.1) w := by
    refine ⟨fun j => match L.find? (fun q => q.1 == j) with | some q => a.tmps.getD q.2 undef | none => undef, fun q hq => ?_⟩
    obtain ⟨v, hv, hg⟩ := I.new q hq (hl q hq)
    have hf : L.find? (fun r => r.1 == q.1) = some q := by
      cases hfd : L.find? (fun r => r.1 == q.1) with
      | none => have := List.find?_eq_none.1 hfd q hq; simp at this
      | some r =>
        have h1 := List.find?_some hfd
        have h2 := List.mem_of_find?_eq_some hfd
        have e : r.1 = q.1 := by simpa using h1
        have : r = q := by
          exact nodup_inj (f := (·.1)) hn1 h2 hq e
        rw [this]
    simp only [hf, Array.getD_eq_getD_getElem?, hv, Option.getD_some]
    exact ⟨trivial, hg⟩
  obtain ⟨x, hx⟩ := hx
  refine ⟨x, fun q hq => (hx q hq).2, ?_⟩
  have ht : a.tmps = (puts x (fun _ => true) L a0).tmps := by
    apply Array.ext_getElem?
    intro s
    rcases Classical.em (∃ q ∈ L, q.2 = s) with ⟨q, hq, rfl⟩ | hno
    · rw [puts_at x _ L a0 q hn2 hq rfl (hsz q hq), (hx q hq).1]
    · rw [puts_not x _ L a0 s fun q hq e => absurd ⟨q, hq, e⟩ hno]
      exact I.old s fun q hq e => absurd ⟨q, hq, e⟩ hno
  have hd : a.defers = (puts x (fun _ => true) L a0).defers := by rw [puts_defers, I.defers]
  cases a
  simp only at ht hd
  rw [ht, hd]
theorem todo_zeroR (listed : Array Bool) : ∀ n, todo listed n = 0 → ∀ i, i < n → listed.getD i true = true
  | 0, _, i, hi => absurd hi (Nat.not_lt_zero i)
  | n + 1, h, i, hi => by
    unfold todo at h
    by_cases e : listed.getD n true = true
    · rcases Nat.lt_or_ge i n with h1 | h1
      · exact todo_zeroR listed n (by omega) i h1
      · obtain rfl : i = n := by omega
        exact e
    · rw [if_neg e] at h; omega
theorem todo_noneR (n : Nat) : ∀ m, m ≤ n → todo (Array.replicate n false) m = m
  | 0, _ => rfl
  | m + 1, h => by
    unfold todo
    rw [todo_noneR n m (by omega), if_neg]
    simp [show m < n by omega]
end
end Go.Proofs.YthmlcmlpmolmoaaGreatDoor.ord
namespace Go.Proofs.YthmlcmlpmolmoaaGreatDoor.ord
open Go Go.RowKit
def lateB (ops : Array Oper) (H k : Nat) : Bool :=
  (List.range ops.size).all fun t => decide (t < k) || (List.range H).all fun j => match ops[t]? with
    | none => false
    | some o => waits o j
def okV (N : Nat) (ops : Array Oper) (listed : Array Bool) (n : Nat) (D : List (List Nat)) (L : List (Nat × Nat)) : Bool :=
  (listed.size == ops.size) && ((List.range N).all fun i => L.any fun q => q.1 == i) &&
  (decide (L.map (·.1)).Nodup && decide (L.map (·.2)).Nodup) &&
  (L.all fun p => decide (p.1 < N) && (decide (p.2 < n) && decide (p.1 < listed.size) && !listed.getD p.1 true && match ops[p.1]? with
    | none => false
    | some o => (o.after.all fun e => !Region.binds .any e || decide (e.on < p.1)) && (((D.getD p.1 []).all fun j => waits o j) && o.dst == some p.2) && (match o.op with | .select .. => false | _ => true) &&
      (o.looksAt ops).all fun s => L.all fun q => !(q.2 == s) || dep D p.1 q.1 || match ops[q.1]? with
        | none => false
        | some o' => waits o' p.1))
section
variable {P : Program} {ops : Array Oper} {Q : Exit → Act → World → Prop} {D : List (List Nat)} {L : List (Nat × Nat)} {G : Nat → Value → World → Prop} {a0 : Act} {w0 : World} {listed0 : Array Bool} {R : World → World → Prop}
theorem step_invV {N : Nat} (hok : okV N ops listed0 a0.tmps.size D L = true) (hR : Pre R) (hst : ∀ i v w w', G i v w → R w w' → G i v w') (hstep : ∀ p ∈ L, StepR R P ops D L G a0 w0 p)
    {listed : Array Bool} {a : Act} {w : World} (I : InvR R N ops L G a0 w0 listed0 listed a w) {i : Nat} (hi : i ∈ Region.ready .any ops listed) (hiN : i < N) :
    wpOp P ops Q i (fun a' w' => InvR R N ops L G a0 w0 listed0 (listed.setIfInBounds i true) a' w') a w := by
  obtain ⟨hun, o, ho, hdeps⟩ := mem_ready.1 hi
  have hdeps' : ∀ j, waits o j = true → listed.getD j false = true := fun j hj => by
    obtain ⟨e, he, hb, rfl⟩ := waits_iff.1 hj; exact hdeps e he hb
  unfold okV at hok
  simp only [Bool.and_eq_true, decide_eq_true_eq, List.all_eq_true] at hok
  obtain ⟨p, hp, rfl⟩ : ∃ p ∈ L, p.1 = i := by
    obtain ⟨q, hq, e⟩ := List.any_eq_true.1 (hok.1.1.2 i (List.mem_range.2 hiN))
    exact ⟨q, hq, by simpa using e⟩
  obtain ⟨⟨⟨_, _⟩, hn1, hn2⟩, hall⟩ := hok
  have hp0 := hall p hp
  obtain ⟨hpN, ⟨⟨hsz, hls⟩, _⟩, hpo⟩ := hp0
  rw [ho] at hpo
  simp only [Bool.and_eq_true, List.all_eq_true, beq_iff_eq, Bool.or_eq_true, Bool.not_eq_true', beq_eq_false_iff_ne] at hpo
  obtain ⟨⟨⟨_, hDw, hdst⟩, hsel⟩, hlooks⟩ := hpo
  have hD : ∀ j, dep D p.1 j = true → waits o j = true := fun j hj => by
    unfold dep at hj
    obtain ⟨k, hk, e⟩ := List.any_eq_true.1 hj
    have := Nat.eq_of_beq_eq_true e
    subst this
    exact hDw _ hk
  have hsel' : ∀ cs b, o.op ≠ .select cs b := fun cs b e => by rw [e] at hsel; cases hsel
  have hli : p.1 < listed.size := by rw [I.lsize]; exact hls
  have hunF : listed.getD p.1 false = false := by
    simp only [Array.getD_eq_getD_getElem?, Array.getElem?_eq_getElem hli, Option.getD_some] at hun ⊢; exact hun
  have hx : ∃ x : Nat → Value, ∀ q ∈ L, listed.getD q.1 false = true → a.tmps[q.2]? = some (x q.1) ∧ G q.1 (x q.1) w := by
    refine ⟨fun j => match L.find? (fun q => q.1 == j) with | some q => a.tmps.getD q.2 undef | none => undef, fun q hq hl => ?_⟩
    obtain ⟨v, hv, hg⟩ := I.new q hq hl
    have hf : L.find? (fun r => r.1 == q.1) = some q := by
      cases hfd : L.find? (fun r => r.1 == q.1) with
      | none => have := List.find?_eq_none.1 hfd q hq; simp at this
      | some r =>
        have h1 := List.find?_some hfd
        have h2 := List.mem_of_find?_eq_some hfd
        have e : r.1 = q.1 := by simpa using h1
        have : r = q := by
          exact nodup_inj (f := (·.1)) hn1 h2 hq e
        rw [this]
    simp only [hf, Array.getD_eq_getD_getElem?, hv, Option.getD_some]
    exact ⟨trivial, hg⟩
  obtain ⟨x, hx⟩ := hx
  have hsame : ∀ t ∈ o.looksAt ops, a.tmps[t]? = (puts x (dep D p.1) L a0).tmps[t]? := fun t ht => by
    rcases Classical.em (∃ q ∈ L, q.2 = t ∧ dep D p.1 q.1 = true) with ⟨q, hq, rfl, hw⟩ | hno
    · have hsq : q.2 < a0.tmps.size := (hall q hq).2.1.1.1
      rw [puts_at x (dep D p.1) L a0 q hn2 hq hw hsq]
      exact (hx q hq (hdeps' _ (hD _ hw))).1
    · rw [puts_not x (dep D p.1) L a0 t fun q hq e => by
        cases hw : dep D p.1 q.1
        · rfl
        · exact absurd ⟨q, hq, e, hw⟩ hno]
      refine I.old t fun q hq e => ?_
      rcases hlooks t ht q hq with (h | h) | h
      · exact absurd e h
      · exact absurd ⟨q, hq, e, h⟩ hno
      · cases hl : listed.getD q.1 false
        · rfl
        · cases hoq : ops[q.1]? with
          | none => rw [hoq] at h; cases h
          | some o' =>
            rw [hoq] at h
            have := I.closed q hq hl o' hoq p.1 h
            rw [hunF] at this; cases this
  have hS := hstep p hp o ho x w I.grow fun q hq hw => (hx q hq (hdeps' _ (hD _ hw))).2
  rw [← wanted_of hsame] at hS
  have keep : ∀ v w', R w w' → G p.1 v w' → InvR R N ops L G a0 w0 listed0 (listed.setIfInBounds p.1 true) (a.put o.dst v) w' := fun v w' hb hg => by
    have hput : ∀ s, s ≠ p.2 → (a.put o.dst v).tmps[s]? = a.tmps[s]? := fun s hs => by
      rw [hdst]; simp [Act.put, Array.getElem?_setIfInBounds_ne (Ne.symm hs)]
    have hputp : (a.put o.dst v).tmps[p.2]? = some v := by
      rw [hdst]; simp [Act.put, I.size, hsz]
    have hset : ∀ j, j ≠ p.1 → (listed.setIfInBounds p.1 true).getD j false = listed.getD j false := fun j hj => getD_set_ne false (Ne.symm hj)
    have hsetp : (listed.setIfInBounds p.1 true).getD p.1 false = true := by simp [hli]
    have uniq : ∀ q ∈ L, q.2 = p.2 → q = p := fun q hq e => by
      exact nodup_inj (f := (·.2)) hn2 hq hp e
    have uniq1 : ∀ q ∈ L, q.1 = p.1 → q = p := fun q hq e => by
      exact nodup_inj (f := (·.1)) hn1 hq hp e
    refine ⟨hR.trans _ _ _ I.grow hb, ?_, ?_, ?_, fun s hs => ?_, fun q hq hl => ?_, fun q hq hl o' ho' j hj => ?_, fun s hs ht => ?_⟩
    · rw [hdst]; exact I.defers
    · rw [hdst]; simp [Act.put, I.size]
    · simp [I.lsize]
    · have hsp : s ≠ p.2 := fun e => by
        have := hs p hp e.symm
        rw [hsetp] at this; cases this
      rw [hput s hsp]
      refine I.old s fun q hq e => ?_
      have := hs q hq e
      have hqp : q.1 ≠ p.1 := fun e2 => hsp (by rw [← e, uniq1 q hq e2])
      rwa [hset _ hqp] at this
    · by_cases e : q.1 = p.1
      · obtain rfl := uniq1 q hq e
        exact ⟨v, hputp, hg⟩
      · rw [hset _ e] at hl
        obtain ⟨u, hu, hgu⟩ := I.new q hq hl
        have : q.2 ≠ p.2 := fun e2 => e (by rw [uniq q hq e2])
        exact ⟨u, by rw [hput _ this]; exact hu, hst _ _ _ _ hgu hb⟩
    · by_cases e : q.1 = p.1
      · obtain rfl := uniq1 q hq e
        rw [ho] at ho'
        cases ho'
        have := hdeps' j hj
        exact getD_set_true this
      · rw [hset _ e] at hl
        exact getD_set_true (I.closed q hq hl o' ho' j hj)
    · rw [getD_set_ne true (show p.1 ≠ s by omega)]
      exact I.tail s hs ht
  unfold wpOp
  rw [ho]
  show if Region.wanted o (yielded ops a.tmps) = true then _ else _
  rcases hS with ⟨hw, hm⟩ | ⟨hw, hg⟩
  · rw [if_pos hw]
    refine Or.inl (wp_of_makes (N := fun v w' => R w w' ∧ G p.1 v w') ?_ fun v w' h => keep v w' h.1 h.2)
    unfold makes at hm ⊢
    rw [exec_of hsel' hsame]
    exact hm
  · rw [hw, if_neg (by decide)]
    exact keep _ _ (hR.refl _) hg
theorem all_listedV {N n : Nat} (hok : okV N ops listed0 n D L = true) {listed : Array Bool} (hs : listed.size = listed0.size) (h0 : Region.ready .any ops listed = []) :
    ∀ q ∈ L, listed.getD q.1 false = true := by
  unfold okV at hok
  simp only [Bool.and_eq_true, decide_eq_true_eq, List.all_eq_true, beq_iff_eq] at hok
  obtain ⟨⟨⟨_, hany⟩, _, _⟩, hall⟩ := hok
  have key : ∀ k, ∀ q ∈ L, q.1 = k → listed.getD q.1 false = true := by
    intro k
    induction k using Nat.strongRecOn with
    | _ k ih =>
      intro q hq hk
      have hq0 := hall q hq
      obtain ⟨hqN, ⟨⟨_, hls⟩, _⟩, hpo⟩ := hq0
      have hli : q.1 < listed.size := by rw [hs]; exact hls
      cases ho : ops[q.1]? with
      | none => rw [ho] at hpo; cases hpo
      | some o =>
        rw [ho] at hpo
        simp only [Bool.and_eq_true] at hpo
        have hlow := hpo.1.1.1
        rw [Array.all_eq_true_iff_forall_mem] at hlow
        cases hl : listed.getD q.1 true
        · exfalso
          have : q.1 ∈ Region.ready .any ops listed := mem_ready.2 ⟨hl, o, ho, fun e he hbi => by
            have hlt : e.on < q.1 := by simpa [hbi] using hlow e he
            obtain ⟨r, hr, er⟩ := List.any_eq_true.1 (hany e.on (List.mem_range.2 (by omega)))
            have hre : r.1 = e.on := by simpa using er
            rw [← hre]; exact ih r.1 (by omega) r hr rfl⟩
          rw [h0] at this; cases this
        · simp only [Array.getD_eq_getD_getElem?, Array.getElem?_eq_getElem hli, Option.getD_some] at hl ⊢
          exact hl
  exact fun q hq => key q.1 q hq rfl
theorem done_eqV {N H : Nat} (hn2 : (L.map (·.2)).Nodup) (hsz : ∀ q ∈ L, q.2 < a0.tmps.size) {listed : Array Bool} {a : Act} {w : World} (I : InvR R N ops L G a0 w0 listed0 listed a w) (hl : ∀ q ∈ L, q.1 < H → listed.getD q.1 false = true)
    (hl2 : ∀ q ∈ L, ¬ q.1 < H → listed.getD q.1 false = false) (hn1 : (L.map (·.1)).Nodup) :
    ∃ x : Nat → Value, (∀ q ∈ L, q.1 < H → G q.1 (x q.1) w) ∧ a = puts x (fun j => decide (j < H)) L a0 := by
  have hx : ∃ x : Nat → Value, ∀ q ∈ L, q.1 < H → a.tmps[q.2]? = some (x q.1) ∧ G q.1 (x q.1) w := by
    refine ⟨fun j => match L.find? (fun q => q.1 == j) with | some q => a.tmps.getD q.2 undef | none => undef, fun q hq hH => ?_⟩
    obtain ⟨v, hv, hg⟩ := I.new q hq (hl q hq hH)
    have hf : L.find? (fun r => r.1 == q.1) = some q := by
      cases hfd : L.find? (fun r => r.1 == q.1) with
      | none => have := List.find?_eq_none.1 hfd q hq; simp at this
      | some r =>
        have h1 := List.find?_some hfd
        have h2 := List.mem_of_find?_eq_some hfd
        have e : r.1 = q.1 := by simpa using h1
        have : r = q := by
          exact nodup_inj (f := (·.1)) hn1 h2 hq e
        rw [this]
    simp only [hf, Array.getD_eq_getD_getElem?, hv, Option.getD_some]
    exact ⟨trivial, hg⟩
  obtain ⟨x, hx⟩ := hx
  refine ⟨x, fun q hq hH => (hx q hq hH).2, ?_⟩
  have ht : a.tmps = (puts x (fun j => decide (j < H)) L a0).tmps := by
    apply Array.ext_getElem?
    intro s
    rcases Classical.em (∃ q ∈ L, q.2 = s ∧ q.1 < H) with ⟨q, hq, rfl, hH⟩ | hno
    · rw [puts_at x _ L a0 q hn2 hq (decide_eq_true hH) (hsz q hq), (hx q hq hH).1]
    · rw [puts_not x _ L a0 s fun q hq e => decide_eq_false fun hH => hno ⟨q, hq, e, hH⟩]
      exact I.old s fun q hq e => hl2 q hq fun hH => hno ⟨q, hq, e, hH⟩
  have hd : a.defers = (puts x (fun j => decide (j < H)) L a0).defers := by rw [puts_defers, I.defers]
  cases a
  simp only at ht hd
  rw [ht, hd]
theorem wpAny_V {N H g : Nat} (hok : okV N ops listed0 a0.tmps.size D L = true) (hN : N < ops.size) (hH : H < N) (hlate : lateB ops H N = true)
    (hR : Pre R) (hst : ∀ i v w w', G i v w → R w w' → G i v w') (hstep : ∀ p ∈ L, StepR R P ops D L G a0 w0 p)
    (hdone : ∀ (m : Nat) (listed : Array Bool) (a : Act) (w : World), todo listed N = m → InvR R N ops L G a0 w0 listed0 listed a w → (∀ i, i < H → listed.getD i true = true) → wpAny P .any ops Q (m + g) listed a w) :
    ∀ (m : Nat) (listed : Array Bool) (a : Act) (w : World), todo listed N = m → InvR R N ops L G a0 w0 listed0 listed a w → wpAny P .any ops Q (m + g) listed a w
  | 0, listed, a, w, hm, I => hdone 0 _ _ _ hm I fun i hi => todo_zeroR listed N hm i (by omega)
  | m + 1, listed, a, w, hm, I => by
    by_cases hall : ∀ i, i < H → listed.getD i true = true
    · exact hdone _ _ _ _ hm I hall
    obtain ⟨i0, hi0, hu0⟩ : ∃ i, i < H ∧ listed.getD i true = false := by
      refine Classical.byContradiction fun hno => hall fun i hi => ?_
      cases h : listed.getD i true
      · exact absurd ⟨i, hi, h⟩ hno
      · rfl
    have hok' := hok
    unfold okV at hok'
    simp only [Bool.and_eq_true, decide_eq_true_eq, List.all_eq_true, beq_iff_eq] at hok'
    obtain ⟨⟨⟨hls, hany⟩, _, _⟩, _⟩ := hok'
    rw [show m + 1 + g = (m + g) + 1 by omega]
    refine ⟨fun h0 => ?_, fun i hi => ?_⟩
    · exfalso
      obtain ⟨q, hq, e⟩ := List.any_eq_true.1 (hany i0 (List.mem_range.2 (by omega)))
      have e : q.1 = i0 := by simpa using e
      subst e
      have := all_listedV hok I.lsize h0 q hq
      have hlt : q.1 < listed.size := by rw [I.lsize, hls]; omega
      simp only [Array.getD_eq_getD_getElem?, Array.getElem?_eq_getElem hlt, Option.getD_some] at this hu0
      rw [this] at hu0; cases hu0
    · have hiN : i < N := by
        rcases Nat.lt_or_ge i N with h | h
        · exact h
        · exfalso
          obtain ⟨_, oi, hoi, hall2⟩ := mem_ready.1 hi
          have hisz : i < ops.size := (Array.getElem?_eq_some_iff.1 hoi).1
          unfold lateB at hlate
          have h1 := List.all_eq_true.1 hlate i (List.mem_range.2 hisz)
          rw [decide_eq_false (show ¬ i < N by omega), Bool.false_or] at h1
          have h2 := List.all_eq_true.1 h1 i0 (List.mem_range.2 hi0)
          rw [hoi] at h2
          obtain ⟨e, he, hb, hon⟩ := waits_iff.1 h2
          have h3 := hall2 e he hb
          have hlt : i0 < listed.size := by rw [I.lsize, hls]; omega
          rw [hon] at h3
          simp only [Array.getD_eq_getD_getElem?, Array.getElem?_eq_getElem hlt, Option.getD_some] at h3 hu0
          rw [h3] at hu0; cases hu0
      refine wpOp_mono (fun a' w' I' => wpAny_V hok hN hH hlate hR hst hstep hdone m _ a' w' ?_ I') (step_invV hok hR hst hstep I hi hiN)
      have := todo_set listed i (mem_ready.1 hi).1 N
      rw [if_pos hiN] at this
      omega
theorem getD_both' {listed : Array Bool} {i : Nat} (hlt : i < listed.size) : listed.getD i true = listed.getD i false := by
  simp only [Array.getD_eq_getD_getElem?, Array.getElem?_eq_getElem hlt, Option.getD_some]
end
theorem puts_float {H : Nat} {L : List (Nat × Nat)} {a0 : Act} {x : Nat → Value} {v : Value} {p : Nat × Nat} (hn1 : (L.map (·.1)).Nodup) (hn2 : (L.map (·.2)).Nodup) (hsz : ∀ q ∈ L, q.2 < a0.tmps.size) (hp : p ∈ L) (hH : p.1 = H) (hall : ∀ q ∈ L, q.1 < H + 1) :
    (puts x (fun j => decide (j < H)) L a0).put (some p.2) v = puts (fun j => if j = H then v else x j) (fun _ => true) L a0 := by
  have ht : ((puts x (fun j => decide (j < H)) L a0).put (some p.2) v).tmps = (puts (fun j => if j = H then v else x j) (fun _ => true) L a0).tmps := by
    apply Array.ext_getElem?
    intro s
    rcases Classical.em (∃ q ∈ L, q.2 = s) with ⟨q, hq, rfl⟩ | hno
    · rw [puts_at _ _ L a0 q hn2 hq rfl (hsz q hq)]
      by_cases e : q.1 = H
      · obtain rfl : q = p := nodup_inj (f := (·.1)) hn1 hq hp (e.trans hH.symm)
        rw [if_pos e]
        simp [Act.put, puts_size, hsz q hq]
      · have hne : p.2 ≠ q.2 := fun e2 => e (by rw [← nodup_inj (f := (·.2)) hn2 hp hq e2]; exact hH)
        rw [if_neg e]
        have := hall q hq
        refine Eq.trans ?_ (puts_at x (fun j => decide (j < H)) L a0 q hn2 hq (decide_eq_true (by omega)) (hsz q hq))
        simp [Act.put, Array.getElem?_setIfInBounds_ne hne]
    · have hne : p.2 ≠ s := fun e => hno ⟨p, hp, e⟩
      rw [puts_not _ _ L a0 s fun q hq e => absurd ⟨q, hq, e⟩ hno]
      refine Eq.trans ?_ (puts_not x (fun j => decide (j < H)) L a0 s fun q hq e => absurd ⟨q, hq, e⟩ hno)
      simp [Act.put, Array.getElem?_setIfInBounds_ne hne]
  have hd : ((puts x (fun j => decide (j < H)) L a0).put (some p.2) v).defers = (puts (fun j => if j = H then v else x j) (fun _ => true) L a0).defers := by
    rw [puts_defers]
    show (puts x (fun j => decide (j < H)) L a0).defers = _
    rw [puts_defers]
  have : ∀ a b : Act, a.tmps = b.tmps → a.defers = b.defers → a = b := fun a b h1 h2 => by
    cases a
    cases b
    simp only at h1 h2
    rw [h1, h2]
  exact this _ _ ht hd
theorem wp_region_ordV {P : Program} {l : List Oper} {Q : Exit → Act → World → Prop} {a0 : Act} {w : World} {id : Nat} {vH : Value} (R : World → World → Prop) (H : Nat) (D : List (List Nat)) (L : List (Nat × Nat)) (G : Nat → Value → World → Prop) (hm : P.follows .mixedOrders = true)
    (hok : okV (H + 1) l.toArray (Array.replicate l.toArray.size false) a0.tmps.size D L = true)
    (hB : (decide (H + 1 < l.toArray.size) && lateB l.toArray H (H + 1) && Region.noSelect l.toArray && Region.free .any l.toArray (Array.replicate H true ++ Array.replicate (l.toArray.size - H) false) H && (Region.ready .any l.toArray (Array.replicate H true ++ Array.replicate (l.toArray.size - H) false)).contains H && Region.seqB .any l.toArray (l.toArray.size - (H + 1)) (H + 1) (Array.replicate (H + 1) true ++ Array.replicate (l.toArray.size - (H + 1)) false)) = true)
    (hR : Pre R) (hst : ∀ i v w w', G i v w → R w w' → G i v w') (hstep : ∀ p ∈ L, StepR R P l.toArray D L G a0 w.drew p)
    (hdr : ∀ w', R w.drew w' → R w w') {oH : Oper} (hoH : l.toArray[H]? = some oH) (hQ : ∀ c a w, Q (.panic c) (a.put oH.dst vH) w → Q (.panic c) a w)
    (hfl : ∀ x : Nat → Value, ∀ w', R w w' → (∀ q ∈ L, q.1 < H → G q.1 (x q.1) w') → Yields P l.toArray oH vH (puts x (fun j => decide (j < H)) L a0))
    (hdone : ∀ (x : Nat → Value) (w' : World), R w w' → (∀ q ∈ L, q.1 < H → G q.1 (x q.1) w') → wpList P l.toArray Q (l.drop (H + 1)) (puts x (fun _ => true) L a0) w') :
    (Code.region id l.toArray true).wp P Q a0 w := by
  simp only [Bool.and_eq_true, decide_eq_true_eq] at hB
  obtain ⟨⟨⟨⟨⟨hN, hlate⟩, hsel⟩, hfree⟩, hrdy⟩, hseq⟩ := hB
  have hok' := hok
  unfold okV at hok'
  simp only [Bool.and_eq_true, decide_eq_true_eq, List.all_eq_true, beq_iff_eq] at hok'
  obtain ⟨⟨⟨_, hany⟩, hn1, hn2⟩, hall⟩ := hok'
  refine wp_region_any hm ?_
  have hF : ∀ i, (Array.replicate l.toArray.size false).getD i false = false := fun i => getD_replicate_false _ _
  have key := wpAny_V (P := P) (Q := Q) (w0 := w.drew) (g := l.toArray.size - (H + 1)) hok hN (Nat.lt_succ_self H) hlate hR hst hstep (fun m listed a w1 hmm I hl => by
    have hls : listed.size = l.toArray.size := by rw [I.lsize]; simp
    have hb : ∀ i, i < l.toArray.size → listed.getD i true = listed.getD i false := fun i hi => getD_both' (by omega)
    cases hH : listed.getD H false with
    | true =>
      have hl' : ∀ i, i < H + 1 → listed.getD i true = true := fun i hi => by
        rcases Nat.lt_or_ge i H with h | h
        · exact hl i h
        · obtain rfl : i = H := by omega
          rw [hb i (by omega)]; exact hH
      have hm0 : m = 0 := by
        rw [← hmm]
        have : ∀ n, n ≤ H + 1 → todo listed n = 0 := fun n => by
          induction n with
          | zero => exact fun _ => rfl
          | succ n ih =>
            intro hn
            unfold todo
            rw [ih (by omega), hl' n (by omega)]
            rfl
        exact this _ (Nat.le_refl _)
      subst hm0
      have hall' : ∀ q ∈ L, listed.getD q.1 false = true := fun q hq => by
        have h1 := (hall q hq).1
        rw [← hb q.1 (by omega)]
        exact hl' q.1 h1
      obtain ⟨x, hx, rfl⟩ := done_eqRR hn2 (fun q hq => (hall q hq).2.1.1.1) I hall' hn1
      have hle : listed = Array.replicate (H + 1) true ++ Array.replicate (l.toArray.size - (H + 1)) false := by
        apply Array.ext
        · rw [hls, Array.size_append, Array.size_replicate, Array.size_replicate]; omega
        · intro i h1 h2
          rcases Nat.lt_or_ge i (H + 1) with h | h
          · have h3 := hl' i h
            simp only [Array.getD_eq_getD_getElem?, Array.getElem?_eq_getElem h1, Option.getD_some] at h3
            rw [h3, Array.getElem_append_left (by simpa using h)]; simp
          · have h3 := I.tail i h (by omega)
            simp only [Array.getD_eq_getD_getElem?, Array.getElem?_eq_getElem h1, Option.getD_some] at h3
            rw [h3, Array.getElem_append_right (by simpa using h)]; simp
      have hdl : (l.drop (H + 1)).length = l.toArray.size - (H + 1) := by simp
      have := wpAny_of_seq (P := P) (md := .any) (Q' := Q) (ops := l.toArray) (l.drop (H + 1)) (H + 1) listed (puts x (fun _ => true) L a0) w1 (fun j => by simp [List.getElem?_drop]) (by rw [hdl, hle]; exact hseq) (hdone x w1 (hdr _ I.grow) fun q hq _ => hx q hq)
      rw [hdl] at this
      rwa [Nat.zero_add]
    | false =>
      have hm1 : m = 1 := by
        rw [← hmm]
        have : ∀ n, n ≤ H → todo listed n = 0 := fun n => by
          induction n with
          | zero => exact fun _ => rfl
          | succ n ih =>
            intro hn
            unfold todo
            rw [ih (by omega), hl n (by omega)]
            rfl
        unfold todo
        rw [this H (Nat.le_refl _), hb H (by omega), hH]
        rfl
      subst hm1
      have hall1 : ∀ q ∈ L, q.1 < H → listed.getD q.1 false = true := fun q hq h => by
        rw [← hb q.1 (by omega)]
        exact hl q.1 h
      have hall2 : ∀ q ∈ L, ¬ q.1 < H → listed.getD q.1 false = false := fun q hq h => by
        have h1 := (hall q hq).1
        rw [show q.1 = H by omega]
        exact hH
      obtain ⟨x, hx, rfl⟩ := done_eqV hn2 (fun q hq => (hall q hq).2.1.1.1) I hall1 hall2 hn1
      have hle : listed = Array.replicate H true ++ Array.replicate (l.toArray.size - H) false := by
        apply Array.ext
        · rw [hls, Array.size_append, Array.size_replicate, Array.size_replicate]; omega
        · intro i h1 h2
          rcases Nat.lt_or_ge i H with h | h
          · have h3 := hl i h
            simp only [Array.getD_eq_getD_getElem?, Array.getElem?_eq_getElem h1, Option.getD_some] at h3
            rw [h3, Array.getElem_append_left (by simpa using h)]; simp
          · have h3 : listed.getD i true = false := by
              rcases Nat.lt_or_ge H i with h4 | h4
              · exact I.tail i h4 (by omega)
              · obtain rfl : i = H := by omega
                rw [hb i (by omega)]; exact hH
            simp only [Array.getD_eq_getD_getElem?, Array.getElem?_eq_getElem h1, Option.getD_some] at h3
            rw [h3, Array.getElem_append_right (by simpa using h)]; simp
      rw [hle, show 1 + (l.toArray.size - (H + 1)) = (l.toArray.size - (H + 1)) + 1 by omega]
      refine wpAny_take hoH hsel hfree hrdy hQ (hfl x w1 (hdr _ I.grow) hx) ?_
      obtain ⟨p, hp, e⟩ := List.any_eq_true.1 (hany H (List.mem_range.2 (Nat.lt_succ_self H)))
      have e : p.1 = H := by simpa using e
      have hpo := (hall p hp).2.2
      rw [e, hoH] at hpo
      simp only [Bool.and_eq_true, beq_iff_eq] at hpo
      rw [hpo.1.1.2.2, puts_float hn1 hn2 (fun q hq => (hall q hq).2.1.1.1) hp e fun q hq => (hall q hq).1]
      have hls2 : (Array.replicate H true ++ Array.replicate (l.toArray.size - H) false).setIfInBounds H true = Array.replicate (H + 1) true ++ Array.replicate (l.toArray.size - (H + 1)) false := by
        apply Array.ext
        · rw [Array.size_setIfInBounds, Array.size_append, Array.size_append, Array.size_replicate, Array.size_replicate, Array.size_replicate, Array.size_replicate]; omega
        · intro i h1 h2
          rw [Array.getElem_setIfInBounds (by rwa [Array.size_setIfInBounds] at h1)]
          by_cases hi : H = i
          · subst hi
            rw [if_pos rfl, Array.getElem_append_left (by simp)]; simp
          · rw [if_neg hi]
            rcases Nat.lt_or_ge i H with h | h
            · rw [Array.getElem_append_left (by simpa using h), Array.getElem_append_left (by simp; omega)]; simp
            · rw [Array.getElem_append_right (by simpa using h), Array.getElem_append_right (by simp; omega)]; simp
      rw [hls2]
      have hdl : (l.drop (H + 1)).length = l.toArray.size - (H + 1) := by simp
      have := wpAny_of_seq (P := P) (md := .any) (Q' := Q) (ops := l.toArray) (l.drop (H + 1)) (H + 1) (Array.replicate (H + 1) true ++ Array.replicate (l.toArray.size - (H + 1)) false) (puts (fun j => if j = H then vH else x j) (fun _ => true) L a0) w1 (fun j => by simp [List.getElem?_drop]) (by rw [hdl]; exact hseq)
        (hdone _ w1 (hdr _ I.grow) fun q hq hlt => by rw [if_neg (by omega)]; exact hx q hq hlt)
      rwa [hdl] at this) (H + 1) (Array.replicate l.toArray.size false) a0 w.drew (todo_noneR _ _ (Nat.le_of_lt hN)) ⟨hR.refl _, rfl, rfl, rfl, fun _ _ => rfl, (fun q hq hl => absurd hl (by rw [hF]; decide)), (fun q hq hl => absurd hl (by rw [hF]; decide)), (fun t _ ht => getD_in (by simpa using ht) (hF t))⟩
  rw [show H + 1 + (l.toArray.size - (H + 1)) = l.toArray.size by omega] at key
  exact key
end Go.Proofs.YthmlcmlpmolmoaaGreatDoor.ord
namespace Go.Proofs.YthmlcmlpmolmoaaGreatDoor
open Go.RowKit
theorem of_drewC {K : Nat} {w w' : World} (h : Chg K w.drew w') : Chg K w w' := ⟨h.os, h.tape, h.output, h.size, h.block⟩
theorem ord.makes_extract {P : Program} {o : Oper} {a : Act} {w : World} {N : Value → World → Prop} {x : Operand} {i : Nat} {vs : Array Value} {u : Value} (ho : o.op = .extract x i) (hx : a.eval x = .tuple vs) (hv : vs[i]? = some u) (hN : N u w) : makes P o a w N := by
  unfold makes
  have : (execOp a.eval o).run P w = .ok (.value u) w := by
    simp [execOp, ho, hx, Instr.extract, hv]
  rw [this]; exact hN
end Go.Proofs.YthmlcmlpmolmoaaGreatDoor
namespace Go.Proofs.YthmlcmlpmolmoaaGreatDoor
set_option maxRecDepth 100000
open Go.RowKit
def RelV (R : Nat) (I : World → Prop) (w w' : World) : Prop := Chg R w w' ∧ (I w → I w')
theorem RelV.pre (R : Nat) (I : World → Prop) : ord.Pre (RelV R I) := ⟨fun _ => ⟨Chg.refl _ _, id⟩, fun _ _ _ h h' => ⟨h.1.trans h'.1, h'.2 ∘ h.2⟩⟩
theorem vmakes_call4 {P : Program} {o : Oper} {a : Act} {w : World} {N : Value → World → Prop} {F : FuncId} {fn : Func} {o1 o2 o3 o4 : Operand} {ts : Array TypeId} {v1 v2 v3 v4 : Value} {post : Ending → World → Prop} (hf : P.funcs[F]? = some fn) (hname : (fn.name == "runtime.NumGoroutine") = false) (hb : fn.body.isNone = false)
    (ho : o.op = .call { callee := .value (.func F), args := #[o1, o2, o3, o4], argTypes := ts }) (h1 : a.eval o1 = v1) (h2 : a.eval o2 = v2) (h3 : a.eval o3 = v3) (h4 : a.eval o4 = v4) (hc : Calls P F #[v1, v2, v3, v4] w post) (hN : ∀ e w', post e w' → ∃ v, e = .returned v ∧ N v w') : ord.makes P o a w N :=
  ord.makes_call hf hname hb ho (by simp [h1, h2, h3, h4]) hc hN
theorem run_extractV {P : Program} {o : Oper} {a : Act} {w : World} {x : Operand} {i : Nat} {vs : Array Value} {u : Value} (ho : o.op = .extract x i) (hx : a.eval x = .tuple vs) (hv : vs[i]? = some u) : (execOp a.eval o).run P w = .ok (.value u) w := by simp [execOp, ho, hx, Instr.extract, hv]
theorem run_ldVC (A p : Addr) (w : World) (h : w.cell? A = some (.pointer (some p))) : (Instr.loadAt 93 (.pointer (some A))).run Tryz.prog w = .ok (.pointer (some p)) w := by go_simp
theorem run_ldVV (A p : Addr) (w : World) (h : w.cell? A = some (.pointer (some p))) : (Instr.loadAt 26 (.pointer (some A))).run Tryz.prog w = .ok (.pointer (some p)) w := by go_simp
theorem run_faV0 (G : Nat) (w : World) : (Instr.fieldAt 88 (.pointer (some ⟨G, 0, none⟩)) 0).run Tryz.prog w = .ok (.pointer (some ⟨G, 0, none⟩)) w := by go_simp
theorem run_faV1 (G : Nat) (w : World) : (Instr.fieldAt 88 (.pointer (some ⟨G, 0, none⟩)) 1).run Tryz.prog w = .ok (.pointer (some ⟨G, 1, none⟩)) w := by go_simp
def MkP (u : World) (G o R M c n : Nat) (key : Nat → Nat) (t v : Int) (bs : Nat) (w w' : World) : Prop :=
  ∃ W B cc, RingAt u W R M c n key ∧ Chg R w W ∧ bs ≤ B ∧ SlB W (some ⟨B, 0, none⟩) 32 (vK n key t v) ∧ w' = W.setCell ⟨G, o + 3, none⟩ (.slice (some ⟨B, 0, none⟩) 32 cc)
def vbG (G o R _M _c _n bs : Nat) (_key : Nat → Nat) (t vn : Int) (F : Nat → Nat) (_u : World) : Nat → Value → World → Prop
  | 0, v, _ => v = .pointer (some ⟨G, o, none⟩)
  | 1, v, _ => v = .pointer (some ⟨G, 0, none⟩)
  | 2, v, _ => v = .pointer (some ⟨G, 0, none⟩)
  | 3, v, _ => v = .pointer (some ⟨G, 0, none⟩)
  | 4, v, _ => v = .pointer (some ⟨R, 0, none⟩)
  | 5, v, _ => v = .pointer (some ⟨G, 0, none⟩)
  | 6, v, _ => v = .pointer (some ⟨G, 0, none⟩)
  | 7, v, _ => v = .pointer (some ⟨G, 1, none⟩)
  | 8, v, _ => v = .int .i64 t
  | 9, v, _ => v = .int .i64 vn
  | 10, v, w => ∃ B c2, v = .tuple #[.slice (some ⟨B, 0, none⟩) 32 c2, .int .i64 0] ∧ R < bs ∧ bs ≤ B ∧ SlB w (some ⟨B, 0, none⟩) 32 F
  | 11, v, w => ∃ B c2, v = .tuple #[.slice (some ⟨B, 0, none⟩) 32 c2, .int .i64 0] ∧ R < bs ∧ bs ≤ B ∧ SlB w (some ⟨B, 0, none⟩) 32 F
  | 12, v, w => ∃ B c2, v = .slice (some ⟨B, 0, none⟩) 32 c2 ∧ R < bs ∧ bs ≤ B ∧ SlB w (some ⟨B, 0, none⟩) 32 F
  | 13, v, _ => v = .int .i64 0
  | _, _, _ => True
theorem vbG_stays (G o R M c n bs : Nat) (key : Nat → Nat) (t vn : Int) (F : Nat → Nat) (u : World) : ∀ i v w w', vbG G o R M c n bs key t vn F u i v w → RelV R (fun W => RingAt u W R M c n key) w w' → vbG G o R M c n bs key t vn F u i v w'
  | 0, _, _, _, h, _ => h
  | 1, _, _, _, h, _ => h
  | 2, _, _, _, h, _ => h
  | 3, _, _, _, h, _ => h
  | 4, _, _, _, h, _ => h
  | 5, _, _, _, h, _ => h
  | 6, _, _, _, h, _ => h
  | 7, _, _, _, h, _ => h
  | 8, _, _, _, h, _ => h
  | 9, _, _, _, h, _ => h
  | 10, v, w, w', h_, hb => by
    obtain ⟨B, c2, h1, h2, h3, h4⟩ := h_; exact ⟨B, c2, h1, h2, h3, slB_chg h4 hb.1 (by omega)⟩
  | 11, v, w, w', h_, hb => by
    obtain ⟨B, c2, h1, h2, h3, h4⟩ := h_; exact ⟨B, c2, h1, h2, h3, slB_chg h4 hb.1 (by omega)⟩
  | 12, v, w, w', h_, hb => by
    obtain ⟨B, c2, h1, h2, h3, h4⟩ := h_; exact ⟨B, c2, h1, h2, h3, slB_chg h4 hb.1 (by omega)⟩
  | 13, _, _, _, h, _ => h
  | _ + 14, _, _, _, _, _ => trivial
set_option maxHeartbeats 3200000 in
theorem vmake (G o R M c n bb br bt : Nat) (t v : Int) (key : Nat → Nat) (u w : World) (hR : RingAt u w R M c n key) (ht : 1 ≤ t ∧ t ≤ 64) (hk : 1 ≤ v ∧ v ≤ 255)
    (hb : w.cell? ⟨bb, 0, none⟩ = some (.pointer (some ⟨G, o, none⟩))) (hr : w.cell? ⟨br, 0, none⟩ = some (.pointer (some ⟨G, 0, none⟩))) (hv : w.cell? ⟨bt, 0, none⟩ = some (.int .i64 v))
    (nb : bb ≠ R) (nr : br ≠ R) (nt : bt ≠ R) (nG : G ≠ R)
    (cR : w.cell? ⟨G, 0, none⟩ = some (.pointer (some ⟨R, 0, none⟩))) (cT : w.cell? ⟨G, 1, none⟩ = some (.int .i64 t)) (cK : w.cell? ⟨G, o + 3, none⟩ = some (.slice none 0 0)) (fK : w.frozen? ⟨G, o + 3, none⟩ = false) :
    Calls Tryz.prog 79 #[.pointer (some ⟨br, 0, none⟩), .pointer (some ⟨bt, 0, none⟩), .pointer (some ⟨bb, 0, none⟩)] w fun e w' => e = .returned (.tuple #[]) ∧ MkP u G o R M c n key t v w.heap.size w w' := by
  have hkok : kok t 1 v = true := decide_eq_true (by omega)
  have HKEY := Lib.hid (show ∀ W, RingAt u W R M c n key → Calls Tryz.prog 36 #[.pointer (some ⟨R, 0, none⟩), .int .i64 t, .int .i64 1, .int .i64 v] W fun e w' => ∃ B c2, e = .returned (.tuple #[.slice (some ⟨B, 0, none⟩) 32 c2, .int .i64 0]) ∧ W.heap.size ≤ B ∧ SlB w' (some ⟨B, 0, none⟩) 32 (vK n key t v) ∧ RingAt u w' R M c n key ∧ Chg R W w' from fun W hW => by
    refine (key_any R M c n t 1 v key u W hW).mono ?_
    rintro e w' ⟨⟨A, c2, g, he, hm⟩, h1, h2⟩
    rw [hkok] at he hm
    have hc0 : 0 < c2 := Nat.lt_of_lt_of_le (by decide) hm.le
    obtain ⟨rfl, _⟩ := hm.own hc0
    exact ⟨g, c2, he, hm.from_ hc0, hm.row, h1, h2⟩)
  have HC := Lib.hid (show ∀ W, Chg R w W → W.cell? ⟨bb, 0, none⟩ = some (.pointer (some ⟨G, o, none⟩)) ∧ W.cell? ⟨br, 0, none⟩ = some (.pointer (some ⟨G, 0, none⟩)) ∧ W.cell? ⟨bt, 0, none⟩ = some (.int .i64 v) ∧ W.cell? ⟨G, 0, none⟩ = some (.pointer (some ⟨R, 0, none⟩)) ∧ W.cell? ⟨G, 1, none⟩ = some (.int .i64 t) ∧ W.cell? ⟨G, o + 3, none⟩ = some (.slice none 0 0) ∧ W.frozen? ⟨G, o + 3, none⟩ = false from fun W h =>
    ⟨(h.cell (block_lt hb) nb).trans hb, (h.cell (block_lt hr) nr).trans hr, (h.cell (block_lt hv) nt).trans hv, (h.cell (block_lt cR) nG).trans cR, (h.cell (block_lt cT) nG).trans cT, (h.cell (block_lt cK) nG).trans cK, (World.frozen?_of_block (h.block G (block_lt cR) nG)).trans fK⟩)
  have HRR := Lib.hid (RelV.pre R (fun W => RingAt u W R M c n key))
  have HRW := Lib.hid (hR.keep (Below.refl _ _).drew)
  have HRO := Lib.hid hR
  obtain ⟨bs, hbs⟩ : ∃ bs, w.heap.size = bs := ⟨_, rfl⟩
  have HBS := Lib.hid (show R < bs by rw [← hbs]; exact hR.lt)
  have HBQ := Lib.hid hbs
  obtain ⟨F, hF⟩ : ∃ F, F = vK n key t v := ⟨_, rfl⟩
  have HMK := Lib.hid (show ∀ W B cc, RingAt u W R M c n key → Chg R w W → bs ≤ B → SlB W (some ⟨B, 0, none⟩) 32 F → MkP u G o R M c n key t v bs w (W.setCell ⟨G, o + 3, none⟩ (.slice (some ⟨B, 0, none⟩) 32 cc)) from fun W B cc h1 h2 h3 h4 => ⟨W, B, cc, h1, h2, h3, by rw [← hF]; exact h4, rfl⟩)
  rw [← hF] at HKEY
  rw [hbs]
  clear hR ht hk nb nr nt nG hkok hb hr hv cR cT cK fK hF hbs
  go_enter Tryz.func79, Tryz.ntmps79
  go_wp2_with fail
  refine ord.wp_region_ordV (RelV R (fun W => RingAt u W R M c n key)) 13 [[], [], [1], [2], [3], [], [5], [6], [7], [], [4, 8, 9], [10], [11], [11]] [(0, 4), (1, 5), (2, 6), (3, 7), (4, 8), (5, 9), (6, 10), (7, 11), (8, 12), (9, 13), (10, 14), (11, 3), (12, 15), (13, 16)] (vbG G o R M c n bs key t v F u) (by kernel_rfl) (by kernel_rfl) (by kernel_rfl) HRR.out (vbG_stays _ _ _ _ _ _ _ _ _ _ _ _) ((ord.steps_cons ?_ (ord.steps_cons ?_ (ord.steps_cons ?_ (ord.steps_cons ?_ (ord.steps_cons ?_ (ord.steps_cons ?_ (ord.steps_cons ?_ (ord.steps_cons ?_ (ord.steps_cons ?_ (ord.steps_cons ?_ (ord.steps_cons ?_ (ord.steps_cons ?_ (ord.steps_cons ?_ (ord.steps_cons ?_ ord.steps_nil))))))))))))))) (fun w' hb => ⟨of_drewC hb.1, fun h => hb.2 (h.keep (Below.refl _ _).drew)⟩) (vH := .int .i64 0) rfl (fun _ _ _ h => h) ?_ ?_
  · intro o ho x w hb hG
    obtain rfl := Option.some.inj ho
    clear ho
    refine Or.inl ⟨ord.want0 rfl, ?_⟩
    exact ord.makes_ld rfl rfl (run_ldVC _ _ w (HC.out w (of_drewC hb.1)).1) ⟨HRR.out.refl _, rfl⟩
  · intro o ho x w hb hG
    obtain rfl := Option.some.inj ho
    clear ho
    refine Or.inl ⟨ord.want0 rfl, ?_⟩
    exact ord.makes_ld rfl rfl (run_ldVV _ _ w (HC.out w (of_drewC hb.1)).2.1) ⟨HRR.out.refl _, rfl⟩
  · intro o ho x w hb hG
    obtain rfl := Option.some.inj ho
    clear ho
    have h5 : x 1 = .pointer (some ⟨G, 0, none⟩) := hG (1, 5) (List.mem_of_getElem? (i := 1) rfl) rfl
    refine Or.inl ⟨ord.want0 rfl, ?_⟩
    exact ord.makes_nilCheck rfl h5 ⟨HRR.out.refl _, rfl⟩
  · intro o ho x w hb hG
    obtain rfl := Option.some.inj ho
    clear ho
    have h6 : x 2 = .pointer (some ⟨G, 0, none⟩) := hG (2, 6) (List.mem_of_getElem? (i := 2) rfl) rfl
    refine Or.inl ⟨ord.want0 rfl, ?_⟩
    exact ord.makes_fieldAddr rfl h6 (run_faV0 G w) ⟨HRR.out.refl _, rfl⟩
  · intro o ho x w hb hG
    obtain rfl := Option.some.inj ho
    clear ho
    have h7 : x 3 = .pointer (some ⟨G, 0, none⟩) := hG (3, 7) (List.mem_of_getElem? (i := 3) rfl) rfl
    refine Or.inl ⟨ord.want0 rfl, ?_⟩
    exact ord.makes_ld rfl h7 (run_ldPR _ _ w (HC.out w (of_drewC hb.1)).2.2.2.1) ⟨HRR.out.refl _, rfl⟩
  · intro o ho x w hb hG
    obtain rfl := Option.some.inj ho
    clear ho
    refine Or.inl ⟨ord.want0 rfl, ?_⟩
    exact ord.makes_ld rfl rfl (run_ldVV _ _ w (HC.out w (of_drewC hb.1)).2.1) ⟨HRR.out.refl _, rfl⟩
  · intro o ho x w hb hG
    obtain rfl := Option.some.inj ho
    clear ho
    have h9 : x 5 = .pointer (some ⟨G, 0, none⟩) := hG (5, 9) (List.mem_of_getElem? (i := 5) rfl) rfl
    refine Or.inl ⟨ord.want0 rfl, ?_⟩
    exact ord.makes_nilCheck rfl h9 ⟨HRR.out.refl _, rfl⟩
  · intro o ho x w hb hG
    obtain rfl := Option.some.inj ho
    clear ho
    have h10 : x 6 = .pointer (some ⟨G, 0, none⟩) := hG (6, 10) (List.mem_of_getElem? (i := 6) rfl) rfl
    refine Or.inl ⟨ord.want0 rfl, ?_⟩
    exact ord.makes_fieldAddr rfl h10 (run_faV1 G w) ⟨HRR.out.refl _, rfl⟩
  · intro o ho x w hb hG
    obtain rfl := Option.some.inj ho
    clear ho
    have h11 : x 7 = .pointer (some ⟨G, 1, none⟩) := hG (7, 11) (List.mem_of_getElem? (i := 7) rfl) rfl
    refine Or.inl ⟨ord.want0 rfl, ?_⟩
    exact ord.makes_ld rfl h11 (run_ldI _ _ w (HC.out w (of_drewC hb.1)).2.2.2.2.1) ⟨HRR.out.refl _, rfl⟩
  · intro o ho x w hb hG
    obtain rfl := Option.some.inj ho
    clear ho
    refine Or.inl ⟨ord.want0 rfl, ?_⟩
    exact ord.makes_ld rfl rfl (run_ldI _ _ w (HC.out w (of_drewC hb.1)).2.2.1) ⟨HRR.out.refl _, rfl⟩
  · intro o ho x w hb hG
    obtain rfl := Option.some.inj ho
    clear ho
    have h8 : x 4 = .pointer (some ⟨R, 0, none⟩) := hG (4, 8) (List.mem_of_getElem? (i := 4) rfl) rfl
    have h12 : x 8 = .int .i64 t := hG (8, 12) (List.mem_of_getElem? (i := 8) rfl) rfl
    have h13 : x 9 = .int .i64 v := hG (9, 13) (List.mem_of_getElem? (i := 9) rfl) rfl
    refine Or.inl ⟨ord.want0 rfl, ?_⟩
    exact vmakes_call4 Tryz.func36 (by kernel_rfl) (by kernel_rfl) rfl h8 h12 rfl h13 (HKEY.out w (hb.2 HRW.out)) (fun e w' h => by obtain ⟨B, c2, he, h1, h2, h3, h4⟩ := h; exact ⟨_, he, ⟨h4, fun _ => h3⟩, B, c2, rfl, HBS.out, Nat.le_trans (by rw [← HBQ.out]; exact hb.1.size) h1, h2⟩)
  · intro o ho x w hb hG
    obtain rfl := Option.some.inj ho
    clear ho
    have h14 : vbG G o R M c n bs key t v F u 10 (x 10) w := hG (10, 14) (List.mem_of_getElem? (i := 10) rfl) rfl
    refine Or.inl ⟨ord.want0 rfl, ?_⟩
    obtain ⟨B, c2, e1, e2⟩ := h14
    exact ord.makes_move rfl ⟨HRR.out.refl _, B, c2, e1, e2⟩
  · intro o ho x w hb hG
    obtain rfl := Option.some.inj ho
    clear ho
    have h3 : vbG G o R M c n bs key t v F u 11 (x 11) w := hG (11, 3) (List.mem_of_getElem? (i := 11) rfl) rfl
    refine Or.inl ⟨ord.want0 rfl, ?_⟩
    obtain ⟨B, c2, e1, e2⟩ := h3
    exact ord.makes_extract rfl e1 rfl ⟨HRR.out.refl _, B, c2, rfl, e2⟩
  · intro o ho x w hb hG
    obtain rfl := Option.some.inj ho
    clear ho
    have h3 : vbG G o R M c n bs key t v F u 11 (x 11) w := hG (11, 3) (List.mem_of_getElem? (i := 11) rfl) rfl
    refine Or.inl ⟨ord.want0 rfl, ?_⟩
    obtain ⟨B, c2, e1, e2⟩ := h3
    exact ord.makes_extract rfl e1 rfl ⟨HRR.out.refl _, rfl⟩
  · intro x w5 hb hG
    obtain ⟨B, c2, e3, _⟩ : vbG G o R M c n bs key t v F u 11 (x 11) w5 := hG (11, 3) (List.mem_of_getElem? (i := 11) rfl) (by decide)
    exact Or.inl ⟨rfl, fun W => run_extractV (x := .tmp 3) (i := 1) (vs := #[.slice (some ⟨B, 0, none⟩) 32 c2, .int .i64 0]) rfl e3 rfl⟩
  · intro x w5 hb hG
    have e0 : x 0 = .pointer (some ⟨G, o, none⟩) := hG (0, 4) (List.mem_of_getElem? (i := 0) rfl) (by decide)
    obtain ⟨B', c2', e15, _, h2', h3'⟩ : vbG G o R M c n bs key t v F u 12 (x 12) w5 := hG (12, 15) (List.mem_of_getElem? (i := 12) rfl) (by decide)
    have HB2 := Lib.hid h2'
    have HB3 := Lib.hid h3'
    have HR5 := Lib.hid (hb.2 HRO.out)
    have HC5 := Lib.hid hb.1
    obtain ⟨b1, b2, b3, b4, b5, b6, b7⟩ := HC.out w5 hb.1
    clear hb h2' h3' hG
    simp only [ord.puts, ord.put', List.set_cons_zero, List.set_cons_succ, if_true]
    rw [e0, e15]
    clear e0 e15
    simp only [List.drop_succ_cons, List.drop_zero]
    go_wp2_with fail
    go_end0
    exact ⟨rfl, HMK.out w5 B' c2' HR5.out HC5.out HB2.out HB3.out⟩
end Go.Proofs.YthmlcmlpmolmoaaGreatDoor
namespace Go.Proofs.YthmlcmlpmolmoaaGreatDoor
set_option maxRecDepth 100000
open Go.RowKit
theorem ChgS.wide {S T : Nat → Prop} {w w' : World} (h : ChgS S w w') (hS : ∀ k, S k → T k) : ChgS T w w' := ⟨h.os, h.tape, h.output, h.size, fun k hk hn => h.block k hk fun hs => hn (hS k hs)⟩
def CphP (u : World) (G R M c n : Nat) (key : Nat → Nat) (t : Int) (f k : Nat) (w : World) (V : Int) (O : Nat → Prop) (w' : World) : Prop :=
  ∃ O', VlA u G R M c n key t f w' V O' ∧ ChgS O w w' ∧ (∀ q, O' q → O q ∨ w.heap.size ≤ q) ∧ Made w' G (3 + k * 4) (vK n key t ((k + 1 : Nat) : Int))
theorem vlock {w : World} {G o : Nat} (h1 : OnceAt w G o 0 0) : OnceAt (w.setCell ⟨G, o + 1, none⟩ (.int .i32 1)) G o 0 1 :=
  ⟨(cell_off (by omega) _).trans h1.done, World.cell?_setCell_same w ⟨G, o + 1, none⟩ _ h1.lock, by rw [World.frozen?_setCell]; exact h1.fdone, by rw [World.frozen?_setCell]; exact h1.flock⟩
theorem vmade {w0 W : World} {G R o : Nat} {v : Value} (o1 : OnceAt w0 G o 0 1) (hG : G < w0.heap.size) (hc : Chg R w0 W) (hne : G ≠ R) : OnceAt (W.setCell ⟨G, o + 3, none⟩ v) G o 0 1 := by
  have o2 := once_block o1 (hc.block G hG hne)
  exact ⟨(cell_off (by omega) _).trans o2.done, (cell_off (by omega) _).trans o2.lock, by rw [World.frozen?_setCell]; exact o2.fdone, by rw [World.frozen?_setCell]; exact o2.flock⟩
theorem vlast {w3 : World} {G o : Nat} (o3 : OnceAt w3 G o 0 1) : OnceAt ((w3.drew.setCell ⟨G, o, none⟩ (.int .u32 1)).setCell ⟨G, o + 1, none⟩ (.int .i32 0)) G o 1 0 := by
  refine ⟨(cell_off (by omega) _).trans (World.cell?_setCell_same w3.drew ⟨G, o, none⟩ _ (u := .int .u32 0) ?_), World.cell?_setCell_same _ ⟨G, o + 1, none⟩ _ (u := .int .i32 1) ((cell_off (by omega) _).trans ?_), ?_, ?_⟩
  · exact o3.done
  · exact o3.lock
  · rw [World.frozen?_setCell, World.frozen?_setCell]; exact o3.fdone
  · rw [World.frozen?_setCell, World.frozen?_setCell]; exact o3.flock
theorem first_vlt (G R M c n k bb br bt f : Nat) (key : Nat → Nat) (t V : Int) (O : Nat → Prop) (u w : World) (h : VlA u G R M c n key t f w V O) (hk : k < 255)
    (h1 : OnceAt w G (3 + k * 4) 0 0) (h2 : w.cell? ⟨G, 3 + k * 4 + 3, none⟩ = some (.slice none 0 0)) (h3 : w.frozen? ⟨G, 3 + k * 4 + 3, none⟩ = false)
    (hb : w.cell? ⟨bb, 0, none⟩ = some (.pointer (some ⟨G, 3 + k * 4, none⟩))) (hr : w.cell? ⟨br, 0, none⟩ = some (.pointer (some ⟨G, 0, none⟩))) (hv : w.cell? ⟨bt, 0, none⟩ = some (.int .i64 ((k + 1 : Nat) : Int)))
    (nb : bb ≠ G ∧ bb ≠ R) (nr : br ≠ G ∧ br ≠ R) (nt : bt ≠ G ∧ bt ≠ R) :
    Calls Tryz.prog 78 #[.pointer (some ⟨G, 3 + k * 4, none⟩), .func (.func 79) #[] #[.pointer (some ⟨br, 0, none⟩), .pointer (some ⟨bt, 0, none⟩), .pointer (some ⟨bb, 0, none⟩)]] w fun e w' =>
      e = .returned (.tuple #[]) ∧ CphP u G R M c n key t f k w V O w' := by
  have hlt := h.lt
  have hGR : G ≠ R := fun e => h.neR e.symm
  generalize ho : 3 + k * 4 = o at *
  have s1 : SecS (fun q => q = G ∨ q = R) G o (o + 4) w (w.setCell ⟨G, o + 1, none⟩ (.int .i32 1)) := (SecS.refl _ _ _ _ _).set (Or.inl rfl) (by omega) (by omega) _
  have g1 : Chg G w (w.setCell ⟨G, o + 1, none⟩ (.int .i32 1)) := (Chg.refl G w).setCell (Or.inl rfl) _
  have o1 := vlock h1
  have hcl : ∀ q v, q ≠ G → w.cell? ⟨q, 0, none⟩ = some v → (w.setCell ⟨G, o + 1, none⟩ (.int .i32 1)).cell? ⟨q, 0, none⟩ = some v := fun q v hq hc => (g1.cell (block_lt hc) hq).trans hc
  have r1 := h.ring.chg g1 h.uG h.neR h.neM
  have hmk := vmake G o R M c n bb br bt t ((k + 1 : Nat) : Int) key u (w.setCell ⟨G, o + 1, none⟩ (.int .i32 1)) r1 h.tok (by omega) (hcl _ _ nb.1 hb) (hcl _ _ nr.1 hr) (hcl _ _ nt.1 hv) nb.2 nr.2 nt.2 hGR
    ((s1.cell 0 (by omega)).trans h.cR) ((s1.cell 1 (by omega)).trans h.cT) ((cell_off (by omega) _).trans h2) ((s1.froz _).trans h3)
  have hG1 : G < (w.setCell ⟨G, o + 1, none⟩ (.int .i32 1)).heap.size := Nat.lt_of_lt_of_le hlt g1.size
  have hz1 := g1.size
  generalize hw1 : w.setCell ⟨G, o + 1, none⟩ (.int .i32 1) = w1 at *
  refine (do_first_vlt G o _ _ _ w h1 (MkP u G o R M c n key t ((k + 1 : Nat) : Int) w1.heap.size w1) (by rw [hw1]; exact hmk) ?_).mono ?_
  · rintro w2 ⟨W, B, cc, _, hc, _, _, rfl⟩
    exact vmade o1 hG1 hc hGR
  · rintro e w' ⟨he, w2, ⟨W, B, cc, hrW, hcW, hB, hS, rfl⟩, rfl⟩
    have hGW : G < W.heap.size := Nat.lt_of_lt_of_le hG1 hcW.size
    have o2 := vmade (v := .slice (some ⟨B, 0, none⟩) 32 cc) o1 hG1 hcW hGR
    have o3 := vlast o2
    have s2 := (s1.chgK hcW (Or.inr rfl) hGR hlt).set (k := o + 3) (Or.inl rfl) (by omega) (by omega) (.slice (some ⟨B, 0, none⟩) 32 cc)
    have s3 := (s2.drew.set (k := o) (Or.inl rfl) (Nat.le_refl _) (by omega) (.int .u32 1)).set (k := o + 1) (Or.inl rfl) (by omega) (by omega) (.int .i32 0)
    have g2 := (((Chg.refl G W).setCell (a := ⟨G, o + 3, none⟩) (Or.inl rfl) (.slice (some ⟨B, 0, none⟩) 32 cc)).drew.setCell (a := ⟨G, o, none⟩) (Or.inl rfl) (.int .u32 1)).setCell (a := ⟨G, o + 1, none⟩) (Or.inl rfl) (.int .i32 0)
    have hcK : ∃ x, W.cell? ⟨G, o + 3, none⟩ = some x := ⟨_, (hcW.cell hG1 hGR).trans ((by rw [← hw1]; exact cell_off (by omega) _ : w1.cell? ⟨G, o + 3, none⟩ = w.cell? ⟨G, o + 3, none⟩).trans h2)⟩
    obtain ⟨x0, hcK⟩ := hcK
    have c3 : (((W.setCell ⟨G, o + 3, none⟩ (.slice (some ⟨B, 0, none⟩) 32 cc)).drew.setCell ⟨G, o, none⟩ (.int .u32 1)).setCell ⟨G, o + 1, none⟩ (.int .i32 0)).cell? ⟨G, o + 3, none⟩ = some (.slice (some ⟨B, 0, none⟩) 32 cc) :=
      (cell_off (by omega) _).trans ((cell_off (by omega) _).trans (World.cell?_setCell_same W ⟨G, o + 3, none⟩ _ hcK))
    have hf3 := (s3.froz (o + 3)).trans h3
    have r3 := hrW.chg g2 h.uG h.neR h.neM
    have hBW : B < W.heap.size := by
      obtain ⟨B', q, e, hB', _⟩ := hS (by decide)
      cases e; exact hB'
    have hBG : B ≠ G := by omega
    have hBR : B ≠ R := by have := (h.own R h.oR).2; omega
    have hS3 := slB_block hS (g2.block B hBW hBG)
    generalize ((W.setCell ⟨G, o + 3, none⟩ (.slice (some ⟨B, 0, none⟩) 32 cc)).drew.setCell ⟨G, o, none⟩ (.int .u32 1)).setCell ⟨G, o + 1, none⟩ (.int .i32 0) = w3 at *
    subst ho
    refine ⟨he, fun q => O q ∨ q = B, h.next (O' := fun q => O q ∨ q = B) hk s3 r3 (fun q => Or.inl) (fun q hq => ?_) ⟨hf3, Or.inr ⟨o3, B, cc, Or.inr rfl, hBG, hBR, c3, hS3⟩⟩, s3.chg.wide (fun q hq => ?_), fun q hq => ?_, B, cc, c3, hS3⟩
    · rcases hq with hq | rfl
      · exact Or.inl hq
      · refine Or.inr ⟨by omega, ?_, fun s e => ?_⟩
        · obtain ⟨B', q, e, hB', _⟩ := hS3 (by decide)
          cases e; exact hB'
        · obtain ⟨B', q, e2, hB', hh⟩ := hS3 (by decide)
          cases e2
          have := (hh 0 (by decide)).2
          rw [show (⟨q, 0 + 0, none⟩ : Addr) = ⟨q, 0, none⟩ from rfl] at this
          rw [this] at e
          cases e
    · rcases hq with rfl | rfl
      · exact h.oG
      · exact h.oR
    · rcases hq with hq | rfl
      · exact Or.inl hq
      · exact Or.inr (by omega)
theorem once_vlt (G R M c n k bb br bt f : Nat) (key : Nat → Nat) (t V : Int) (O : Nat → Prop) (u w : World) (h : VlA u G R M c n key t f w V O) (hk : k < 255)
    (hb : w.cell? ⟨bb, 0, none⟩ = some (.pointer (some ⟨G, 3 + k * 4, none⟩))) (hr : w.cell? ⟨br, 0, none⟩ = some (.pointer (some ⟨G, 0, none⟩))) (hv : w.cell? ⟨bt, 0, none⟩ = some (.int .i64 ((k + 1 : Nat) : Int)))
    (nb : bb ≠ G ∧ bb ≠ R) (nr : br ≠ G ∧ br ≠ R) (nt : bt ≠ G ∧ bt ≠ R) :
    Calls Tryz.prog 78 #[.pointer (some ⟨G, 3 + k * 4, none⟩), .func (.func 79) #[] #[.pointer (some ⟨br, 0, none⟩), .pointer (some ⟨bt, 0, none⟩), .pointer (some ⟨bb, 0, none⟩)]] w fun e w' =>
      e = .returned (.tuple #[]) ∧ CphP u G R M c n key t f k w V O w' := by
  obtain ⟨hf, hc⟩ := h.cph k hk
  rcases hc with ⟨h1, h2⟩ | ⟨h1, B, cc, k1, k2, k3, k4, k5⟩
  · exact first_vlt G R M c n k bb br bt f key t V O u w h hk h1 h2 hf hb hr hv nb nr nt
  · refine (do_done G (3 + k * 4) _ 0 w h1).mono ?_
    rintro e w' ⟨he, rfl⟩
    exact ⟨he, O, h, ChgS.refl _ _, fun q hq => Or.inl hq, B, cc, k4, k5⟩
theorem CphP.from_ {u : World} {G R M c n f k : Nat} {key : Nat → Nat} {t V : Int} {O : Nat → Prop} {w0 w w' : World} (h : CphP u G R M c n key t f k w V O w') (hb : Below w0.heap.size w0 w) : CphP u G R M c n key t f k w0 V O w' := by
  obtain ⟨O', h1, h2, h3, h4⟩ := h
  exact ⟨O', h1, ⟨h2.os.trans hb.os, h2.tape.trans hb.tape, h2.output.trans hb.output, Nat.le_trans hb.size h2.size, fun k hk hn => (h2.block k (Nat.lt_of_lt_of_le hk hb.size) hn).trans (hb.block k hk)⟩, fun q hq => by
    rcases h3 q hq with e | e
    · exact Or.inl e
    · exact Or.inr (Nat.le_trans hb.size e), h4⟩
theorem CphP.then_ {u : World} {G R M c n f k : Nat} {key : Nat → Nat} {t V : Int} {O : Nat → Prop} {w w' w'' : World} (h : CphP u G R M c n key t f k w V O w') (hb : Below w'.heap.size w' w'') : CphP u G R M c n key t f k w V O w'' := by
  obtain ⟨O', h1, h2, h3, h4⟩ := h
  exact ⟨O', h1.keep hb, h2.trans (ChgS.of_below hb), h3, h4.keep hb⟩
theorem CphP.step {u : World} {G R M c n f k : Nat} {key : Nat → Nat} {t V : Int} {O : Nat → Prop} {w w' : World} (h : CphP u G R M c n key t f k w V O w') : VStep (VlA u G R M c n key t f) w O w' V := by
  obtain ⟨O', h1, h2, h3, _⟩ := h
  exact ⟨O', h1, h2, h3⟩
theorem VStep.same {VA : World → Int → (Nat → Prop) → Prop} {w w' : World} {O : Nat → Prop} {V : Int} (h : VA w' V O) (hb : Below w.heap.size w w') : VStep VA w O w' V := ⟨O, h, ChgS.of_below hb, fun _ hk => Or.inl hk⟩
set_option maxHeartbeats 1600000 in
theorem cipher_any (G R M c n k f : Nat) (key : Nat → Nat) (t V vn : Int) (O : Nat → Prop) (u w : World) (h : VlA u G R M c n key t f w V O) (hk : k < 255) (ht : vn = ((k + 1 : Nat) : Int)) :
    Calls Tryz.prog 41 #[.pointer (some ⟨G, 0, none⟩), .int .i64 vn] w fun e w' => e = .returned (.pointer (some ⟨G, 3 + k * 4, none⟩)) ∧ CphP u G R M c n key t f k w V O w' := by
  have ht1 : vn - 1 = (k : Int) := by omega
  have ht2 : 1 ≤ vn := by omega
  have ht3 : vn ≤ 255 := by omega
  have hki : (k : Int) < 255 := by omega
  have H := Lib.hid h
  have HT := Lib.hid ht
  have HO := Lib.hid (show ∀ q, O q → q < w.heap.size from fun q hq => (h.own q hq).2)
  have hGl := h.lt
  have hRl := (h.own R h.oR).2
  clear h ht
  go_enter Tryz.func41, Tryz.ntmps41
  go_wp2_with fail
  go_region
  have e1 : (w.alloc (.cells #[.pointer (some ⟨G, 0, none⟩)] 26)).heap.size = w.heap.size + 1 := by simp
  have e2 : ((w.alloc (.cells #[.pointer (some ⟨G, 0, none⟩)] 26)).alloc (.cells #[.int .i64 vn] 3)).heap.size = w.heap.size + 1 + 1 := by simp
  have b1 := alloc_below w (.cells #[.pointer (some ⟨G, 0, none⟩)] 26)
  have c1 : (w.alloc (.cells #[.pointer (some ⟨G, 0, none⟩)] 26)).cell? ⟨w.heap.size, 0, none⟩ = some (.pointer (some ⟨G, 0, none⟩)) := (World.cell?_alloc_at _ _ _ _ rfl).trans rfl
  generalize w.alloc (.cells #[.pointer (some ⟨G, 0, none⟩)] 26) = w1 at *
  have b2 := alloc_below w1 (.cells #[.int .i64 vn] 3)
  have c2 : (w1.alloc (.cells #[.int .i64 vn] 3)).cell? ⟨w.heap.size + 1, 0, none⟩ = some (.int .i64 vn) := by rw [← e1]; exact (World.cell?_alloc_at _ _ _ _ rfl).trans rfl
  generalize w1.alloc (.cells #[.int .i64 vn] 3) = w2 at *
  have b3 := alloc_below w2 (.cells #[.pointer (some ⟨G, 3 + k * 4, none⟩)] 93)
  have c3 : (w2.alloc (.cells #[.pointer (some ⟨G, 3 + k * 4, none⟩)] 93)).cell? ⟨w.heap.size + 1 + 1, 0, none⟩ = some (.pointer (some ⟨G, 3 + k * 4, none⟩)) := by rw [← e2]; exact (World.cell?_alloc_at _ _ _ _ rfl).trans rfl
  generalize w2.alloc (.cells #[.pointer (some ⟨G, 3 + k * 4, none⟩)] 93) = w3 at *
  have b13 : Below w.heap.size w w3 := (b1.trans (b2.mono (by omega))).trans (b3.mono (by omega))
  have c2' := (b3.cell (p := ⟨w.heap.size + 1, 0, none⟩) (block_lt c2)).trans c2
  have c1' := (b3.cell (p := ⟨w.heap.size, 0, none⟩) (show w.heap.size < w2.heap.size by omega)).trans ((b2.cell (p := ⟨w.heap.size, 0, none⟩) (block_lt c1)).trans c1)
  have HB3 := Lib.hid (show Below w.heap.size w w3.drew from (b13.trans (Below.refl _ w3).drew))
  have HP := Lib.hid (once_vlt G R M c n k (w.heap.size + 1 + 1) w.heap.size (w.heap.size + 1) f key t V O u w3.drew ((H.out.keep b13).keep (Below.refl _ _).drew) hk c3 c1' (by rw [← HT.out]; exact c2') ⟨by omega, by omega⟩ ⟨by omega, by omega⟩ ⟨by omega, by omega⟩)
  have c3d : w3.drew.cell? ⟨w.heap.size + 1 + 1, 0, none⟩ = some (.pointer (some ⟨G, 3 + k * 4, none⟩)) := c3
  have hzb : w.heap.size + 1 + 1 < w3.drew.heap.size := block_lt c3d
  clear b1 b2 b3 c1 c2 c1' c2' b13 c3 e1 e2
  have hmf : ∀ (fn : Fn) (first cap : Array Value) (w : World), (Instr.makeFunc fn first cap).run Tryz.prog w = .ok (.func fn first cap) w := fun _ _ _ _ => rfl
  go_wp2_with fail
  refine HP.out.mono ?_
  rintro e w4 ⟨rfl, hp4⟩
  have c4 : w4.cell? ⟨w.heap.size + 1 + 1, 0, none⟩ = some (.pointer (some ⟨G, 3 + k * 4, none⟩)) := by
    obtain ⟨O', _, h2, _⟩ := hp4
    exact (h2.cell hzb (fun ho => by have := HO.out _ ho; omega)).trans c3d
  have HP4 := Lib.hid (hp4.from_ HB3.out)
  clear hp4 c3d
  go_wp2_with fail
  go_ret
  exact ⟨rfl, HP4.out⟩
end Go.Proofs.YthmlcmlpmolmoaaGreatDoor
namespace Go.Proofs.YthmlcmlpmolmoaaGreatDoor
set_option maxRecDepth 100000
open Go.RowKit
theorem tw14_size {s : ByteArray} (h : shp s = true) : (twS s).size = 10 := by
  unfold twS
  rw [app_size, pB_size h, pL_size h]
set_option maxHeartbeats 1600000 in
theorem tweaked_any (G o : Nat) (F : Nat → Nat) (tw : ByteArray) (w : World) (hF : ∀ j, F j < 256) (h : Made w G o F) (htw : tw.size ≤ 16) (hp : Pws w) :
    Calls Tryz.prog 80 #[.pointer (some ⟨G, o, none⟩), .string tw] w fun e w' => ∃ c g, e = .returned (.pointer (some ⟨c, 0, none⟩)) ∧ Cu w c g 8 F tw.size (by_ tw) w' := by
  have HKT := Lib.hid (show Kt 8 F tw.size (by_ tw) from ⟨Or.inr rfl, fun j _ => hF j, htw, fun j _ => by_lt _ j⟩)
  obtain ⟨B, cc, hc, hs⟩ := h
  obtain ⟨cap9, w3, hcv, hb3, _, hrow3⟩ := bytesOf' tw w
  have HB3 := Lib.hid hb3
  have HS3 := Lib.hid (hs.keep hb3)
  have HR3 := Lib.hid hrow3
  have HP3 := Lib.hid (hp.keep hb3)
  clear hb3 hs hrow3 hp hF
  go_enter Tryz.func80, Tryz.ntmps80
  go_wp2_with fail
  refine (newU 8 32 cc F tw.size cap9 (by_ tw) _ _ HKT.out rfl HS3.out HR3.out (fun h => by cases h) HB3.out HP3.out).mono ?_
  rintro e w4 ⟨c4, g4, rfl, hcu⟩
  have HC := Lib.hid hcu
  clear hcu
  go_wp2_with fail
  go_ret
  exact ⟨_, _, rfl, HC.out⟩
set_option maxHeartbeats 1600000 in
theorem vencrypt_any (G o : Nat) (F : Nat → Nat) (s : ByteArray) (w : World) (hF : ∀ j, F j < 256) (h : Made w G o F) (hs : shp s = true) (ht : Tabs w) :
    Calls Tryz.prog 42 #[.pointer (some ⟨G, o, none⟩), .string s] w fun e w' => e = .returned (.string (vEn F s)) ∧ Below w.heap.size w w' := by
  have hle : s.size ≤ maxLen := by have := (shp_parts hs).2; unfold maxLen; omega
  have HCUT := Lib.hid (cut11_any s w hle ht.pt)
  rw [show cutE s = 0 from if_pos hs] at HCUT
  have hk : Kt 8 F (twS s).size (by_ (twS s)) := ⟨Or.inr rfl, fun j _ => hF j, by rw [tw14_size hs]; decide, fun j _ => by_lt _ j⟩
  have HTW := Lib.hid (show ∀ W, Below w.heap.size w W → Calls Tryz.prog 80 #[.pointer (some ⟨G, o, none⟩), .string (twS s)] W fun e w' => ∃ c g, e = .returned (.pointer (some ⟨c, 0, none⟩)) ∧ Cu W c g 8 F (twS s).size (by_ (twS s)) w' from
    fun W hb => tweaked_any G o F (twS s) W hF (h.keep hb) (by rw [tw14_size hs]; decide) (ht.pws.keep hb))
  have HEN := Lib.hid (fun (w0 W : World) c g (hcu : Cu w0 c g 8 F (twS s).size (by_ (twS s)) W) => encU hk (pM s) (Nat.le_trans (pM_le s) (by unfold maxLen; decide)) hcu)
  rw [mid_hE hs] at HEN
  have he := enc_fine (n := 8) (key := F) (t := (twS s).size) (T := by_ (twS s)) (mid_hE hs)
  have h6 := pB_le s
  have h4 := pL_le s
  have hm := pM_le s
  have h9 : (encS 8 F (twS s).size (by_ (twS s)) (pM s)).size ≤ 9 := by omega
  have HTQ := Lib.hid (show twS s = pB s ++ pL s from rfl)
  rw [show vEn F s = pB s ++ encS 8 F (twS s).size (by_ (twS s)) (pM s) ++ pL s from rfl]
  clear hk hle he h hs ht hF
  generalize encS 8 F (twS s).size (by_ (twS s)) (pM s) = en at *
  generalize twS s = tw at *
  generalize pB s = b1 at *
  generalize pL s = b3 at *
  generalize pM s = b2 at *
  go_enter Tryz.func42, Tryz.ntmps42
  go_wp2_with fail
  refine HCUT.out.mono ?_
  rintro e w1 ⟨rfl, hb1⟩
  have HB := Lib.hid hb1
  clear hb1
  go_wp2_with fail
  rw [← HTQ.out]
  refine (HTW.out w1 HB.out).mono ?_
  rintro e w2 ⟨c2, g2, rfl, hcu⟩
  have HC2 := Lib.hid hcu
  clear hcu
  go_wp2_with fail
  refine (HEN.out w1 w2 c2 g2 HC2.out).mono ?_
  rintro e w3 ⟨rfl, hcu⟩
  have HB3 := Lib.hid (HB.out.trans (hcu.below.mono HB.out.size))
  clear hcu
  go_wp2_with fail
  go_ret
  exact ⟨rfl, HB3.out⟩
set_option maxHeartbeats 1600000 in
theorem vdecrypt_any (G o : Nat) (F : Nat → Nat) (s : ByteArray) (w : World) (hF : ∀ j, F j < 256) (h : Made w G o F) (hs : shp s = true) (ht : Tabs w) :
    Calls Tryz.prog 46 #[.pointer (some ⟨G, o, none⟩), .string s] w fun e w' => e = .returned (.string (vDe F s)) ∧ Below w.heap.size w w' := by
  have hle : s.size ≤ maxLen := by have := (shp_parts hs).2; unfold maxLen; omega
  have HCUT := Lib.hid (cut11_any s w hle ht.pt)
  rw [show cutE s = 0 from if_pos hs] at HCUT
  have hk : Kt 8 F (twS s).size (by_ (twS s)) := ⟨Or.inr rfl, fun j _ => hF j, by rw [tw14_size hs]; decide, fun j _ => by_lt _ j⟩
  have HTW := Lib.hid (show ∀ W, Below w.heap.size w W → Calls Tryz.prog 80 #[.pointer (some ⟨G, o, none⟩), .string (twS s)] W fun e w' => ∃ c g, e = .returned (.pointer (some ⟨c, 0, none⟩)) ∧ Cu W c g 8 F (twS s).size (by_ (twS s)) w' from
    fun W hb => tweaked_any G o F (twS s) W hF (h.keep hb) (by rw [tw14_size hs]; decide) (ht.pws.keep hb))
  have HEN := Lib.hid (fun (w0 W : World) c g (hcu : Cu w0 c g 8 F (twS s).size (by_ (twS s)) W) => decU hk (pM s) (Nat.le_trans (pM_le s) (by unfold maxLen; decide)) hcu)
  rw [mid_hE hs] at HEN
  have he := enc_fine (n := 8) (key := F) (t := (twS s).size) (T := by_ (twS s)) (mid_hE hs)
  have h6 := pB_le s
  have h4 := pL_le s
  have hm := pM_le s
  have h9 : (decS 8 F (twS s).size (by_ (twS s)) (pM s)).size ≤ 9 := by omega
  have HTQ := Lib.hid (show twS s = pB s ++ pL s from rfl)
  rw [show vDe F s = pB s ++ decS 8 F (twS s).size (by_ (twS s)) (pM s) ++ pL s from rfl]
  clear hk hle he h hs ht hF
  generalize decS 8 F (twS s).size (by_ (twS s)) (pM s) = en at *
  generalize twS s = tw at *
  generalize pB s = b1 at *
  generalize pL s = b3 at *
  generalize pM s = b2 at *
  go_enter Tryz.func46, Tryz.ntmps46
  go_wp2_with fail
  refine HCUT.out.mono ?_
  rintro e w1 ⟨rfl, hb1⟩
  have HB := Lib.hid hb1
  clear hb1
  go_wp2_with fail
  rw [← HTQ.out]
  refine (HTW.out w1 HB.out).mono ?_
  rintro e w2 ⟨c2, g2, rfl, hcu⟩
  have HC2 := Lib.hid hcu
  clear hcu
  go_wp2_with fail
  refine (HEN.out w1 w2 c2 g2 HC2.out).mono ?_
  rintro e w3 ⟨rfl, hcu⟩
  have HB3 := Lib.hid (HB.out.trans (hcu.below.mono HB.out.size))
  clear hcu
  go_wp2_with fail
  go_ret
  exact ⟨rfl, HB3.out⟩
end Go.Proofs.YthmlcmlpmolmoaaGreatDoor
namespace Go.Proofs.YthmlcmlpmolmoaaGreatDoor
open Go.RowKit
theorem addI64 (x : Nat) (hx : x < 9223372036854775807) (w : World) : (Op.intArith .add .i64 (x : Int) 1).run Tryz.prog w = .ok (.int .i64 ((x + 1 : Nat) : Int)) w := by
  have h1 : (-9223372036854775808 : Int) ≤ (x : Int) + 1 := by omega
  have h2 : (x : Int) + 1 ≤ 9223372036854775807 := by omega
  go_simp
  exact IntWalk.i64_in _ ⟨h1, h2⟩
theorem icount_add (b o x : Nat) (w : World) (hx : x < 9223372036854775807) (hc : w.cell? ⟨b, o, none⟩ = some (.int .i64 (x : Nat))) (hz : w.frozen? ⟨b, o, none⟩ = false) :
    Calls Tryz.prog 48 #[.pointer (some ⟨b, o, none⟩), .int .i64 1] w fun e w' => e = .returned (.int .i64 ((x + 1 : Nat) : Int)) ∧ w' = w.setCell ⟨b, o, none⟩ (.int .i64 ((x + 1 : Nat) : Int)) := by
  have hl := run_call_add (P := Tryz.prog) Tryz.func89 (by kernel_rfl) (by kernel_rfl) (by kernel_rfl) .i64 (by kernel_rfl) hc hz (addI64 x hx w)
  go_enter Tryz.func48, Tryz.ntmps48
  go_wp2_with fail
  go_ret
  exact ⟨rfl, rfl⟩
theorem icount_load (b o : Nat) (x : Int) (w : World) (hc : w.cell? ⟨b, o, none⟩ = some (.int .i64 x)) :
    Calls Tryz.prog 49 #[.pointer (some ⟨b, o, none⟩)] w fun e w' => e = .returned (.int .i64 x) ∧ w = w' := by
  have hl := run_call_load (P := Tryz.prog) Tryz.func90 (by kernel_rfl) (by kernel_rfl) (by kernel_rfl) .i64 (by kernel_rfl) hc
  go_enter Tryz.func49, Tryz.ntmps49
  go_wp2_with fail
  go_ret
  exact ⟨rfl, rfl⟩
theorem icount_store (b o : Nat) (x : Int) (u : Value) (w : World) (hc : w.cell? ⟨b, o, none⟩ = some u) (hz : w.frozen? ⟨b, o, none⟩ = false) :
    Calls Tryz.prog 37 #[.pointer (some ⟨b, o, none⟩), .int .i64 x] w fun e w' => e = .returned (.tuple #[]) ∧ w' = w.setCell ⟨b, o, none⟩ (.int .i64 x) := by
  have hl := run_call_store (P := Tryz.prog) Tryz.func73 (by kernel_rfl) (by kernel_rfl) (by kernel_rfl) (by kernel_rfl) (k := .i64) (y := x) hc hz
  go_enter Tryz.func37, Tryz.ntmps37
  go_wp2_with fail
  go_end0
  exact ⟨rfl, rfl⟩
end Go.Proofs.YthmlcmlpmolmoaaGreatDoor
namespace Go.Proofs.YthmlcmlpmolmoaaGreatDoor
set_option maxRecDepth 100000
open Go.RowKit
section
variable {u : World} {G R M c n f : Nat} {key : Nat → Nat} {t V : Int} {O : Nat → Prop}
set_option maxHeartbeats 1600000 in
theorem vversion_any (w : World) (h : VlA u G R M c n key t f w V O) :
    Calls Tryz.prog 24 #[.pointer (some ⟨G, 0, none⟩)] w fun e w' => e = .returned (.int .i64 V) ∧ w' = w := by
  obtain ⟨C, hc, _, rfl, _⟩ := h.cV
  have HL := Lib.hid (icount_load G 2 (C : Int) w hc)
  clear h hc
  go_enter Tryz.func24, Tryz.ntmps24
  go_wp2_with fail
  refine HL.out.mono ?_
  rintro e w1 ⟨rfl, rfl⟩
  go_wp2_with fail
  go_ret
  exact ⟨rfl, rfl⟩
set_option maxHeartbeats 1600000 in
theorem vrotate_any (w : World) (h : VlA u G R M c n key t (f + 1) w V O) :
    Calls Tryz.prog 20 #[.pointer (some ⟨G, 0, none⟩)] w fun e w' => e = .returned (.tuple #[.int .i64 (roV V), .int .i64 (roE V)]) ∧ VStep (VlA u G R M c n key t f) w O w' (roN V) := by
  obtain ⟨C, hc, h1, rfl, h2⟩ := h.cV
  have HL := Lib.hid (icount_add G 2 C w (by omega) hc h.fV)
  obtain ⟨k1, k2⟩ := h.rot hc
  have HK := Lib.hid (show VStep (VlA u G R M c n key t f) w O (w.setCell ⟨G, 2, none⟩ (.int .i64 ((C + 1 : Nat) : Int))) (roN (min (C : Int) 255)) from ⟨O, k1, k2, fun _ hk => Or.inl hk⟩)
  clear h hc k1 k2
  by_cases hC : C < 255
  · have e1 : roV (min (C : Int) 255) = ((C + 1 : Nat) : Int) := by unfold roV; rw [if_pos (by omega)]; omega
    have e2 : roE (min (C : Int) 255) = 0 := by unfold roE; rw [if_pos (by omega)]
    rw [e1, e2]
    have hC1 : ((C + 1 : Nat) : Int) ≤ 255 := by omega
    have hC2 : ¬ (255 : Int) < ((C + 1 : Nat) : Int) := by omega
    clear e1 e2
    generalize C + 1 = C1 at *
    go_enter Tryz.func20, Tryz.ntmps20
    go_wp2_with fail
    refine HL.out.mono ?_
    rintro e w1 ⟨rfl, hw⟩
    have HW := Lib.hid hw
    clear hw
    go_wp2_with fail
    go_ret2
    exact ⟨rfl, by rw [HW.out]; exact HK.out⟩
  · have e1 : roV (min (C : Int) 255) = 0 := by unfold roV; rw [if_neg (by omega)]
    have e2 : roE (min (C : Int) 255) = 14 := by unfold roE; rw [if_neg (by omega)]
    rw [e1, e2]
    have hC1 : ¬ ((C + 1 : Nat) : Int) ≤ 255 := by omega
    have hC2 : (255 : Int) < ((C + 1 : Nat) : Int) := by omega
    clear e1 e2
    generalize C + 1 = C1 at *
    go_enter Tryz.func20, Tryz.ntmps20
    go_wp2_with fail
    refine HL.out.mono ?_
    rintro e w1 ⟨rfl, hw⟩
    have HW := Lib.hid hw
    clear hw
    go_wp2_with fail
    go_ret2
    exact ⟨rfl, by rw [HW.out]; exact HK.out⟩
theorem vturn_any (w : World) (h : VlA u G R M c n key t f w V O) (ver : Int) (hv : 1 ≤ ver ∧ ver ≤ 255) : ∃ k, k < 255 ∧ ver = ((k + 1 : Nat) : Int) ∧
    (∀ W, Below w.heap.size w W → Calls Tryz.prog 41 #[.pointer (some ⟨G, 0, none⟩), .int .i64 ver] W fun e w' => e = .returned (.pointer (some ⟨G, 3 + k * 4, none⟩)) ∧ CphP u G R M c n key t f k w V O w') ∧
    (∀ W s, shp s = true → CphP u G R M c n key t f k w V O W → Calls Tryz.prog 42 #[.pointer (some ⟨G, 3 + k * 4, none⟩), .string s] W fun e w' => e = .returned (.string (vEn (vK n key t ver) s)) ∧ CphP u G R M c n key t f k w V O w' ∧ Tabs w') ∧
    (∀ W s, shp s = true → CphP u G R M c n key t f k w V O W → Calls Tryz.prog 46 #[.pointer (some ⟨G, 3 + k * 4, none⟩), .string s] W fun e w' => e = .returned (.string (vDe (vK n key t ver) s)) ∧ CphP u G R M c n key t f k w V O w' ∧ Tabs w') := by
  obtain ⟨k, rfl⟩ : ∃ k : Nat, ver = ((k + 1 : Nat) : Int) := ⟨ver.toNat - 1, by omega⟩
  have hF : ∀ j, vK n key t ((k + 1 : Nat) : Int) j < 256 := fun j => keyF_lt _ _ _ _ _ j
  refine ⟨k, by omega, rfl, fun W hb => ?_, fun W s hs hc => ?_, fun W s hs hc => ?_⟩
  · refine (cipher_any G R M c n k f key t V _ O u W (h.keep hb) (by omega) rfl).mono ?_
    rintro e w' ⟨he, hp⟩
    exact ⟨he, hp.from_ hb⟩
  · have hc2 := hc
    obtain ⟨O', h1, _, _, h4⟩ := hc2
    refine (vencrypt_any G (3 + k * 4) _ s W hF h4 hs h1.tabsW).mono ?_
    rintro e w' ⟨he, hb⟩
    exact ⟨he, hc.then_ hb, h1.tabsW.keep hb⟩
  · have hc2 := hc
    obtain ⟨O', h1, _, _, h4⟩ := hc2
    refine (vdecrypt_any G (3 + k * 4) _ s W hF h4 hs h1.tabsW).mono ?_
    rintro e w' ⟨he, hb⟩
    exact ⟨he, hc.then_ hb, h1.tabsW.keep hb⟩
set_option maxHeartbeats 1600000 in
theorem vtoken_any (w : World) (s : ByteArray) (h : VlA u G R M c n key t f w V O) (hs : s.size ≤ maxLen) :
    Calls Tryz.prog 16 #[.pointer (some ⟨G, 0, none⟩), .string s] w fun e w' => e = .returned (.tuple #[.string (vtV (vK n key t) V s), .int .i64 (vtE s)]) ∧ VStep (VlA u G R M c n key t f) w O w' V := by
  have HIS := Lib.hid (isc_any s w hs h.tabsW.pt)
  have HH := Lib.hid h
  have hr := h.rng
  cases h1 : isV s with
  | false =>
    rw [vtE_no h1, vtV_no h1]
    rw [h1] at HIS
    clear h1 hr hs h
    go_enter Tryz.func16, Tryz.ntmps16
    go_wp2_with fail
    refine HIS.out.mono ?_
    rintro e w1 ⟨rfl, hb1⟩
    have HB1 := Lib.hid hb1
    clear hb1
    go_wp2_with fail
    go_ret2
    exact ⟨rfl, VStep.same (HH.out.keep HB1.out) HB1.out⟩
  | true =>
    have hz := isV_shp h1
    have hpz := (vEn_parts (vK n key t V) hz).1
    have hps := (vEn_parts (vK n key t V) hz).2.2.2.2
    obtain ⟨k, hk, hkV, t1, t2, _⟩ := vturn_any w h V hr
    have HT1 := Lib.hid t1
    have HT2 := Lib.hid (fun W => t2 W s hz)
    have hE : tokE (vEn (vK n key t V) s) V = 0 := by
      unfold tokE
      rw [if_pos hpz, if_neg (by omega)]
    have HTO := Lib.hid (fun W (hW : PT W) => token_any (vEn (vK n key t V) s) V W (by rw [hps]; exact hs) hW)
    have hV : tokV (vEn (vK n key t V) s) V = tkS (vEn (vK n key t V) s) V := if_pos hE
    rw [hE, hV] at HTO
    rw [vtE_ok h1, show vtV (vK n key t) V s = tkS (vEn (vK n key t V) s) V from if_pos h1]
    rw [h1] at HIS
    clear h1 hr hs hz hpz hps hE hV h t1 t2 hk hkV
    generalize tkS (vEn (vK n key t V) s) V = r1 at *
    generalize vEn (vK n key t V) s = x1 at *
    go_enter Tryz.func16, Tryz.ntmps16
    go_wp2_with fail
    refine HIS.out.mono ?_
    rintro e w1 ⟨rfl, hb1⟩
    have HB1 := Lib.hid hb1
    clear hb1 HIS
    go_wp2_with fail
    refine (vversion_any w1 (HH.out.keep HB1.out)).mono ?_
    rintro e w2 ⟨rfl, rfl⟩
    go_wp2_with fail
    refine (HT1.out w2 HB1.out).mono ?_
    rintro e w3 ⟨rfl, hp3⟩
    have HP3 := Lib.hid hp3
    clear hp3
    go_wp2_with fail
    refine (HT2.out w3 HP3.out).mono ?_
    rintro e w4 ⟨rfl, hp4, ht4⟩
    have HP4 := Lib.hid hp4
    have HX4 := Lib.hid ht4
    clear hp4 ht4
    go_wp2_with fail
    refine (HTO.out w4 HX4.out.pt).mono ?_
    rintro e w5 ⟨rfl, hb5⟩
    have HP5 := Lib.hid (HP4.out.then_ hb5)
    clear hb5
    go_wp2_with fail
    go_ret2
    exact ⟨rfl, HP5.out.step⟩
set_option maxHeartbeats 3200000 in
theorem vback_any (w : World) (s : ByteArray) (h : VlA u G R M c n key t f w V O) (hs : s.size ≤ maxLen) :
    Calls Tryz.prog 18 #[.pointer (some ⟨G, 0, none⟩), .string s] w fun e w' => e = .returned (.tuple #[.string (vbV (vK n key t) V s), .int .i64 (vbE (vK n key t) V s)]) ∧ VStep (VlA u G R M c n key t f) w O w' V := by
  have HSP := Lib.hid (split_any s w hs h.tabsW.pt)
  have HH := Lib.hid h
  have hr := h.rng
  cases h1 : isTk s with
  | false =>
    have e1 : vbE (vK n key t) V s = 11 := by unfold vbE; rw [h1, if_neg (by decide)]
    have e2 : vbV (vK n key t) V s = { data := #[] } := by unfold vbV; rw [e1, if_neg (by decide)]
    have hsE : splE s = 11 := by unfold splE; rw [h1, if_neg (by decide)]
    rw [e1, e2]
    rw [hsE] at HSP
    clear h1 hr hs e1 e2 hsE h
    generalize splV s = d at *
    generalize splN s = nn at *
    go_enter Tryz.func18, Tryz.ntmps18
    go_wp2_with fail
    refine HSP.out.mono ?_
    rintro e w1 ⟨rfl, hb1⟩
    have HB1 := Lib.hid hb1
    clear hb1
    go_wp2_with fail
    go_ret2
    exact ⟨rfl, VStep.same (HH.out.keep HB1.out) HB1.out⟩
  | true =>
    obtain ⟨hz, k1, k2⟩ := isTk_parts h1
    have hsE : splE s = 0 := if_pos h1
    have hsV : splV s = tkA s := if_pos h1
    have hsN : splN s = tkN s := if_pos h1
    rw [hsE, hsV, hsN] at HSP
    by_cases h2 : V < tkN s
    · have e1 : vbE (vK n key t) V s = 12 := by unfold vbE; rw [if_pos h1, if_pos h2]
      have e2 : vbV (vK n key t) V s = { data := #[] } := by unfold vbV; rw [e1, if_neg (by decide)]
      rw [e1, e2]
      clear h1 hr hs e1 e2 hsE hsV hsN hz h
      generalize tkA s = d at *
      generalize tkN s = nn at *
      go_enter Tryz.func18, Tryz.ntmps18
      go_wp2_with fail
      refine HSP.out.mono ?_
      rintro e w1 ⟨rfl, hb1⟩
      have HB1 := Lib.hid hb1
      clear hb1
      go_wp2_with fail
      refine (vversion_any w1 (HH.out.keep HB1.out)).mono ?_
      rintro e w2 ⟨rfl, rfl⟩
      go_wp2_with fail
      go_ret2
      exact ⟨rfl, VStep.same (HH.out.keep HB1.out) HB1.out⟩
    · obtain ⟨k, hk, hkV, t1, _, t3⟩ := vturn_any w h (tkN s) ⟨k1, k2⟩
      have HT1 := Lib.hid t1
      have HT3 := Lib.hid (fun W => t3 W (tkA s) hz)
      have hps := (vDe_parts (vK n key t (tkN s)) hz).2.2.2.2
      have hza := (shp_parts hz).2
      have HIS := Lib.hid (fun W (hW : PT W) => isc_any (vDe (vK n key t (tkN s)) (tkA s)) W (by rw [hps]; unfold maxLen; omega) hW)
      have e1 : vbE (vK n key t) V s = if isV (vDe (vK n key t (tkN s)) (tkA s)) = true then 0 else 11 := by unfold vbE; rw [if_pos h1, if_neg h2]
      have e2 : vbV (vK n key t) V s = if isV (vDe (vK n key t (tkN s)) (tkA s)) = true then vDe (vK n key t (tkN s)) (tkA s) else { data := #[] } := by
        unfold vbV
        rw [e1]
        cases isV (vDe (vK n key t (tkN s)) (tkA s)) <;> rfl
      rw [e1, e2]
      clear h1 hr hs e1 e2 hsE hsV hsN hz hps hza h t1 t3 hk hkV
      generalize vDe (vK n key t (tkN s)) (tkA s) = x1 at *
      generalize isV x1 = is at *
      generalize tkA s = d at *
      generalize tkN s = nn at *
      go_enter Tryz.func18, Tryz.ntmps18
      go_wp2_with fail
      refine HSP.out.mono ?_
      rintro e w1 ⟨rfl, hb1⟩
      have HB1 := Lib.hid hb1
      clear hb1 HSP
      go_wp2_with fail
      refine (vversion_any w1 (HH.out.keep HB1.out)).mono ?_
      rintro e w2 ⟨rfl, rfl⟩
      go_wp2_with fail
      refine (HT1.out w2 HB1.out).mono ?_
      rintro e w3 ⟨rfl, hp3⟩
      have HP3 := Lib.hid hp3
      clear hp3
      go_wp2_with fail
      refine (HT3.out w3 HP3.out).mono ?_
      rintro e w4 ⟨rfl, hp4, ht4⟩
      have HP4 := Lib.hid hp4
      have HX4 := Lib.hid ht4
      clear hp4 ht4
      go_wp2_with fail
      refine (HIS.out w4 HX4.out.pt).mono ?_
      rintro e w5 ⟨rfl, hb5⟩
      have HP5 := Lib.hid (HP4.out.then_ hb5)
      clear hb5
      cases is with
      | false =>
        go_wp2_with fail
        go_ret2
        exact ⟨rfl, HP5.out.step⟩
      | true =>
        go_wp2_with fail
        go_ret2
        exact ⟨rfl, HP5.out.step⟩
theorem VStep.trans {VA : World → Int → (Nat → Prop) → Prop} {w w' w'' : World} {O' : Nat → Prop} {V2 : Int} {O : Nat → Prop} (hO : ∀ k, O' k → O k ∨ w.heap.size ≤ k) (h1 : ChgS O w w') (h2 : VStep VA w' O' w'' V2) : VStep VA w O w'' V2 := by
  obtain ⟨O2, k1, k2, k3⟩ := h2
  refine ⟨O2, k1, ⟨k2.os.trans h1.os, k2.tape.trans h1.tape, k2.output.trans h1.output, Nat.le_trans h1.size k2.size, fun k hk hn => (k2.block k (Nat.lt_of_lt_of_le hk h1.size) fun ho => ?_).trans (h1.block k hk hn)⟩, fun k hk => ?_⟩
  · rcases hO k ho with e | e
    · exact hn e
    · omega
  · rcases k3 k hk with e | e
    · exact hO k e
    · exact Or.inr (Nat.le_trans h1.size e)
set_option maxHeartbeats 1600000 in
theorem vrenew_any (w : World) (s : ByteArray) (h : VlA u G R M c n key t f w V O) (hs : s.size ≤ maxLen) :
    Calls Tryz.prog 22 #[.pointer (some ⟨G, 0, none⟩), .string s] w fun e w' => e = .returned (.tuple #[.string (vrV (vK n key t) V s), .int .i64 (vbE (vK n key t) V s)]) ∧ VStep (VlA u G R M c n key t f) w O w' V := by
  have HBA := Lib.hid (vback_any w s h hs)
  by_cases hg : vbE (vK n key t) V s = 0
  · obtain ⟨j1, j2, h3, j4⟩ := vb_ok hg
    have HTO := Lib.hid (show ∀ W O', VlA u G R M c n key t f W V O' → Calls Tryz.prog 16 #[.pointer (some ⟨G, 0, none⟩), .string (vbV (vK n key t) V s)] W fun e w' => e = .returned (.tuple #[.string (vtV (vK n key t) V (vbV (vK n key t) V s)), .int .i64 (vtE (vbV (vK n key t) V s))]) ∧ VStep (VlA u G R M c n key t f) W O' w' V from fun W O' hb => vtoken_any W _ hb (Nat.le_trans (isV_size h3).2 (by unfold maxLen; decide)))
    rw [vtE_ok h3] at HTO
    rw [show vrV (vK n key t) V s = vtV (vK n key t) V (vbV (vK n key t) V s) from if_pos hg]
    rw [hg] at HBA ⊢
    clear hg h3 h hs j1 j2 j4
    generalize vtV (vK n key t) V (vbV (vK n key t) V s) = y1 at *
    generalize vbV (vK n key t) V s = x1 at *
    go_enter Tryz.func22, Tryz.ntmps22
    go_wp2_with fail
    refine HBA.out.mono ?_
    rintro e w1 ⟨rfl, O1, k1, k2, k3⟩
    have HK1 := Lib.hid k1
    have HK2 := Lib.hid k2
    have HK3 := Lib.hid k3
    clear k1 k2 k3
    go_wp2_with fail
    refine (HTO.out w1 O1 HK1.out).mono ?_
    rintro e w2 ⟨rfl, hs2⟩
    have HS2 := Lib.hid (VStep.trans HK3.out HK2.out hs2)
    clear hs2
    go_wp2_with fail
    go_ret2
    exact ⟨rfl, HS2.out⟩
  · rw [show vrV (vK n key t) V s = { data := #[] } from if_neg hg]
    have hgE : (vbE (vK n key t) V s == 0) = false := by simpa using hg
    clear hg h hs
    generalize vbE (vK n key t) V s = eg at *
    generalize vbV (vK n key t) V s = x1 at *
    go_enter Tryz.func22, Tryz.ntmps22
    go_wp2_with fail
    refine HBA.out.mono ?_
    rintro e w1 ⟨rfl, hs1⟩
    have HS1 := Lib.hid hs1
    clear hs1
    go_wp2_with fail
    go_ret2
    exact ⟨rfl, HS1.out⟩
theorem vkit (u : World) (G R M c n : Nat) (key : Nat → Nat) (t : Int) : VKitS u G (vK n key t) (VlA u G R M c n key t) where
  bel := fun _ _ _ h => h.ring.bel
  own := fun _ _ _ h => h.own
  rng := fun _ _ _ h => h.rng
  kind := fun _ _ _ h => h.kind
  keep := fun _ _ _ _ _ h hc hT => h.chgS hc hT
  token := fun w V O s h hs => vtoken_any w s h hs
  back := fun w V O s h hs => vback_any w s h hs
  renew := fun w V O s h hs => vrenew_any w s h hs
  rotate := fun w V O h => vrotate_any w h
  version := fun w V O h => (vversion_any w h).mono fun _ _ ⟨he, hw⟩ => ⟨he, by rw [hw]; exact VStep.same h (Below.refl _ _)⟩
end
end Go.Proofs.YthmlcmlpmolmoaaGreatDoor
