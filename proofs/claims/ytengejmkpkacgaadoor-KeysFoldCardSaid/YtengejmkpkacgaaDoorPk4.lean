/- 19 texts in one, in their order. -/
import Derived.Test.YtengejmkpkacgaaDoorPk3
import Derived.Shelf.Strconv.Itoa3
import Derived.Lib.SmallJoins
import Derived.Lib.QuietBelow
import Derived.Lib.LaidTab
import Derived.Lib.ItoaLen
import Derived.Laws.BitsAllLaws
import Derived.Laws.BitsLemmas
/- strconv.Itoa at this dump. -/
namespace Go.Proofs.YtengejmkpkacgaaDoor
open Go.Shelf Go.RowKit
def laysM171_ren : Go.Shelf.Ren := ⟨fun | 171 => 21 | 243 => 28 | 246 => 35 | 283 => 46 | 284 => 47 | 285 => 48 | 286 => 49 | 129 => 62 | 317 => 61 | 318 => 63 | 319 => 64 | 320 => 65 | 337 => 77 | 338 => 78 | n => n, fun | 3 => 3 | 9 => 9 | 2 => 2 | 4 => 4 | 171 => 88 | 0 => 0 | 53 => 89 | 37 => 22 | 5 => 5 | 173 => 92 | 212 => 106 | 51 => 47 | 20 => 20 | 213 => 107 | 46 => 109 | 232 => 56 | 233 => 77 | n => n, fun | 17 => 1 | 18 => 3 | 19 => 4 | n => n⟩
theorem laysM171 : Go.Proofs.LaysM.n171 Tryd.prog laysM171_ren := {
  mixed := by kernel_rfl
  f129 := Tryd.func62.trans (congrArg some (by kernel_rfl))
  f171 := Tryd.func21.trans (congrArg some (by kernel_rfl))
  f243 := Tryd.func28.trans (congrArg some (by kernel_rfl))
  f246 := Tryd.func35.trans (congrArg some (by kernel_rfl))
  f283 := Tryd.func46.trans (congrArg some (by kernel_rfl))
  f284 := Tryd.func47.trans (congrArg some (by kernel_rfl))
  f285 := Tryd.func48.trans (congrArg some (by kernel_rfl))
  f286 := Tryd.func49.trans (congrArg some (by kernel_rfl))
  f317 := Tryd.func61.trans (congrArg some (by kernel_rfl))
  f318 := Tryd.func63.trans (congrArg some (by kernel_rfl))
  f319 := Tryd.func64.trans (congrArg some (by kernel_rfl))
  f320 := Tryd.func65.trans (congrArg some (by kernel_rfl))
  f337 := Tryd.func77.trans (congrArg some (by kernel_rfl))
  f338 := Tryd.func78.trans (congrArg some (by kernel_rfl))
  t0 := Tryd.underlying0
  a0 := Tryd.isAgg0
  z0 := Tryd.sizeOf0
  v0 := Tryd.zeroValue0
  t2 := Tryd.underlying2
  a2 := Tryd.isAgg2
  z2 := Tryd.sizeOf2
  v2 := Tryd.zeroValue2
  t3 := Tryd.underlying3
  a3 := Tryd.isAgg3
  z3 := Tryd.sizeOf3
  v3 := Tryd.zeroValue3
  t4 := Tryd.underlying4
  a4 := Tryd.isAgg4
  z4 := Tryd.sizeOf4
  v4 := Tryd.zeroValue4
  t5 := Tryd.underlying5
  a5 := Tryd.isAgg5
  z5 := Tryd.sizeOf5
  v5 := Tryd.zeroValue5
  t9 := Tryd.underlying9
  a9 := Tryd.isAgg9
  z9 := Tryd.sizeOf9
  v9 := Tryd.zeroValue9
  t20 := Tryd.underlying20
  a20 := Tryd.isAgg20
  z20 := Tryd.sizeOf20
  v20 := Tryd.zeroValue20
  t37 := Tryd.underlying22
  a37 := Tryd.isAgg22
  z37 := Tryd.sizeOf22
  v37 := Tryd.zeroValue22
  t46 := Tryd.underlying109
  a46 := Tryd.isAgg109
  z46 := Tryd.sizeOf109
  v46 := Tryd.zeroValue109
  t51 := Tryd.underlying47
  a51 := Tryd.isAgg47
  z51 := Tryd.sizeOf47
  v51 := Tryd.zeroValue47
  t53 := Tryd.underlying89
  a53 := Tryd.isAgg89
  z53 := Tryd.sizeOf89
  v53 := Tryd.zeroValue89
  t171 := Tryd.underlying88
  a171 := Tryd.isAgg88
  z171 := Tryd.sizeOf88
  v171 := Tryd.zeroValue88
  t173 := Tryd.underlying92
  a173 := Tryd.isAgg92
  z173 := Tryd.sizeOf92
  v173 := Tryd.zeroValue92
  t212 := Tryd.underlying106
  a212 := Tryd.isAgg106
  z212 := Tryd.sizeOf106
  v212 := Tryd.zeroValue106
  t213 := Tryd.underlying107
  a213 := Tryd.isAgg107
  z213 := Tryd.sizeOf107
  t232 := Tryd.underlying56
  a232 := Tryd.isAgg56
  z232 := Tryd.sizeOf56
  v232 := Tryd.zeroValue56
  t233 := Tryd.underlying77
  a233 := Tryd.isAgg77
  z233 := Tryd.sizeOf77
  v233 := Tryd.zeroValue77
  g17 := by kernel_rfl
  g18 := by kernel_rfl
  g19 := by kernel_rfl
  i0 := by kernel_rfl
  i2 := by kernel_rfl
  i3 := by kernel_rfl
  i4 := by kernel_rfl
  i5 := by kernel_rfl
  i9 := by kernel_rfl
  i20 := by kernel_rfl
  i37 := by kernel_rfl
  i46 := by kernel_rfl
  i51 := by kernel_rfl
  i53 := by kernel_rfl
  i171 := by kernel_rfl
  i173 := by kernel_rfl
  i212 := by kernel_rfl
  i232 := by kernel_rfl
  i233 := by kernel_rfl
  m17 := by kernel_rfl
  m18 := by kernel_rfl
  m19 := by kernel_rfl }

/-- a number's digits -/
def itoaB (n : Int) : ByteArray := ⟨(Lib.itoa n).toArray⟩

/-- the table that strconv reads -/
def P10 (w : World) : Prop := Lib.TabIs Tryd.prog w "internal/strconv.uint64pow10" .u64 Lib.pow10Tab

theorem gP10 : Tryd.prog.globalNamed "internal/strconv.uint64pow10" = some 1 := by kernel_rfl

theorem P10.lt {w : World} (h : P10 w) : 1 < w.heap.size := block_lt (h.cell gP10 0 (by decide))

theorem P10.keep {w w' : World} (h : P10 w) (hb : Below w.heap.size w w') : P10 w' := Joins.tab_stays gP10 h hb (Nat.le_refl _)

theorem itoa_any (n : Int) (w : World) (h0 : -9223372036854775808 ≤ n) (h1 : n ≤ 9223372036854775807) (hp : P10 w) :
    Calls Tryd.prog 21 #[.int .i64 n] w fun e w' => e = .returned (.string (itoaB n)) ∧ Below w.heap.size w w' :=
  (Any.strconv_Itoa laysM171 n h0 h1 w hp).mono fun _ _ ⟨he, k, os, hw⟩ => ⟨he, hw ▸ below_regrown w (w.drawn + k) os⟩
end Go.Proofs.YtengejmkpkacgaaDoor
/- Layer 13: what the ring of keys derives, as plain functions; how it lies in memory. -/
namespace Go.Proofs.YtengejmkpkacgaaDoor
open Go.RowKit
abbrev bTenant : ByteArray := { data := #[116, 101, 110, 97, 110, 116] }
abbrev bVersion : ByteArray := { data := #[118, 101, 114, 115, 105, 111, 110] }
def lab2 (a b : ByteArray) (j : Nat) : ByteArray := if j = 0 then a else b
def lab3 (a b c : ByteArray) (j : Nat) : ByteArray := if j = 0 then a else if j = 1 then b else c
/-- a tenant's own key -/
def ownF (n : Nat) (key : Nat → Nat) (t : Nat) : Nat → Nat := fkF n key (lab2 bTenant (itoaB t)) 2
theorem ownF_lt (n : Nat) (key : Nat → Nat) (t j : Nat) : ownF n key t j < 256 := tag_lt _ _ _ _ j
/-- a key -/
def keyF (n : Nat) (key : Nat → Nat) (t : Nat) (s : ByteArray) (v : Nat) : Nat → Nat := fkF 32 (ownF n key t) (lab3 s bVersion (itoaB v)) 3
theorem keyF_lt (n : Nat) (key : Nat → Nat) (t : Nat) (s : ByteArray) (v j : Nat) : keyF n key t s v j < 256 := tag_lt _ _ _ _ j
theorem itoaB_small : ∀ n : Nat, n < 256 → (itoaB (n : Int)).size ≤ 3 := by decide +kernel

/-- w' is w but for the cells from a to b of block G, and what is new -/
structure Sect (G a b : Nat) (w w' : World) : Prop where
  chg : Chg G w w'
  cell : ∀ j, j < a ∨ b ≤ j → w'.cell? ⟨G, j, none⟩ = w.cell? ⟨G, j, none⟩
  froz : ∀ j, w'.frozen? ⟨G, j, none⟩ = w.frozen? ⟨G, j, none⟩
namespace Sect
variable {G a b : Nat} {w w' w'' : World}
theorem refl (G a b : Nat) (w : World) : Sect G a b w w := ⟨Chg.refl _ _, fun _ _ => rfl, fun _ => rfl⟩
theorem trans (h : Sect G a b w w') (h' : Sect G a b w' w'') : Sect G a b w w'' := ⟨h.chg.trans h'.chg, fun j hj => (h'.cell j hj).trans (h.cell j hj), fun j => (h'.froz j).trans (h.froz j)⟩
theorem below (h : Sect G a b w w') (hb : Below w'.heap.size w' w'') (hG : G < w.heap.size) : Sect G a b w w'' :=
  have e := hb.block G (Nat.lt_of_lt_of_le hG h.chg.size)
  ⟨h.chg.thenBelow hb, fun j hj => (World.cell?_of_block e).trans (h.cell j hj), fun j => (World.frozen?_of_block e).trans (h.froz j)⟩
theorem setCell (h : Sect G a b w w') {k : Nat} (h1 : a ≤ k) (h2 : k < b) (v : Value) : Sect G a b w (w'.setCell ⟨G, k, none⟩ v) :=
  ⟨h.chg.setCell (Or.inl rfl) v, fun j hj => (cell_off (by omega) v).trans (h.cell j hj), fun j => by rw [World.frozen?_setCell]; exact h.froz j⟩
theorem setCells : ∀ (vs : List Value) (o : Nat) (w' : World), Sect G a b w w' → a ≤ o → o + vs.length ≤ b → Sect G a b w (w'.setCells G o vs)
  | [], _, _, h, _, _ => h
  | v :: r, o, w', h, h1, h2 => by
    rw [World.setCells]
    rw [List.length_cons] at h2
    exact setCells r (o + 1) _ (h.setCell h1 (by omega) v) (by omega) (by omega)
theorem drew (h : Sect G a b w w') : Sect G a b w w'.drew := ⟨h.chg.drew, h.cell, h.froz⟩
end Sect

theorem slB_chg {w w' : World} {M n K : Nat} {f : Nat → Nat} (h : SlB w (some ⟨M, 0, none⟩) n f) (hc : Chg K w w') (hK : M ≠ K) : SlB w' (some ⟨M, 0, none⟩) n f := fun hn => by
  obtain ⟨B, o, e, hB, hh⟩ := h hn
  cases e
  exact ⟨M, 0, rfl, Nat.lt_of_lt_of_le hB hc.size, fun j hj => ⟨(hh j hj).1, (hc.cell hB hK).trans (hh j hj).2⟩⟩
/-- what all keys of one tenant are derived from, at o in block G: not yet made, or made -/
def TenAt (w : World) (G o : Nat) (own : Nat → Nat) : Prop := (OnceAt w G o 0 0 ∧ Arr w G (o + 3) 32 (fun _ => 0)) ∨ (OnceAt w G o 1 0 ∧ Arr w G (o + 3) 32 own)
theorem TenAt.of_block {w w' : World} {G o : Nat} {own : Nat → Nat} (h : TenAt w G o own) (e : w'.heap[G]? = w.heap[G]?) : TenAt w' G o own := h.imp (fun h => ⟨once_block h.1 e, h.2.of_block e⟩) (fun h => ⟨once_block h.1 e, h.2.of_block e⟩)
theorem TenAt.sect {w w' : World} {G o a b : Nat} {own : Nat → Nat} (h : TenAt w G o own) (hs : Sect G a b w w') (hd : o + 35 ≤ a ∨ b ≤ o) : TenAt w' G o own := by
  have h1 : ∀ {d m : Int}, OnceAt w G o d m → OnceAt w' G o d m := fun h => ⟨(hs.cell o (by omega)).trans h.done, (hs.cell (o + 1) (by omega)).trans h.lock, (hs.froz o).trans h.fdone, (hs.froz (o + 1)).trans h.flock⟩
  have h2 : ∀ {f : Nat → Nat}, Arr w G (o + 3) 32 f → Arr w' G (o + 3) 32 f := fun h j hj => ⟨(hs.cell (o + 3 + j) (by omega)).trans (h j hj).1, (hs.froz _).trans (h j hj).2⟩
  exact h.imp (fun h => ⟨h1 h.1, h2 h.2⟩) (fun h => ⟨h1 h.1, h2 h.2⟩)

/-- a ring of keys in block G, its master key in block M; u: a world before it, with the tables -/
structure RingAt (u w : World) (G M c n : Nat) (key : Nat → Nat) : Prop where
  gt : GT u
  p10 : P10 u
  bel : Below u.heap.size u w
  uG : u.heap.size ≤ G
  uM : u.heap.size ≤ M
  ne : M ≠ G
  len : 16 ≤ n ∧ n ≤ 64
  cap : n ≤ c
  cell : w.cell? ⟨G, 0, none⟩ = some (.slice (some ⟨M, 0, none⟩) n c)
  bytes : SlB w (some ⟨M, 0, none⟩) n key
  ten : ∀ k, k < 64 → TenAt w G (1 + k * 35) (ownF n key (k + 1))
namespace RingAt
variable {u w w' : World} {G M c n : Nat} {key : Nat → Nat}
theorem lt (h : RingAt u w G M c n key) : G < w.heap.size := block_lt h.cell
theorem ltM (h : RingAt u w G M c n key) : M < w.heap.size := by
  obtain ⟨B, o, e, hB, _⟩ := h.bytes (by have := h.len; omega)
  cases e; exact hB
theorem tables (h : RingAt u w G M c n key) : GT w ∧ P10 w := ⟨h.gt.keep h.bel, h.p10.keep h.bel⟩
theorem blocks (h : RingAt u w G M c n key) (hb : Below u.heap.size u w') (e1 : w'.heap[G]? = w.heap[G]?) (e2 : w'.heap[M]? = w.heap[M]?) : RingAt u w' G M c n key :=
  ⟨h.gt, h.p10, hb, h.uG, h.uM, h.ne, h.len, h.cap, (World.cell?_of_block e1).trans h.cell, fun hn => by
    obtain ⟨B, o, e, hB, hc⟩ := h.bytes hn
    cases e
    have hl := (hc 0 hn).2
    rw [← World.cell?_of_block e2] at hl
    exact ⟨M, 0, rfl, block_lt hl, fun j hj => ⟨(hc j hj).1, (World.cell?_of_block e2).trans (hc j hj).2⟩⟩, fun k hk => (h.ten k hk).of_block e1⟩
theorem keep (h : RingAt u w G M c n key) (hb : Below w.heap.size w w') : RingAt u w' G M c n key := h.blocks (h.bel.trans (hb.mono h.bel.size)) (hb.block G h.lt) (hb.block M h.ltM)
theorem chg {K : Nat} (h : RingAt u w G M c n key) (hc : Chg K w w') (hK : u.heap.size ≤ K) (h1 : G ≠ K) (h2 : M ≠ K) : RingAt u w' G M c n key :=
  h.blocks (h.bel.trans (hc.below h.bel.size hK)) (hc.block G h.lt h1) (hc.block M h.ltM h2)
theorem chgS {S : Nat → Prop} (h : RingAt u w G M c n key) (hc : ChgS S w w') (hS : ∀ k, S k → u.heap.size ≤ k) (h1 : ¬ S G) (h2 : ¬ S M) : RingAt u w' G M c n key :=
  h.blocks (h.bel.trans (hc.below h.bel.size hS)) (hc.block G h.lt h1) (hc.block M h.ltM h2)
/-- a tenant's beginning changed -/
theorem sect {k : Nat} (h : RingAt u w G M c n key) (hs : Sect G (1 + k * 35) (1 + k * 35 + 35) w w') (ht : TenAt w' G (1 + k * 35) (ownF n key (k + 1))) : RingAt u w' G M c n key :=
  ⟨h.gt, h.p10, h.bel.trans (hs.chg.below h.bel.size h.uG), h.uG, h.uM, h.ne, h.len, h.cap, (hs.cell 0 (by omega)).trans h.cell, slB_chg h.bytes hs.chg h.ne, fun k' hk' => by
    by_cases e : k' = k
    · subst e; exact ht
    · exact (h.ten k' hk').sect hs (by omega)⟩
end RingAt
end Go.Proofs.YtengejmkpkacgaaDoor
/- The tables: out of the row's list to the walk's facts; a world that holds them. -/
namespace Go.Proofs.YtengejmkpkacgaaDoor
open Go.ChangeShapes Go.WideShapes Go.ChangeAt Go.RowKit
theorem own : ownKnob Tryd.prog.godebug = none := by kernel_rfl
theorem laidOut : laidOutB Tryd.prog = true := by kernel_rfl
theorem gK : Tryd.prog.globalNamed "moneyer/sha.roundWords" = some 2 := by kernel_rfl
theorem gKType : (Tryd.prog.globals[2]?).map (·.type) = some 112 := by kernel_rfl
theorem gS : Tryd.prog.globalNamed "moneyer/sha.startWords" = some 0 := by kernel_rfl
theorem gSType : (Tryd.prog.globals[0]?).map (·.type) = some 97 := by kernel_rfl
theorem gP10Type : (Tryd.prog.globals[1]?).map (·.type) = some 106 := by kernel_rfl
theorem cellsK : Tryd.prog.cellsOf 112 = 64 := by kernel_rfl
theorem cellsS : Tryd.prog.cellsOf 97 = 8 := by kernel_rfl
theorem cellsInt : Tryd.prog.cellsOf 47 = 1 := by kernel_rfl
theorem cellsP10 : Tryd.prog.cellsOf 106 = 20 := by kernel_rfl
theorem cellsU64 : Tryd.prog.cellsOf 89 = 1 := by kernel_rfl
theorem laidK_eq {H : Type} : (Rows.laid_moneyer_sha_roundWords : DataW H) = Lib.tabData .u32 (kcL.map fun x => (x : Nat)) := rfl
theorem laidS_eq {H : Type} : (Rows.laid_moneyer_sha_startWords : DataW H) = Lib.tabData .u32 ((List.range 8).map fun i => ((at8 st0 i : Nat) : Int)) := rfl
theorem laidP10_eq {H : Type} : (Rows.laid_internal_strconv_uint64pow10 : DataW H) = Lib.tabData .u64 Lib.pow10Tab := rfl
theorem tabs_of {W : World} (h : laidMetH Tryd.prog [("math/bits.deBruijn32tab", Rows.laid_math_bits_deBruijn32tab), ("math/bits.deBruijn64tab", Rows.laid_math_bits_deBruijn64tab), ("internal/strconv.uint64pow10", Rows.laid_internal_strconv_uint64pow10), ("moneyer/sha.roundWords", Rows.laid_moneyer_sha_roundWords), ("moneyer/sha.startWords", Rows.laid_moneyer_sha_startWords)] W) : GT W ∧ P10 W := by
  have h' : laidMet Tryd.prog [("math/bits.deBruijn32tab", Rows.laid_math_bits_deBruijn32tab), ("math/bits.deBruijn64tab", Rows.laid_math_bits_deBruijn64tab), ("internal/strconv.uint64pow10", Rows.laid_internal_strconv_uint64pow10), ("moneyer/sha.roundWords", Rows.laid_moneyer_sha_roundWords), ("moneyer/sha.startWords", Rows.laid_moneyer_sha_startWords)] W := h
  obtain ⟨ps, ⟨_, _, _, _, _, _, _, _, _, _, hr1, _⟩, _⟩ := h'
  obtain ⟨_, _, _, _, _, _, _, _, _, _, hr2, _⟩ := hr1
  obtain ⟨g3, t3, cs3, fuel3, p3, q3, hg3, ht3, hvar3, hd3, hr3, _⟩ := hr2
  obtain ⟨g, t, cs, fuel, p, q, hg, ht, hvar, hd, hr4, _⟩ := hr3
  obtain ⟨g2, t2, cs2, fuel2, p2, q2, hg2, ht2, hvar2, hd2, _, _⟩ := hr4
  obtain rfl := Option.some.inj (gP10.symm.trans hg3)
  obtain rfl := Option.some.inj (gP10Type.symm.trans ht3)
  obtain rfl := Option.some.inj (gK.symm.trans hg)
  obtain rfl := Option.some.inj (gKType.symm.trans ht)
  obtain rfl := Option.some.inj (gS.symm.trans hg2)
  obtain rfl := Option.some.inj (gSType.symm.trans ht2)
  rw [laidK_eq] at hd
  rw [laidS_eq] at hd2
  rw [laidP10_eq] at hd3
  have e := Lib.cells_of_tab Tryd.underlying112 Tryd.underlying47 cellsInt cellsK hd
  have e2 := Lib.cells_of_tab Tryd.underlying97 Tryd.underlying47 cellsInt cellsS hd2
  have e3 := Lib.cells_of_tab Tryd.underlying106 Tryd.underlying89 cellsU64 cellsP10 hd3
  refine ⟨⟨fun i hi => ?_, fun i hi => ?_⟩, hvar3.trans (congrArg some (Array.ext' e3))⟩
  · rw [World.var?_cell gK hvar i, ← Array.getElem?_toList, e, List.getElem?_map, List.getElem?_map]
    have hl : i < kcL.length := hi
    unfold kc
    rw [List.getD_eq_getElem?_getD, List.getElem?_eq_getElem hl]; rfl
  · rw [World.var?_cell gS hvar2 i, ← Array.getElem?_toList, e2]
    rw [List.getElem?_map, List.getElem?_map, List.getElem?_range hi]; rfl
/-- the block's cells replaced -/
def withCells (l : List Value) : Obj → Obj
  | .cells _ t frozen => .cells l.toArray t frozen
  | o => o
def t32 : List Int := [0, 1, 28, 2, 29, 14, 24, 3, 30, 22, 20, 15, 25, 17, 4, 8, 31, 27, 13, 23, 21, 19, 16, 7, 26, 12, 18, 6, 11, 5, 10, 9]
def t64 : List Int := [0, 1, 56, 2, 57, 49, 28, 3, 61, 58, 42, 50, 38, 29, 17, 4, 62, 47, 59, 36, 45, 43, 51, 22, 53, 39, 33, 30, 24, 18, 12, 5, 63, 55, 48, 27, 60, 41, 37, 16, 46, 35, 44, 21, 52, 32, 23, 11, 54, 26, 40, 15, 34, 20, 31, 10, 25, 14, 19, 9, 13, 8, 7, 6]
/-- a world for the witness: the settled one, the tables in their places -/
noncomputable def laidWorld (os : Os) : World :=
  { World.holding Tryd.prog os ⟨#[], #[], []⟩ with heap := (((((World.holding Tryd.prog os ⟨#[], #[], []⟩).heap.modify 2 (withCells (kcL.map fun (x : Nat) => Value.int .u32 (x : Int)))).modify 0 (withCells ((List.range 8).map fun i => Value.int .u32 ((at8 st0 i : Nat) : Int)))).modify 1 (withCells (Lib.pow10Tab.map fun z => Value.int .u64 z))).modify 3 (withCells (t32.map fun z => Value.int .u8 z))).modify 4 (withCells (t64.map fun z => Value.int .u8 z)) }
end Go.Proofs.YtengejmkpkacgaaDoor
/- Operations on structs, for regions that draw their order. Nothing here hangs on the program. -/
namespace Go.Proofs.YtengejmkpkacgaaDoor.ord
open Go Go.RowKit
theorem makes_ld {P : Program} {o : Oper} {a : Act} {w : World} {N : Value → World → Prop} {t : TypeId} {x : Operand} {vx u : Value} (ho : o.op = .load t x) (hx : a.eval x = vx) (hrun : (Instr.loadAt t vx).run P w = .ok u w) (hN : N u w) : makes P o a w N := by
  unfold makes
  have : (execOp a.eval o).run P w = .ok (.value u) w := by
    simp only [execOp, ho, hx, Sem.run_bind]
    rw [hrun]; rfl
  rw [this]; exact hN
theorem makes_bld2 {P : Program} {o : Oper} {a : Act} {w : World} {N : Value → World → Prop} {t : TypeId} {i1 i2 : Nat} {o1 o2 : Operand} {v1 v2 u : Value} (ho : o.op = .build t #[(i1, o1), (i2, o2)]) (h1 : a.eval o1 = v1) (h2 : a.eval o2 = v2)
    (hrun : (Instr.build t #[(i1, v1), (i2, v2)]).run P w = .ok u w) (hN : N u w) : makes P o a w N := by
  unfold makes
  have : (execOp a.eval o).run P w = .ok (.value u) w := by
    have e : (#[(i1, o1), (i2, o2)] : Array (Nat × Operand)).map (fun (i, x) => (i, a.eval x)) = #[(i1, v1), (i2, v2)] := by simp [h1, h2]
    simp only [execOp, ho, Sem.run_bind]
    rw [e, hrun]; rfl
  rw [this]; exact hN
end Go.Proofs.YtengejmkpkacgaaDoor.ord
/- Layer 13: a tenant's own key is made. -/
namespace Go.Proofs.YtengejmkpkacgaaDoor
set_option maxRecDepth 100000
open Go.RowKit
theorem run_ldPB (A p : Addr) (w : World) (h : w.cell? A = some (.pointer (some p))) : (Instr.loadAt 69 (.pointer (some A))).run Tryd.prog w = .ok (.pointer (some p)) w := by go_simp
theorem run_ldPR (A p : Addr) (w : World) (h : w.cell? A = some (.pointer (some p))) : (Instr.loadAt 25 (.pointer (some A))).run Tryd.prog w = .ok (.pointer (some p)) w := by go_simp
theorem run_ldI (A : Addr) (x : Int) (w : World) (h : w.cell? A = some (.int .i64 x)) : (Instr.loadAt 3 (.pointer (some A))).run Tryd.prog w = .ok (.int .i64 x) w := by go_simp
theorem run_ldSl (A p : Addr) (n c : Nat) (w : World) (h : w.cell? A = some (.slice (some p) n c)) : (Instr.loadAt 22 (.pointer (some A))).run Tryd.prog w = .ok (.slice (some p) n c) w := by go_simp
theorem run_fbK (G o : Nat) (w : World) : (Instr.fieldAt 58 (.pointer (some ⟨G, o, none⟩)) 1).run Tryd.prog w = .ok (.pointer (some ⟨G, o + 3, none⟩)) w := by go_simp
theorem run_fbM (G : Nat) (w : World) : (Instr.fieldAt 61 (.pointer (some ⟨G, 0, none⟩)) 0).run Tryd.prog w = .ok (.pointer (some ⟨G, 0, none⟩)) w := by go_simp
theorem run_bs2 (a b : ByteArray) (w : World) : (Instr.buildSlice 65 2 #[(0, .string a), (1, .string b)]).run Tryd.prog w = .ok (.slice (some ⟨w.heap.size, 0, none⟩) 2 2) (w.alloc (.cells #[.string a, .string b] 9)) := by go_simp
/-- the labels that lie in a row of two -/
theorem sls2 {w : World} {B : Nat} {a b : ByteArray} (h : w.heap[B]? = some (.cells #[.string a, .string b] 9 (0, 0))) : SlS w (some ⟨B, 0, none⟩) 2 (lab2 a b) := fun _ =>
  ⟨B, 0, rfl, (Array.getElem?_eq_some_iff.1 h).1, fun j hj => by
    rcases (show j = 0 ∨ j = 1 by omega) with rfl | rfl
    · exact (Lib.cell_of_heap h 0).trans rfl
    · exact (Lib.cell_of_heap h 1).trans rfl⟩
theorem lab2_size {a b : ByteArray} {K : Nat} (ha : a.size ≤ K) (hb : b.size ≤ K) (j : Nat) : (lab2 a b j).size ≤ K := by
  unfold lab2
  split
  · exact ha
  · exact hb
/-- copy of 32 bytes into the middle of a block -/
theorem run_copy32 (w : World) (ty : TypeId) (G o : Nat) (A : Option Addr) (c : Nat) (f cur : Nat → Nat) (hA : SlB w A 32 f) (hG : Arr w G o 32 cur) :
    (Builtin.copy_ #[22, 22] ty #[.slice (some ⟨G, o, none⟩) 32 32, .slice A 32 c]).run Tryd.prog w = .ok (goInt 32) (w.setCells G o (bytesL 32 f)) := by
  obtain ⟨B, q, rfl, _, hc⟩ := hA (by decide)
  have hl : (bytesL 32 f).length = 32 := bytesL_length _ _
  have := run_copy_cells (P := Tryd.prog) w 22 22 ty 5 G o 32 32 ⟨B, q, none⟩ 32 c (bytesL 32 f) Tryd.underlying22 sizeOf8 hl
    (fun j v hj => by
      obtain ⟨hj2, rfl⟩ := bytesL_get _ _ j v hj
      rw [Go.WideShapes.add_plain]
      exact (hc j hj2).2)
    (fun j hj => by rw [hl] at hj; rw [(hG j hj).1]; rfl) (fun j hj => by rw [hl] at hj; exact (hG j hj).2) (bytes_one 32 f)
  rw [hl] at this
  exact this
--DEFS kb
def kbG (G o M n c : Nat) (tn : Int) (F : Nat → Nat) : Nat → Value → World → Prop
  | 0, v, _ => v = .pointer (some ⟨G, o, none⟩)
  | 1, v, _ => v = .pointer (some ⟨G, o, none⟩)
  | 2, v, _ => v = .pointer (some ⟨G, o + 3, none⟩)
  | 3, v, _ => v = .slice (some ⟨G, o + 3, none⟩) 32 32
  | 4, v, _ => v = .pointer (some ⟨G, 0, none⟩)
  | 5, v, _ => v = .pointer (some ⟨G, 0, none⟩)
  | 6, v, _ => v = .pointer (some ⟨G, 0, none⟩)
  | 7, v, _ => v = .slice (some ⟨M, 0, none⟩) n c
  | 8, v, _ => v = .int .i64 tn
  | 9, v, _ => v = .string (itoaB tn)
  | 10, v, w => ∃ B, v = .slice (some ⟨B, 0, none⟩) 2 2 ∧ w.heap[B]? = some (.cells #[.string bTenant, .string (itoaB tn)] 9 (0, 0))
  | 11, v, w => ∃ A c, v = .slice A 32 c ∧ SlB w A 32 F
  | _, _, _ => True
theorem kbG_stays (G o M n c : Nat) (tn : Int) (F : Nat → Nat) : ∀ i v w w', kbG G o M n c tn F i v w → Below w.heap.size w w' → kbG G o M n c tn F i v w'
  | 0, _, _, _, h, _ => h
  | 1, _, _, _, h, _ => h
  | 2, _, _, _, h, _ => h
  | 3, _, _, _, h, _ => h
  | 4, _, _, _, h, _ => h
  | 5, _, _, _, h, _ => h
  | 6, _, _, _, h, _ => h
  | 7, _, _, _, h, _ => h
  | 8, _, _, _, h, _ => h
  | 9, _, _, _, h, _ => h
  | 10, v, w, w', h_, hb => by
    obtain ⟨B, h1, h2⟩ := h_; exact ⟨B, h1, (hb.block B (Array.getElem?_eq_some_iff.1 h2).1).trans h2⟩
  | 11, v, w, w', h_, hb => by
    obtain ⟨A, c, h1, h2⟩ := h_; exact ⟨A, c, h1, h2.keep hb⟩
  | _ + 12, _, _, _, _, _ => trivial
--END DEFS kb
set_option maxHeartbeats 1600000 in
theorem make_key (G o M n c bb br bt : Nat) (t : Nat) (key : Nat → Nat) (w : World) (hn : n ≤ 64) (ht : t ≤ 64) (he : GT w ∧ P10 w)
    (hb : w.cell? ⟨bb, 0, none⟩ = some (.pointer (some ⟨G, o, none⟩))) (hr : w.cell? ⟨br, 0, none⟩ = some (.pointer (some ⟨G, 0, none⟩))) (hv : w.cell? ⟨bt, 0, none⟩ = some (.int .i64 (t : Int)))
    (hm : w.cell? ⟨G, 0, none⟩ = some (.slice (some ⟨M, 0, none⟩) n c)) (hk : SlB w (some ⟨M, 0, none⟩) n key) (hg : Arr w G (o + 3) 32 (fun _ => 0)) :
    Calls Tryd.prog 27 #[.pointer (some ⟨bb, 0, none⟩), .pointer (some ⟨br, 0, none⟩), .pointer (some ⟨bt, 0, none⟩)] w fun e w' => e = .returned (.tuple #[]) ∧
      ∃ W, Below w.heap.size w W ∧ w' = W.setCells G (o + 3) (bytesL 32 (ownF n key t)) := by
  have HCB := Lib.hid (show ∀ w', Below w.heap.size w w' → w'.cell? ⟨bb, 0, none⟩ = some (.pointer (some ⟨G, o, none⟩)) from fun w' h => (h.cell (p := ⟨bb, 0, none⟩) (block_lt hb)).trans hb)
  have HCR := Lib.hid (show ∀ w', Below w.heap.size w w' → w'.cell? ⟨br, 0, none⟩ = some (.pointer (some ⟨G, 0, none⟩)) from fun w' h => (h.cell (p := ⟨br, 0, none⟩) (block_lt hr)).trans hr)
  have HCT := Lib.hid (show ∀ w', Below w.heap.size w w' → w'.cell? ⟨bt, 0, none⟩ = some (.int .i64 (t : Int)) from fun w' h => (h.cell (p := ⟨bt, 0, none⟩) (block_lt hv)).trans hv)
  have HCM := Lib.hid (show ∀ w', Below w.heap.size w w' → w'.cell? ⟨G, 0, none⟩ = some (.slice (some ⟨M, 0, none⟩) n c) from fun w' h => (h.cell (p := ⟨G, 0, none⟩) (block_lt hm)).trans hm)
  have HEN := Lib.hid (show ∀ w', Below w.heap.size w w' → GT w' ∧ P10 w' from fun w' h => ⟨he.1.keep h, he.2.keep h⟩)
  have HFO := Lib.hid (show ∀ w' B, Below w.heap.size w w' → w'.heap[B]? = some (.cells #[.string bTenant, .string (itoaB (t : Int))] 9 (0, 0)) →
      Calls Tryd.prog 17 #[.slice (some ⟨M, 0, none⟩) n c, .slice (some ⟨B, 0, none⟩) 2 2] w' (FoldP w' 32 (ownF n key t)) from fun w' B h hh =>
    fold_any (some ⟨M, 0, none⟩) n c key (some ⟨B, 0, none⟩) 2 2 (lab2 bTenant (itoaB (t : Int))) w' (by omega) (hk.keep h) (fun h => by cases h) (by decide) (sls2 hh)
      (fun j _ => Nat.le_trans (lab2_size (K := 6) (by decide) (Nat.le_trans (itoaB_small t (by omega)) (by decide)) j) (by decide)) (he.1.keep h))
  have HTN := Lib.hid (show -9223372036854775808 ≤ (t : Int) ∧ (t : Int) ≤ 9223372036854775807 by omega)
  have HG := Lib.hid hg
  obtain ⟨tn, htn⟩ : ∃ tn : Int, tn = (t : Int) := ⟨_, rfl⟩
  obtain ⟨F, hF⟩ : ∃ F, F = ownF n key t := ⟨_, rfl⟩
  rw [← htn] at HCT HTN
  rw [← htn, ← hF] at HFO
  rw [← hF]
  clear hb hr hv hm hk hg he hn ht htn hF
  go_enter Tryd.func27, Tryd.ntmps27
  go_wp2_with fail
  refine ord.wp_region_ordT 12 [[], [0], [1], [2], [], [4], [5], [6], [], [8], [9], [7, 10]] [(0, 3), (1, 4), (2, 5), (3, 6), (4, 7), (5, 8), (6, 9), (7, 10), (8, 11), (9, 12), (10, 13), (11, 14)] (kbG G o M n c tn F) (by kernel_rfl) (by kernel_rfl) (by kernel_rfl) (kbG_stays _ _ _ _ _ _ _) ((ord.steps_cons ?_ (ord.steps_cons ?_ (ord.steps_cons ?_ (ord.steps_cons ?_ (ord.steps_cons ?_ (ord.steps_cons ?_ (ord.steps_cons ?_ (ord.steps_cons ?_ (ord.steps_cons ?_ (ord.steps_cons ?_ (ord.steps_cons ?_ (ord.steps_cons ?_ ord.steps_nil))))))))))))) ?_
  --STEPS kb
  · intro o ho x w hb hG
    obtain rfl := Option.some.inj ho
    clear ho
    refine Or.inl ⟨ord.want0 rfl, ?_⟩
    exact ord.makes_ld rfl rfl (run_ldPB _ _ w (HCB.out w (of_drew hb))) ⟨Below.refl _ _, rfl⟩
  · intro o ho x w hb hG
    obtain rfl := Option.some.inj ho
    clear ho
    have h3 : x 0 = .pointer (some ⟨G, o, none⟩) := hG (0, 3) (List.mem_of_getElem? (i := 0) rfl) rfl
    refine Or.inl ⟨ord.want0 rfl, ?_⟩
    exact ord.makes_nilCheck rfl h3 ⟨Below.refl _ _, rfl⟩
  · intro o ho x w hb hG
    obtain rfl := Option.some.inj ho
    clear ho
    have h4 : x 1 = .pointer (some ⟨G, o, none⟩) := hG (1, 4) (List.mem_of_getElem? (i := 1) rfl) rfl
    refine Or.inl ⟨ord.want0 rfl, ?_⟩
    exact ord.makes_fieldAddr rfl h4 (run_fbK G o w) ⟨Below.refl _ _, rfl⟩
  · intro o ho x w hb hG
    obtain rfl := Option.some.inj ho
    clear ho
    have h5 : x 2 = .pointer (some ⟨G, o + 3, none⟩) := hG (2, 5) (List.mem_of_getElem? (i := 2) rfl) rfl
    refine Or.inl ⟨ord.want0 rfl, ?_⟩
    exact ord.makes_slice rfl h5 rfl rfl rfl (all_arr 56 32 G (o + 3) Tryd.underlying56 (by decide) w) ⟨Below.refl _ _, rfl⟩
  · intro o ho x w hb hG
    obtain rfl := Option.some.inj ho
    clear ho
    refine Or.inl ⟨ord.want0 rfl, ?_⟩
    exact ord.makes_ld rfl rfl (run_ldPR _ _ w (HCR.out w (of_drew hb))) ⟨Below.refl _ _, rfl⟩
  · intro o ho x w hb hG
    obtain rfl := Option.some.inj ho
    clear ho
    have h7 : x 4 = .pointer (some ⟨G, 0, none⟩) := hG (4, 7) (List.mem_of_getElem? (i := 4) rfl) rfl
    refine Or.inl ⟨ord.want0 rfl, ?_⟩
    exact ord.makes_nilCheck rfl h7 ⟨Below.refl _ _, rfl⟩
  · intro o ho x w hb hG
    obtain rfl := Option.some.inj ho
    clear ho
    have h8 : x 5 = .pointer (some ⟨G, 0, none⟩) := hG (5, 8) (List.mem_of_getElem? (i := 5) rfl) rfl
    refine Or.inl ⟨ord.want0 rfl, ?_⟩
    exact ord.makes_fieldAddr rfl h8 (run_fbM G w) ⟨Below.refl _ _, rfl⟩
  · intro o ho x w hb hG
    obtain rfl := Option.some.inj ho
    clear ho
    have h9 : x 6 = .pointer (some ⟨G, 0, none⟩) := hG (6, 9) (List.mem_of_getElem? (i := 6) rfl) rfl
    refine Or.inl ⟨ord.want0 rfl, ?_⟩
    exact ord.makes_ld rfl h9 (run_ldSl _ _ _ _ w (HCM.out w (of_drew hb))) ⟨Below.refl _ _, rfl⟩
  · intro o ho x w hb hG
    obtain rfl := Option.some.inj ho
    clear ho
    refine Or.inl ⟨ord.want0 rfl, ?_⟩
    exact ord.makes_ld rfl rfl (run_ldI _ _ w (HCT.out w (of_drew hb))) ⟨Below.refl _ _, rfl⟩
  · intro o ho x w hb hG
    obtain rfl := Option.some.inj ho
    clear ho
    have h11 : x 8 = .int .i64 tn := hG (8, 11) (List.mem_of_getElem? (i := 8) rfl) rfl
    refine Or.inl ⟨ord.want0 rfl, ?_⟩
    exact ord.makes_call1 Tryd.func21 (by kernel_rfl) (by kernel_rfl) rfl h11 (itoa_any tn w HTN.out.1 HTN.out.2 (HEN.out w (of_drew hb)).2) (fun e w' h => ⟨_, h.1, h.2, rfl⟩)
  · intro o ho x w hb hG
    obtain rfl := Option.some.inj ho
    clear ho
    have h12 : x 9 = .string (itoaB tn) := hG (9, 12) (List.mem_of_getElem? (i := 9) rfl) rfl
    refine Or.inl ⟨ord.want0 rfl, ?_⟩
    exact ord.makes_build2 rfl rfl h12 (run_bs2 bTenant (itoaB tn) w) ⟨(Below.refl _ _).alloc (Nat.le_refl _) _, _, rfl, heap_alloc_new w _⟩
  · intro o ho x w hb hG
    obtain rfl := Option.some.inj ho
    clear ho
    have h10 : x 7 = .slice (some ⟨M, 0, none⟩) n c := hG (7, 10) (List.mem_of_getElem? (i := 7) rfl) rfl
    have h13 : kbG G o M n c tn F 10 (x 10) w := hG (10, 13) (List.mem_of_getElem? (i := 10) rfl) rfl
    refine Or.inl ⟨ord.want0 rfl, ?_⟩
    obtain ⟨B, hv, hh⟩ := h13
    exact ord.makes_call2 Tryd.func17 (by kernel_rfl) (by kernel_rfl) rfl h10 hv (HFO.out w B (of_drew hb) hh) (fun e w' h => by obtain ⟨⟨v, A, c2, g, he, hm⟩, h4⟩ := h; exact ⟨_, he, h4, A, c2, hm.val, hm.row⟩)
  --END STEPS kb
  · intro x w5 hb hG
    have e6 : x 3 = .slice (some ⟨G, o + 3, none⟩) 32 32 := hG (3, 6) (List.mem_of_getElem? (i := 3) rfl)
    obtain ⟨A, c2, e14, hs⟩ : kbG G o M n c tn F 11 (x 11) w5 := hG (11, 14) (List.mem_of_getElem? (i := 11) rfl)
    clear hG
    simp only [ord.puts, ord.put', List.set_cons_zero, List.set_cons_succ, if_true]
    rw [e6, e14]
    simp only [List.drop_succ_cons, List.drop_zero]
    have HB5 := Lib.hid hb
    have HCP := Lib.hid (fun ty => run_copy32 w5 ty G (o + 3) A c2 F _ hs (HG.out.keep hb))
    clear hb hs e6 e14
    have hcp := HCP.out 3
    go_wp2_with fail
    go_end0
    exact ⟨rfl, w5, HB5.out, rfl⟩
end Go.Proofs.YtengejmkpkacgaaDoor
/- sync.Once's slow road with the ring's function, by its contract. -/
namespace Go.Proofs.YtengejmkpkacgaaDoor
open Go.MuLone

set_option maxRecDepth 100000 in
set_option maxHeartbeats 1600000 in
theorem slow_key (b off : Nat) (p1 p2 p3 : Value) (w : World) (h : OnceAt w b off 0 0) (R : World → Prop)
    (hF : Calls Tryd.prog 27 #[p1, p2, p3] (w.setCell ⟨b, off + 1, none⟩ (.int .i32 1)) fun e w' => e = .returned (.tuple #[]) ∧ R w') (hR : ∀ w', R w' → OnceAt w' b off 0 1) :
    Calls Tryd.prog 34 #[.pointer (some ⟨b, off, none⟩), .func (.func 27) #[] #[p1, p2, p3]] w fun e w' => e = .returned (.tuple #[]) ∧
      ∃ w1, R w1 ∧ w' = (w1.drew.setCell ⟨b, off, none⟩ (.int .u32 1)).setCell ⟨b, off + 1, none⟩ (.int .i32 0) := by
  have hl := run_call_load (P := Tryd.prog) Tryd.func42 (by kernel_rfl) (by kernel_rfl) (by kernel_rfl) .u32 (by kernel_rfl) (w := w.setCell ⟨b, off + 1, none⟩ (.int .i32 1)) (a := ⟨b, off, none⟩) (x := 0) ((World.cell?_setCell_other _ ⟨b, off + 1, none⟩ ⟨b, off, none⟩ _ (by simp)).trans h.done)
  have hnot : ∀ (x : Bool) (w : World), (Op.unary .not (.bool x)).run Tryd.prog w = .ok (.bool (!x)) w := fun _ _ => rfl
  have HR := Lib.hid hR
  have HF := Lib.hid hF
  have H := Lib.hid h
  clear hR hF h
  go_enter_defers Tryd.func34, Tryd.ntmps34
  go_wp2_with (first | (go_at_call 43; refine (lock_free muLib ⟨b, off + 1, none⟩ _ H.out.lock H.out.flock).mono ?_; rintro e w' ⟨rfl, rfl⟩) | (go_at_call 33; go_in) | (go_at_call 27; refine HF.out.mono ?_; rintro e w' ⟨rfl, hw⟩; have HW := Lib.hid hw; clear hw))
  have h1 := HR.out _ HW.out
  -- the door: two deferred calls, the last laid first
  refine leaves_cons (f := 45) (args := #[.pointer (some ⟨b, off, none⟩), .bool true]) (by simp) (by simp [go_sem]) ?_
  refine (store_deferred ⟨b, off, none⟩ (.int .u32 0) .returning _ h1.done h1.fdone).mono ?_
  rintro e u' w'' ⟨rfl, rfl, rfl⟩
  refine leaves_cons (f := 44) (args := #[.pointer (some ⟨b, off + 1, none⟩)]) (by simp [settle]) (by simp [go_sem]) ?_
  refine (unlock_deferred muLib ⟨b, off + 1, none⟩ _ _ ?_ (by simp [h1.flock])).mono ?_
  · refine (World.cell?_setCell_other _ ⟨b, off, none⟩ ⟨b, off + 1, none⟩ _ (by simp)).trans ?_
    rw [World.cell?_drew]
    exact h1.lock
  rintro e u' w'' ⟨rfl, rfl, rfl⟩
  exact ⟨_, results_none rfl _ _ _, rfl, w', HW.out, rfl⟩

/-- '(*sync.Once).Do', not yet done, the lock free -/
theorem do_first_key (b off : Nat) (p1 p2 p3 : Value) (w : World) (h : OnceAt w b off 0 0) (R : World → Prop)
    (hF : Calls Tryd.prog 27 #[p1, p2, p3] (w.setCell ⟨b, off + 1, none⟩ (.int .i32 1)) fun e w' => e = .returned (.tuple #[]) ∧ R w') (hR : ∀ w', R w' → OnceAt w' b off 0 1) :
    Calls Tryd.prog 26 #[.pointer (some ⟨b, off, none⟩), .func (.func 27) #[] #[p1, p2, p3]] w fun e w' => e = .returned (.tuple #[]) ∧
      ∃ w1, R w1 ∧ w' = (w1.drew.setCell ⟨b, off, none⟩ (.int .u32 1)).setCell ⟨b, off + 1, none⟩ (.int .i32 0) := by
  have hl := run_call_load (P := Tryd.prog) Tryd.func42 (by kernel_rfl) (by kernel_rfl) (by kernel_rfl) .u32 (by kernel_rfl) h.done
  have hnot : ∀ (x : Bool) (w : World), (Op.unary .not (.bool x)).run Tryd.prog w = .ok (.bool (!x)) w := fun _ _ => rfl
  have HS := Lib.hid (slow_key b off p1 p2 p3 w h R hF hR)
  clear hR hF h
  go_enter Tryd.func26, Tryd.ntmps26
  go_wp2_with (first | (go_at_call 34; refine HS.out.mono ?_; rintro e w' ⟨rfl, hw⟩; have HW := Lib.hid hw; clear hw) | (go_at_call 33; go_in))
  go_end0
  exact ⟨rfl, HW.out⟩
end Go.Proofs.YtengejmkpkacgaaDoor
/- Layer 13: a tenant's own key, made once. -/
namespace Go.Proofs.YtengejmkpkacgaaDoor
set_option maxRecDepth 100000
open Go.RowKit
theorem fin_once {G o : Nat} {W0 W : World} {F : Nat → Nat} (o1 : OnceAt W0 G o 0 1) (hG0 : G < W0.heap.size) (hW : Below W0.heap.size W0 W) : OnceAt (W.setCells G (o + 3) (bytesL 32 F)) G o 0 1 := by
  have s := Sect.setCells (G := G) (a := o + 3) (b := o + 35) (bytesL 32 F) (o + 3) W (Sect.refl _ _ _ _) (Nat.le_refl _) (by rw [bytesL_length]; omega)
  have o2 := once_block o1 (hW.block G hG0)
  exact ⟨(s.cell o (by omega)).trans o2.done, (s.cell (o + 1) (by omega)).trans o2.lock, (s.froz o).trans o2.fdone, (s.froz (o + 1)).trans o2.flock⟩
theorem last_once {G o : Nat} {w3 : World} {F : Nat → Nat} (o3 : OnceAt w3 G o 0 1) (a3 : Arr w3 G (o + 3) 32 F) :
    OnceAt ((w3.drew.setCell ⟨G, o, none⟩ (.int .u32 1)).setCell ⟨G, o + 1, none⟩ (.int .i32 0)) G o 1 0 ∧ Arr ((w3.drew.setCell ⟨G, o, none⟩ (.int .u32 1)).setCell ⟨G, o + 1, none⟩ (.int .i32 0)) G (o + 3) 32 F := by
  refine ⟨⟨(cell_off (by omega) _).trans (World.cell?_setCell_same w3.drew ⟨G, o, none⟩ _ (u := .int .u32 0) ?_), World.cell?_setCell_same _ ⟨G, o + 1, none⟩ _ (u := .int .i32 1) ((cell_off (by omega) _).trans ?_), ?_, ?_⟩, (a3.drew.setApart (k := o) (by omega) (.int .u32 1)).setApart (k := o + 1) (by omega) (.int .i32 0)⟩
  · exact o3.done
  · exact o3.lock
  · rw [World.frozen?_setCell, World.frozen?_setCell]; exact o3.fdone
  · rw [World.frozen?_setCell, World.frozen?_setCell]; exact o3.flock
theorem lock_once {G o : Nat} {w : World} (h1 : OnceAt w G o 0 0) (h2 : Arr w G (o + 3) 32 (fun _ => 0)) :
    OnceAt (w.setCell ⟨G, o + 1, none⟩ (.int .i32 1)) G o 0 1 ∧ Arr (w.setCell ⟨G, o + 1, none⟩ (.int .i32 1)) G (o + 3) 32 (fun _ => 0) :=
  ⟨⟨(cell_off (by omega) _).trans h1.done, World.cell?_setCell_same w ⟨G, o + 1, none⟩ _ h1.lock, by rw [World.frozen?_setCell]; exact h1.fdone, by rw [World.frozen?_setCell]; exact h1.flock⟩, h2.setApart (by omega) _⟩
/-- done for the first time -/
theorem first_ring (G M c n o t bb br bt : Nat) (key F : Nat → Nat) (u w : World) (hgt : GT u) (hp : P10 u) (hbel : Below u.heap.size u w) (huG : u.heap.size ≤ G) (hne : M ≠ G) (hn : n ≤ 64) (ht : t ≤ 64) (hF : ownF n key t = F)
    (ho : 1 ≤ o) (hcell : w.cell? ⟨G, 0, none⟩ = some (.slice (some ⟨M, 0, none⟩) n c)) (hbytes : SlB w (some ⟨M, 0, none⟩) n key) (h1 : OnceAt w G o 0 0) (h2 : Arr w G (o + 3) 32 (fun _ => 0))
    (hb : w.cell? ⟨bb, 0, none⟩ = some (.pointer (some ⟨G, o, none⟩))) (hr : w.cell? ⟨br, 0, none⟩ = some (.pointer (some ⟨G, 0, none⟩))) (hv : w.cell? ⟨bt, 0, none⟩ = some (.int .i64 (t : Int)))
    (nb : bb ≠ G) (nr : br ≠ G) (nt : bt ≠ G) :
    Calls Tryd.prog 26 #[.pointer (some ⟨G, o, none⟩), .func (.func 27) #[] #[.pointer (some ⟨bb, 0, none⟩), .pointer (some ⟨br, 0, none⟩), .pointer (some ⟨bt, 0, none⟩)]] w fun e w' =>
      e = .returned (.tuple #[]) ∧ OnceAt w' G o 1 0 ∧ Arr w' G (o + 3) 32 F ∧ Sect G o (o + 35) w w' := by
  have hlt : G < w.heap.size := block_lt hcell
  have s1 : Sect G o (o + 35) w (w.setCell ⟨G, o + 1, none⟩ (.int .i32 1)) := (Sect.refl _ _ _ _).setCell (by omega) (by omega) _
  obtain ⟨o1, a1⟩ := lock_once h1 h2
  have hcl : ∀ q v, q ≠ G → w.cell? ⟨q, 0, none⟩ = some v → (w.setCell ⟨G, o + 1, none⟩ (.int .i32 1)).cell? ⟨q, 0, none⟩ = some v := fun q v hq hc => (s1.chg.cell (block_lt hc) hq).trans hc
  have b1 : Below u.heap.size u (w.setCell ⟨G, o + 1, none⟩ (.int .i32 1)) := hbel.trans (s1.chg.below hbel.size huG)
  have hmk := make_key G o M n c bb br bt t key (w.setCell ⟨G, o + 1, none⟩ (.int .i32 1)) hn ht ⟨hgt.keep b1, hp.keep b1⟩ (hcl _ _ nb hb) (hcl _ _ nr hr) (hcl _ _ nt hv) ((s1.cell 0 (by omega)).trans hcell) (slB_chg hbytes s1.chg hne) a1
  rw [hF] at hmk
  have hG0 : G < (w.setCell ⟨G, o + 1, none⟩ (.int .i32 1)).heap.size := Nat.lt_of_lt_of_le hlt s1.chg.size
  refine (do_first_key G o _ _ _ w h1 (fun w1 => ∃ W, Below (w.setCell ⟨G, o + 1, none⟩ (.int .i32 1)).heap.size (w.setCell ⟨G, o + 1, none⟩ (.int .i32 1)) W ∧ w1 = W.setCells G (o + 3) (bytesL 32 F)) hmk ?_).mono ?_
  · intro w1 hw
    obtain ⟨W, hW, e⟩ := hw
    rw [e]
    exact fin_once o1 hG0 hW
  · intro e w' hw
    obtain ⟨he, w1, hw1, e2⟩ := hw
    obtain ⟨W, hW, e1⟩ := hw1
    have s3 : Sect G o (o + 35) w w1 := by rw [e1]; exact Sect.setCells _ _ W (s1.below hW hlt) (by omega) (by rw [bytesL_length]; omega)
    have o3 : OnceAt w1 G o 0 1 := by rw [e1]; exact fin_once o1 hG0 hW
    have a3 : Arr w1 G (o + 3) 32 F := by rw [e1]; exact (a1.of_block (hW.block G hG0)).setCells _
    obtain ⟨o5, a5⟩ := last_once o3 a3
    rw [e2]
    exact ⟨he, o5, a5, (s3.drew.setCell (k := o) (Nat.le_refl _) (by omega) (.int .u32 1)).setCell (k := o + 1) (by omega) (by omega) (.int .i32 0)⟩
theorem once_ring (G M c n k bb br bt : Nat) (key : Nat → Nat) (u w : World) (h : RingAt u w G M c n key) (hk : k < 64)
    (hb : w.cell? ⟨bb, 0, none⟩ = some (.pointer (some ⟨G, 1 + k * 35, none⟩))) (hr : w.cell? ⟨br, 0, none⟩ = some (.pointer (some ⟨G, 0, none⟩))) (hv : w.cell? ⟨bt, 0, none⟩ = some (.int .i64 ((k + 1 : Nat) : Int)))
    (nb : bb ≠ G) (nr : br ≠ G) (nt : bt ≠ G) :
    Calls Tryd.prog 26 #[.pointer (some ⟨G, 1 + k * 35, none⟩), .func (.func 27) #[] #[.pointer (some ⟨bb, 0, none⟩), .pointer (some ⟨br, 0, none⟩), .pointer (some ⟨bt, 0, none⟩)]] w fun e w' =>
      e = .returned (.tuple #[]) ∧ RingAt u w' G M c n key ∧ Arr w' G (1 + k * 35 + 3) 32 (ownF n key (k + 1)) ∧ Chg G w w' := by
  rcases h.ten k hk with ⟨h1, h2⟩ | ⟨h1, h2⟩
  · refine (first_ring G M c n (1 + k * 35) (k + 1) bb br bt key (ownF n key (k + 1)) u w h.gt h.p10 h.bel h.uG h.ne h.len.2 (by omega) rfl (by omega) h.cell h.bytes h1 h2 hb hr hv nb nr nt).mono ?_
    rintro e w' ⟨he, h3, h4, h5⟩
    exact ⟨he, h.sect (k := k) h5 (Or.inr ⟨h3, h4⟩), h4, h5.chg⟩
  · refine (do_done G (1 + k * 35) _ 0 w h1).mono ?_
    rintro e w' ⟨he, rfl⟩
    exact ⟨he, h, h2, Chg.refl _ _⟩
set_option maxHeartbeats 1600000 in
theorem begin_any (G M c n k : Nat) (tn : Int) (key : Nat → Nat) (u w : World) (h : RingAt u w G M c n key) (hk : k < 64) (ht : tn = ((k + 1 : Nat) : Int)) :
    Calls Tryd.prog 20 #[.pointer (some ⟨G, 0, none⟩), .int .i64 tn] w fun e w' =>
      e = .returned (.slice (some ⟨G, 1 + k * 35 + 3, none⟩) 32 32) ∧ RingAt u w' G M c n key ∧ Arr w' G (1 + k * 35 + 3) 32 (ownF n key (k + 1)) ∧ Chg G w w' := by
  have ht1 : tn - 1 = (k : Int) := by omega
  have ht2 : 1 ≤ tn := by omega
  have ht3 : tn ≤ 64 := by omega
  have hki : (k : Int) < 64 := by omega
  have H := Lib.hid h
  have HT := Lib.hid ht
  clear h ht
  go_enter Tryd.func20, Tryd.ntmps20
  go_wp2_with fail
  go_region
  have e1 : (w.alloc (.cells #[.pointer (some ⟨G, 0, none⟩)] 25)).heap.size = w.heap.size + 1 := by simp
  have e2 : ((w.alloc (.cells #[.pointer (some ⟨G, 0, none⟩)] 25)).alloc (.cells #[.int .i64 tn] 3)).heap.size = w.heap.size + 1 + 1 := by simp
  have b1 := alloc_below w (.cells #[.pointer (some ⟨G, 0, none⟩)] 25)
  have c1 : (w.alloc (.cells #[.pointer (some ⟨G, 0, none⟩)] 25)).cell? ⟨w.heap.size, 0, none⟩ = some (.pointer (some ⟨G, 0, none⟩)) := (World.cell?_alloc_at _ _ _ _ rfl).trans rfl
  generalize w.alloc (.cells #[.pointer (some ⟨G, 0, none⟩)] 25) = w1 at *
  have b2 := alloc_below w1 (.cells #[.int .i64 tn] 3)
  have c2 : (w1.alloc (.cells #[.int .i64 tn] 3)).cell? ⟨w.heap.size + 1, 0, none⟩ = some (.int .i64 tn) := by rw [← e1]; exact (World.cell?_alloc_at _ _ _ _ rfl).trans rfl
  generalize w1.alloc (.cells #[.int .i64 tn] 3) = w2 at *
  have b3 := alloc_below w2 (.cells #[.pointer (some ⟨G, 1 + k * 35, none⟩)] 69)
  have c3 : (w2.alloc (.cells #[.pointer (some ⟨G, 1 + k * 35, none⟩)] 69)).cell? ⟨w.heap.size + 1 + 1, 0, none⟩ = some (.pointer (some ⟨G, 1 + k * 35, none⟩)) := by rw [← e2]; exact (World.cell?_alloc_at _ _ _ _ rfl).trans rfl
  generalize w2.alloc (.cells #[.pointer (some ⟨G, 1 + k * 35, none⟩)] 69) = w3 at *
  have b13 : Below w.heap.size w w3 := (b1.trans (b2.mono (by omega))).trans (b3.mono (by omega))
  have c2' := (b3.cell (p := ⟨w.heap.size + 1, 0, none⟩) (block_lt c2)).trans c2
  have c1' := (b3.cell (p := ⟨w.heap.size, 0, none⟩) (show w.heap.size < w2.heap.size by omega)).trans ((b2.cell (p := ⟨w.heap.size, 0, none⟩) (block_lt c1)).trans c1)
  have HO := Lib.hid (once_ring G M c n k (w.heap.size + 1 + 1) w.heap.size (w.heap.size + 1) key u w3.drew ((H.out.keep b13).keep (Below.refl _ _).drew) hk c3 c1' (by rw [← HT.out]; exact c2') (by have := H.out.lt; omega) (by have := H.out.lt; omega) (by have := H.out.lt; omega))
  have HB3 := Lib.hid b13
  have HC3 := Lib.hid c3
  have c3d : w3.drew.cell? ⟨w.heap.size + 1 + 1, 0, none⟩ = some (.pointer (some ⟨G, 1 + k * 35, none⟩)) := c3
  clear b1 b2 b3 c1 c2 c1' c2' b13 c3 e1 e2
  have hmf : ∀ (fn : Fn) (first cap : Array Value) (w : World), (Instr.makeFunc fn first cap).run Tryd.prog w = .ok (.func fn first cap) w := fun _ _ _ _ => rfl
  go_wp2_with fail
  refine HO.out.mono ?_
  rintro e w4 ⟨rfl, h1, h2, h3⟩
  have c4 : w4.cell? ⟨w.heap.size + 1 + 1, 0, none⟩ = some (.pointer (some ⟨G, 1 + k * 35, none⟩)) := (h3.cell (g := w.heap.size + 1 + 1) (block_lt c3d) (by have := H.out.lt; omega)).trans c3d
  have H1 := Lib.hid h1
  have H2 := Lib.hid h2
  have H3 := Lib.hid ((Chg.of_below (K := G) HB3.out).drew.trans h3)
  have hsa : ∀ W : World, (Instr.sliceAt 56 (.pointer (some ⟨G, 1 + k * 35 + 3, none⟩)) none none none).run Tryd.prog W = .ok (.slice (some ⟨G, 1 + k * 35 + 3, none⟩) 32 32) W := all_arr 56 32 G (1 + k * 35 + 3) Tryd.underlying56 (by decide)
  clear h1 h2 h3 c3d
  go_wp2_with fail
  go_ret
  exact ⟨rfl, H1.out, H2.out, H3.out⟩
end Go.Proofs.YtengejmkpkacgaaDoor
/- Layer 13: Key. -/
namespace Go.Proofs.YtengejmkpkacgaaDoor
set_option maxRecDepth 100000
open Go.RowKit
theorem Mine.none0 (w : World) (base : Nat) (f : Nat → Nat) (g : Nat) : Mine w base (.slice none 0 0) 0 f none 0 g :=
  ⟨rfl, fun h => absurd h (Nat.lt_irrefl 0), fun h => absurd h (Nat.lt_irrefl 0), fun h => absurd h (Nat.lt_irrefl 0), Nat.le_refl _, by unfold maxLen; omega, fun _ => ⟨rfl, rfl⟩⟩
/-- the labels that lie in a row of three -/
theorem sls3 (w : World) (a b c : ByteArray) : SlS (w.alloc (.cells #[.string a, .string b, .string c] 9)) (some ⟨w.heap.size, 0, none⟩) 3 (lab3 a b c) := fun _ =>
  ⟨w.heap.size, 0, rfl, by simp, fun j hj => by
    rcases (show j = 0 ∨ j = 1 ∨ j = 2 by omega) with rfl | rfl | rfl
    · exact (World.cell?_alloc_at _ _ _ _ rfl).trans rfl
    · exact (World.cell?_alloc_at _ _ _ _ rfl).trans rfl
    · exact (World.cell?_alloc_at _ _ _ _ rfl).trans rfl⟩
theorem lab3_size {a b c : ByteArray} {K : Nat} (ha : a.size ≤ K) (hb : b.size ≤ K) (hc : c.size ≤ K) (j : Nat) : (lab3 a b c j).size ≤ K := by
  unfold lab3
  split
  · exact ha
  · split
    · exact hb
    · exact hc
/-- what Key leaves -/
def KeyP (u w : World) (G M c n : Nat) (key : Nat → Nat) (t p v : Int) (e : Ending) (w' : World) : Prop :=
  (∃ A c2 g, e = .returned (.tuple #[.slice A (kN (kok t p v)) c2, .int .i64 (kE (kok t p v))]) ∧ Mine w' w.heap.size (.slice A (kN (kok t p v)) c2) (kN (kok t p v)) (keyF n key t.toNat (nmS p) v.toNat) A c2 g) ∧
    RingAt u w' G M c n key ∧ Chg G w w'
set_option maxHeartbeats 1600000 in
/-- what may not be asked -/
theorem key_bad (G M c n : Nat) (t p v : Int) (key : Nat → Nat) (u w : World) (h : RingAt u w G M c n key) (hk : kok t p v = false) :
    Calls Tryd.prog 15 #[.pointer (some ⟨G, 0, none⟩), .int .i64 t, .int .i64 p, .int .i64 v] w (KeyP u w G M c n key t p v) := by
  have H := Lib.hid (show KeyP u w G M c n key t p v (.returned (.tuple #[.slice none 0 0, .int .i64 1])) w by
    unfold KeyP
    rw [hk]
    exact ⟨⟨none, 0, 0, rfl, Mine.none0 _ _ _ _⟩, h, Chg.refl _ _⟩)
  have hb : nmB p = false ∨ nmB p = true ∧ (decide (1 ≤ t ∧ t ≤ 64) = false ∨ decide (1 ≤ t ∧ t ≤ 64) = true ∧ decide (1 ≤ v ∧ v ≤ 255) = false) := by
    unfold kok at hk
    unfold nmB
    have hk := of_decide_eq_false hk
    by_cases h1 : 1 ≤ p ∧ p ≤ 4
    · refine Or.inr ⟨decide_eq_true h1, ?_⟩
      by_cases h2 : 1 ≤ t ∧ t ≤ 64
      · exact Or.inr ⟨decide_eq_true h2, decide_eq_false fun h3 => hk ⟨h2, h1, h3⟩⟩
      · exact Or.inl (decide_eq_false h2)
    · exact Or.inl (decide_eq_false h1)
  have HN := Lib.hid (name_any p w)
  have HT := Lib.hid (within_any t 1 64 w)
  have HV := Lib.hid (within_any v 1 255 w)
  clear h hk
  rcases hb with hb | ⟨hb, hb2 | ⟨hb2, hb3⟩⟩
  · rw [hb] at HN
    clear hb
    go_enter Tryd.func15, Tryd.ntmps15
    go_wp2_with (first | (go_at_call 13; refine HN.out.mono ?_; rintro e w1 ⟨rfl, rfl⟩) | (go_at_call 18; refine HT.out.mono ?_; rintro e w1 ⟨rfl, rfl⟩))
    go_ret2
    exact H.out
  · rw [hb] at HN
    rw [hb2] at HT
    clear hb hb2
    go_enter Tryd.func15, Tryd.ntmps15
    go_wp2_with (first | (go_at_call 13; refine HN.out.mono ?_; rintro e w1 ⟨rfl, rfl⟩) | (go_at_call 18; refine HT.out.mono ?_; rintro e w1 ⟨rfl, rfl⟩))
    go_ret2
    exact H.out
  · rw [hb] at HN
    rw [hb2] at HT
    rw [hb3] at HV
    clear hb hb2 hb3
    go_enter Tryd.func15, Tryd.ntmps15
    go_wp2_with (first | (go_at_call 13; refine HN.out.mono ?_; rintro e w1 ⟨rfl, rfl⟩) | (go_at_call 18; first | (with_reducible refine HT.out.mono ?_; rintro e w1 ⟨rfl, rfl⟩) | (with_reducible refine HV.out.mono ?_; rintro e w1 ⟨rfl, rfl⟩)))
    go_ret2
    exact H.out
set_option maxHeartbeats 1600000 in
theorem key_good (G M c n : Nat) (t p v : Int) (key : Nat → Nat) (u w : World) (h : RingAt u w G M c n key) (hk : kok t p v = true) :
    Calls Tryd.prog 15 #[.pointer (some ⟨G, 0, none⟩), .int .i64 t, .int .i64 p, .int .i64 v] w (KeyP u w G M c n key t p v) := by
  have hk' := hk
  unfold kok at hk'
  have ⟨⟨t1, t2⟩, ⟨p1, p2⟩, v1, v2⟩ := of_decide_eq_true hk'
  clear hk'
  obtain ⟨k, rfl⟩ : ∃ k : Nat, t = ((k + 1 : Nat) : Int) := ⟨t.toNat - 1, by omega⟩
  obtain ⟨m, rfl⟩ : ∃ m : Nat, v = (m : Int) := ⟨v.toNat, by omega⟩
  have HN := Lib.hid (name_any p w)
  have HT := Lib.hid (within_any ((k + 1 : Nat) : Int) 1 64 w)
  have HV := Lib.hid (within_any (m : Int) 1 255 w)
  rw [show nmB p = true from decide_eq_true ⟨p1, p2⟩] at HN
  rw [show decide (1 ≤ ((k + 1 : Nat) : Int) ∧ ((k + 1 : Nat) : Int) ≤ 64) = true from decide_eq_true ⟨t1, t2⟩] at HT
  rw [show decide (1 ≤ (m : Int) ∧ (m : Int) ≤ 255) = true from decide_eq_true ⟨v1, v2⟩] at HV
  have hm : m < 256 := by omega
  have HBG := Lib.hid (begin_any G M c n k ((k + 1 : Nat) : Int) key u w h (by omega) rfl)
  have HLT := Lib.hid h.lt
  have HIS := Lib.hid (itoaB_small m hm)
  have HNS := Lib.hid (nmS_size p)
  have HRET := Lib.hid (show ∀ A c2 g w', Mine w' w.heap.size (.slice A 32 c2) 32 (fkF 32 (ownF n key (k + 1)) (lab3 (nmS p) bVersion (itoaB (m : Int))) 3) A c2 g → RingAt u w' G M c n key → Chg G w w' → KeyP u w G M c n key ((k + 1 : Nat) : Int) p (m : Int) (.returned (.tuple #[.slice A 32 c2, .int .i64 0])) w' from fun A c2 g w' h1 h2 h3 => by
    unfold KeyP
    rw [hk]
    exact ⟨⟨A, c2, g, rfl, h1⟩, h2, h3⟩)
  clear hk t1 t2 p1 p2 v1 v2 h
  generalize nmS p = sn at *
  obtain ⟨ti, hti⟩ : ∃ ti : Int, ti = ((k + 1 : Nat) : Int) := ⟨_, rfl⟩
  rw [← hti] at HT HBG HRET ⊢
  clear hti
  go_enter Tryd.func15, Tryd.ntmps15
  go_wp2_with (first | (go_at_call 13; refine HN.out.mono ?_; rintro e w1 ⟨rfl, rfl⟩) | (go_at_call 18; first | (with_reducible refine HT.out.mono ?_; rintro e w1 ⟨rfl, rfl⟩) | (with_reducible refine HV.out.mono ?_; rintro e w1 ⟨rfl, rfl⟩)))
  refine HBG.out.mono ?_
  rintro e w2 ⟨rfl, h1, h2, h3⟩
  have H1 := Lib.hid h1
  have H2 := Lib.hid h2
  have H3 := Lib.hid h3
  have HI := Lib.hid (itoa_any (m : Int) w2 (by omega) (by omega) h1.tables.2)
  clear h1 h2 h3 HBG HN HT HV
  go_wp2_with fail
  refine HI.out.mono ?_
  rintro e w3 ⟨rfl, hb3⟩
  have HB3 := Lib.hid hb3
  clear hb3 HI
  go_wp2_with fail
  have hsls := sls3 w3 sn bVersion (itoaB (m : Int))
  have HB4 := Lib.hid (HB3.out.trans ((alloc_below w3 (.cells #[.string sn, .string bVersion, .string (itoaB (m : Int))] 9)).mono HB3.out.size))
  generalize hA3 : some (⟨w3.heap.size, 0, none⟩ : Addr) = A3 at *
  generalize w3.alloc (.cells #[.string sn, .string bVersion, .string (itoaB (m : Int))] 9) = w4 at *
  have hR4 := H1.out.keep HB4.out
  refine (fold_any (some ⟨G, 1 + k * 35 + 3, none⟩) 32 32 (ownF n key (k + 1)) A3 3 3 (lab3 sn bVersion (itoaB (m : Int))) w4 (by decide) ((H2.out.keep HB4.out).slB fun j _ => ownF_lt _ _ _ j) (fun h => by cases h) (by decide) hsls
    (fun j _ => Nat.le_trans (lab3_size (K := 7) (Nat.le_trans HNS.out (by decide)) (by decide) (Nat.le_trans HIS.out (by decide)) j) (by decide)) hR4.tables.1).mono ?_
  rintro e w5 ⟨⟨x, A5, c5, g5, rfl, hmine⟩, hb5⟩
  obtain rfl := hmine.val
  have H5 := Lib.hid (hmine.less (H3.out.trans (Chg.of_below HB4.out)).size)
  have HR5 := Lib.hid (hR4.keep hb5)
  have HC5 := Lib.hid ((H3.out.trans (Chg.of_below HB4.out)).trans (Chg.of_below hb5))
  clear hmine hb5 hR4 hsls
  go_wp2_with fail
  go_ret2
  exact HRET.out _ _ _ _ H5.out HR5.out HC5.out
theorem key_any (G M c n : Nat) (t p v : Int) (key : Nat → Nat) (u w : World) (h : RingAt u w G M c n key) :
    Calls Tryd.prog 15 #[.pointer (some ⟨G, 0, none⟩), .int .i64 t, .int .i64 p, .int .i64 v] w (KeyP u w G M c n key t p v) := by
  cases hk : kok t p v with
  | false => exact key_bad G M c n t p v key u w h hk
  | true => exact key_good G M c n t p v key u w h hk
end Go.Proofs.YtengejmkpkacgaaDoor
/- Layer 13: New. -/
namespace Go.Proofs.YtengejmkpkacgaaDoor
set_option maxRecDepth 100000
open Go.RowKit
/-- what has not yet been made of a tenant -/
def begL : List Value := .int .u32 0 :: .int .i32 0 :: .int .u32 0 :: bytesL 32 (fun _ => 0)
theorem begL_length : begL.length = 35 := by unfold begL; simp [bytesL_length]
theorem zeroRing : Tryd.zeroCells61 = (Value.slice none 0 0 :: (List.replicate 64 begL).flatten).toArray := by kernel_rfl
theorem flat_rep (L : List Value) : ∀ (m k j : Nat), k < m → j < L.length → (List.replicate m L).flatten[k * L.length + j]? = L[j]?
  | 0, _, _, hk, _ => absurd hk (Nat.not_lt_zero _)
  | m + 1, 0, j, _, hj => by
    rw [List.replicate_succ, List.flatten_cons, Nat.zero_mul, Nat.zero_add, List.getElem?_append_left hj]
  | m + 1, k + 1, j, hk, hj => by
    rw [List.replicate_succ, List.flatten_cons, List.getElem?_append_right (by rw [Nat.succ_mul]; omega), show (k + 1) * L.length + j - L.length = k * L.length + j by rw [Nat.succ_mul]; omega]
    exact flat_rep L m k j (by omega) hj
theorem ring_cells {w : World} {G : Nat} {v : Value} {t : TypeId} (h : w.heap[G]? = some (.cells (Tryd.zeroCells61.setIfInBounds 0 v) t (0, 0))) :
    w.cell? ⟨G, 0, none⟩ = some v ∧ ∀ k, k < 64 → ∀ own, TenAt w G (1 + k * 35) own := by
  rw [zeroRing] at h
  generalize hL : (List.replicate 64 begL).flatten = L at *
  have hr : ∀ k j, k < 64 → j < 35 → L[k * 35 + j]? = begL[j]? := fun k j hk hj => by
    rw [← hL]
    have := flat_rep begL 64 k j hk (by rw [begL_length]; exact hj)
    rwa [begL_length] at this
  clear hL
  have e : (Value.slice none 0 0 :: L).toArray.setIfInBounds 0 v = (v :: L).toArray := by simp
  rw [e] at h
  have hz : ∀ (o : Nat), w.frozen? ⟨G, o, none⟩ = false := fun o => Lib.frozen_of_heap h o
  have hc : ∀ (o : Nat) x, (v :: L)[o]? = some x → w.cell? ⟨G, o, none⟩ = some x := fun o x hx => (Lib.cell_of_heap h o).trans (by rw [List.getElem?_toArray]; exact hx)
  refine ⟨hc 0 v rfl, fun k hk own => Or.inl ⟨⟨hc _ _ ?_, hc _ _ ?_, hz _, hz _⟩, fun j hj => ⟨hc _ _ ?_, hz _⟩⟩⟩
  · rw [show 1 + k * 35 = k * 35 + 1 by omega, List.getElem?_cons_succ]; exact hr k 0 hk (by decide)
  · rw [show 1 + k * 35 + 1 = (k * 35 + 1) + 1 by omega, List.getElem?_cons_succ, hr k 1 hk (by decide)]; rfl
  · rw [show 1 + k * 35 + 3 + j = (k * 35 + (j + 3)) + 1 by omega, List.getElem?_cons_succ, hr k (j + 3) hk (by omega)]
    unfold begL
    rw [List.getElem?_cons_succ, List.getElem?_cons_succ, List.getElem?_cons_succ]
    exact bytesL_at hj
theorem knew_bad (A : Option Addr) (n c : Nat) (w : World) (hn : ¬ (16 ≤ n ∧ n ≤ 64)) :
    Calls Tryd.prog 9 #[.slice A n c] w fun e w' => e = .returned (.tuple #[.pointer none, .int .i64 1]) ∧ w' = w := by
  have HT := Lib.hid (within_any (n : Int) 16 64 w)
  rw [show decide (16 ≤ (n : Int) ∧ (n : Int) ≤ 64) = false from decide_eq_false (by omega)] at HT
  clear hn
  go_enter Tryd.func9, Tryd.ntmps9
  go_wp2_with (go_at_call 18; refine HT.out.mono ?_; rintro e w1 ⟨rfl, rfl⟩)
  go_ret2
  exact ⟨rfl, rfl⟩
set_option maxHeartbeats 1600000 in
theorem knew_good (A : Option Addr) (n c : Nat) (key : Nat → Nat) (u w : World) (hn : 16 ≤ n ∧ n ≤ 64) (hA : SlB w A n key) (hnil : A = none → n = 0 ∧ c = 0) (hgt : GT u) (hp : P10 u) (hbel : Below u.heap.size u w) :
    Calls Tryd.prog 9 #[.slice A n c] w fun e w' => ∃ G M cc, e = .returned (.tuple #[.pointer (some ⟨G, 0, none⟩), .int .i64 0]) ∧ w.heap.size ≤ G ∧ w.heap.size ≤ M ∧ RingAt u w' G M cc n key ∧ Below w.heap.size w w' := by
  have HT := Lib.hid (within_any (n : Int) 16 64 w)
  rw [show decide (16 ≤ (n : Int) ∧ (n : Int) ≤ 64) = true from decide_eq_true (by omega)] at HT
  have HC := Lib.hid (clone_any A n c key w (by omega) hA hnil)
  have HY := Lib.hid (show By n key from fun j hj => hA.byte hj)
  have HN := Lib.hid hn
  have HU := Lib.hid hbel
  have HG := Lib.hid hgt
  have HP := Lib.hid hp
  clear hn hA hnil hgt hp hbel
  go_enter Tryd.func9, Tryd.ntmps9
  go_wp2_with (go_at_call 18; refine HT.out.mono ?_; rintro e w1 ⟨rfl, rfl⟩)
  refine HC.out.mono ?_
  rintro e w2 ⟨⟨v, rfl, hown⟩, hb2⟩
  obtain ⟨A1, c1, g1, hmine⟩ := Mine.of_ownB hown HY.out
  obtain rfl := hmine.val
  have H1 := Lib.hid hmine
  have HB2 := Lib.hid hb2
  clear hown hmine hb2 HC
  go_wp2_with fail
  go_ret2
  have hh := heap_alloc_new w2 (.cells (Tryd.zeroCells61.setIfInBounds 0 (.slice A1 n c1)) 61)
  have hb3 := alloc_below w2 (.cells (Tryd.zeroCells61.setIfInBounds 0 (.slice A1 n c1)) 61)
  generalize w2.alloc (.cells (Tryd.zeroCells61.setIfInBounds 0 (.slice A1 n c1)) 61) = w3 at *
  have hN := HN.out
  have hm := H1.out
  obtain ⟨rfl, _⟩ := hm.own (Nat.lt_of_lt_of_le (by omega) hm.le)
  have hg := hm.from_ (Nat.lt_of_lt_of_le (by omega) hm.le)
  have hgl := hm.own.lt (Nat.lt_of_lt_of_le (by omega) hm.le)
  obtain ⟨k1, k2⟩ := ring_cells hh
  have hbb := HB2.out.trans (hb3.mono HB2.out.size)
  exact ⟨w2.heap.size, g1, c1, rfl, HB2.out.size, hg, ⟨HG.out, HP.out, HU.out.trans (hbb.mono HU.out.size), Nat.le_trans HU.out.size HB2.out.size, Nat.le_trans HU.out.size hg, by omega, hN, hm.le, k1, hm.row.keep hb3, fun k hk => k2 k hk _⟩, hbb⟩
end Go.Proofs.YtengejmkpkacgaaDoor
/- Laws of layer 13: the small case, law KeysNames. -/
namespace Go.Proofs.YtengejmkpkacgaaDoor
set_option maxRecDepth 100000
open Go.RowKit
theorem made16s (w : World) : SlB (w.alloc (.cells (madeCells #[.int .u8 0] 16) 5)) (some ⟨w.heap.size, 0, none⟩) 16 (fun _ => 0) :=
  (arr_made w _ _ 16 (fun _ => 0) (Array.ext' (by rw [toList_madeCells_one]; rfl))).slB fun _ _ => Nat.zero_lt_succ _
set_option maxHeartbeats 1600000 in
theorem small13_any (w : World) (ht : GT w) (hp : P10 w) : Calls Tryd.prog 7 #[] w fun e w' => e = .returned (.bool true) ∧ Below w.heap.size w w' := by
  have HG := Lib.hid ht
  have HP := Lib.hid hp
  have hmk : ∀ W : World, (Instr.makeSlice 22 (.int .i64 16) (.int .i64 16)).run Tryd.prog W = .ok (.slice (some ⟨W.heap.size, 0, none⟩) 16 16) (W.alloc (.cells (madeCells #[.int .u8 0] 16) 5)) := fun W => mk8 16 (by decide) W
  clear ht hp
  go_enter Tryd.func7, Tryd.ntmps7
  go_wp2_with fail
  have HS := Lib.hid (made16s w)
  have HB := Lib.hid (alloc_below w (.cells (madeCells #[.int .u8 0] 16) 5))
  generalize w.alloc (.cells (madeCells #[.int .u8 0] 16) 5) = w1 at *
  refine (knew_good _ 16 16 _ w w1 (by decide) HS.out (fun h => by cases h) HG.out HP.out HB.out).mono ?_
  rintro e w2 ⟨G, M, cc, rfl, _, _, h1, _⟩
  have H1 := Lib.hid h1
  clear h1 hmk
  go_wp2_with fail
  have hk := key_any G M cc 16 1 1 1 _ w w2 H1.out
  unfold KeyP at hk
  rw [show kok 1 1 1 = true from rfl] at hk
  refine hk.mono ?_
  rintro e w3 ⟨⟨A, c2, g, rfl, _⟩, h2, _⟩
  have H2 := Lib.hid h2
  clear h2 hk
  simp only [show kN true = 32 from rfl, show kE true = 0 from rfl]
  go_wp2_with fail
  have hk := key_any G M cc 16 0 1 1 _ w w3 H2.out
  unfold KeyP at hk
  rw [show kok 0 1 1 = false from rfl] at hk
  refine hk.mono ?_
  rintro e w4 ⟨⟨A4, c4, g4, rfl, _⟩, h3, _⟩
  have H3 := Lib.hid h3
  clear h3 hk
  simp only [show kN false = 0 from rfl, show kE false = 1 from rfl]
  go_wp2_with fail
  refine (name_any 4 w4).mono ?_
  rintro e w5 ⟨rfl, rfl⟩
  have hb4 : nmB 4 = true := rfl
  have hs4 : nmS 4 = { data := #[97, 117, 100, 105, 116] } := rfl
  rw [hb4, hs4]
  go_wp2_with fail
  go_ret
  exact ⟨rfl, H3.out.bel⟩
end Go.Proofs.YtengejmkpkacgaaDoor
/- Law KeysNames (layer 13). -/
namespace Go.Proofs.YtengejmkpkacgaaDoor
set_option maxRecDepth 100000
open Go.RowKit
theorem nms_ne {a b : Int} (ha : 1 ≤ a ∧ a ≤ 4) (hb : 1 ≤ b ∧ b ≤ 4) (h : ¬ a = b) : ((nmS a).toList == (nmS b).toList) = false := by
  rcases (show a = 1 ∨ a = 2 ∨ a = 3 ∨ a = 4 by omega) with rfl | rfl | rfl | rfl <;> rcases (show b = 1 ∨ b = 2 ∨ b = 3 ∨ b = 4 by omega) with rfl | rfl | rfl | rfl
  all_goals first | exact absurd rfl h | decide +kernel
theorem nms_some {a : Int} (ha : 1 ≤ a ∧ a ≤ 4) : ¬ (nmS a).toList = [] := by
  rcases (show a = 1 ∨ a = 2 ∨ a = 3 ∨ a = 4 by omega) with rfl | rfl | rfl | rfl <;> decide +kernel
set_option maxHeartbeats 1600000 in
theorem names_any (a b : Int) (w : World) (ht : GT w) (hp : P10 w) : Calls Tryd.prog 6 #[.int .i64 a, .int .i64 b] w fun e w' => e = .returned (.bool true) ∧ Below w.heap.size w w' := by
  have HS := Lib.hid (small13_any w ht hp)
  have HA := Lib.hid (fun W => name_any a W)
  have HB := Lib.hid (fun W => name_any b W)
  clear ht hp
  by_cases h1 : 1 ≤ a ∧ a ≤ 4
  · have hs := nms_some h1
    have hse : (nmS a).toList.isEmpty = false := by simpa using hs
    rw [show nmB a = true from decide_eq_true h1] at HA
    by_cases h2 : 1 ≤ b ∧ b ≤ 4
    · rw [show nmB b = true from decide_eq_true h2] at HB
      by_cases h3 : a = b
      · subst h3
        have ⟨i1, i2⟩ := h1
        clear h1 h2
        generalize nmS a = s at *
        go_enter Tryd.func6, Tryd.ntmps6
        go_wp2_with fail
        refine HS.out.mono ?_
        rintro e w1 ⟨rfl, hb⟩
        have HW := Lib.hid hb
        clear hb
        go_wp2_with (go_at_call 13; refine (HA.out _).mono ?_; rintro e w2 ⟨rfl, rfl⟩)
        go_ret
        exact ⟨rfl, HW.out⟩
      · have hst := nms_ne h1 h2 h3
        have hab : (a == b) = false := by simpa using h3
        have ⟨i1, i2⟩ := h1
        clear h1 h2 h3
        generalize nmS a = s at *
        generalize nmS b = t at *
        go_enter Tryd.func6, Tryd.ntmps6
        go_wp2_with fail
        refine HS.out.mono ?_
        rintro e w1 ⟨rfl, hb⟩
        have HW := Lib.hid hb
        clear hb
        go_wp2_with fail
        refine (HA.out _).mono ?_
        rintro e w2 ⟨rfl, rfl⟩
        go_wp2_with fail
        refine (HB.out _).mono ?_
        rintro e w3 ⟨rfl, rfl⟩
        go_wp2_with fail
        go_ret
        exact ⟨rfl, HW.out⟩
    · rw [show nmB b = false from decide_eq_false h2] at HB
      have ⟨i1, i2⟩ := h1
      clear h1 h2
      generalize nmS a = s at *
      generalize nmS b = t at *
      go_enter Tryd.func6, Tryd.ntmps6
      go_wp2_with fail
      refine HS.out.mono ?_
      rintro e w1 ⟨rfl, hb⟩
      have HW := Lib.hid hb
      clear hb
      go_wp2_with fail
      refine (HA.out _).mono ?_
      rintro e w2 ⟨rfl, rfl⟩
      go_wp2_with fail
      refine (HB.out _).mono ?_
      rintro e w3 ⟨rfl, rfl⟩
      go_wp2_with fail
      go_ret
      exact ⟨rfl, HW.out⟩
  · rw [show nmB a = false from decide_eq_false h1] at HA
    have he : nmS a = { data := #[] } := by
      rcases name_cases a with rfl | rfl | rfl | rfl | ⟨_, _, _, _, e1, _⟩
      · exact absurd (by decide) h1
      · exact absurd (by decide) h1
      · exact absurd (by decide) h1
      · exact absurd (by decide) h1
      · exact e1
    rw [he] at HA
    have h1' : a < 1 ∨ (1 ≤ a ∧ 4 < a) := by omega
    clear he h1
    generalize nmS b = t at *
    generalize nmB b = also at *
    rcases h1' with h1 | ⟨h1, h2⟩
    · have d1 : decide (1 ≤ a) = false := decide_eq_false (by omega)
      go_enter Tryd.func6, Tryd.ntmps6
      go_wp2_with fail
      refine HS.out.mono ?_
      rintro e w1 ⟨rfl, hb⟩
      have HW := Lib.hid hb
      clear hb
      go_wp2_with fail
      refine (HA.out _).mono ?_
      rintro e w2 ⟨rfl, rfl⟩
      go_wp2_with fail
      refine (HB.out _).mono ?_
      rintro e w3 ⟨rfl, rfl⟩
      go_wp2_with fail
      go_ret
      exact ⟨rfl, HW.out⟩
    · have d1 : decide (a ≤ 4) = false := decide_eq_false (by omega)
      go_enter Tryd.func6, Tryd.ntmps6
      go_wp2_with fail
      refine HS.out.mono ?_
      rintro e w1 ⟨rfl, hb⟩
      have HW := Lib.hid hb
      clear hb
      go_wp2_with fail
      refine (HA.out _).mono ?_
      rintro e w2 ⟨rfl, rfl⟩
      go_wp2_with fail
      refine (HB.out _).mono ?_
      rintro e w3 ⟨rfl, rfl⟩
      go_wp2_with fail
      go_ret
      exact ⟨rfl, HW.out⟩
end Go.Proofs.YtengejmkpkacgaaDoor
/- Texts of numbers. -/
namespace Go.Proofs.YtengejmkpkacgaaDoor
open Go.RowKit

theorem itoaB_size (n : Int) (h0 : -9223372036854775808 ≤ n) (h1 : n ≤ 9223372036854775807) : (itoaB n).size ≤ 21 := by
  unfold itoaB
  show ((Lib.itoa n).toArray).size ≤ 21
  rw [List.size_toArray]
  exact Lib.itoa_length_le n h0 h1

theorem app_list (a b : ByteArray) : (a ++ b).data.toList = a.data.toList ++ b.data.toList := by rw [ByteArray.data_append, Array.toList_append]

theorem ba_ext {a b : ByteArray} (h : a.data.toList = b.data.toList) : a = b := by
  apply ByteArray.ext; exact Array.ext' h

theorem itoaB_nat (n : Nat) : itoaB n = ⟨(Lib.decDigits n).toArray⟩ := by unfold itoaB; rw [Lib.itoa_nonneg]

end Go.Proofs.YtengejmkpkacgaaDoor
/- A row of one byte, and its text. -/
namespace Go.Proofs.YtengejmkpkacgaaDoor
open Go.RowKit

theorem conv1c (x : Int) (W : World) (B : Nat) (h : W.cell? ⟨B, 0, none⟩ = some (.int .u8 x)) :
    (convert 22 9 (.slice (some ⟨B, 0, none⟩) 1 1)).run Tryd.prog W = .ok (.string ⟨#[chr x.toNat]⟩) W :=
  run_convert_bytes_arg _ _ _ Tryd.underlying22 Tryd.underlying5 _ 0 1 1 [x] rfl (fun i hi => by
    obtain rfl : i = 0 := by omega
    exact h) _ Tryd.underlying9

theorem run_byte1 (w : World) (x : Int) : (Instr.buildSlice 22 1 #[(0, .int .u8 x)]).run Tryd.prog w = .ok (.slice (some ⟨w.heap.size, 0, none⟩) 1 1) (w.alloc (.cells #[.int .u8 x] 5)) := by
  go_simp

theorem run_str_lo (s : ByteArray) (k : Nat) (h : k ≤ s.size) (W : World) : (Instr.sliceAt 9 (.string s) none (some (.int .i64 (k : Nat))) none).run Tryd.prog W = .ok (.string (s.extract 0 k)) W := by go_simp

theorem below_of_drew {w w' : World} (h : Below w.drew.heap.size w.drew w') : Below w.heap.size w w' := ⟨h.os, h.tape, h.output, h.size, h.block⟩
end Go.Proofs.YtengejmkpkacgaaDoor
/- The reference of layer 13: a number's digits. -/
namespace Go.Proofs.YtengejmkpkacgaaDoor
set_option maxRecDepth 100000
open Go.RowKit

theorem text13_low (n : Nat) (h : n < 10) (w : World) :
    Calls Tryd.prog 23 #[.int .i64 n] w fun e w' => e = .returned (.string (itoaB n)) ∧ Below w.heap.size w w' := by
  have HI := Lib.hid (show itoaB n = ⟨#[chr (48 + n)]⟩ by rw [itoaB_nat, Lib.decDigits_one h]; rfl)
  have hcv := conv1 (48 + n) w
  rw [show ((48 : Int) + n).toNat = 48 + n by omega] at hcv
  go_enter Tryd.func23, Tryd.ntmps23
  go_wp2_with fail
  go_ret
  exact ⟨by rw [HI.out]; rfl, (Below.refl w.heap.size w).alloc (Nat.le_refl _) _⟩

--DEFS ty
def tyG (n q r : Nat) (tn : ByteArray) (cr : UInt8) : Nat → Value → World → Prop
  | 0, v, _ => v = .int .i64 (n : Nat)
  | 1, v, _ => v = .int .i64 (q : Nat)
  | 2, v, _ => v = .string tn
  | 3, v, _ => v = .int .i64 (n : Nat)
  | 4, v, _ => v = .int .i64 (r : Nat)
  | 5, v, _ => v = .int .i64 ((48 + r : Nat) : Int)
  | 6, v, _ => v = .int .u8 ((48 + r : Nat) : Int)
  | 7, v, w => ∃ B, v = .slice (some ⟨B, 0, none⟩) 1 1 ∧ w.cell? ⟨B, 0, none⟩ = some (.int .u8 ((48 + r : Nat) : Int))
  | 8, v, _ => v = .string ⟨#[cr]⟩
  | 9, v, _ => v = .string (tn ++ ⟨#[cr]⟩)
  | 10, v, _ => v = .string (tn ++ ⟨#[cr]⟩)
  | _, _, _ => True
theorem tyG_stays (n q r : Nat) (tn : ByteArray) (cr : UInt8) : ∀ i v w w', tyG n q r tn cr i v w → Below w.heap.size w w' → tyG n q r tn cr i v w'
  | 0, _, _, _, h, _ => h
  | 1, _, _, _, h, _ => h
  | 2, _, _, _, h, _ => h
  | 3, _, _, _, h, _ => h
  | 4, _, _, _, h, _ => h
  | 5, _, _, _, h, _ => h
  | 6, _, _, _, h, _ => h
  | 7, v, w, w', h_, hb => by
    obtain ⟨B, h1, h2⟩ := h_; exact ⟨B, h1, (hb.cell (block_lt h2)).trans h2⟩
  | 8, _, _, _, h, _ => h
  | 9, _, _, _, h, _ => h
  | 10, _, _, _, h, _ => h
  | _ + 11, _, _, _, _, _ => trivial
--END DEFS ty
set_option maxRecDepth 100000 in
set_option maxHeartbeats 1600000 in
theorem text13_step (n q r : Nat) (cr : UInt8) (h10 : 10 ≤ n) (hn : n < 1000) (hq : n / 10 = q) (hr : n % 10 = r) (hcr : chr (48 + r) = cr) (tn : ByteArray) (ht : tn.size ≤ 100)
    (hT : ∀ W, Calls Tryd.prog 23 #[.int .i64 (q : Nat)] W fun e w' => e = .returned (.string tn) ∧ Below W.heap.size W w') (w : World) :
    Calls Tryd.prog 23 #[.int .i64 n] w fun e w' => e = .returned (.string (tn ++ ⟨#[cr]⟩)) ∧ Below w.heap.size w w' := by
  have hr9 : r ≤ 9 := by omega
  have HT := Lib.hid hT
  have HCV := Lib.hid (show ∀ (W : World) (B : Nat), W.cell? ⟨B, 0, none⟩ = some (.int .u8 ((48 + r : Nat) : Int)) → (convert 22 9 (.slice (some ⟨B, 0, none⟩) 1 1)).run Tryd.prog W = .ok (.string ⟨#[cr]⟩) W from
    fun W B h => by rw [← hcr]; exact conv1c _ W B h)
  have hq2 : (n : Int).tdiv 10 = (q : Nat) := by rw [Int.tdiv_eq_ediv_of_nonneg (by omega)]; omega
  have hr2 : (n : Int).tmod 10 = (r : Nat) := by rw [Int.tmod_eq_emod_of_nonneg (by omega)]; omega
  have HQ := Lib.hid (show ∀ W : World, (binOp .quo 3 (.int .i64 (n : Nat)) (.int .i64 10)).run Tryd.prog W = .ok (.int .i64 (q : Nat)) W from fun W => by
    go_simp
    exact IntWalk.i64_in _ (by omega))
  have HR := Lib.hid (show ∀ W : World, (binOp .rem 3 (.int .i64 (n : Nat)) (.int .i64 10)).run Tryd.prog W = .ok (.int .i64 (r : Nat)) W from fun W => by go_simp)
  have HS := Lib.hid (show ∀ W : World, (binOp .add 3 (.int .i64 48) (.int .i64 (r : Nat))).run Tryd.prog W = .ok (.int .i64 ((48 + r : Nat) : Int)) W from fun W => by
    go_simp
    exact IntWalk.i64_in _ (by omega))
  have HC := Lib.hid (show ∀ W : World, (convert 3 5 (.int .i64 ((48 + r : Nat) : Int))).run Tryd.prog W = .ok (.int .u8 ((48 + r : Nat) : Int)) W from fun W => by
    go_simp
    exact IntWalk.u8_in _ (by omega))
  have hz : (tn ++ (⟨#[cr]⟩ : ByteArray)).size ≤ 101 := by rw [ByteArray.size_append]; show tn.size + 1 ≤ 101; omega
  have HA := Lib.hid (show ∀ W : World, (binOp .add 9 (.string tn) (.string ⟨#[cr]⟩)).run Tryd.prog W = .ok (.string (tn ++ ⟨#[cr]⟩)) W from fun W => by
    go_simp
    omega)
  clear hT hq hr hcr hq2 hr2 hz ht
  have hn10 : ¬ (n : Int) < 10 := by omega
  go_enter Tryd.func23, Tryd.ntmps23
  go_wp2_with fail
  refine wp_region_any (by kernel_rfl) ?_
  change wpAny _ _ _ _ _ _ _ w.drew
  refine ord.wpAny_ord [[], [0], [1], [], [3], [4], [5], [6], [7], [2, 8], [9]] [(0, 10), (1, 11), (2, 12), (3, 13), (4, 14), (5, 15), (6, 16), (7, 17), (8, 18), (9, 19), (10, 2)] (tyG n q r tn cr) (by kernel_rfl) (by kernel_rfl) (tyG_stays _ _ _ _ _) ((ord.steps_cons ?_ (ord.steps_cons ?_ (ord.steps_cons ?_ (ord.steps_cons ?_ (ord.steps_cons ?_ (ord.steps_cons ?_ (ord.steps_cons ?_ (ord.steps_cons ?_ (ord.steps_cons ?_ (ord.steps_cons ?_ (ord.steps_cons ?_ ord.steps_nil)))))))))))) ?_
  --STEPS ty
  · intro o ho x w hb hG
    obtain rfl := Option.some.inj ho
    clear ho
    refine Or.inl ⟨ord.want0 rfl, ?_⟩
    exact ord.makes_move rfl ⟨Below.refl _ _, rfl⟩
  · intro o ho x w hb hG
    obtain rfl := Option.some.inj ho
    clear ho
    have h10 : x 0 = .int .i64 (n : Nat) := hG (0, 10) (List.mem_of_getElem? (i := 0) rfl) rfl
    refine Or.inl ⟨ord.want0 rfl, ?_⟩
    exact ord.makes_bin rfl h10 rfl (by exact HQ.out w) ⟨Below.refl _ _, rfl⟩
  · intro o ho x w hb hG
    obtain rfl := Option.some.inj ho
    clear ho
    have h11 : x 1 = .int .i64 (q : Nat) := hG (1, 11) (List.mem_of_getElem? (i := 1) rfl) rfl
    refine Or.inl ⟨ord.want0 rfl, ?_⟩
    exact ord.makes_call1 Tryd.func23 (by kernel_rfl) (by kernel_rfl) rfl h11 (HT.out w) (fun e w' h => ⟨_, h.1, h.2, rfl⟩)
  · intro o ho x w hb hG
    obtain rfl := Option.some.inj ho
    clear ho
    refine Or.inl ⟨ord.want0 rfl, ?_⟩
    exact ord.makes_move rfl ⟨Below.refl _ _, rfl⟩
  · intro o ho x w hb hG
    obtain rfl := Option.some.inj ho
    clear ho
    have h13 : x 3 = .int .i64 (n : Nat) := hG (3, 13) (List.mem_of_getElem? (i := 3) rfl) rfl
    refine Or.inl ⟨ord.want0 rfl, ?_⟩
    exact ord.makes_bin rfl h13 rfl (by exact HR.out w) ⟨Below.refl _ _, rfl⟩
  · intro o ho x w hb hG
    obtain rfl := Option.some.inj ho
    clear ho
    have h14 : x 4 = .int .i64 (r : Nat) := hG (4, 14) (List.mem_of_getElem? (i := 4) rfl) rfl
    refine Or.inl ⟨ord.want0 rfl, ?_⟩
    exact ord.makes_bin rfl rfl h14 (by exact HS.out w) ⟨Below.refl _ _, rfl⟩
  · intro o ho x w hb hG
    obtain rfl := Option.some.inj ho
    clear ho
    have h15 : x 5 = .int .i64 ((48 + r : Nat) : Int) := hG (5, 15) (List.mem_of_getElem? (i := 5) rfl) rfl
    refine Or.inl ⟨ord.want0 rfl, ?_⟩
    exact ord.makes_conv rfl h15 (HC.out w) ⟨Below.refl _ _, rfl⟩
  · intro o ho x w hb hG
    obtain rfl := Option.some.inj ho
    clear ho
    have h16 : x 6 = .int .u8 ((48 + r : Nat) : Int) := hG (6, 16) (List.mem_of_getElem? (i := 6) rfl) rfl
    refine Or.inl ⟨ord.want0 rfl, ?_⟩
    exact ord.makes_build1 rfl h16 (run_byte1 w _) ⟨(Below.refl _ _).alloc (Nat.le_refl _) _, _, rfl, (World.cell?_alloc_at _ _ _ _ rfl).trans rfl⟩
  · intro o ho x w hb hG
    obtain rfl := Option.some.inj ho
    clear ho
    have h17 : tyG n q r tn cr 7 (x 7) w := hG (7, 17) (List.mem_of_getElem? (i := 7) rfl) rfl
    refine Or.inl ⟨ord.want0 rfl, ?_⟩
    obtain ⟨B, hv, hc⟩ := h17
    exact ord.makes_conv rfl hv (HCV.out w B hc) ⟨Below.refl _ _, rfl⟩
  · intro o ho x w hb hG
    obtain rfl := Option.some.inj ho
    clear ho
    have h12 : x 2 = .string tn := hG (2, 12) (List.mem_of_getElem? (i := 2) rfl) rfl
    have h18 : x 8 = .string ⟨#[cr]⟩ := hG (8, 18) (List.mem_of_getElem? (i := 8) rfl) rfl
    refine Or.inl ⟨ord.want0 rfl, ?_⟩
    exact ord.makes_bin rfl h12 h18 (by exact HA.out w) ⟨Below.refl _ _, rfl⟩
  · intro o ho x w hb hG
    obtain rfl := Option.some.inj ho
    clear ho
    have h19 : x 9 = .string (tn ++ ⟨#[cr]⟩) := hG (9, 19) (List.mem_of_getElem? (i := 9) rfl) rfl
    refine Or.inl ⟨ord.want0 rfl, ?_⟩
    exact ord.makes_assign rfl ⟨Below.refl _ _, h19⟩
  --END STEPS ty
  · intro x w6 hb hG
    have e0 : x 10 = .string (tn ++ ⟨#[cr]⟩) := hG (10, 2) (List.mem_of_getElem? (i := 10) rfl)
    clear hG
    simp only [ord.puts, ord.put', List.set_cons_zero, List.set_cons_succ, if_true]
    rw [e0]
    go_wp2_with fail
    go_ret
    exact ⟨rfl, (Below.refl w.heap.size w).drew.trans hb⟩

theorem rtext13_any {v : Int} (h1 : 0 ≤ v) (h2 : v ≤ 999) (w : World) :
    Calls Tryd.prog 23 #[.int .i64 v] w fun e w' => e = .returned (.string (itoaB v)) ∧ Below w.heap.size w w' := by
  obtain ⟨n, rfl⟩ : ∃ n : Nat, v = n := ⟨v.toNat, by omega⟩
  by_cases ha : n < 10
  · exact text13_low n ha w
  · have step : ∀ m : Nat, 10 ≤ m → itoaB m = itoaB (m / 10 : Nat) ++ ⟨#[chr (48 + m % 10)]⟩ := fun m hm => by
      rw [itoaB_nat, itoaB_nat, Lib.decDigits, dif_neg (by omega)]
      apply ba_ext
      rw [app_list]
      rfl
    by_cases hb : n < 100
    · rw [step n (by omega)]
      exact text13_step n (n / 10) (n % 10) _ (by omega) (by omega) rfl rfl rfl _ (Nat.le_trans (itoaB_size _ (by omega) (by omega)) (by decide)) (fun W => text13_low (n / 10) (by omega) W) w
    · rw [step n (by omega)]
      refine text13_step n (n / 10) (n % 10) _ (by omega) (by omega) rfl rfl rfl _ (Nat.le_trans (itoaB_size _ (by omega) (by omega)) (by decide)) (fun W => ?_) w
      rw [step (n / 10) (by omega)]
      exact text13_step (n / 10) (n / 10 / 10) (n / 10 % 10) _ (by omega) (by omega) rfl rfl rfl _ (Nat.le_trans (itoaB_size _ (by omega) (by omega)) (by decide)) (fun W => text13_low (n / 10 / 10) (by omega) W) W
end Go.Proofs.YtengejmkpkacgaaDoor
/- Bits of int: nothing here hangs on the program. -/
namespace Go.Proofs.YtengejmkpkacgaaDoor

theorem i64_and_nat (a b : Nat) (ha : a < 9223372036854775808) (hb : b < 9223372036854775808) : bits .and .i64 (a : Int) (b : Int) = ((a &&& b : Nat) : Int) := by
  have hx : a &&& b < 2 ^ 63 := Nat.and_lt_two_pow _ (by omega)
  show IntKind.i64.wrap ((BitVec.ofInt 64 (a : Int) &&& BitVec.ofInt 64 (b : Int)).toNat : Int) = _
  rw [BitVec.toNat_and, ofInt_u64 a (by omega), ofInt_u64 b (by omega), IntKind.wrap_i64]
  omega
theorem i64_or_nat (a b : Nat) (ha : a < 9223372036854775808) (hb : b < 9223372036854775808) : bits .or .i64 (a : Int) (b : Int) = ((a ||| b : Nat) : Int) := by
  have hx : a ||| b < 2 ^ 63 := Nat.or_lt_two_pow (by omega) (by omega)
  show IntKind.i64.wrap ((BitVec.ofInt 64 (a : Int) ||| BitVec.ofInt 64 (b : Int)).toNat : Int) = _
  rw [BitVec.toNat_or, ofInt_u64 a (by omega), ofInt_u64 b (by omega), IntKind.wrap_i64]
  omega
theorem i64_xor_nat (a b : Nat) (ha : a < 9223372036854775808) (hb : b < 9223372036854775808) : bits .xor .i64 (a : Int) (b : Int) = ((a ^^^ b : Nat) : Int) := by
  have hx : a ^^^ b < 2 ^ 63 := Nat.xor_lt_two_pow (by omega) (by omega)
  show IntKind.i64.wrap ((BitVec.ofInt 64 (a : Int) ^^^ BitVec.ofInt 64 (b : Int)).toNat : Int) = _
  rw [BitVec.toNat_xor, ofInt_u64 a (by omega), ofInt_u64 b (by omega), IntKind.wrap_i64]
  omega
/-- a mask of k bits, of any int -/
theorem i64_mask (k m : Nat) (hk : k ≤ 62) (hm : m = 2 ^ k - 1) (n : Int) : bits .and .i64 n (m : Int) = n % ((2 ^ k : Nat) : Int) := by
  have hp : 2 ^ k ≤ 2 ^ 62 := Nat.pow_le_pow_right (by decide) hk
  have hp0 : 0 < 2 ^ k := Nat.two_pow_pos k
  have key : (BitVec.ofInt 64 n &&& BitVec.ofInt 64 (m : Int)).toNat = (n % ((2 ^ 64 : Nat) : Int)).toNat % 2 ^ k := by
    rw [BitVec.toNat_and, BitVec.toNat_ofInt, ofInt_u64 m (by omega), hm, Nat.and_two_pow_sub_one_eq_mod]
  show IntKind.i64.wrap ((BitVec.ofInt 64 n &&& BitVec.ofInt 64 (m : Int)).toNat : Nat) = _
  rw [key]
  have hd : (n % ((2 ^ 64 : Nat) : Int)).toNat % 2 ^ k = (n % ((2 ^ k : Nat) : Int)).toNat := by
    apply Int.natCast_inj.1
    have h0 : 0 ≤ n % ((2 ^ 64 : Nat) : Int) := Int.emod_nonneg _ (by decide)
    have h1 : 0 ≤ n % ((2 ^ k : Nat) : Int) := Int.emod_nonneg _ (by omega)
    rw [Int.natCast_emod, Int.toNat_of_nonneg h0, Int.toNat_of_nonneg h1]
    refine Int.emod_emod_of_dvd n ?_
    exact Int.natCast_dvd_natCast.2 (Nat.pow_dvd_pow 2 (by omega))
  rw [hd]
  have h1 : 0 ≤ n % ((2 ^ k : Nat) : Int) := Int.emod_nonneg _ (by omega)
  have h2 : n % ((2 ^ k : Nat) : Int) < ((2 ^ k : Nat) : Int) := Int.emod_lt_of_pos _ (by omega)
  rw [Int.toNat_of_nonneg h1, IntKind.wrap_i64]
  omega
end Go.Proofs.YtengejmkpkacgaaDoor
/- The reference: turned right; the constants. -/
namespace Go.Proofs.YtengejmkpkacgaaDoor
open Go.RowKit
theorem sshl_lt (n x : Nat) (hx : x < 4294967296) (h1 : 1 ≤ n) : x * 2 ^ (32 - n) < 9223372036854775808 := by
  have hp : 2 ^ (32 - n) ≤ 2 ^ 31 := Nat.pow_le_pow_right (by decide) (by omega)
  calc x * 2 ^ (32 - n) ≤ x * 2 ^ 31 := Nat.mul_le_mul_left _ hp
    _ < _ := by omega
theorem rr_i64 (n x : Nat) (hx : x < 4294967296) (h1 : 1 ≤ n) : bits BinOp.or .i64 ((x : Int) / 2 ^ n) ((wrap64 ((x : Int) * 2 ^ (32 - n))).tmod 4294967296) = ((rr n x : Nat) : Int) := by
  have hl := sshl_lt n x hx h1
  have e1 : (x : Int) / 2 ^ n = ((x / 2 ^ n : Nat) : Int) := by simp
  have e2 : (x : Int) * 2 ^ (32 - n) = ((x * 2 ^ (32 - n) : Nat) : Int) := by simp
  have e3 : wrap64 ((x * 2 ^ (32 - n) : Nat) : Int) = ((x * 2 ^ (32 - n) : Nat) : Int) := by unfold wrap64; omega
  rw [e1, e2, e3, Int.tmod_eq_emod_of_nonneg (by omega), show ((x * 2 ^ (32 - n) : Nat) : Int) % 4294967296 = ((x * 2 ^ (32 - n) % 4294967296 : Nat) : Int) by omega]
  have hx2 : x / 2 ^ n ≤ x := Nat.div_le_self _ _
  rw [i64_or_nat _ _ (by omega) (by omega)]
  rfl
theorem rright_any (n x : Nat) (w : World) (hx : x < 4294967296) (h1 : 1 ≤ n) (h2 : n ≤ 31) :
    Calls Tryd.prog 66 #[.int .i64 x, .int .i64 n] w fun e w' => e = .returned (.int .i64 (rr n x : Nat)) ∧ ∃ n, w' = w.drewN n := by
  have hn1 : (1 : Int) ≤ n := by omega
  have hn2 : (n : Int) ≤ 31 := by omega
  have HR := Lib.hid (rr_i64 n x hx h1)
  go_enter Tryd.func66, Tryd.ntmps66
  go_wp2_with fail
  go_quiet (fail)
  go_wp2_with fail
  go_ret
  exact ⟨ret_int HR.out, nq, rfl⟩
/-- ints, by number -/
abbrev ints (f : Nat → Nat) (j : Nat) : Value := .int .i64 (f j : Nat)
theorem arrV_new {W : World} {c : Array Value} {t : TypeId} {n g : Nat} {f : Nat → Value} (hc : c = (valsL n f).toArray) (hg : g = W.heap.size) : ArrV (W.alloc (.cells c t)) g 0 n f := by
  subst hg; exact arrV_made W c t n f hc
theorem words_lit : (#[.int .i64 1116352408, .int .i64 1899447441, .int .i64 3049323471, .int .i64 3921009573, .int .i64 961987163, .int .i64 1508970993, .int .i64 2453635748, .int .i64 2870763221, .int .i64 3624381080, .int .i64 310598401, .int .i64 607225278, .int .i64 1426881987, .int .i64 1925078388, .int .i64 2162078206, .int .i64 2614888103, .int .i64 3248222580, .int .i64 3835390401, .int .i64 4022224774, .int .i64 264347078, .int .i64 604807628, .int .i64 770255983, .int .i64 1249150122, .int .i64 1555081692, .int .i64 1996064986, .int .i64 2554220882, .int .i64 2821834349, .int .i64 2952996808, .int .i64 3210313671, .int .i64 3336571891, .int .i64 3584528711, .int .i64 113926993, .int .i64 338241895, .int .i64 666307205, .int .i64 773529912, .int .i64 1294757372, .int .i64 1396182291, .int .i64 1695183700, .int .i64 1986661051, .int .i64 2177026350, .int .i64 2456956037, .int .i64 2730485921, .int .i64 2820302411, .int .i64 3259730800, .int .i64 3345764771, .int .i64 3516065817, .int .i64 3600352804, .int .i64 4094571909, .int .i64 275423344, .int .i64 430227734, .int .i64 506948616, .int .i64 659060556, .int .i64 883997877, .int .i64 958139571, .int .i64 1322822218, .int .i64 1537002063, .int .i64 1747873779, .int .i64 1955562222, .int .i64 2024104815, .int .i64 2227730452, .int .i64 2361852424, .int .i64 2428436474, .int .i64 2756734187, .int .i64 3204031479, .int .i64 3329325298] : Array Value) = (valsL 64 (ints kc)).toArray := by kernel_rfl
theorem first_lit : (#[.int .i64 1779033703, .int .i64 3144134277, .int .i64 1013904242, .int .i64 2773480762, .int .i64 1359893119, .int .i64 2600822924, .int .i64 528734635, .int .i64 1541459225] : Array Value) = (valsL 8 (ints (at8 st0))).toArray := rfl
set_option maxRecDepth 100000 in
theorem words_any (w : World) : Calls Tryd.prog 50 #[] w fun e w' => e = .returned (.slice (some ⟨w.heap.size, 0, none⟩) 64 64) ∧ ArrV w' w.heap.size 0 64 (ints kc) ∧ Below w.heap.size w w' := by
  go_enter Tryd.func50, Tryd.ntmps50
  go_wp2_with fail
  go_ret
  exact ⟨rfl, arrV_new words_lit rfl, (Below.refl _ _).alloc (Nat.le_refl _) _⟩
set_option maxRecDepth 100000 in
theorem first_any (w : World) : Calls Tryd.prog 51 #[] w fun e w' => e = .returned (.slice (some ⟨w.heap.size, 0, none⟩) 8 8) ∧ ArrV w' w.heap.size 0 8 (ints (at8 st0)) ∧ Below w.heap.size w w' := by
  go_enter Tryd.func51, Tryd.ntmps51
  go_wp2_with fail
  go_ret
  exact ⟨rfl, arrV_new first_lit rfl, (Below.refl _ _).alloc (Nat.le_refl _) _⟩
end Go.Proofs.YtengejmkpkacgaaDoor
/- The reference: rows of ints that grow; the words of a block. -/
namespace Go.Proofs.YtengejmkpkacgaaDoor
open Go.RowKit
theorem infoI : (Tryd.prog.info? 3).map (fun i => (i.zero, i.size, i.bytes)) = some (some (.int .i64 0), 1, 8) := by kernel_rfl
/-- a row of ints that grows by append -/
def OwnI (w : World) (base : Nat) (v : Value) (n : Nat) (f : Nat → Nat) : Prop := w.ownsRow base 3 1 v n (valsL n (ints f))
namespace OwnI
variable {w w' : World} {base n : Nat} {v : Value} {f f' : Nat → Nat}
theorem nil (w : World) (base : Nat) (f : Nat → Nat) : OwnI w base (.slice none 0 0) 0 f := World.ownsRow_nil w base _ 1
theorem alloc (h : OwnI w base v n f) (o : Obj) : OwnI (w.alloc o) base v n f := World.ownsRow.alloc h o
theorem drewN (h : OwnI w base v n f) (k : Nat) : OwnI (w.drewN k) base v n f := h
theorem drew (h : OwnI w base v n f) : OwnI w.drew base v n f := h
theorem congr (h : OwnI w base v n f) (e : ∀ j, j < n → f j = f' j) : OwnI w base v n f' := by
  have : valsL n (ints f) = valsL n (ints f') := valsL_congr fun j hj => by show Value.int _ _ = Value.int _ _; rw [e j hj]
  unfold OwnI at *; rw [← this]; exact h
theorem keep (h : OwnI w base v n f) (hb : Below w.heap.size w w') : OwnI w' base v n f := by
  rcases h with ⟨h1, h2 | ⟨g, cap, cur, e, hg, hh, r⟩⟩
  · exact ⟨h1, Or.inl h2⟩
  · exact ⟨h1, Or.inr ⟨g, cap, cur, e, hg, (hb.block g (Array.getElem?_eq_some_iff.1 hh).1).trans hh, r⟩⟩
theorem slice (h : OwnI w base v n f) : ∃ A c, v = .slice A n c ∧ n ≤ c ∧ c ≤ maxLen ∧ (0 < n → ∃ g, A = some ⟨g, 0, none⟩ ∧ base ≤ g ∧ ArrV w g 0 n (ints f)) ∧ (A = none → n = 0 ∧ c = 0) := by
  rcases h.2 with ⟨rfl, hn⟩ | ⟨g, cap, cur, rfl, hg, hh, h1, h2, h3, h4⟩
  · subst hn; exact ⟨none, 0, rfl, Nat.le_refl _, by unfold maxLen; omega, fun h => absurd h (Nat.lt_irrefl _), fun _ => ⟨rfl, rfl⟩⟩
  · refine ⟨_, cap, rfl, h1, h2, fun _ => ⟨g, rfl, hg, fun j hj => ?_⟩, fun h => by cases h⟩
    have e := congrArg (fun l => l[j]?) h4
    simp only [Nat.mul_one, List.getElem?_take, if_pos hj] at e
    rw [valsL_at hj] at e
    have e' : cur[j]? = some (ints f j) := by simpa using e
    rw [Nat.zero_add]
    exact ⟨by simp [World.cell?, hh, e'], by simp [World.frozen?, hh]⟩
end OwnI
theorem ints_snoc (n : Nat) (f : Nat → Nat) (x : Nat) (hx : x = f n) : valsL n (ints f) ++ [.int .i64 (x : Nat)] = valsL (n + 1) (ints f) := by
  subst hx
  unfold valsL; rw [List.range_succ, List.map_append]; rfl
/-- append of one int, as one step of a region that draws its order -/
theorem step_app1I {ops : Array Oper} {o : Oper} {a : Act} {w : World} {K : Act → World → Prop} {Q : Exit → Act → World → Prop} {E : Prop} (hgd : o.guard = none) (s x : Operand)
    (ho : o.op = .call { callee := .builtin .append, args := #[s, x], argTypes := #[40, 40] })
    (base : Nat) (v : Value) (n : Nat) (f : Nat → Nat) (hs : a.eval s = v) (hown : OwnI w base v n f)
    (g y : Nat) (hx : a.eval x = .slice (some ⟨g, 0, none⟩) 1 1) (hc : w.cell? ⟨g, 0, none⟩ = some (.int .i64 (y : Nat))) (hn : n ≤ 1000000000000) (hbase : base ≤ w.heap.size) (hy : y = f n)
    (h : ∀ v' w', OwnI w' base v' (n + 1) f → Below base w w' → K (a.put o.dst v') w') :
    if Region.wanted o (yielded ops a.tmps) = true then Oper.wp Tryd.prog o a w K Q else E := by
  have hw : Region.wanted o (yielded ops a.tmps) = true := by simp [Region.wanted, hgd]
  rw [if_pos hw]
  obtain ⟨i, hi, hz, hsz, hb⟩ := info_parts infoI
  refine wp_append_own w s x 40 ho base 3 i (.int .i64 0) 1 8 Tryd.underlying40 hi hz hsz hb rfl (by decide) v n _ hs hown ⟨g, 0, none⟩ 1 1 [.int .i64 (y : Nat)] hx rfl ?_ ?_ (by unfold maxLen; omega) (by omega) hbase ?_
  · intro j u hj
    match j, hj with
    | 0, hj => simp at hj; subst hj; exact hc
  · intro u hu; simp at hu; subst hu; rfl
  · intro v' w' h1 h2 _
    rw [ints_snoc n f y hy] at h1
    exact h v' w' h1 ((Below.refl base w).grown h2 hbase fun k hk => (hown.lt k hk).1)
theorem wn_stable (b : Nat → Nat) (n : Nat) : ∀ d j, j < 16 + n → wn b (n + d) j = wn b n j
  | 0, _, _ => rfl
  | d + 1, j, hj => by
    show wn b ((n + d) + 1) j = _
    rw [wn, if_neg (by omega)]
    exact wn_stable b n d j hj
theorem wn_first (b : Nat → Nat) (j : Nat) (hj : j < 16) : wn b 48 j = be b (4 * j) := by
  rw [show (48 : Nat) = 0 + 48 from rfl, wn_stable b 0 48 j (by omega), wn, if_pos hj]
theorem wn_next (b : Nat → Nat) (t : Nat) (h1 : 16 ≤ t) (h2 : t < 64) : wn b 48 t = (wn b 48 (t - 16) + ls0 (wn b 48 (t - 15)) + wn b 48 (t - 7) + ls1 (wn b 48 (t - 2))) % 4294967296 := by
  obtain ⟨n, rfl⟩ : ∃ n, t = 16 + n := ⟨t - 16, by omega⟩
  have e1 : wn b 48 (16 + n) = wn b (n + 1) (16 + n) := by
    rw [show (48 : Nat) = (n + 1) + (47 - n) by omega]; exact wn_stable b (n + 1) (47 - n) _ (by omega)
  have e2 : ∀ j, j < 16 + n → wn b 48 j = wn b n j := fun j hj => by
    conv => lhs; rw [show (48 : Nat) = n + (48 - n) by omega]
    exact wn_stable b n (48 - n) j hj
  rw [e1, wn, if_pos rfl, e2 (16 + n - 16) (by omega), e2 (16 + n - 15) (by omega), e2 (16 + n - 7) (by omega), e2 (16 + n - 2) (by omega),
    show 16 + n - 16 = n by omega, show 16 + n - 15 = n + 1 by omega, show 16 + n - 7 = n + 9 by omega, show 16 + n - 2 = n + 14 by omega]
end Go.Proofs.YtengejmkpkacgaaDoor
/- More operations: for regions that draw their order. -/
namespace Go.Proofs.YtengejmkpkacgaaDoor
open Go.RowKit
namespace ord
section
variable {P : Program} {ops : Array Oper} {o : Oper} {a : Act} {w : World} {N : Value → World → Prop}
theorem makes_indexAddr {t : TypeId} {x i : Operand} {vx vi u : Value} (ho : o.op = .indexAddr t x i) (hx : a.eval x = vx) (hi : a.eval i = vi) (hrun : (Instr.indexAt t vx vi).run P w = .ok u w) (hN : N u w) : makes P o a w N := by
  unfold makes
  have : (execOp a.eval o).run P w = .ok (.value u) w := by
    simp only [execOp, ho, hx, hi, Sem.run_bind]
    rw [hrun]; rfl
  rw [this]; exact hN
theorem makes_load {t : TypeId} {x : Operand} {vx u : Value} (ho : o.op = .load t x) (hx : a.eval x = vx) (hrun : (Instr.loadAt t vx).run P w = .ok u w) (hN : N u w) : makes P o a w N := by
  unfold makes
  have : (execOp a.eval o).run P w = .ok (.value u) w := by
    simp only [execOp, ho, hx, Sem.run_bind]
    rw [hrun]; rfl
  rw [this]; exact hN
end
end ord
theorem run_idx8 (B o n c q : Nat) (hq : q < n) (w : World) : (Instr.indexAt 22 (.slice (some ⟨B, o, none⟩) n c) (.int .i64 (q : Nat))).run Tryd.prog w = .ok (.pointer (some ⟨B, o + q, none⟩)) w := by
  have hq2 : (q : Int) < n := by omega
  go_simp
theorem run_load8 (p : Addr) (x : Nat) (w : World) (h : w.cell? p = some (.int .u8 (x : Nat))) : (Instr.loadAt 5 (.pointer (some p))).run Tryd.prog w = .ok (.int .u8 (x : Nat)) w := by
  go_simp
theorem run_conv8 (x : Nat) (hx : x < 256) (w : World) : (convert 5 3 (.int .u8 (x : Nat))).run Tryd.prog w = .ok (.int .i64 (x : Nat)) w := by
  have h2 : IntKind.i64.wrap (x : Int) = (x : Nat) := IntWalk.i64_in _ (by omega)
  go_simp
end Go.Proofs.YtengejmkpkacgaaDoor
/- Runs of single operations on ints; append of one int. -/
namespace Go.Proofs.YtengejmkpkacgaaDoor
open Go.RowKit
theorem run_addI (x y : Operand) (a b : Int) (c : Nat) (h : a + b = (c : Nat)) (hc : c < 9223372036854775808) (w : World) :
    (do eqGuard .add 3 x y (.int .i64 a) (.int .i64 b); binOp .add 3 (.int .i64 a) (.int .i64 b) : Sem Value).run Tryd.prog w = .ok (.int .i64 (c : Nat)) w := by
  have h2 : IntKind.i64.wrap (c : Int) = (c : Nat) := IntWalk.i64_in _ (by omega)
  go_simp
theorem run_mulI (x y : Operand) (a b : Int) (c : Nat) (h : a * b = (c : Nat)) (hc : c < 9223372036854775808) (w : World) :
    (do eqGuard .mul 3 x y (.int .i64 a) (.int .i64 b); binOp .mul 3 (.int .i64 a) (.int .i64 b) : Sem Value).run Tryd.prog w = .ok (.int .i64 (c : Nat)) w := by
  have h2 : IntKind.i64.wrap (c : Int) = (c : Nat) := IntWalk.i64_in _ (by omega)
  go_simp
theorem run_subI (x y : Operand) (a b : Int) (c : Nat) (h : a - b = (c : Nat)) (hc : c < 9223372036854775808) (w : World) :
    (do eqGuard .sub 3 x y (.int .i64 a) (.int .i64 b); binOp .sub 3 (.int .i64 a) (.int .i64 b) : Sem Value).run Tryd.prog w = .ok (.int .i64 (c : Nat)) w := by
  have h2 : IntKind.i64.wrap (c : Int) = (c : Nat) := IntWalk.i64_in _ (by omega)
  go_simp
theorem run_remI (x y : Operand) (a b c : Nat) (h : a % b = c) (hb : 0 < b) (ha : a < 9223372036854775808) (w : World) :
    (do eqGuard .rem 3 x y (.int .i64 (a : Nat)) (.int .i64 (b : Nat)); binOp .rem 3 (.int .i64 (a : Nat)) (.int .i64 (b : Nat)) : Sem Value).run Tryd.prog w = .ok (.int .i64 (c : Nat)) w := by
  have h3 : ¬ b = 0 := by omega
  have h4 : ((a : Int).tmod b) = (c : Nat) := by rw [Int.tmod_eq_emod_of_nonneg (by omega)]; omega
  have h2 : IntKind.i64.wrap (c : Int) = (c : Nat) := IntWalk.i64_in _ (by have := Nat.mod_le a b; omega)
  go_simp
theorem run_quoI (x y : Operand) (a b c : Nat) (h : a / b = c) (hb : 0 < b) (ha : a < 9223372036854775808) (w : World) :
    (do eqGuard .quo 3 x y (.int .i64 (a : Nat)) (.int .i64 (b : Nat)); binOp .quo 3 (.int .i64 (a : Nat)) (.int .i64 (b : Nat)) : Sem Value).run Tryd.prog w = .ok (.int .i64 (c : Nat)) w := by
  have h3 : ¬ b = 0 := by omega
  have h4 : ((a : Int).tdiv b) = (c : Nat) := by rw [Int.tdiv_eq_ediv_of_nonneg (by omega), ← h]; simp
  have h2 : IntKind.i64.wrap (c : Int) = (c : Nat) := IntWalk.i64_in _ (by have := Nat.div_le_self a b; omega)
  go_simp
theorem run_int1 (w : World) (z : Nat) : (Instr.buildSlice 40 1 #[(0, .int .i64 (z : Nat))]).run Tryd.prog w = .ok (.slice (some ⟨w.heap.size, 0, none⟩) 1 1) (w.alloc (.cells #[.int .i64 (z : Nat)] 3)) := by go_simp
/-- append of one int -/
theorem wpList_app1I {ops : Array Oper} {rest : List Oper} {o : Oper} {a : Act} {Q : Exit → Act → World → Prop} {w : World} (hgd : o.guard = none) (s x : Operand)
    (ho : o.op = .call { callee := .builtin .append, args := #[s, x], argTypes := #[40, 40] })
    (base : Nat) (v : Value) (n : Nat) (f : Nat → Nat) (hs : a.eval s = v) (hown : OwnI w base v n f)
    (g y : Nat) (hx : a.eval x = .slice (some ⟨g, 0, none⟩) 1 1) (hc : w.cell? ⟨g, 0, none⟩ = some (.int .i64 (y : Nat))) (hn : n ≤ 1000000000000) (hbase : base ≤ w.heap.size) (hy : y = f n)
    (h : ∀ v' w', OwnI w' base v' (n + 1) f → Below base w w' → wpList Tryd.prog ops Q rest (a.put o.dst v') w') : wpList Tryd.prog ops Q (o :: rest) a w := by
  obtain ⟨i, hi, hz, hsz, hb⟩ := info_parts infoI
  refine wpList_append_own w hgd s x 40 ho base 3 i (.int .i64 0) 1 8 Tryd.underlying40 hi hz hsz hb rfl (by decide) v n _ hs hown ⟨g, 0, none⟩ 1 1 [.int .i64 (y : Nat)] hx rfl ?_ ?_ (by unfold maxLen; omega) (by omega) hbase ?_
  · intro j u hj
    match j, hj with
    | 0, hj => simp at hj; subst hj; exact hc
  · intro u hu; simp at hu; subst hu; rfl
  · intro v' w' h1 h2 _
    rw [ints_snoc n f y hy] at h1
    exact h v' w' h1 ((Below.refl base w).grown h2 hbase fun k hk => (hown.lt k hk).1)
end Go.Proofs.YtengejmkpkacgaaDoor
