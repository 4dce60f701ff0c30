/- 16 texts in one, in their order. -/
import Derived.Test.YthmlcmlpmolmoaaGreatDoorPk3
import Derived.Lib.BitFns
import Derived.Shelf.Strings.Search2
import Derived.Shelf.Strings.Repeat
import Derived.Shelf.Strconv.Itoa3
import Derived.Lib.SmallJoins
import Derived.Lib.QuietBelow
import Derived.Lib.ItoaLen
/- Contracts of package ffx: a chain of blocks. -/
namespace Go.Proofs.YthmlcmlpmolmoaaGreatDoor
set_option maxRecDepth 100000
open Go.RowKit Go.Shelf

attribute [local go_sem] Oper.semAt_some

/-- what is behind the blocks of a list -/
def xchL (E : (Nat → Nat) → Nat → Nat) (p : Nat → Nat) (l : List Nat) : Nat → Nat := l.foldl (fun s x => E fun j => s j ^^^ p (16 * x + j)) fun _ => 0
theorem xchL_snoc (E : (Nat → Nat) → Nat → Nat) (p : Nat → Nat) (l : List Nat) (x : Nat) : xchL E p (l ++ [x]) = E fun j => xchL E p l j ^^^ p (16 * x + j) := by
  unfold xchL; rw [List.foldl_append]; rfl
theorem xchL_range (E : (Nat → Nat) → Nat → Nat) (p : Nat → Nat) : ∀ m, xchL E p (List.range m) = xch E p m
  | 0 => rfl
  | m + 1 => by rw [List.range_succ, xchL_snoc, xchL_range E p m]; rfl

theorem cells_block {w w' : World} {row : Option Nat} {b o L : Nat} {v : Value} (h : w.cell? ⟨b, o, none⟩ = some v) (hg : w.grownBy w' row) (hr : ∀ r, row = some r → L ≤ r ∧ ∃ ob : Obj, w.heap[r]? = some ob ∧ ob.isCells = false) : w'.heap[b]? = w.heap[b]? :=
  hg.block b (block_lt h) fun e => by
    obtain ⟨_, ob, h1, h2⟩ := hr b e.symm
    unfold World.cell? at h
    simp only [h1] at h
    cases ob <;> simp_all [Obj.isCells]

theorem cells_only {w : World} {b o : Nat} {v : Value} {ob : Obj} (h : w.cell? ⟨b, o, none⟩ = some v) (h1 : w.heap[b]? = some ob) (h2 : ob.isCells = false) : False := by
  unfold World.cell? at h
  simp only [h1] at h
  cases ob <;> simp_all [Obj.isCells]

/-- between two rounds of a chain: its blocks -/
structure ChI (w : World) (g n : Nat) (key p : Nat → Nat) (B o m : Nat) (S : Nat → Nat) (st : Nat) (W : World) : Prop where
  box : W.cell? ⟨w.heap.size + 2, 0, none⟩ = some (.slice (some ⟨st, 0, none⟩) 16 16)
  fz : W.frozen? ⟨w.heap.size + 2, 0, none⟩ = false
  row : Arr W st 0 16 S
  stn : st = w.heap.size + 1 ∨ w.heap.size + 5 ≤ st
  inp : SlB W (some ⟨B, o, none⟩) (16 * m) p
  key : KeyAt W g n key
  self : W.cell? ⟨w.heap.size, 0, none⟩ = some (.pointer (some ⟨g, 0, none⟩))
  chg : Chg g w W
  sz : w.heap.size + 5 ≤ W.heap.size
  byt : By 16 S
theorem ChI.grown {w W W' : World} {g n : Nat} {key p : Nat → Nat} {B o m : Nat} {S : Nat → Nat} {st : Nat} {row : Option Nat} (h : ChI w g n key p B o m S st W) (hm : 0 < m) (hg : W.grownBy W' row) (hr : ∀ r, row = some r → w.heap.size + 5 ≤ r ∧ ∃ ob : Obj, W.heap[r]? = some ob ∧ ob.isCells = false) :
    ChI w g n key p B o m S st W' := by
  obtain ⟨B', o', e', hB, hj⟩ := h.inp (by omega)
  cases e'
  have eB := cells_block (hj 0 (by omega)).2 hg hr
  refine ⟨(World.cell?_of_block (a := ⟨_, 0, none⟩) (cells_block h.box hg hr)).trans h.box, (World.frozen?_of_block (a := ⟨_, 0, none⟩) (cells_block h.box hg hr)).trans h.fz, h.row.of_block (cells_block (h.row 0 (by decide)).1 hg hr), h.stn,
    fun _ => ⟨B, o, rfl, Nat.lt_of_lt_of_le hB hg.size, fun j hj' => ⟨(hj j hj').1, (World.cell?_of_block (a := ⟨B, o + j, none⟩) eB).trans (hj j hj').2⟩⟩,
    h.key.of_block (cells_block h.key.words hg hr), (World.cell?_of_block (a := ⟨_, 0, none⟩) (cells_block h.self hg hr)).trans h.self,
    ⟨hg.os.trans h.chg.os, hg.tape.trans h.chg.tape, hg.output.trans h.chg.output, Nat.le_trans h.chg.size hg.size, fun k hk hn => (hg.block k (Nat.lt_of_lt_of_le hk h.chg.size) (fun e => by have := (hr k e.symm).1; omega)).trans (h.chg.block k hk hn)⟩, Nat.le_trans h.sz hg.size, h.byt⟩

theorem chi_start {w w4 : World} {g n : Nat} {key p : Nat → Nat} {B o m : Nat} (hk : KeyAt w g n key) (hA : SlB w (some ⟨B, o, none⟩) (16 * m) p)
    (hb : Below (w.heap.size + 3) (((w.alloc (.cells #[.pointer (some ⟨g, 0, none⟩)] 114)).alloc (.cells (madeCells #[.int .u8 0] 16) 5)).alloc (.cells #[.slice (some ⟨w.heap.size + 1, 0, none⟩) 16 16] 22)) w4)
    (hs : w4.heap.size = w.heap.size + 5) : ChI w g n key p B o m (fun _ => 0) (w.heap.size + 1) w4 := by
  have b1 := (Below.refl w.heap.size w).alloc (Nat.le_refl _) (.cells #[.pointer (some ⟨g, 0, none⟩)] 114)
  have e1 : (w.alloc (.cells #[.pointer (some ⟨g, 0, none⟩)] 114)).heap.size = w.heap.size + 1 := by simp
  have c1 : (w.alloc (.cells #[.pointer (some ⟨g, 0, none⟩)] 114)).cell? ⟨w.heap.size, 0, none⟩ = some (.pointer (some ⟨g, 0, none⟩)) := (World.cell?_alloc_at _ _ _ _ rfl).trans rfl
  generalize w.alloc (.cells #[.pointer (some ⟨g, 0, none⟩)] 114) = w1 at *
  have b2 := (Below.refl w1.heap.size w1).alloc (Nat.le_refl _) (.cells (madeCells #[.int .u8 0] 16) 5)
  have e2 : (w1.alloc (.cells (madeCells #[.int .u8 0] 16) 5)).heap.size = w.heap.size + 2 := by simp [e1]
  have r2 := rowB_made w1 16
  generalize w1.alloc (.cells (madeCells #[.int .u8 0] 16) 5) = w2 at *
  have b3 := (Below.refl w2.heap.size w2).alloc (Nat.le_refl _) (.cells #[.slice (some ⟨w.heap.size + 1, 0, none⟩) 16 16] 22)
  have c3 : (w2.alloc (.cells #[.slice (some ⟨w.heap.size + 1, 0, none⟩) 16 16] 22)).cell? ⟨w.heap.size + 2, 0, none⟩ = some (.slice (some ⟨w.heap.size + 1, 0, none⟩) 16 16) := (World.cell?_alloc_at _ _ _ _ e2.symm).trans rfl
  have f3 : (w2.alloc (.cells #[.slice (some ⟨w.heap.size + 1, 0, none⟩) 16 16] 22)).frozen? ⟨w.heap.size + 2, 0, none⟩ = false := by rw [← e2]; exact World.frozen?_alloc_at _ _ _ _ rfl
  generalize w2.alloc (.cells #[.slice (some ⟨w.heap.size + 1, 0, none⟩) 16 16] 22) = w3 at *
  rw [e1] at b2 r2
  rw [e2] at b3
  have bb : Below w.heap.size w w4 := ((b1.trans (b2.mono (by omega))).trans (b3.mono (by omega))).trans (hb.mono (by omega))
  have n1 : w.heap.size + 1 < w2.heap.size := by omega
  refine ⟨(hb.cell (p := ⟨w.heap.size + 2, 0, none⟩) (by show w.heap.size + 2 < _; omega)).trans c3, (World.frozen?_of_block (hb.block _ (by show w.heap.size + 2 < _; omega))).trans f3, ?_, Or.inl rfl, hA.keep bb, hk.keep bb, ?_, Chg.of_below bb, by omega, fun _ _ => by show 0 < 256; decide⟩
  · exact Arr.of_block (Arr.of_block (fun j hj => by rw [Nat.zero_add]; exact ⟨r2.cell hj, r2.frozen j⟩) (b3.block _ (by omega))) (hb.block _ (by omega))
  · exact (hb.cell (p := ⟨w.heap.size, 0, none⟩) (by show w.heap.size < _; omega)).trans ((b3.cell (p := ⟨w.heap.size, 0, none⟩) (by show w.heap.size < _; omega)).trans ((b2.cell (p := ⟨w.heap.size, 0, none⟩) (by show w.heap.size < _; omega)).trans c1))

/-- a block half added -/
def xpt (S p : Nat → Nat) (x k j : Nat) : Nat := if j < k then S j ^^^ p (16 * x + j) else S j

set_option maxHeartbeats 4000000 in
theorem chain_any (g n : Nat) (key p : Nat → Nat) (B o m cap : Nat) (w : World) (hn : n = 4 ∨ n = 8) (hkey : By (4 * n) key) (hk : KeyAt w g n key) (hm0 : 0 < m) (hm : m ≤ 100000) (hc : 16 * m ≤ cap) (hcap : cap ≤ 140737488351232)
    (hA : SlB w (some ⟨B, o, none⟩) (16 * m) p) (hBg : B ≠ g) :
    Calls Tryz.prog 110 #[.agg #[.pointer (some ⟨g, 0, none⟩)], .slice (some ⟨B, o, none⟩) (16 * m) cap] w fun e w' => ∃ st, e = .returned (.slice (some ⟨st, 0, none⟩) 16 16) ∧ w.heap.size ≤ st ∧ Arr w' st 0 16 (xch (enc n (ks n key)) p m) ∧ KeyAt w' g n key ∧ Chg g w w' := by
  refine (callsIn_wide (n := 6)).1 ?_
  have hf : Fence.wide.fn 110 := trivial
  have hro : Fence.wide.round = none := rfl
  have hmk : ∀ W : World, (Instr.makeSlice 22 (.int .i64 16) (.int .i64 16)).run Tryz.prog W = .ok (.slice (some ⟨W.heap.size, 0, none⟩) 16 16) (W.alloc (.cells (madeCells #[.int .u8 0] 16) 5)) := mk8 16 (by decide)
  refine callsIn_of_wp_marks Tryz.func110 rfl hf ?_ hro
  simp only [Tryz.ntmps110, List.size_toArray, List.length_cons, List.length_nil, Nat.reduceAdd, Nat.reduceSub, Array.replicate_succ, Array.replicate_zero, List.push_toArray, List.append_toArray, List.nil_append, List.cons_append]
  gi_wp2_with ((refine ⟨trivial, ?_⟩; gi_at_call 144; refine (callsIn_wide.2 (chunk_any _ _ _ _)).mono ?_; rintro e w4 ⟨rfl, h1, h2, h3, h4⟩))
  have hs3 : (((w.alloc (.cells #[.pointer (some ⟨g, 0, none⟩)] 114)).alloc (.cells (madeCells #[.int .u8 0] 16) 5)).alloc (.cells #[.slice (some ⟨w.heap.size + 1, 0, none⟩) 16 16] 22)).heap.size = w.heap.size + 3 := by simp
  rw [hs3] at h1 h2 h3 h4
  have HS := chi_start (p := p) (m := m) hk hA h4 h3
  refine wpIn_rangeFunc_ownG hro (by decide) (gf := 170) (lb := #[.pointer (some ⟨w.heap.size + 3, 0, none⟩), .pointer (some ⟨w.heap.size + 3 + 1, 0, none⟩)]) rfl trivial (enters_of Tryz.func170 (by kernel_rfl) rfl)
    (chunk_stops 5 (by decide) (w.heap.size + 3) (w.heap.size + 3 + 1) B o m cap hm hc hcap w4 h1 h2) (fun h k => h.trans k) (fun W l ob ob' hl _ _ _ => ⟨World.putObj_heap_other (by omega), World.putObj_heap_other (by omega)⟩) (Below.refl _ _) (fun _ => rfl)
    (fun pre W => ∃ st, ChI w g n key p B o m (xchL (enc n (ks n key)) p (pre.map (·.1))) st W) (fun _ _ _ => False)
    (fun s W W' row hs hg hr => by obtain ⟨st, h⟩ := hs; exact ⟨st, h.grown hm0 hg (fun r e => by have := hr r e; rw [h3] at this; exact this)⟩)
    (fun _ _ _ _ _ hs _ _ => hs)
    ⟨_, HS⟩
    (fun x => { tmps := #[.agg #[.pointer (some ⟨g, 0, none⟩)], .slice (some ⟨B, o, none⟩) (16 * m) cap, .pointer (some ⟨w.heap.size, 0, none⟩), undef, .slice none 0 0, .pointer (some ⟨w.heap.size + 2, 0, none⟩), .slice (some ⟨B, o + 16 * x.1, none⟩) 16 16, undef, undef, .slice (some ⟨w.heap.size + 1, 0, none⟩) 16 16, .slice (some ⟨B, o, none⟩) (16 * m) cap, .func (.func 170) #[] #[.pointer (some ⟨w.heap.size + 3, 0, none⟩), .pointer (some ⟨w.heap.size + 3 + 1, 0, none⟩)], .slice (some ⟨B, o + 16 * x.1, none⟩) 16 16, undef, undef, undef, undef, undef, undef, undef, undef, undef, undef, undef, undef, undef, undef, undef, undef, undef, undef, undef, undef, undef, undef, undef], defers := [] }) ?assign ?body ?done ?stop
  case assign =>
    intro l x W K hK
    gi_wp2
    exact hK
  case body =>
    rintro l pre x W ⟨st, hI⟩ _
    have HX := Lib.hid (show xchL (enc n (ks n key)) p ((pre ++ [x]).map (·.1)) = enc n (ks n key) fun j => xchL (enc n (ks n key)) p (pre.map (·.1)) j ^^^ p (16 * x.1 + j) from by
      rw [List.map_append, List.map_singleton, xchL_snoc])
    have hxm := x.2
    generalize xchL (enc n (ks n key)) p (pre.map (·.1)) = S at *
    generalize x.1 = xv at *
    obtain ⟨B', o', e', hB, hjs⟩ := hI.inp (by omega)
    cases e'
    obtain ⟨B', o', e', hBw, _⟩ := hA (by omega)
    cases e'
    have HI := Lib.hid hI
    have hBst : B ≠ st := by rcases HI.out.stn with h | h <;> omega
    have hgw := hk.lt
    gi_wp2
    gi_loopw [15] (fun i wr => ∃ k : Nat, k ≤ 16 ∧ i = .int .i64 k ∧ Arr wr st 0 16 (xpt S p xv k) ∧ Chg st W wr) (fun i _ => 16 - (intOf i).toNat)
    case atStart => exact ⟨0, Nat.zero_le _, rfl, hI.row, Chg.refl _ _⟩
    case round =>
      obtain ⟨k, hk16, rfl, hr, hcg⟩ := hrel
      have HC := Lib.hid hcg
      have HR := Lib.hid hr
      have hFs : w.heap.size + 2 ≠ st := by rcases HI.out.stn with h | h <;> omega
      have hbx : wr.cell? ⟨w.heap.size + 2, 0, none⟩ = _ := (hcg.cell (block_lt hI.box) hFs).trans hI.box
      by_cases hlt : k < 16
      · have hki : (k : Int) < 16 := by omega
        obtain ⟨y, hy⟩ : ∃ y, p (16 * xv + k) = y := ⟨_, rfl⟩
        obtain ⟨s, hs⟩ : ∃ s, S k = s := ⟨_, rfl⟩
        have hy8 : y < 256 := hy ▸ (hjs (16 * xv + k) (by omega)).1
        have hs8 : s < 256 := hs ▸ hI.byt k hlt
        have c1 : wr.cell? ⟨B, o + 16 * xv + k, none⟩ = some (.int .u8 (y : Nat)) := by
          rw [← hy, Nat.add_assoc]
          exact (hcg.cell hB hBst).trans (hjs (16 * xv + k) (by omega)).2
        have c2 : wr.cell? ⟨st, k, none⟩ = some (.int .u8 (s : Nat)) := by
          rw [hr.cell hlt (Nat.zero_add k).symm]; unfold xpt; rw [if_neg (Nat.lt_irrefl k), hs]
        have f2 := hr.frozen hlt (Nat.zero_add k).symm
        have b1 : bits BinOp.xor .u8 (s : Int) (y : Int) = ((s ^^^ y : Nat) : Int) := u8_xor_nat s y hs8 hy8
        have HN := Lib.hid ((hr.set hlt (Nat.zero_add k).symm (s ^^^ y) (v := .int .u8 ((s ^^^ y : Nat) : Int)) rfl).congr (f := xpt S p xv (k + 1)) fun j _ => by
          unfold xpt
          by_cases e : j = k
          · subst e; rw [if_pos rfl, if_pos (Nat.lt_succ_self _), hs, hy]
          · rw [if_neg e]
            by_cases h : j < k
            · rw [if_pos h, if_pos (by omega)]
            · rw [if_neg h, if_neg (by omega)])
        clear hy hs hr hcg
        gi_wp2
        go_roundw
        case rel => exact ⟨k + 1, by omega, by go_num, HN.out, HC.out.setCell (a := ⟨st, k, none⟩) (Or.inl rfl) _⟩
        case measure => simp [intOf]; omega
      · obtain rfl : k = 16 := by omega
        have hgst : g ≠ st := by rcases HI.out.stn with h | h <;> omega
        have hself : wr.cell? ⟨w.heap.size, 0, none⟩ = _ := (hcg.cell (g := w.heap.size) (block_lt hI.self) (by rcases HI.out.stn with h | h <;> omega)).trans hI.self
        have HBY := Lib.hid (show By 16 (fun j => S j ^^^ p (16 * xv + j)) from fun j hj => xor_lt8 (hI.byt j hj) (hjs (16 * xv + j) (by omega)).1)
        have HT := Lib.hid (hr.congr (f := fun j => S j ^^^ p (16 * xv + j)) fun j hj => by unfold xpt; rw [if_pos hj])
        have HKY := Lib.hid (hI.key.chg hcg hgst)
        clear hr
        gi_wp2_with ((refine ⟨trivial, ?_⟩; gi_at_call 145; refine (CallsIn.inRound l (callsIn_wide.2 (enc_any g n key _ (some ⟨st, 0, none⟩) 16 wr hn hkey HKY.out (HT.out.slB HBY.out) (fun B o e => by cases e; exact fun h => hgst h.symm)))).mono ?_; rintro e w5 ⟨st2, ⟨rfl, q1, q2, q3, q4⟩⟩; have hbx5 : w5.cell? ⟨w.heap.size + 2, 0, none⟩ = some (.slice (some ⟨st, 0, none⟩) 16 16) := (q4.cell (g := w.heap.size + 2) (block_lt hbx) (by omega)).trans hbx; have hfz5 : w5.frozen? ⟨w.heap.size + 2, 0, none⟩ = false := ((q4.frozen (g := w.heap.size + 2) (block_lt hbx) (by omega)).trans (hcg.frozen (block_lt hI.box) hFs)).trans hI.fz))
        have CS : ChgS (fun k => k = st ∨ k = g ∨ k = w.heap.size + 2) W (w5.setCell ⟨w.heap.size + 2, 0, none⟩ (.slice (some ⟨st2, 0, none⟩) 16 16)) := ((ChgS.of_chg hcg (Or.inl rfl)).trans (ChgS.of_chg q4 (Or.inr (Or.inl rfl)))).setCell (a := ⟨w.heap.size + 2, 0, none⟩) (Or.inr (Or.inr rfl)) _
        have hsz := hI.sz
        have hs5 : w.heap.size + 5 ≤ st2 := Nat.le_trans hsz (Nat.le_trans hcg.size q1)
        have CG : Chg g w (w5.setCell ⟨w.heap.size + 2, 0, none⟩ (.slice (some ⟨st2, 0, none⟩) 16 16)) := ((hI.chg.thenNew hcg (by rcases hI.stn with h | h <;> omega)).trans q4).setCell (a := ⟨w.heap.size + 2, 0, none⟩) (Or.inr (by show _ ≤ w.heap.size + 2; omega)) _
        refine ⟨⟨CS.size, fun k ob _ hk2 ho => (CS.block k (Array.getElem?_eq_some_iff.1 hk2).1 ?_).trans hk2⟩, ⟨CS.block _ (by omega) ?_, CS.block _ (by omega) ?_⟩, st2, ?_⟩
        · rintro (rfl | rfl | rfl)
          · exact cells_only (hI.row 0 (by decide)).1 hk2 ho
          · exact cells_only hI.key.words hk2 ho
          · exact cells_only hI.box hk2 ho
        · rintro (h | h | h)
          · rcases hI.stn with h' | h' <;> omega
          · omega
          · omega
        · rintro (h | h | h)
          · rcases hI.stn with h' | h' <;> omega
          · omega
          · omega
        · rw [HX.out]
          have hn2 : w.heap.size + 2 ≠ st2 := by omega
          refine ⟨World.cell?_setCell_same _ _ _ hbx5, by rw [World.frozen?_setCell]; exact hfz5, q2.setOther (a := ⟨w.heap.size + 2, 0, none⟩) (fun h => hn2 h.symm) _, Or.inr hs5, ?_, ?_, ?_, CG, by rw [size_setCell]; exact Nat.le_trans hsz (Nat.le_trans hcg.size q4.size), enc_by (fun j _ => ks_by (by omega) hkey j) HBY.out⟩
          · exact fun _ => ⟨B, o, rfl, Nat.lt_of_lt_of_le hB CS.size, fun j hj => ⟨(hjs j hj).1, (CS.cell (g := B) hB (by rintro (h | h | h) <;> omega)).trans (hjs j hj).2⟩⟩
          · exact KeyAt.of_block (Or.inr q3) (Below.heap_setCell w5 ⟨w.heap.size + 2, 0, none⟩ _ g (by show g ≠ w.heap.size + 2; omega))
          · exact (CS.cell (g := w.heap.size) (block_lt hI.self) (by rintro (h | h | h) <;> first | omega | (rcases hI.stn with h' | h' <;> omega))).trans hI.self
  case done =>
    rintro D ys W hD hys ⟨st, hI⟩ hK
    rw [hys, xchL_range] at hI
    have hbx := hI.box
    gi_wp2
    refine ⟨by simp, .inl ⟨_, _, rfl, run_takeDeferred hK, ?_⟩⟩
    have hI2 := hI.grown hm0 (grownBy_putObj' W D (.deferred none)) (fun r e => by cases e; exact ⟨by rw [h3] at hD; exact hD, _, hK, rfl⟩)
    exact ⟨_, results_tmp rfl _ _ _, st, rfl, by rcases hI2.stn with h | h <;> omega, hI2.row, hI2.key, hI2.chg⟩
  case stop =>
    rintro D c pre W _ _ h _
    exact h.elim
end Go.Proofs.YthmlcmlpmolmoaaGreatDoor
/- math/bits: Len64, Len: the bits of a number. -/
namespace Go.Proofs.YthmlcmlpmolmoaaGreatDoor
open Go.RowKit

theorem len8_bits (y : Nat) (h : y < Lib.len8tab.size) : ((Lib.len8tab[y]'h).toNat : Int) = (Lib.bitLen y : Nat) ∧ Lib.bitLen y ≤ 8 := by
  have hy : y < 256 := Nat.lt_of_lt_of_eq h Lib.len8tab_size
  have e := Lib.len8_eq ⟨y, hy⟩
  refine ⟨?_, Lib.bitLen_le8 ⟨y, hy⟩⟩
  rw [← e]
  unfold Lib.len8
  simp only [Int.toNat_natCast]
  rw [getElem?_pos Lib.len8tab y h]
  rfl
/-- the last step of each way -/
theorem len_fin {k : Nat} {x y : Int} (h : y.toNat < Lib.len8tab.size) (hk : k ≤ 56) (hy : y.toNat = x.toNat / 2 ^ k) (hx : x.toNat < 2 ^ 64) (hlo : 2 ^ k ≤ x.toNat) :
    wrap64 ((k : Int) + wrap64 ((Lib.len8tab[y.toNat]'h).toNat : Int)) = (Lib.bitLen x.toNat : Nat) := by
  obtain ⟨e, l⟩ := len8_bits _ h
  rw [e, Lib.bitLen_shift k x.toNat hlo hx, ← hy]
  unfold wrap64
  omega
theorem len_fin0 {x : Int} (h : x.toNat < Lib.len8tab.size) : wrap64 (wrap64 ((Lib.len8tab[x.toNat]'h).toNat : Int)) = (Lib.bitLen x.toNat : Nat) := by
  obtain ⟨e, l⟩ := len8_bits _ h
  rw [e]
  unfold wrap64
  omega
theorem div_nat {x y a : Int} {c d : Nat} (h : y.toNat = x.toNat / c) (h0 : 0 ≤ y) (ha : a = (d : Int)) : (y / a).toNat = x.toNat / (c * d) := by
  subst ha
  obtain ⟨y, rfl⟩ := Int.eq_ofNat_of_zero_le h0
  rw [← Nat.div_div_eq_div_mul, ← h]
  rfl
theorem low_of {x y : Int} {c d : Nat} (h : y.toNat = x.toNat / d) (hd : 0 < d) (hc : (c : Int) ≤ y) : c * d ≤ x.toNat :=
  (Nat.le_div_iff_mul_le hd).1 (by omega)

set_option maxRecDepth 100000 in
set_option maxHeartbeats 4000000 in
theorem len64_any (x : Int) (w : World) (h0 : 0 ≤ x) (hx : x ≤ 9223372036854775807) :
    Calls Tryz.prog 169 #[.int .u64 x] w fun e w' => e = .returned (.int .i64 (Lib.bitLen x.toNat : Nat)) ∧ w = w' := by
  have hX : x.toNat < 2 ^ 64 := by omega
  have hz := Lib.len8tab_size
  go_enter Tryz.func169, Tryz.ntmps169
  go_wp2_with fail
  all_goals
    go_ret
    refine ⟨ret_int ?_, rfl⟩
    first
      | exact len_fin (k := 56) _ (by decide) (div_nat (c := 1 * 4294967296 * 65536) (d := 256) (div_nat (c := 1 * 4294967296) (d := 65536) (div_nat (c := 1) (d := 4294967296) (Nat.div_one _).symm h0 rfl) (Int.ediv_nonneg h0 (by decide)) rfl) (Int.ediv_nonneg (Int.ediv_nonneg h0 (by decide)) (by decide)) rfl) hX (low_of (c := 256) (d := 1 * 4294967296 * 65536) (div_nat (c := 1 * 4294967296) (d := 65536) (div_nat (c := 1) (d := 4294967296) (Nat.div_one _).symm h0 rfl) (Int.ediv_nonneg h0 (by decide)) rfl) (by decide) (by assumption))
      | exact len_fin (k := 48) _ (by decide) (div_nat (c := 1 * 4294967296) (d := 65536) (div_nat (c := 1) (d := 4294967296) (Nat.div_one _).symm h0 rfl) (Int.ediv_nonneg h0 (by decide)) rfl) hX (low_of (c := 65536) (d := 1 * 4294967296) (div_nat (c := 1) (d := 4294967296) (Nat.div_one _).symm h0 rfl) (by decide) (by assumption))
      | exact len_fin (k := 40) _ (by decide) (div_nat (c := 1 * 4294967296) (d := 256) (div_nat (c := 1) (d := 4294967296) (Nat.div_one _).symm h0 rfl) (Int.ediv_nonneg h0 (by decide)) rfl) hX (low_of (c := 256) (d := 1 * 4294967296) (div_nat (c := 1) (d := 4294967296) (Nat.div_one _).symm h0 rfl) (by decide) (by assumption))
      | exact len_fin (k := 32) _ (by decide) (div_nat (c := 1) (d := 4294967296) (Nat.div_one _).symm h0 rfl) hX (low_of (c := 4294967296) (d := 1) (Nat.div_one _).symm (by decide) (by assumption))
      | exact len_fin (k := 24) _ (by decide) (div_nat (c := 1 * 65536) (d := 256) (div_nat (c := 1) (d := 65536) (Nat.div_one _).symm h0 rfl) (Int.ediv_nonneg h0 (by decide)) rfl) hX (low_of (c := 256) (d := 1 * 65536) (div_nat (c := 1) (d := 65536) (Nat.div_one _).symm h0 rfl) (by decide) (by assumption))
      | exact len_fin (k := 16) _ (by decide) (div_nat (c := 1) (d := 65536) (Nat.div_one _).symm h0 rfl) hX (low_of (c := 65536) (d := 1) (Nat.div_one _).symm (by decide) (by assumption))
      | exact len_fin (k := 8) _ (by decide) (div_nat (c := 1) (d := 256) (Nat.div_one _).symm h0 rfl) hX (low_of (c := 256) (d := 1) (Nat.div_one _).symm (by decide) (by assumption))
      | exact len_fin0 _
end Go.Proofs.YthmlcmlpmolmoaaGreatDoor
/- Contracts of package radix: Power, Width. -/
namespace Go.Proofs.YthmlcmlpmolmoaaGreatDoor
open Go.RowKit

/-- the table of powers in memory -/
def Pws (w : World) : Prop := ∀ i, i < 16 → w.cell? ⟨2, i, none⟩ = some (.int .i64 ((10 ^ (i + 1) : Nat) : Int))
namespace Pws
variable {w w' : World}
theorem lt (h : Pws w) : 2 < w.heap.size := block_lt (h 0 (by omega))
theorem keep (h : Pws w) (hb : Below w.heap.size w w') : Pws w' := fun i hi => (hb.cell (p := ⟨_, i, none⟩) h.lt).trans (h i hi)
theorem drewN (h : Pws w) (n : Nat) : Pws (w.drewN n) := h
theorem alloc (h : Pws w) (o : Obj) : Pws (w.alloc o) := h.keep ((Below.refl _ _).alloc (Nat.le_refl _) o)
end Pws

theorem xpower_any (m : Int) (w : World) (hp : Pws w) :
    Calls Tryz.prog 142 #[.int .i64 m] w fun e w' => e = .returned (.int .i64 (pw m : Nat)) ∧ w = w' := by
  by_cases h1 : m < 1
  · have HZ := Lib.hid (pw_none (Or.inl h1))
    clear hp
    go_enter Tryz.func142, Tryz.ntmps142
    go_wp2_with fail
    go_ret
    exact ⟨by rw [HZ.out]; rfl, rfl⟩
  · by_cases h2 : 16 < m
    · have HZ := Lib.hid (pw_none (Or.inr h2))
      clear hp
      go_enter Tryz.func142, Tryz.ntmps142
      go_wp2_with fail
      go_ret
      exact ⟨by rw [HZ.out]; rfl, rfl⟩
    · obtain ⟨j, rfl⟩ : ∃ j : Nat, m = (j : Int) + 1 := ⟨(m - 1).toNat, by omega⟩
      have hc := hp j (by omega)
      have HZ := Lib.hid (show pw ((j : Int) + 1) = 10 ^ (j + 1) from pw_at (k := j + 1) (by omega) (by omega))
      clear hp
      generalize (10 ^ (j + 1) : Nat) = q at *
      go_enter Tryz.func142, Tryz.ntmps142
      go_wp2_with fail
      go_ret
      exact ⟨by rw [HZ.out]; rfl, rfl⟩

theorem len_any (x : Int) (w : World) (h0 : 0 ≤ x) (hx : x ≤ 9223372036854775807) :
    Calls Tryz.prog 143 #[.int .u64 x] w fun e w' => e = .returned (.int .i64 (Lib.bitLen x.toNat : Nat)) ∧ w = w' := by
  have HC := Lib.hid (len64_any x w h0 hx)
  go_enter Tryz.func143, Tryz.ntmps143
  go_wp2_with fail
  refine HC.out.mono ?_
  rintro e w' ⟨rfl, rfl⟩
  go_wp2_with fail
  go_ret
  exact ⟨rfl, rfl⟩

theorem xwidth_any (m : Int) (w : World) (hp : Pws w) :
    Calls Tryz.prog 109 #[.int .i64 m] w fun e w' => e = .returned (.int .i64 (wd m : Nat)) ∧ w = w' := by
  have HC := Lib.hid (xpower_any m w hp)
  have hle := pw_le m
  by_cases h : pw m = 0
  · have HZ := Lib.hid (wd_none h)
    rw [h] at HC
    clear hp h hle
    go_enter Tryz.func109, Tryz.ntmps109
    go_wp2_with fail
    refine HC.out.mono ?_
    rintro e w' ⟨rfl, rfl⟩
    go_wp2_with fail
    go_ret
    exact ⟨by rw [HZ.out]; rfl, rfl⟩
  · have HL := Lib.hid (wd_len h)
    have hl8 := wd_le (m := m)
    obtain ⟨q, hq⟩ : ∃ q : Nat, pw m = q + 1 := ⟨pw m - 1, by omega⟩
    rw [hq] at HC HL hle
    have hcl : (Lib.bitLen q : Nat) ≤ 64 := by have := HL.out; rw [Nat.add_sub_cancel] at this; omega
    have HC2 := Lib.hid (len_any (q : Nat) w (by omega) (by omega))
    have HE := Lib.hid (show (((Lib.bitLen ((q : Nat) : Int).toNat : Nat) : Int) + 7) / 8 = (wd m : Nat) by have := HL.out; rw [Nat.add_sub_cancel] at this; rw [← this, Int.toNat_natCast]; omega)
    have hb : Lib.bitLen ((q : Nat) : Int).toNat ≤ 64 := hcl
    generalize Lib.bitLen ((q : Nat) : Int).toNat = l at *
    have hne : (((q + 1 : Nat) : Int) == 0) = false := by simp; omega
    have hs : ((q + 1 : Nat) : Int) - 1 = q := by omega
    clear hp h hq hcl HL
    generalize ((q + 1 : Nat) : Int) = p at *
    go_enter Tryz.func109, Tryz.ntmps109
    go_wp2_with fail
    refine HC.out.mono ?_
    rintro e w' ⟨rfl, rfl⟩
    go_wp2_with fail
    refine HC2.out.mono ?_
    rintro e w' ⟨rfl, rfl⟩
    go_wp2_with fail
    go_ret
    exact ⟨by rw [← HE.out]; rfl, rfl⟩
end Go.Proofs.YthmlcmlpmolmoaaGreatDoor
/- Contracts of package radix: modulus, Value, Digits. -/
namespace Go.Proofs.YthmlcmlpmolmoaaGreatDoor
open Go.RowKit

def mdE (m : Int) (f : Nat → Int) (n : Nat) : Int := if pw m ≠ 0 ∧ okN (pw m) f n = true then 0 else 1
def mdV (m : Int) (f : Nat → Int) (n : Nat) : Int := if mdE m f n = 0 then (pw m : Nat) else 0
theorem md_bad {m : Int} {f : Nat → Int} {n : Nat} (h : pw m = 0 ∨ okN (pw m) f n = false) : mdE m f n = 1 ∧ mdV m f n = 0 := by
  have e : mdE m f n = 1 := if_neg (by rintro ⟨h1, h2⟩; rcases h with h | h; exact h1 h; rw [h] at h2; cases h2)
  exact ⟨e, by unfold mdV; rw [e]; rfl⟩
theorem md_ok {m : Int} {f : Nat → Int} {n : Nat} (h : pw m ≠ 0) (h' : okN (pw m) f n = true) : mdE m f n = 0 ∧ mdV m f n = (pw m : Nat) := by
  have e : mdE m f n = 0 := if_pos ⟨h, h'⟩
  exact ⟨e, by unfold mdV; rw [e]; rfl⟩

set_option maxHeartbeats 400000 in
theorem modulus_any (m : Int) (A : Option Addr) (n c : Nat) (f : Nat → Int) (w : World) (hn : n ≤ 1000) (hp : Pws w)
    (hA : 0 < n → ∃ g, A = some ⟨g, 0, none⟩ ∧ ∀ i, i < n → w.cell? ⟨g, i, none⟩ = some (.int .i64 (f i))) :
    Calls Tryz.prog 108 #[.int .i64 m, .slice A n c] w fun e w' => e = .returned (.tuple #[.int .i64 (mdV m f n), .int .i64 (mdE m f n)]) ∧ w = w' := by
  have HC := Lib.hid (xpower_any m w hp)
  have HA := Lib.hid hA
  clear hA hp
  by_cases h : pw m = 0
  · have HZ := Lib.hid (md_bad (f := f) (n := n) (Or.inl h))
    rw [h] at HC
    clear h
    go_enter Tryz.func108, Tryz.ntmps108
    go_wp2_with fail
    refine HC.out.mono ?_
    rintro e w' ⟨rfl, rfl⟩
    go_wp2_with fail
    go_ret2
    exact ⟨by rw [HZ.out.1, HZ.out.2]; rfl, rfl⟩
  · have HG := Lib.hid (fun h' => md_ok (f := f) (n := n) h h')
    have HBad := Lib.hid (fun h' => md_bad (m := m) (f := f) (n := n) (Or.inr h'))
    have hle := pw_le m
    have hne : (((pw m : Nat) : Int) == 0) = false := by simp; omega
    clear h
    generalize pw m = p at *
    go_enter Tryz.func108, Tryz.ntmps108
    go_wp2_with fail
    refine HC.out.mono ?_
    rintro e w' ⟨rfl, rfl⟩
    go_wp2_with fail
    go_loop [15] (fun i => ∃ k : Nat, k ≤ n ∧ i = .int .i64 k ∧ okN p f k = true) (fun i => n - (intOf i).toNat)
    case atStart => exact ⟨0, Nat.zero_le _, rfl, rfl⟩
    case round =>
      obtain ⟨k, hk, rfl, hok⟩ := hrel
      have HOK := Lib.hid hok
      clear hok
      by_cases hlt : k < n
      · obtain ⟨g, rfl, hcell⟩ := HA.out (by omega)
        have hc := hcell k hlt
        clear hcell
        by_cases h1 : f k < 0
        · have HB := Lib.hid (HBad.out (okN_bad hlt (Or.inl h1)))
          generalize f k = y at *
          go_wp2_with fail
          go_ret2
          exact ⟨by rw [HB.out.1, HB.out.2]; rfl, rfl⟩
        · by_cases h2 : (p : Int) ≤ f k
          · have HB := Lib.hid (HBad.out (okN_bad hlt (Or.inr h2)))
            generalize f k = y at *
            go_wp2_with fail
            go_ret2
            exact ⟨by rw [HB.out.1, HB.out.2]; rfl, rfl⟩
          · have HN := Lib.hid (okN_step HOK.out (by omega) (by omega))
            generalize f k = y at *
            go_wp2_with fail
            go_round
            case rel => exact ⟨k + 1, by omega, by go_num, HN.out⟩
            case measure => simp [intOf]; omega
      · obtain rfl : k = n := by omega
        have HZ := Lib.hid (HG.out HOK.out)
        go_wp2_with fail
        go_ret2
        exact ⟨by rw [HZ.out.1, HZ.out.2]; rfl, rfl⟩
end Go.Proofs.YthmlcmlpmolmoaaGreatDoor
/- Numbers out of bytes, the most significant one first. -/
namespace Go.Proofs.YthmlcmlpmolmoaaGreatDoor
/-- the number of k bytes, the most significant one first -/
def numE (f : Nat → Nat) : Nat → Nat
  | 0 => 0
  | k + 1 => numE f k * 256 + f k
theorem numE_lt {f : Nat → Nat} : ∀ k, (∀ j, j < k → f j < 256) → numE f k < 256 ^ k
  | 0, _ => Nat.zero_lt_one
  | k + 1, h => by
    have h1 := numE_lt k (fun j hj => h j (by omega))
    have h2 := h k (Nat.lt_succ_self k)
    show numE f k * 256 + f k < _
    rw [Nat.pow_succ]
    omega
theorem numE_congr {f g : Nat → Nat} : ∀ k, (∀ j, j < k → f j = g j) → numE f k = numE g k
  | 0, _ => rfl
  | k + 1, h => by
    show numE f k * 256 + f k = numE g k * 256 + g k
    rw [numE_congr k (fun j hj => h j (by omega)), h k (Nat.lt_succ_self k)]
theorem numE_mono (f : Nat → Nat) (k : Nat) : ∀ m, k ≤ m → numE f k ≤ numE f m
  | 0, h => by obtain rfl : k = 0 := by omega
               exact Nat.le_refl _
  | m + 1, h => by
    rcases Nat.lt_or_ge k (m + 1) with h1 | h1
    · have := numE_mono f k m (by omega)
      show numE f k ≤ numE f m * 256 + f m
      omega
    · obtain rfl : k = m + 1 := by omega
      exact Nat.le_refl _
theorem shl_or (a c : Nat) (h : c < 256) : a * 256 ||| c = a * 256 + c := by
  have := Nat.shiftLeft_add_eq_or_of_lt (show c < 2 ^ 8 from h) a
  rw [Nat.shiftLeft_eq] at this
  exact this.symm
end Go.Proofs.YthmlcmlpmolmoaaGreatDoor
/- Contracts of package radix: Rest. -/
namespace Go.Proofs.YthmlcmlpmolmoaaGreatDoor
open Go.RowKit

theorem md_none (m : Int) : mdE m (fun _ => 0) 0 = (if pw m = 0 then 1 else 0) ∧ mdV m (fun _ => 0) 0 = ((pw m : Nat) : Int) := by
  by_cases h : pw m = 0
  · obtain ⟨e, v⟩ := md_bad (m := m) (f := fun _ => 0) (n := 0) (Or.inl h)
    rw [e, v, if_pos h, h]; exact ⟨rfl, rfl⟩
  · obtain ⟨e, v⟩ := md_ok (f := fun _ => 0) h (okN_zero _ _)
    rw [e, v, if_neg h]; exact ⟨rfl, rfl⟩
theorem rE_low {len : Nat} {m : Int} (h : pw m = 0) : rE len m = 1 := if_pos h
theorem rE_long {len : Nat} {m : Int} (h : pw m ≠ 0) (h' : 64 < len) : rE len m = 2 := by unfold rE; rw [if_neg h, if_pos h']
theorem rE_ok {len : Nat} {m : Int} (h : pw m ≠ 0) (h' : len ≤ 64) : rE len m = 0 := by unfold rE; rw [if_neg h, if_neg (by omega)]
theorem rV_bad {len : Nat} {b : Nat → Nat} {m : Int} (h : rE len m ≠ 0) : rV len b m = 0 := if_neg h
theorem rV_ok {len : Nat} {b : Nat → Nat} {m : Int} (h : rE len m = 0) : rV len b m = (restN (pw m) b len : Nat) := if_pos h

set_option maxHeartbeats 400000 in
theorem xrest_any (A : Option Addr) (len cap : Nat) (bs : Nat → Nat) (m : Int) (w : World) (hl : len ≤ 9223372036854775807) (hp : Pws w) (hA : SlB w A len bs) :
    Calls Tryz.prog 112 #[.slice A len cap, .int .i64 m] w fun e w' => e = .returned (.tuple #[.int .i64 (rV len bs m), .int .i64 (rE len m)]) ∧ ∃ n, w' = w.drewN n := by
  have HM := Lib.hid (modulus_any m none 0 0 (fun _ => 0) w (by omega) hp (fun h => absurd h (by omega)))
  rw [(md_none m).1, (md_none m).2] at HM
  have HA := Lib.hid hA
  clear hp hA
  by_cases h : pw m = 0
  · rw [if_pos h, h] at HM
    have HE := Lib.hid (rE_low (len := len) h)
    have HV := Lib.hid (rV_bad (len := len) (b := bs) (m := m) (by rw [HE.out]; decide))
    clear h
    go_enter Tryz.func112, Tryz.ntmps112
    go_wp2_with fail
    refine HM.out.mono ?_
    rintro e w' ⟨rfl, rfl⟩
    go_wp2_with fail
    go_ret2
    exact ⟨by rw [HE.out, HV.out]; rfl, 0, rfl⟩
  · rw [if_neg h] at HM
    by_cases h64 : 64 < len
    · have HE := Lib.hid (rE_long h h64)
      have HV := Lib.hid (rV_bad (len := len) (b := bs) (m := m) (by rw [HE.out]; decide))
      have h64' : (64 : Int) < len := by omega
      clear h
      go_enter Tryz.func112, Tryz.ntmps112
      go_wp2_with fail
      refine HM.out.mono ?_
      rintro e w' ⟨rfl, rfl⟩
      go_wp2_with fail
      go_ret2
      exact ⟨by rw [HE.out, HV.out]; rfl, 0, rfl⟩
    · have HE := Lib.hid (rE_ok (m := m) (len := len) h (by omega))
      have HV := Lib.hid (rV_ok (b := bs) HE.out)
      have h64' : (len : Int) ≤ 64 := by omega
      have hle := pw_le m
      have hpos : 0 < pw m := by omega
      have hpos' : (0 : Int) < (pw m : Nat) := by omega
      clear h
      generalize pw m = p at *
      go_enter Tryz.func112, Tryz.ntmps112
      go_wp2_with fail
      refine HM.out.mono ?_
      rintro e w' ⟨rfl, rfl⟩
      go_wp2_with fail
      go_loopw [8, 23] (fun r i wr => ∃ k : Nat, k ≤ len ∧ i = .int .i64 k ∧ r = .int .i64 (restN p bs k : Nat) ∧ ∃ n, wr = w.drewN n) (fun _ i _ => len - (intOf i).toNat)
      case atStart => exact ⟨0, Nat.zero_le _, rfl, rfl, 0, rfl⟩
      case round =>
        obtain ⟨k, hk, rfl, rfl, hn⟩ := hrel
        have HN := Lib.hid hn
        clear hn
        by_cases hlt : k < len
        · obtain ⟨B, o, rfl, hB, hcells⟩ := HA.out (by omega)
          obtain ⟨hx, hcell⟩ := hcells k hlt
          have hr := restN_lt hpos bs k
          have HS := Lib.hid (show restN p bs (k + 1) = (256 * restN p bs k + bs k) % p from rfl)
          have hc : wr.cell? ⟨B, o + k, none⟩ = some (.int .u8 (bs k : Nat)) := by
            obtain ⟨n, hn⟩ := HN.out
            rw [hn]; exact hcell
          clear hcell hcells
          generalize bs k = x at *
          generalize restN p bs k = r at *
          obtain ⟨q, hor, hq⟩ : ∃ q : Nat, bits .or .i64 ((r : Int) * 256) (x : Int) = (q : Nat) ∧ 256 * r + x = q := by
            have e := i64_or_nat (r * 256) x (by omega) (by omega)
            rw [shl_or r x hx] at e
            exact ⟨256 * r + x, by rw [show ((r : Int) * 256) = ((r * 256 : Nat) : Int) by omega, e]; omega, rfl⟩
          rw [hq] at HS
          clear hq
          go_wp2_with fail
          go_roundw
          case rel => exact ⟨k + 1, by omega, by go_num, by rw [HS.out]; go_num, HN.out⟩
          case measure => simp [intOf]; omega
        · obtain rfl : k = len := by omega
          go_wp2_with fail
          go_ret2
          exact ⟨by rw [HE.out, HV.out]; rfl, HN.out⟩
end Go.Proofs.YthmlcmlpmolmoaaGreatDoor
/- Contracts of package ffx: masks. -/
namespace Go.Proofs.YthmlcmlpmolmoaaGreatDoor
set_option maxRecDepth 100000
open Go.RowKit

/-- what a call of a cipher leaves -/
def CipP (c g n : Nat) (key : Nat → Nat) (t : Nat) (T : Nat → Nat) (v : Value) (w : World) (e : Ending) (w' : World) : Prop := e = .returned v ∧ Cip w' c g n key t T ∧ Chg g w w'

theorem Pws.cip {w w' : World} {c g n : Nat} {key : Nat → Nat} {t : Nat} {T : Nat → Nat} (h : Pws w) (hC : Cip w c g n key t T) (hn : n = 4 ∨ n = 8) (hc : Chg g w w') : Pws w' := fun i hi => by
  have hne : 2 ≠ g := fun e => by
    have h0 := h 0 (by decide)
    have hw := hC.key.words
    subst e
    rw [hw] at h0
    have h1 : ((n : Nat) : Int) = ((10 ^ (0 + 1) : Nat) : Int) := by injection h0 with h0; injection h0
    rcases hn with rfl | rfl <;> exact absurd h1 (by decide)
  exact (hc.cell h.lt hne).trans (h i hi)

set_option maxHeartbeats 1600000 in
theorem fmask_any (c g n : Nat) (key : Nat → Nat) (t : Nat) (T : Nat → Nat) (N r x : Nat) (w : World) (hp : Pws w) (hn : n = 4 ∨ n = 8) (hkey : By (4 * n) key) (hC : Cip w c g n key t T) (ht : t ≤ 16) (hT : By t T) (hN : 6 ≤ N) (hN2 : N ≤ 32) (hr : r ≤ 9) (hx : x ≤ 9223372036854775807) :
    Calls Tryz.prog 67 #[.pointer (some ⟨c, 0, none⟩), .int .i64 (N : Nat), .int .i64 (r : Nat), .int .i64 (x : Nat)] w (CipP c g n key t T (.int .i64 (fmk n key t T N r x : Nat)) w) := by
  have HS0 := Lib.hid fun w => sizes_any N 0 w (by omega) (by decide)
  have HSR := Lib.hid fun w => sizes_any N r w (by omega) (by omega)
  have hv : fd N (0 + 1) = N - N / 2 := rfl
  rw [hv] at HS0
  have HW := Lib.hid (xwidth_any ((N - N / 2 : Nat) : Int) w hp)
  rw [show wd ((N - N / 2 : Nat) : Int) = fw N from rfl] at HW
  have hfd := fd_le r hN hN2
  have hkl := fw_le N
  have hpw := pw_at (k := fd N r) (by omega) (by omega)
  have HV := Lib.hid fun (f : Nat → Nat) => show rV ((fw N + 3) / 4 * 4 + 4) f (fd N r : Nat) = (restN (10 ^ fd N r) f ((fw N + 3) / 4 * 4 + 4) : Nat) by
    have := ten_pos (fd N r)
    rw [rV_ok (rE_ok (by omega) (by omega)), hpw]
  have HFM := Lib.hid (show fmk n key t T N r x = restN (10 ^ fd N r) (xch (enc n (ks n key)) (finp (N / 2) N t T r x (fw N)) (finL t (fw N) / 16)) ((fw N + 3) / 4 * 4 + 4) from rfl)
  have HI := Lib.hid fun w (h : Cip w c g n key t T) => input_any c g n key t T N r x (fw N) w h ht hN hN2 hr hx hkl
  have HBY := Lib.hid (finp_by (u := N / 2) (n := N) (t := t) (T := T) (r := r) (x := x) (w := fw N) (by omega) (by omega) (by omega) hT (by omega))
  have hm1 := finL_mul t (fw N)
  have hm2 := finL_ge t (fw N)
  have hm3 := finL_le ht hkl
  have HCH := Lib.hid fun st w (h : KeyAt w g n key) (hs : SlB w (some ⟨st, 0, none⟩) (16 * (finL t (fw N) / 16)) (finp (N / 2) N t T r x (fw N))) (hne : st ≠ g) => chain_any g n key (finp (N / 2) N t T r x (fw N)) st 0 (finL t (fw N) / 16) (finL t (fw N)) w hn hkey h (by omega) (by omega) (by omega) (by omega) hs hne
  rw [hm1] at HCH
  generalize fw N = k at *
  generalize hL : finL t k = L at *
  have HXB := Lib.hid fun M (h : 16 * M ≤ L) => xch_by hn hkey HBY.out M h
  have HM1 := Lib.hid hm1
  obtain ⟨dl, hdl⟩ : ∃ dl, (k + 3) / 4 * 4 + 4 = dl := ⟨_, rfl⟩
  rw [hdl] at HV HFM
  have hdi : ((k : Int) + 4 - 1) / 4 * 4 + 4 = (dl : Nat) := by omega
  have hdl16 : dl ≤ 16 := by omega
  have hki : (k : Int) ≤ 8 := by omega
  have hNi : (N : Int) ≤ 32 := by omega
  have hc0 := hC.ptr
  have HC := Lib.hid hC
  have HP := Lib.hid hp
  have HN := Lib.hid hn
  clear hp hn hkey hC ht hT hN hN2 hr hx hv hpw hm1 hm2 hm3 hdl hL hkl
  go_enter Tryz.func67, Tryz.ntmps67
  go_wp2_with (first | (go_at_call 65; refine (HS0.out _).mono ?_; rintro e w1 ⟨rfl, rfl⟩) | (go_at_call 109; refine HW.out.mono ?_; rintro e w1 ⟨rfl, rfl⟩))
  go_region_with (first | (go_at_call 111; refine (HI.out _ (HC.out.drewN 1)).mono ?_; rintro e w3 ⟨st, rfl, h1, h2, h3⟩; have H1 := Lib.hid h1; have H2 := Lib.hid h2; have H3 := Lib.hid (show Below w.heap.size w w3 from ⟨h3.os, h3.tape, h3.output, h3.size, h3.block⟩); have hc3 : w3.cell? ⟨c, 0, none⟩ = _ := (h3.cell (p := ⟨c, 0, none⟩) HC.out.lt).trans hc0; have HC3 := Lib.hid ((HC.out.drewN 1).keep h3); have HP3 := Lib.hid ((HP.out.drewN 1).keep h3); clear h1 h2 h3) | (go_at_call 110; refine (HCH.out st w3 HC3.out.key (H2.out.slB0 (Nat.le_refl _) HBY.out) (Nat.ne_of_gt (Nat.lt_of_lt_of_le HC.out.key.lt H1.out))).mono ?_; rintro e w4 ⟨st2, rfl, h4, h5, h6, h7⟩; have H5 := Lib.hid h5; have HC4 := Lib.hid (HC3.out.chg h7 h6); have H7 := Lib.hid ((Chg.of_below (K := g) H3.out).trans h7); have HP4 := Lib.hid (HP3.out.cip HC3.out HN.out h7); clear h4 h5 h6 h7))
  all_goals
    go_wp2_with (first | (go_at_call 65; refine (HSR.out _).mono ?_; rintro e w1 ⟨rfl, rfl⟩) | (go_at_call 112; refine (xrest_any (some ⟨st2, 0, none⟩) dl 16 _ (fd N r : Nat) _ (by omega) HP4.out ((H5.out.slB (HXB.out _ (Nat.le_of_eq HM1.out))).low hdl16)).mono ?_; rintro e w5 ⟨rfl, z5, rfl⟩))
    go_ret
    exact ⟨by rw [HV.out, HFM.out]; rfl, HC4.out.drewN _, (H7.out.drewN _)⟩
end Go.Proofs.YthmlcmlpmolmoaaGreatDoor
/- Contracts of package radix: Value, Digits, Add, Sub. -/
namespace Go.Proofs.YthmlcmlpmolmoaaGreatDoor
open Go.RowKit

theorem xvalue_facts (s : ByteArray) : (s.size = 0 → vE s = 1 ∧ vV s = 0) ∧ (16 < s.size → vE s = 2 ∧ vV s = 0) ∧ (s.size ≠ 0 → s.size ≤ 16 → vE s = dnE s ∧ vV s = dnV s) := by
  refine ⟨fun h => ?_, fun h => ?_, fun h h' => ?_⟩
  · have e : vE s = 1 := if_pos h
    exact ⟨e, by unfold vV; rw [e]; rfl⟩
  · have e : vE s = 2 := by unfold vE; rw [if_neg (by omega), if_pos h]
    exact ⟨e, by unfold vV; rw [e]; rfl⟩
  · have e : vE s = dnE s := by unfold vE; rw [if_neg h, if_neg (by omega)]
    refine ⟨e, ?_⟩
    unfold vV dnV
    rw [e]
    split <;> simp_all

set_option maxHeartbeats 400000 in
theorem xvalue_any (s : ByteArray) (w : World) (hs : s.size ≤ maxLen) :
    Calls Tryz.prog 107 #[.string s] w fun e w' => e = .returned (.tuple #[.int .i64 (vV s), .int .i64 (vE s)]) ∧ ∃ n, w' = w.drewN n := by
  have HN := Lib.hid (number_any s w hs)
  obtain ⟨f1, f2, f3⟩ := xvalue_facts s
  unfold maxLen at hs
  by_cases h0 : s.size = 0
  · have e1 : s.toList = [] := by
      rw [ByteArray.toList_eq]; exact List.eq_nil_of_length_eq_zero (Array.length_toList.trans h0)
    have HZ := Lib.hid (f1 h0)
    clear h0 f1 f2 f3
    go_enter Tryz.func107, Tryz.ntmps107
    go_wp2_with fail
    go_ret2
    exact ⟨by rw [HZ.out.1, HZ.out.2]; rfl, 0, rfl⟩
  · have e1 := toList_of_size (s := s) (by omega)
    have e2 : ¬ s.toList = [] := by intro h; rw [h] at e1; cases e1
    by_cases h16 : 16 < s.size
    · have HZ := Lib.hid (f2 h16)
      clear h0 f1 f2 f3
      have h16' : (16 : Int) < s.size := by omega
      go_enter Tryz.func107, Tryz.ntmps107
      go_wp2_with fail
      go_ret2
      exact ⟨by rw [HZ.out.1, HZ.out.2]; rfl, 0, rfl⟩
    · have HZ := Lib.hid (f3 h0 (by omega))
      have h16' : (s.size : Int) ≤ 16 := by omega
      clear h0 f1 f2 f3
      go_enter Tryz.func107, Tryz.ntmps107
      go_wp2_with fail
      refine HN.out.mono ?_
      rintro e w' ⟨rfl, n, rfl⟩
      go_wp2_with fail
      go_ret2
      exact ⟨by rw [HZ.out.1, HZ.out.2]; rfl, n, rfl⟩

/-- what the guard of one or two numbers answers -/
theorem md_one (n m : Int) : mdE m (fun _ => n) 1 = gE n m ∧ mdV m (fun _ => n) 1 = if inP n m = true then ((pw m : Nat) : Int) else 0 := by
  by_cases h : inP n m = true
  · obtain ⟨e, v⟩ := md_ok (f := fun _ => n) (inP_pos h) (by rw [okN_in rfl, h])
    rw [e, v, gE_pos h, if_pos h]; exact ⟨rfl, rfl⟩
  · obtain ⟨e, v⟩ := md_bad (m := m) (f := fun _ => n) (n := 1) (Or.inr (by rw [okN_in rfl]; simpa using h))
    rw [e, v, gE_neg h, if_neg h]; exact ⟨rfl, rfl⟩
def pairI (a b : Int) (i : Nat) : Int := if i = 0 then a else b
theorem md_two (a b m : Int) : mdE m (pairI a b) 2 = tE a b m ∧ mdV m (pairI a b) 2 = if tE a b m = 0 then ((pw m : Nat) : Int) else 0 := by
  have hk : okN (pw m) (pairI a b) 2 = (inP a m && inP b m) := by
    rw [Bool.eq_iff_iff, okN_two, Bool.and_eq_true, inP_iff, inP_iff]; rfl
  by_cases h : inP a m = true ∧ inP b m = true
  · obtain ⟨e, v⟩ := md_ok (f := pairI a b) (inP_pos h.1) (by rw [hk, h.1, h.2]; rfl)
    rw [e, v, tE_pos h.1 h.2]; exact ⟨rfl, rfl⟩
  · obtain ⟨e, v⟩ := md_bad (m := m) (f := pairI a b) (n := 2) (Or.inr (by rw [hk]; simpa using h))
    rw [e, v, tE_neg h]; exact ⟨rfl, rfl⟩

set_option maxHeartbeats 400000 in
theorem xdigits_any (n m : Int) (w : World) (hn : n ≤ 9223372036854775807) (hp : Pws w) :
    Calls Tryz.prog 113 #[.int .i64 n, .int .i64 m] w fun e w' => e = .returned (.tuple #[.string (gV n m), .int .i64 (gE n m)]) ∧ Below w.heap.size w w' := by
  have HM := Lib.hid (modulus_any m (some ⟨w.heap.size, 0, none⟩) 1 1 (fun _ => n) (w.alloc (.cells #[.int .i64 n] 3)) (by omega) (hp.alloc _) (fun _ => ⟨_, rfl, fun i hi => by
    obtain rfl : i = 0 := by omega
    exact World.cell?_alloc_at _ _ _ _ rfl⟩))
  have HO := Lib.hid (md_one n m)
  have HB := Lib.hid ((Below.refl w.heap.size w).alloc (Nat.le_refl _) (.cells #[.int .i64 n] 3))
  rw [HO.out.1] at HM
  by_cases h : inP n m = true
  · rw [gE_pos h] at HM
    have HT := Lib.hid (text_any n m (w.alloc (.cells #[.int .i64 n] 3)) hn)
    rw [(text_in h).1, (text_in h).2] at HT
    have HE := Lib.hid (gE_pos h)
    clear hp h
    go_enter Tryz.func113, Tryz.ntmps113
    go_wp2_with fail
    refine HM.out.mono ?_
    rintro e w' ⟨rfl, rfl⟩
    go_wp2_with fail
    refine HT.out.mono ?_
    rintro e w' ⟨rfl, hb⟩
    go_wp2_with fail
    go_ret2
    exact ⟨by rw [HE.out]; rfl, HB.out.trans (hb.mono HB.out.size)⟩
  · rw [gE_neg h] at HM
    have HE := Lib.hid (gE_neg h)
    have HV := Lib.hid (gV_neg h)
    clear hp h
    go_enter Tryz.func113, Tryz.ntmps113
    go_wp2_with fail
    refine HM.out.mono ?_
    rintro e w' ⟨rfl, rfl⟩
    go_wp2_with fail
    go_ret2
    exact ⟨by rw [HE.out, HV.out]; rfl, HB.out⟩

theorem two_cells (w : World) (a b : Int) : ∀ i, i < 2 → (w.alloc (.cells #[.int .i64 a, .int .i64 b] 3)).cell? ⟨w.heap.size, i, none⟩ = some (.int .i64 (pairI a b i)) := fun i hi => by
  rcases (show i = 0 ∨ i = 1 by omega) with rfl | rfl
  · exact (World.cell?_alloc_at _ _ _ _ rfl).trans rfl
  · exact (World.cell?_alloc_at _ _ _ _ rfl).trans rfl

set_option maxHeartbeats 400000 in
theorem xadd_any (a b m : Int) (w : World) (hp : Pws w) :
    Calls Tryz.prog 66 #[.int .i64 a, .int .i64 b, .int .i64 m] w fun e w' => e = .returned (.tuple #[.int .i64 (aV a b m), .int .i64 (tE a b m)]) ∧ Below w.heap.size w w' := by
  have HM := Lib.hid (modulus_any m (some ⟨w.heap.size, 0, none⟩) 2 2 (pairI a b) (w.alloc (.cells #[.int .i64 a, .int .i64 b] 3)) (by omega) (hp.alloc _) (fun _ => ⟨_, rfl, two_cells w a b⟩))
  have HB := Lib.hid ((Below.refl w.heap.size w).alloc (Nat.le_refl _) (.cells #[.int .i64 a, .int .i64 b] 3))
  rw [(md_two a b m).1, (md_two a b m).2] at HM
  by_cases h : inP a m = true ∧ inP b m = true
  · have HV := Lib.hid (show aV a b m = (a + b) % (pw m : Int) by unfold aV; rw [if_pos (tE_pos h.1 h.2)])
    rw [tE_pos h.1 h.2, if_pos rfl] at HM
    have HE := Lib.hid (tE_pos h.1 h.2)
    obtain ⟨a0, a1⟩ := (inP_iff a m).1 h.1
    obtain ⟨b0, b1⟩ := (inP_iff b m).1 h.2
    have hle := pw_le m
    have hpos : (0 : Int) < (pw m : Nat) := by omega
    clear hp h
    generalize pw m = p at *
    go_enter Tryz.func66, Tryz.ntmps66
    go_wp2_with fail
    refine HM.out.mono ?_
    rintro e w' ⟨rfl, rfl⟩
    go_wp2_with fail
    go_ret2
    exact ⟨by rw [HE.out, HV.out]; rfl, HB.out⟩
  · have HV := Lib.hid (show aV a b m = 0 by unfold aV; rw [tE_neg h]; rfl)
    rw [tE_neg h] at HM
    have HE := Lib.hid (tE_neg h)
    clear hp h
    go_enter Tryz.func66, Tryz.ntmps66
    go_wp2_with fail
    refine HM.out.mono ?_
    rintro e w' ⟨rfl, rfl⟩
    go_wp2_with fail
    go_ret2
    exact ⟨by rw [HE.out, HV.out]; rfl, HB.out⟩

set_option maxHeartbeats 400000 in
theorem xsub_any (a b m : Int) (w : World) (hp : Pws w) :
    Calls Tryz.prog 128 #[.int .i64 a, .int .i64 b, .int .i64 m] w fun e w' => e = .returned (.tuple #[.int .i64 (sV a b m), .int .i64 (tE a b m)]) ∧ Below w.heap.size w w' := by
  have HM := Lib.hid (modulus_any m (some ⟨w.heap.size, 0, none⟩) 2 2 (pairI a b) (w.alloc (.cells #[.int .i64 a, .int .i64 b] 3)) (by omega) (hp.alloc _) (fun _ => ⟨_, rfl, two_cells w a b⟩))
  have HB := Lib.hid ((Below.refl w.heap.size w).alloc (Nat.le_refl _) (.cells #[.int .i64 a, .int .i64 b] 3))
  rw [(md_two a b m).1, (md_two a b m).2] at HM
  by_cases h : inP a m = true ∧ inP b m = true
  · have HV := Lib.hid (show sV a b m = (a - b + (pw m : Int)) % (pw m : Int) by unfold sV; rw [if_pos (tE_pos h.1 h.2)])
    rw [tE_pos h.1 h.2, if_pos rfl] at HM
    have HE := Lib.hid (tE_pos h.1 h.2)
    obtain ⟨a0, a1⟩ := (inP_iff a m).1 h.1
    obtain ⟨b0, b1⟩ := (inP_iff b m).1 h.2
    have hle := pw_le m
    have hpos : (0 : Int) < (pw m : Nat) := by omega
    clear hp h
    generalize pw m = p at *
    go_enter Tryz.func128, Tryz.ntmps128
    go_wp2_with fail
    refine HM.out.mono ?_
    rintro e w' ⟨rfl, rfl⟩
    go_wp2_with fail
    go_ret2
    exact ⟨by rw [HE.out, HV.out]; rfl, HB.out⟩
  · have HV := Lib.hid (show sV a b m = 0 by unfold sV; rw [tE_neg h]; rfl)
    rw [tE_neg h] at HM
    have HE := Lib.hid (tE_neg h)
    clear hp h
    go_enter Tryz.func128, Tryz.ntmps128
    go_wp2_with fail
    refine HM.out.mono ?_
    rintro e w' ⟨rfl, rfl⟩
    go_wp2_with fail
    go_ret2
    exact ⟨by rw [HE.out, HV.out]; rfl, HB.out⟩
end Go.Proofs.YthmlcmlpmolmoaaGreatDoor
/- Contracts of package ffx: halves of numerals. -/
namespace Go.Proofs.YthmlcmlpmolmoaaGreatDoor
set_option maxRecDepth 100000
open Go.RowKit

/-- the halves of numerals -/
def loS (s : ByteArray) : ByteArray := s.extract 0 (s.size / 2)
def hiS (s : ByteArray) : ByteArray := s.extract (s.size / 2) s.size
/-- what is wrong with numerals -/
def hE (s : ByteArray) : Int := if s.size < 6 ∨ 32 < s.size then 1 else if vE (loS s) ≠ 0 then vE (loS s) else vE (hiS s)

/-- what halves answers -/
def hV (s : ByteArray) : Array Value := if hE s = 0 then #[.int .i64 (vV (loS s)), .int .i64 (vV (hiS s)), .int .i64 0] else #[.int .i64 0, .int .i64 0, .int .i64 (hE s)]

theorem halves_bad (s : ByteArray) (w : World) (hs : s.size ≤ maxLen) (h : s.size < 6 ∨ 32 < s.size) :
    Calls Tryz.prog 64 #[.string s] w fun e w' => e = .returned (.tuple #[.int .i64 0, .int .i64 0, .int .i64 1]) ∧ w = w' := by
  have HWL := Lib.hid (wrongL_any (s.size : Nat) w)
  rw [show (decide (((s.size : Nat) : Int) < 6) || decide (32 < ((s.size : Nat) : Int))) = true by rw [Bool.or_eq_true, decide_eq_true_eq, decide_eq_true_eq]; omega] at HWL
  have hs' := hs
  unfold maxLen at hs'
  clear h hs
  go_enter Tryz.func64, Tryz.ntmps64
  go_wp2_with (go_at_call 106; refine HWL.out.mono ?_; rintro e w1 ⟨rfl, rfl⟩)
  exact bodyPost_ret (v := .tuple #[.int .i64 0, .int .i64 0, .int .i64 1]) (by simp [results, Tryz.results64, go_sem]) rfl ⟨rfl, rfl⟩
theorem fhalves_any (s : ByteArray) (w : World) (h1 : 6 ≤ s.size) (h2 : s.size ≤ 32) :
    Calls Tryz.prog 64 #[.string s] w fun e w' => e = .returned (.tuple (hV s)) ∧ ∃ n, w' = w.drewN n := by
  have HWL := Lib.hid (wrongL_any (s.size : Nat) w)
  rw [show (decide (((s.size : Nat) : Int) < 6) || decide (32 < ((s.size : Nat) : Int))) = false by rw [Bool.or_eq_false_iff, decide_eq_false_iff_not, decide_eq_false_iff_not]; omega] at HWL
  have HS := Lib.hid (sizes_any s.size 0 w (by omega) (by decide))
  rw [show fd s.size 0 = s.size / 2 from rfl] at HS
  have hl : (loS s).size ≤ maxLen := by unfold loS maxLen; rw [ByteArray.size_extract]; omega
  have hh : (hiS s).size ≤ maxLen := by unfold hiS maxLen; rw [ByteArray.size_extract]; omega
  have HV1 := Lib.hid (xvalue_any (loS s) w hl)
  have HV2 := Lib.hid fun W => xvalue_any (hiS s) W hh
  have hEq : hE s = if vE (loS s) ≠ 0 then vE (loS s) else vE (hiS s) := by unfold hE; rw [if_neg (by omega)]
  have HL := Lib.hid (show s.extract 0 (s.size / 2) = loS s from rfl)
  have HH := Lib.hid (show s.extract (s.size / 2) s.size = hiS s from rfl)
  have hVe : hV s = if hE s = 0 then #[.int .i64 (vV (loS s)), .int .i64 (vV (hiS s)), .int .i64 0] else #[.int .i64 0, .int .i64 0, .int .i64 (hE s)] := rfl
  obtain ⟨k, hk⟩ : ∃ k, s.size / 2 = k := ⟨_, rfl⟩
  rw [hk] at HS HL HH
  rw [← HL.out] at HV1
  rw [← HH.out] at HV2
  have hki : (k : Int) ≤ (s.size : Nat) := by omega
  have hki2 : k ≤ s.size := by omega
  have hsz : ((s.size : Nat) : Int) ≤ 32 := by omega
  rw [HL.out] at HV1
  rw [HH.out] at HV2
  generalize hV s = V at *
  generalize hE s = r at *
  generalize loS s = a at *
  generalize hiS s = b at *
  by_cases ha : vE a = 0
  · have g1 : (vE a != 0) = false := by rw [ha]; rfl
    rw [if_neg (by rw [ha]; decide)] at hEq
    by_cases hb : vE b = 0
    · have g2 : (vE b != 0) = false := by rw [hb]; rfl
      rw [show r = 0 from hEq.trans hb, if_pos rfl] at hVe
      have HF := Lib.hid hVe
      clear hk hl hh h1 h2 hEq hVe ha hb
      go_enter Tryz.func64, Tryz.ntmps64
      go_wp2_with (first | (go_at_call 106; refine HWL.out.mono ?_; rintro e w1 ⟨rfl, rfl⟩) | (go_at_call 65; refine HS.out.mono ?_; rintro e w1 ⟨rfl, rfl⟩) | (go_at_call 107; rw [HL.out]; refine HV1.out.mono ?_; rintro e w1 ⟨rfl, n1, rfl⟩) | (go_at_call 107; rw [HH.out]; refine (HV2.out _).mono ?_; rintro e w1 ⟨rfl, n2, rfl⟩))
      exact bodyPost_ret (v := .tuple #[.int .i64 (vV a), .int .i64 (vV b), .int .i64 0]) (by simp [results, Tryz.results64, go_sem]) rfl ⟨by rw [HF.out], n1 + n2, rfl⟩
    · have g2 : (vE b != 0) = true := by simpa using hb
      rw [hEq, if_neg hb] at hVe
      have HF := Lib.hid hVe
      clear hk hl hh h1 h2 hEq hVe ha hb
      go_enter Tryz.func64, Tryz.ntmps64
      go_wp2_with (first | (go_at_call 106; refine HWL.out.mono ?_; rintro e w1 ⟨rfl, rfl⟩) | (go_at_call 65; refine HS.out.mono ?_; rintro e w1 ⟨rfl, rfl⟩) | (go_at_call 107; rw [HL.out]; refine HV1.out.mono ?_; rintro e w1 ⟨rfl, n1, rfl⟩) | (go_at_call 107; rw [HH.out]; refine (HV2.out _).mono ?_; rintro e w1 ⟨rfl, n2, rfl⟩))
      exact bodyPost_ret (v := .tuple #[.int .i64 0, .int .i64 0, .int .i64 (vE b)]) (by simp [results, Tryz.results64, go_sem]) rfl ⟨by rw [HF.out], n1 + n2, rfl⟩
  · have g1 : (vE a != 0) = true := by simpa using ha
    rw [if_pos ha] at hEq
    rw [hEq, if_neg ha] at hVe
    have HF := Lib.hid hVe
    clear hk hl hh h1 h2 hEq hVe ha HV2
    go_enter Tryz.func64, Tryz.ntmps64
    go_wp2_with (first | (go_at_call 106; refine HWL.out.mono ?_; rintro e w1 ⟨rfl, rfl⟩) | (go_at_call 65; refine HS.out.mono ?_; rintro e w1 ⟨rfl, rfl⟩) | (go_at_call 107; rw [HL.out]; refine HV1.out.mono ?_; rintro e w1 ⟨rfl, n1, rfl⟩))
    exact bodyPost_ret (v := .tuple #[.int .i64 0, .int .i64 0, .int .i64 (vE a)]) (by simp [results, Tryz.results64, go_sem]) rfl ⟨by rw [HF.out], n1, rfl⟩

/-- two halves in one text -/
def fcat (N : Nat) (a b : Int) : ByteArray := gV a (fd N 0 : Nat) ++ gV b (fd N 1 : Nat)
theorem gV_size (n m : Int) (h : m ≤ 16) : (gV n m).size ≤ 16 := by
  unfold gV
  split
  · rw [strOf_size]; omega
  · decide
theorem fjoin_any (N : Nat) (a b : Int) (w : World) (hp : Pws w) (hN : 6 ≤ N) (hN2 : N ≤ 32) (ha : a ≤ 9223372036854775807) (hb : b ≤ 9223372036854775807) :
    Calls Tryz.prog 68 #[.int .i64 (N : Nat), .int .i64 a, .int .i64 b] w fun e w' => e = .returned (.string (fcat N a b)) ∧ Below w.heap.size w w' := by
  have HS := Lib.hid (sizes_any N 0 w (by omega) (by decide))
  rw [Nat.zero_add] at HS
  have h0 := fd_le 0 hN hN2
  have h1 := fd_le 1 hN hN2
  have g0 := gV_size a (fd N 0 : Nat) (by omega)
  have g1 := gV_size b (fd N 1 : Nat) (by omega)
  have HD1 := Lib.hid (xdigits_any a (fd N 0 : Nat) w ha hp)
  have HD2 := Lib.hid fun W (h : Pws W) => xdigits_any b (fd N 1 : Nat) W hb h
  have HP := Lib.hid hp
  have HF := Lib.hid (show fcat N a b = gV a (fd N 0 : Nat) ++ gV b (fd N 1 : Nat) from rfl)
  generalize gV a (fd N 0 : Nat) = x at *
  generalize gV b (fd N 1 : Nat) = y at *
  generalize fd N 0 = k at *
  generalize fd N 1 = l at *
  clear hp hN hN2 ha hb h0 h1
  go_enter Tryz.func68, Tryz.ntmps68
  go_wp2_with (first | (go_at_call 65; refine HS.out.mono ?_; rintro e w1 ⟨rfl, rfl⟩) | (go_at_call 113; refine HD1.out.mono ?_; rintro e w2 ⟨rfl, h2⟩; have H2 := Lib.hid h2; clear HD1 h2) | (go_at_call 113; refine (HD2.out w2 (HP.out.keep H2.out)).mono ?_; rintro e w3 ⟨rfl, h3⟩; have H3 := Lib.hid h3; clear h3))
  go_ret
  exact ⟨by rw [HF.out]; rfl, H2.out.trans (H3.out.mono H2.out.size)⟩
end Go.Proofs.YthmlcmlpmolmoaaGreatDoor
/- Contracts of package ffx: Encrypt, Decrypt. -/
namespace Go.Proofs.YthmlcmlpmolmoaaGreatDoor
set_option maxRecDepth 100000
open Go.RowKit

/-- what is wrong with a text: too short or long, or no digits -/
def eE (s : ByteArray) : Int := if s.size < 6 ∨ 32 < s.size then 1 else hE s
/-- the encrypted numerals -/
def encV (M : Nat → Int → Int) (s : ByteArray) : ByteArray := if hE s = 0 then fcat s.size (fgo M s.size (vV (loS s)) (vV (hiS s)) 10).1 (fgo M s.size (vV (loS s)) (vV (hiS s)) 10).2 else ⟨#[]⟩
/-- the decrypted numerals -/
def decV (M : Nat → Int → Int) (s : ByteArray) : ByteArray := if hE s = 0 then fcat s.size (fbk M s.size 10 (vV (loS s)) (vV (hiS s))).1 (fbk M s.size 10 (vV (loS s)) (vV (hiS s))).2 else ⟨#[]⟩
theorem halves_in {s : ByteArray} (h1 : 6 ≤ s.size) (h2 : s.size ≤ 32) (h : hE s = 0) : vE (loS s) = 0 ∧ vE (hiS s) = 0 ∧ (loS s).size = fd s.size 0 ∧ (hiS s).size = fd s.size 1 ∧ inP (vV (loS s)) (fd s.size 0 : Nat) = true ∧ inP (vV (hiS s)) (fd s.size 1 : Nat) = true := by
  unfold hE at h
  rw [if_neg (by omega)] at h
  have hs0 : (loS s).size = fd s.size 0 := by show (s.extract 0 (s.size / 2)).size = s.size / 2; rw [ByteArray.size_extract]; omega
  have hs1 : (hiS s).size = fd s.size 1 := by show (s.extract (s.size / 2) s.size).size = s.size - s.size / 2; rw [ByteArray.size_extract]; omega
  by_cases ha : vE (loS s) = 0
  · rw [if_neg (by rw [ha]; decide)] at h
    exact ⟨ha, h, hs0, hs1, hs0 ▸ (back_text ha).1, hs1 ▸ (back_text h).1⟩
  · rw [if_pos ha] at h
    exact absurd h ha
theorem inP_le {a m : Int} (h : inP a m = true) : 0 ≤ a ∧ a ≤ 10000000000000000 := by
  have := (inP_iff a m).1 h
  have := pw_le m
  omega

theorem enc_bad (c : Nat) (s : ByteArray) (w : World) (hs : s.size ≤ maxLen) (h : s.size < 6 ∨ 32 < s.size) :
    Calls Tryz.prog 34 #[.pointer (some ⟨c, 0, none⟩), .string s] w fun e w' => e = .returned (.tuple #[.string ⟨#[]⟩, .int .i64 1]) ∧ w = w' := by
  have HH := Lib.hid (halves_bad s w hs h)
  clear h hs
  go_enter Tryz.func34, Tryz.ntmps34
  go_wp2_with (go_at_call 64; refine HH.out.mono ?_; rintro e w1 ⟨rfl, rfl⟩)
  go_ret2
  exact ⟨rfl, rfl⟩
theorem enc_form (c : Nat) (s : ByteArray) (w : World) (h1 : 6 ≤ s.size) (h2 : s.size ≤ 32) (h : hE s ≠ 0) :
    Calls Tryz.prog 34 #[.pointer (some ⟨c, 0, none⟩), .string s] w fun e w' => e = .returned (.tuple #[.string ⟨#[]⟩, .int .i64 (hE s)]) ∧ ∃ n, w' = w.drewN n := by
  have hh := fhalves_any s w h1 h2
  rw [show hV s = #[.int .i64 0, .int .i64 0, .int .i64 (hE s)] from if_neg h] at hh
  have HH := Lib.hid hh
  have g1 : (hE s != 0) = true := by simpa using h
  clear h h1 h2 hh
  go_enter Tryz.func34, Tryz.ntmps34
  go_wp2_with (go_at_call 64; refine HH.out.mono ?_; rintro e w1 ⟨rfl, n1, rfl⟩)
  go_ret2
  exact ⟨rfl, n1, rfl⟩

set_option maxHeartbeats 1600000 in
theorem fenc_any (c g n : Nat) (key : Nat → Nat) (t : Nat) (T : Nat → Nat) (s : ByteArray) (w : World) (hp : Pws w) (hn : n = 4 ∨ n = 8) (hkey : By (4 * n) key) (hC : Cip w c g n key t T) (ht : t ≤ 16) (hT : By t T) (h1 : 6 ≤ s.size) (h2 : s.size ≤ 32) (h : hE s = 0) :
    Calls Tryz.prog 34 #[.pointer (some ⟨c, 0, none⟩), .string s] w (CipP c g n key t T (.tuple #[.string (encV (fM n key t T s.size) s), .int .i64 0]) w) := by
  have hh := fhalves_any s w h1 h2
  rw [show hV s = #[.int .i64 (vV (loS s)), .int .i64 (vV (hiS s)), .int .i64 0] from if_pos h] at hh
  have HH := Lib.hid hh
  have HE := Lib.hid (show encV (fM n key t T s.size) s = fcat s.size (fgo (fM n key t T s.size) s.size (vV (loS s)) (vV (hiS s)) 10).1 (fgo (fM n key t T s.size) s.size (vV (loS s)) (vV (hiS s)) 10).2 from if_pos h)
  obtain ⟨_, _, _, _, i0, i1⟩ := halves_in h1 h2 h
  generalize vV (loS s) = a at *
  generalize vV (hiS s) = b at *
  have HM := Lib.hid (show MIn (fM n key t T s.size) s.size from fun k x => fM_in h1 h2 k x)
  have HGO := Lib.hid fun k => fgo_in HM.out i0 i1 k
  have HMK := Lib.hid fun r x (hr : r ≤ 9) (hx : x ≤ 9223372036854775807) W (hp : Pws W) (hC : Cip W c g n key t T) => fmask_any c g n key t T s.size r x W hp hn hkey hC ht hT h1 h2 hr hx
  have HSZ := Lib.hid fun r (hr : r ≤ 9) W => sizes_any s.size r W (by omega) (by omega)
  have HJ := Lib.hid fun a b W (hp : Pws W) ha hb => fjoin_any s.size a b W hp h1 h2 ha hb
  have HP := Lib.hid hp
  have HC := Lib.hid hC
  have HN := Lib.hid hn
  have hsz : ((s.size : Nat) : Int) ≤ 32 := by omega
  clear hp hn hkey hC ht hT h1 h2 h hh i0 i1
  go_enter Tryz.func34, Tryz.ntmps34
  go_wp2_with (go_at_call 64; refine HH.out.mono ?_; rintro e w1 ⟨rfl, n1, rfl⟩)
  go_loopw [6, 7, 23] (fun u v i wr => ∃ k : Nat, k ≤ 10 ∧ i = .int .i64 (k : Nat) ∧ u = .int .i64 (fgo (fM n key t T s.size) s.size a b k).1 ∧ v = .int .i64 (fgo (fM n key t T s.size) s.size a b k).2 ∧ Pws wr ∧ Cip wr c g n key t T ∧ Chg g w wr) (fun _ _ i _ => 10 - (intOf i).toNat)
  case atStart => exact ⟨0, by decide, rfl, rfl, rfl, HP.out.drewN _, HC.out.drewN _, (Chg.refl _ _).drewN _⟩
  case round =>
    obtain ⟨k, hk, rfl, rfl, rfl, q1, q2, q3⟩ := hrel
    have Q1 := Lib.hid q1
    have Q2 := Lib.hid q2
    have Q3 := Lib.hid q3
    clear q1 q2 q3
    obtain ⟨i2, i3⟩ := HGO.out k
    have HNX := Lib.hid (show fgo (fM n key t T s.size) s.size a b (k + 1) = ((fgo (fM n key t T s.size) s.size a b k).2, aV (fgo (fM n key t T s.size) s.size a b k).1 (fM n key t T s.size k (fgo (fM n key t T s.size) s.size a b k).2) (fd s.size k : Nat)) from rfl)
    by_cases hlt : k < 10
    · have hki : (k : Int) < 10 := by omega
      have hb3 := inP_le i3
      generalize (fgo (fM n key t T s.size) s.size a b k).1 = u at *
      generalize (fgo (fM n key t T s.size) s.size a b k).2 = v at *
      obtain ⟨x, rfl⟩ := Int.eq_ofNat_of_zero_le hb3.1
      have HMK2 := Lib.hid (HMK.out k x (by omega) (by omega) wr Q1.out Q2.out)
      rw [show (fmk n key t T s.size k x : Int) = fM n key t T s.size k (x : Int) from rfl] at HMK2
      have HMI := Lib.hid (HM.out k x)
      have HSK := Lib.hid (HSZ.out k (by omega) wr)
      generalize fM n key t T s.size k (x : Int) = y at *
      generalize fd s.size k = z at *
      clear hb3 i2 i3
      go_wp2_with (first | (go_at_call 65; refine HSK.out.mono ?_; rintro e w1 ⟨rfl, rfl⟩) | (go_at_call 67; refine HMK2.out.mono ?_; rintro e w2 ⟨rfl, h1, h2⟩; have H1 := Lib.hid h1; have H2 := Lib.hid h2; have HP2 := Lib.hid (Q1.out.cip Q2.out HN.out h2); clear h1 h2) | (go_at_call 66; refine (xadd_any u y (z : Nat) w2 HP2.out).mono ?_; rintro e w3 ⟨rfl, h3⟩; have H3 := Lib.hid h3; clear h3))
      go_roundw
      case rel => exact ⟨k + 1, by omega, by go_num, by rw [HNX.out], by rw [HNX.out], HP2.out.keep H3.out, H1.out.keep H3.out, (Q3.out.trans H2.out).thenBelow H3.out⟩
      case measure => simp [intOf]; omega
    · obtain rfl : k = 10 := by omega
      have hb2 := inP_le i2
      have hb3 := inP_le i3
      generalize (fgo (fM n key t T s.size) s.size a b 10).1 = u at *
      generalize (fgo (fM n key t T s.size) s.size a b 10).2 = v at *
      have HJ2 := Lib.hid (HJ.out u v wr Q1.out (by omega) (by omega))
      clear hb2 hb3 i2 i3
      go_wp2_with (go_at_call 68; refine HJ2.out.mono ?_; rintro e w1 ⟨rfl, h1⟩; have H1 := Lib.hid h1; clear h1)
      go_ret2
      exact ⟨by rw [HE.out]; rfl, Q2.out.keep H1.out, Q3.out.thenBelow H1.out⟩
theorem dec_bad (c : Nat) (s : ByteArray) (w : World) (hs : s.size ≤ maxLen) (h : s.size < 6 ∨ 32 < s.size) :
    Calls Tryz.prog 87 #[.pointer (some ⟨c, 0, none⟩), .string s] w fun e w' => e = .returned (.tuple #[.string ⟨#[]⟩, .int .i64 1]) ∧ w = w' := by
  have HH := Lib.hid (halves_bad s w hs h)
  clear h hs
  go_enter Tryz.func87, Tryz.ntmps87
  go_wp2_with (go_at_call 64; refine HH.out.mono ?_; rintro e w1 ⟨rfl, rfl⟩)
  go_ret2
  exact ⟨rfl, rfl⟩
theorem dec_form (c : Nat) (s : ByteArray) (w : World) (h1 : 6 ≤ s.size) (h2 : s.size ≤ 32) (h : hE s ≠ 0) :
    Calls Tryz.prog 87 #[.pointer (some ⟨c, 0, none⟩), .string s] w fun e w' => e = .returned (.tuple #[.string ⟨#[]⟩, .int .i64 (hE s)]) ∧ ∃ n, w' = w.drewN n := by
  have hh := fhalves_any s w h1 h2
  rw [show hV s = #[.int .i64 0, .int .i64 0, .int .i64 (hE s)] from if_neg h] at hh
  have HH := Lib.hid hh
  have g1 : (hE s != 0) = true := by simpa using h
  clear h h1 h2 hh
  go_enter Tryz.func87, Tryz.ntmps87
  go_wp2_with (go_at_call 64; refine HH.out.mono ?_; rintro e w1 ⟨rfl, n1, rfl⟩)
  go_ret2
  exact ⟨rfl, n1, rfl⟩

set_option maxHeartbeats 1600000 in
theorem fdec_any (c g n : Nat) (key : Nat → Nat) (t : Nat) (T : Nat → Nat) (s : ByteArray) (w : World) (hp : Pws w) (hn : n = 4 ∨ n = 8) (hkey : By (4 * n) key) (hC : Cip w c g n key t T) (ht : t ≤ 16) (hT : By t T) (h1 : 6 ≤ s.size) (h2 : s.size ≤ 32) (h : hE s = 0) :
    Calls Tryz.prog 87 #[.pointer (some ⟨c, 0, none⟩), .string s] w (CipP c g n key t T (.tuple #[.string (decV (fM n key t T s.size) s), .int .i64 0]) w) := by
  have hh := fhalves_any s w h1 h2
  rw [show hV s = #[.int .i64 (vV (loS s)), .int .i64 (vV (hiS s)), .int .i64 0] from if_pos h] at hh
  have HH := Lib.hid hh
  have HE := Lib.hid (show decV (fM n key t T s.size) s = fcat s.size (fbk (fM n key t T s.size) s.size 10 (vV (loS s)) (vV (hiS s))).1 (fbk (fM n key t T s.size) s.size 10 (vV (loS s)) (vV (hiS s))).2 from if_pos h)
  obtain ⟨_, _, _, _, i0, i1⟩ := halves_in h1 h2 h
  generalize vV (loS s) = a at *
  generalize vV (hiS s) = b at *
  have HM := Lib.hid (show MIn (fM n key t T s.size) s.size from fun k x => fM_in h1 h2 k x)
  rw [show fd s.size 0 = fd s.size 10 from rfl] at i0
  rw [show fd s.size 1 = fd s.size (10 + 1) from rfl] at i1
  have HI := Lib.hid (show inP a (fd s.size 10 : Nat) = true ∧ inP b (fd s.size (10 + 1) : Nat) = true from ⟨i0, i1⟩)
  have HMK := Lib.hid fun r x (hr : r ≤ 9) (hx : x ≤ 9223372036854775807) W (hp : Pws W) (hC : Cip W c g n key t T) => fmask_any c g n key t T s.size r x W hp hn hkey hC ht hT h1 h2 hr hx
  have HSZ := Lib.hid fun r (hr : r ≤ 9) W => sizes_any s.size r W (by omega) (by omega)
  have HJ := Lib.hid fun a b W (hp : Pws W) ha hb => fjoin_any s.size a b W hp h1 h2 ha hb
  have HP := Lib.hid hp
  have HC := Lib.hid hC
  have HN := Lib.hid hn
  have hsz : ((s.size : Nat) : Int) ≤ 32 := by omega
  clear hp hn hkey hC ht hT h1 h2 h hh i0 i1
  go_enter Tryz.func87, Tryz.ntmps87
  go_wp2_with (go_at_call 64; refine HH.out.mono ?_; rintro e w1 ⟨rfl, n1, rfl⟩)
  generalize hR : fbk (fM n key t T s.size) s.size 10 a b = R at *
  have HR := Lib.hid hR
  clear hR
  go_loopw [6, 7, 9] (fun u v i wr => ∃ (k : Nat) (p q : Int), k ≤ 10 ∧ i = .int .i64 ((k : Int) - 1) ∧ u = .int .i64 p ∧ v = .int .i64 q ∧ inP p (fd s.size k : Nat) = true ∧ inP q (fd s.size (k + 1) : Nat) = true ∧ fbk (fM n key t T s.size) s.size k p q = R ∧ Pws wr ∧ Cip wr c g n key t T ∧ Chg g w wr) (fun _ _ i _ => (intOf i + 1).toNat)
  case atStart => exact ⟨10, a, b, by decide, by go_num, rfl, rfl, HI.out.1, HI.out.2, HR.out, HP.out.drewN _, HC.out.drewN _, (Chg.refl _ _).drewN _⟩
  case round =>
    obtain ⟨k, p, q, hk, rfl, rfl, rfl, i2, i3, hfb, q1, q2, q3⟩ := hrel
    have Q1 := Lib.hid q1
    have Q2 := Lib.hid q2
    have Q3 := Lib.hid q3
    clear q1 q2 q3
    cases k with
    | zero =>
      have hz : ((0 : Nat) : Int) - 1 = -1 := rfl
      have hb2 := inP_le i2
      have hb3 := inP_le i3
      have HFB := Lib.hid (show (p, q) = R from hfb)
      have HJ2 := Lib.hid (HJ.out p q wr Q1.out (by omega) (by omega))
      clear hb2 hb3 i2 i3 hfb
      rw [hz]
      go_wp2_with (go_at_call 68; refine HJ2.out.mono ?_; rintro e w1 ⟨rfl, h1⟩; have H1 := Lib.hid h1; clear h1)
      go_ret2
      exact ⟨by rw [HE.out, ← HFB.out]; rfl, Q2.out.keep H1.out, Q3.out.thenBelow H1.out⟩
    | succ k =>
      have hz : ((k + 1 : Nat) : Int) - 1 = (k : Nat) := by omega
      have hki : (k : Int) ≤ 9 := by omega
      have hb2 := inP_le i2
      have HI3 := Lib.hid (show inP q (fd s.size k : Nat) = true by rw [← fd_two]; exact i3)
      have HI2 := Lib.hid i2
      have HFB := Lib.hid (show fbk (fM n key t T s.size) s.size k (sV q (fM n key t T s.size k p) (fd s.size k : Nat)) p = R from hfb)
      obtain ⟨x, rfl⟩ := Int.eq_ofNat_of_zero_le hb2.1
      have HMK2 := Lib.hid (HMK.out k x (by omega) (by omega) wr Q1.out Q2.out)
      rw [show (fmk n key t T s.size k x : Int) = fM n key t T s.size k (x : Int) from rfl] at HMK2
      have HMI := Lib.hid (HM.out k x)
      have HSK := Lib.hid (HSZ.out k (by omega) wr)
      have HKL := Lib.hid (show k ≤ 10 by omega)
      generalize fM n key t T s.size k (x : Int) = y at *
      have HZ := Lib.hid (show fd s.size k = fd s.size k from rfl)
      obtain ⟨z, hz2⟩ : ∃ z, fd s.size k = z := ⟨_, rfl⟩
      rw [hz2] at HFB HSK
      have HZZ := Lib.hid hz2
      clear hb2 i2 i3 hfb hz2 HZ
      rw [hz]
      go_wp2_with (first | (go_at_call 65; refine HSK.out.mono ?_; rintro e w1 ⟨rfl, rfl⟩) | (go_at_call 67; refine HMK2.out.mono ?_; rintro e w2 ⟨rfl, h1, h2⟩; have H1 := Lib.hid h1; have H2 := Lib.hid h2; have HP2 := Lib.hid (Q1.out.cip Q2.out HN.out h2); clear h1 h2) | (go_at_call 128; refine (xsub_any q y (z : Nat) w2 HP2.out).mono ?_; rintro e w3 ⟨rfl, h3⟩; have H3 := Lib.hid h3; clear h3))
      go_roundw
      case rel => exact ⟨k, _, _, HKL.out, by go_num, rfl, rfl, by rw [← HZZ.out]; exact sV_in HI3.out HMI.out, HI2.out, HFB.out, HP2.out.keep H3.out, H1.out.keep H3.out, (Q3.out.trans H2.out).thenBelow H3.out⟩
      case measure => simp [intOf]
end Go.Proofs.YthmlcmlpmolmoaaGreatDoor
/- Mathematics of layer 10: what is encrypted is decrypted. -/
namespace Go.Proofs.YthmlcmlpmolmoaaGreatDoor
open Go.RowKit

theorem vE_dig {s : ByteArray} (h1 : 1 ≤ s.size) (h2 : s.size ≤ 16) (hd : s.data.toList.all isDig = true) : vE s = 0 := by
  unfold vE
  rw [if_neg (by omega), if_neg (by omega)]
  have hf : faultOf s.data.toList = 0 := fault_ok hd (by rw [Array.length_toList]; show s.size ≤ 999; omega)
  have ha := acc_lt s hd s.size
  have ht := ten_le s.size (by omega)
  unfold dnE
  rw [if_neg (by rw [hf]; decide), if_neg (by omega), if_neg (by omega)]
theorem dig_vE {s : ByteArray} (h : vE s = 0) : s.data.toList.all isDig = true := by
  unfold vE at h
  by_cases h0 : s.size = 0
  · rw [if_pos h0] at h; cases h
  · rw [if_neg h0] at h
    by_cases h1 : 16 < s.size
    · rw [if_pos h1] at h; cases h
    · rw [if_neg h1] at h
      by_cases hf : faultOf s.data.toList = 0
      · exact (fault_zero hf).1
      · unfold dnE at h; rw [if_pos hf] at h; exact absurd h hf
theorem vE_four {s : ByteArray} (h1 : 1 ≤ s.size) (h2 : s.size ≤ 16) (h : vE s ≠ 0) : vE s = 4 := by
  by_cases hd : s.data.toList.all isDig = true
  · exact absurd (vE_dig h1 h2 hd) h
  · unfold vE
    rw [if_neg (by omega), if_neg (by omega)]
    have hf : faultOf s.data.toList = 4 := by unfold faultOf; rw [if_neg hd]
    unfold dnE
    rw [hf, if_pos (by decide)]
theorem lo_hi (s : ByteArray) : loS s ++ hiS s = s := by
  unfold loS hiS
  rw [ByteArray.extract_append_extract, Nat.zero_min, Nat.max_eq_right (Nat.div_le_self _ _)]
  exact ByteArray.extract_zero_size
theorem lo_size {s : ByteArray} : (loS s).size = fd s.size 0 := by show (s.extract 0 (s.size / 2)).size = s.size / 2; rw [ByteArray.size_extract]; omega
theorem hi_size {s : ByteArray} : (hiS s).size = fd s.size 1 := by show (s.extract (s.size / 2) s.size).size = s.size - s.size / 2; rw [ByteArray.size_extract]; omega
theorem dig_cat (a b : ByteArray) : (a ++ b).data.toList.all isDig = (a.data.toList.all isDig && b.data.toList.all isDig) := by
  rw [ByteArray.data_append, Array.toList_append, List.all_append]
/-- all right: a text of digits -/
theorem hE_zero {s : ByteArray} (h1 : 6 ≤ s.size) (h2 : s.size ≤ 32) : hE s = 0 ↔ s.data.toList.all isDig = true := by
  have f0 := fd_le 0 h1 h2
  have f1 := fd_le 1 h1 h2
  constructor
  · intro h
    obtain ⟨a, b, _⟩ := halves_in h1 h2 h
    rw [← lo_hi s, dig_cat, dig_vE a, dig_vE b]; rfl
  · intro h
    rw [← lo_hi s, dig_cat, Bool.and_eq_true] at h
    unfold hE
    rw [if_neg (by omega), vE_dig (by rw [lo_size]; omega) (by rw [lo_size]; omega) h.1, if_neg (by decide)]
    exact vE_dig (by rw [hi_size]; omega) (by rw [hi_size]; omega) h.2
theorem hE_four {s : ByteArray} (h1 : 6 ≤ s.size) (h2 : s.size ≤ 32) (h : hE s ≠ 0) : hE s = 4 := by
  have f0 := fd_le 0 h1 h2
  have f1 := fd_le 1 h1 h2
  unfold hE at h ⊢
  rw [if_neg (by omega)] at h ⊢
  by_cases ha : vE (loS s) = 0
  · rw [if_neg (by rw [ha]; decide)] at h ⊢
    exact vE_four (by rw [hi_size]; omega) (by rw [hi_size]; omega) h
  · rw [if_pos ha] at h ⊢
    exact vE_four (by rw [lo_size]; omega) (by rw [lo_size]; omega) h
/-- two values in one text, and its halves -/
theorem fcat_in {N : Nat} {a b : Int} (h1 : 6 ≤ N) (h2 : N ≤ 32) (ha : inP a (fd N 0 : Nat) = true) (hb : inP b (fd N 1 : Nat) = true) :
    (fcat N a b).size = N ∧ hE (fcat N a b) = 0 ∧ vV (loS (fcat N a b)) = a ∧ vV (hiS (fcat N a b)) = b := by
  obtain ⟨e0, v0, s0, _⟩ := back_value ha
  obtain ⟨e1, v1, s1, _⟩ := back_value hb
  have z0 : (gV a (fd N 0 : Nat)).size = fd N 0 := by omega
  have z1 : (gV b (fd N 1 : Nat)).size = fd N 1 := by omega
  have q0 : fd N 0 = N / 2 := rfl
  have q1 : fd N 1 = N - N / 2 := rfl
  have hsz : (fcat N a b).size = N := by unfold fcat; rw [ByteArray.size_append, z0, z1]; omega
  have hl : loS (fcat N a b) = gV a (fd N 0 : Nat) := by
    unfold loS
    rw [hsz]
    exact ByteArray.extract_append_eq_left (by rw [z0, q0])
  have hh : hiS (fcat N a b) = gV b (fd N 1 : Nat) := by
    unfold hiS
    rw [hsz]
    exact ByteArray.extract_append_eq_right (by rw [z0, q0]) (by rw [z0, z1]; omega)
  refine ⟨hsz, ?_, by rw [hl, v0], by rw [hh, v1]⟩
  unfold hE
  rw [hsz, if_neg (by omega), hl, hh, e0, if_neg (by decide), e1]
theorem fcat_self {s : ByteArray} (h1 : 6 ≤ s.size) (h2 : s.size ≤ 32) (h : hE s = 0) : fcat s.size (vV (loS s)) (vV (hiS s)) = s := by
  obtain ⟨a, b, c, d, _⟩ := halves_in h1 h2 h
  unfold fcat
  rw [← c, ← d, (back_text a).2.1, (back_text b).2.1, lo_hi]
theorem encV_in {M : Nat → Int → Int} {s : ByteArray} (hM : MIn M s.size) (h1 : 6 ≤ s.size) (h2 : s.size ≤ 32) (h : hE s = 0) : (encV M s).size = s.size ∧ hE (encV M s) = 0 ∧ decV M (encV M s) = s := by
  obtain ⟨_, _, _, _, i0, i1⟩ := halves_in h1 h2 h
  obtain ⟨j0, j1⟩ := fgo_in hM i0 i1 10
  obtain ⟨k0, k1, k2, k3⟩ := fcat_in h1 h2 (show inP _ (fd s.size 0 : Nat) = true from j0) (show inP _ (fd s.size 1 : Nat) = true from j1)
  have e : encV M s = fcat s.size (fgo M s.size (vV (loS s)) (vV (hiS s)) 10).1 (fgo M s.size (vV (loS s)) (vV (hiS s)) 10).2 := if_pos h
  rw [e]
  refine ⟨k0, k1, ?_⟩
  unfold decV
  rw [if_pos k1, k0, k2, k3, fbk_fgo hM i0 i1 10]
  exact fcat_self h1 h2 h
theorem decV_in {M : Nat → Int → Int} {s : ByteArray} (hM : MIn M s.size) (h1 : 6 ≤ s.size) (h2 : s.size ≤ 32) (h : hE s = 0) : (decV M s).size = s.size ∧ hE (decV M s) = 0 ∧ encV M (decV M s) = s := by
  obtain ⟨_, _, _, _, i0, i1⟩ := halves_in h1 h2 h
  obtain ⟨j0, j1⟩ := fbk_in hM 10 _ _ i0 i1
  obtain ⟨k0, k1, k2, k3⟩ := fcat_in h1 h2 j0 j1
  have e : decV M s = fcat s.size (fbk M s.size 10 (vV (loS s)) (vV (hiS s))).1 (fbk M s.size 10 (vV (loS s)) (vV (hiS s))).2 := if_pos h
  rw [e]
  refine ⟨k0, k1, ?_⟩
  unfold encV
  rw [if_pos k1, k0, k2, k3, fgo_fbk hM 10 _ _ i0 i1]
  exact fcat_self h1 h2 h
end Go.Proofs.YthmlcmlpmolmoaaGreatDoor
/- Ciphers of layer 10 as callers use them. -/
namespace Go.Proofs.YthmlcmlpmolmoaaGreatDoor
set_option maxRecDepth 100000
open Go.RowKit

/-- a cipher that was made since w0 -/
structure Cu (w0 : World) (c g n : Nat) (key : Nat → Nat) (t : Nat) (T : Nat → Nat) (W : World) : Prop where
  cip : Cip W c g n key t T
  below : Below w0.heap.size w0 W
  pws : Pws W
  new : w0.heap.size ≤ g
theorem Cu.keep {w0 W W' : World} {c g n : Nat} {key : Nat → Nat} {t : Nat} {T : Nat → Nat} (h : Cu w0 c g n key t T W) (hb : Below W.heap.size W W') : Cu w0 c g n key t T W' :=
  ⟨h.cip.keep hb, h.below.trans (hb.mono h.below.size), h.pws.keep hb, h.new⟩
theorem Cu.drewN {w0 W : World} {c g n : Nat} {key : Nat → Nat} {t : Nat} {T : Nat → Nat} (h : Cu w0 c g n key t T W) (k : Nat) : Cu w0 c g n key t T (W.drewN k) := ⟨h.cip.drewN k, drawn h.below k, h.pws.drewN k, h.new⟩
theorem Cu.next {w0 W W' : World} {c g n : Nat} {key : Nat → Nat} {t : Nat} {T : Nat → Nat} (h : Cu w0 c g n key t T W) (hn : n = 4 ∨ n = 8) (h1 : Cip W' c g n key t T) (h2 : Chg g W W') : Cu w0 c g n key t T W' :=
  ⟨h1, h.below.trans (h2.below h.below.size h.new), h.pws.cip h.cip hn h2, h.new⟩
/-- what a key and a tweak must be -/
structure Kt (n : Nat) (key : Nat → Nat) (t : Nat) (T : Nat → Nat) : Prop where
  hn : n = 4 ∨ n = 8
  key : By (4 * n) key
  t16 : t ≤ 16
  tw : By t T
/-- any text, encrypted -/
def encS (n : Nat) (key : Nat → Nat) (t : Nat) (T : Nat → Nat) (s : ByteArray) : ByteArray := encV (fM n key t T s.size) s
def decS (n : Nat) (key : Nat → Nat) (t : Nat) (T : Nat → Nat) (s : ByteArray) : ByteArray := decV (fM n key t T s.size) s
theorem hE_one {s : ByteArray} (h : s.size < 6 ∨ 32 < s.size) : hE s = 1 := if_pos h
theorem encU {w0 W : World} {c g n : Nat} {key : Nat → Nat} {t : Nat} {T : Nat → Nat} (k : Kt n key t T) (s : ByteArray) (hs : s.size ≤ maxLen) (h : Cu w0 c g n key t T W) :
    Calls Tryz.prog 34 #[.pointer (some ⟨c, 0, none⟩), .string s] W fun e W' => e = .returned (.tuple #[.string (encS n key t T s), .int .i64 (hE s)]) ∧ Cu w0 c g n key t T W' := by
  by_cases hl : s.size < 6 ∨ 32 < s.size
  · have he : encS n key t T s = ⟨#[]⟩ := if_neg (by rw [hE_one hl]; decide)
    refine (enc_bad c s W hs hl).mono ?_
    rintro e W' ⟨rfl, rfl⟩
    exact ⟨by rw [he, hE_one hl], h⟩
  · by_cases he : hE s = 0
    · refine (fenc_any c g n key t T s W h.pws k.hn k.key h.cip k.t16 k.tw (by omega) (by omega) he).mono ?_
      rintro e W' ⟨rfl, h1, h2⟩
      exact ⟨by rw [he]; rfl, h.next k.hn h1 h2⟩
    · have hx : encS n key t T s = ⟨#[]⟩ := if_neg he
      refine (enc_form c s W (by omega) (by omega) he).mono ?_
      rintro e W' ⟨rfl, m, rfl⟩
      exact ⟨by rw [hx], h.drewN m⟩
theorem decU {w0 W : World} {c g n : Nat} {key : Nat → Nat} {t : Nat} {T : Nat → Nat} (k : Kt n key t T) (s : ByteArray) (hs : s.size ≤ maxLen) (h : Cu w0 c g n key t T W) :
    Calls Tryz.prog 87 #[.pointer (some ⟨c, 0, none⟩), .string s] W fun e W' => e = .returned (.tuple #[.string (decS n key t T s), .int .i64 (hE s)]) ∧ Cu w0 c g n key t T W' := by
  by_cases hl : s.size < 6 ∨ 32 < s.size
  · have he : decS n key t T s = ⟨#[]⟩ := if_neg (by rw [hE_one hl]; decide)
    refine (dec_bad c s W hs hl).mono ?_
    rintro e W' ⟨rfl, rfl⟩
    exact ⟨by rw [he, hE_one hl], h⟩
  · by_cases he : hE s = 0
    · refine (fdec_any c g n key t T s W h.pws k.hn k.key h.cip k.t16 k.tw (by omega) (by omega) he).mono ?_
      rintro e W' ⟨rfl, h1, h2⟩
      exact ⟨by rw [he]; rfl, h.next k.hn h1 h2⟩
    · have hx : decS n key t T s = ⟨#[]⟩ := if_neg he
      refine (dec_form c s W (by omega) (by omega) he).mono ?_
      rintro e W' ⟨rfl, m, rfl⟩
      exact ⟨by rw [hx], h.drewN m⟩
theorem newU {w0 W : World} (n len cap : Nat) (key : Nat → Nat) (t c2 : Nat) (T : Nat → Nat) (A A2 : Option Addr) (k : Kt n key t T) (hl : 4 * n = len) (hA : SlB W A len key) (hA2 : SlB W A2 t T) (hnil : A2 = none → t = 0 ∧ c2 = 0) (hb : Below w0.heap.size w0 W) (hp : Pws W) :
    Calls Tryz.prog 33 #[.slice A len cap, .slice A2 t c2] W fun e W' => ∃ c g, e = .returned (.tuple #[.pointer (some ⟨c, 0, none⟩), .int .i64 0]) ∧ Cu w0 c g n key t T W' := by
  refine (fnew_any A len n cap key A2 t c2 T W k.hn hl hA k.t16 hA2 hnil).mono ?_
  rintro e W' ⟨c, g, rfl, h1, h2, h3⟩
  exact ⟨c, g, rfl, h2, hb.trans (h3.mono hb.size), hp.keep h3, Nat.le_trans hb.size h1⟩

theorem enc_fine {n : Nat} {key : Nat → Nat} {t : Nat} {T : Nat → Nat} {s : ByteArray} (h : hE s = 0) : 6 ≤ s.size ∧ s.size ≤ 32 ∧ (encS n key t T s).size = s.size ∧ hE (encS n key t T s) = 0 ∧ decS n key t T (encS n key t T s) = s ∧ (decS n key t T s).size = s.size ∧ hE (decS n key t T s) = 0 ∧ encS n key t T (decS n key t T s) = s := by
  have hl : ¬ (s.size < 6 ∨ 32 < s.size) := fun hl => by rw [hE_one hl] at h; cases h
  have hM : MIn (fM n key t T s.size) s.size := fun k x => fM_in (by omega) (by omega) k x
  obtain ⟨a, b, c⟩ := encV_in hM (by omega) (by omega) h
  obtain ⟨a', b', c'⟩ := decV_in hM (by omega) (by omega) h
  refine ⟨by omega, by omega, a, b, ?_, a', b', ?_⟩
  · unfold decS encS; rw [a]; exact c
  · unfold encS decS; rw [a']; exact c'
theorem encS_bad {n : Nat} {key : Nat → Nat} {t : Nat} {T : Nat → Nat} {s : ByteArray} (h : ¬ hE s = 0) : encS n key t T s = ⟨#[]⟩ := if_neg h
theorem decS_bad {n : Nat} {key : Nat → Nat} {t : Nat} {T : Nat → Nat} {s : ByteArray} (h : ¬ hE s = 0) : decS n key t T s = ⟨#[]⟩ := if_neg h

end Go.Proofs.YthmlcmlpmolmoaaGreatDoor
/- strings.Cut at one byte, at this dump. -/
namespace Go.Proofs.YthmlcmlpmolmoaaGreatDoor
open Go.Shelf Go.RowKit
def lays219_ren : Go.Shelf.Ren := ⟨fun | 219 => 162 | 217 => 195 | 225 => 196 | 224 => 197 | 267 => 198 | 266 => 218 | 314 => 219 | n => n, fun | 9 => 9 | 3 => 3 | 4 => 4 | 5 => 5 | 46 => 152 | 146 => 188 | 51 => 75 | n => n, fun | 1 => 3 | n => n⟩
theorem lays219 : Go.Proofs.Lays.n219 Tryz.prog lays219_ren := {
  mixed := by kernel_rfl
  f217 := Tryz.func195.trans (congrArg some (by kernel_rfl))
  f219 := Tryz.func162.trans (congrArg some (by kernel_rfl))
  f224 := Tryz.func197.trans (congrArg some (by kernel_rfl))
  f225 := Tryz.func196.trans (congrArg some (by kernel_rfl))
  f266 := Tryz.func218.trans (congrArg some (by kernel_rfl))
  f267 := Tryz.func198.trans (congrArg some (by kernel_rfl))
  f314 := Tryz.func219.trans (congrArg some (by kernel_rfl))
  t3 := Tryz.underlying3
  a3 := Tryz.isAgg3
  z3 := Tryz.sizeOf3
  v3 := Tryz.zeroValue3
  t4 := Tryz.underlying4
  a4 := Tryz.isAgg4
  z4 := Tryz.sizeOf4
  v4 := Tryz.zeroValue4
  t5 := Tryz.underlying5
  a5 := Tryz.isAgg5
  z5 := Tryz.sizeOf5
  v5 := Tryz.zeroValue5
  t9 := Tryz.underlying9
  a9 := Tryz.isAgg9
  z9 := Tryz.sizeOf9
  v9 := Tryz.zeroValue9
  t46 := Tryz.underlying152
  a46 := Tryz.isAgg152
  z46 := Tryz.sizeOf152
  v46 := Tryz.zeroValue152
  t51 := Tryz.underlying75
  a51 := Tryz.isAgg75
  z51 := Tryz.sizeOf75
  v51 := Tryz.zeroValue75
  t146 := Tryz.underlying188
  a146 := Tryz.isAgg188
  z146 := Tryz.sizeOf188
  v146 := Tryz.zeroValue188
  g1 := by kernel_rfl }

/-- the first place of a byte, or the length -/
def fst (s : ByteArray) (c : UInt8) : Nat := if Lib.indexByte s.data.toList c = -1 then s.size else (Lib.indexByte s.data.toList c).toNat

/-- ahead of the byte -/
def ahd (s : ByteArray) (c : UInt8) : ByteArray := s.extract 0 (fst s c)

/-- behind it -/
def bhd (s : ByteArray) (c : UInt8) : ByteArray := s.extract (fst s c + 1) s.size

/-- is it there? -/
def hasB (s : ByteArray) (c : UInt8) : Bool := !(Lib.indexByte s.data.toList c == -1)

theorem indexByte_lt {l : List UInt8} {c : UInt8} (h : Lib.indexByte l c ≠ -1) : 0 ≤ Lib.indexByte l c ∧ (Lib.indexByte l c).toNat < l.length := by
  have hg := Lib.indexByte_ge l c
  have h0 : 0 ≤ Lib.indexByte l c := by omega
  refine ⟨h0, ?_⟩
  obtain ⟨k, hk⟩ : ∃ k : Nat, Lib.indexByte l c = k := ⟨(Lib.indexByte l c).toNat, by omega⟩
  have := (Lib.indexByte_some hk).1
  have h1 := (List.getElem?_eq_some_iff.1 this).1
  rw [hk]; exact h1

set_option maxRecDepth 100000 in
theorem slcut_any (s : ByteArray) (c : UInt8) (w : World) (hs : s.size ≤ maxLen) :
    Calls Tryz.prog 130 #[.string s, .string ⟨#[c]⟩] w fun e w' => e = .returned (.tuple #[.string (ahd s c), .string (bhd s c), .bool (hasB s c)]) ∧ ∃ n, w' = w.drewN n := by
  unfold maxLen at hs
  by_cases h : Lib.indexByte s.data.toList c = -1
  · have HA := Lib.hid (show ahd s c = s by unfold ahd fst; rw [if_pos h]; apply ByteArray.ext; simp)
    have HB := Lib.hid (show bhd s c = ⟨#[]⟩ by unfold bhd fst; rw [if_pos h]; apply ByteArray.ext; simp)
    have HC := Lib.hid (show hasB s c = false by unfold hasB; rw [h]; rfl)
    have HI := Lib.hid h
    clear h
    go_enter Tryz.func130, Tryz.ntmps130
    go_wp2_with (go_at_call 162; refine (Any.stringslite_Index_one lays219 s c _).mono ?_; rintro e w' ⟨rfl, hw⟩; rw [hw, HI.out])
    go_ret3
    exact ⟨by rw [HA.out, HB.out, HC.out]; rfl, 0, rfl⟩
  · obtain ⟨h0, hlt⟩ := indexByte_lt h
    obtain ⟨k, hk⟩ : ∃ k : Nat, Lib.indexByte s.data.toList c = k := ⟨(Lib.indexByte s.data.toList c).toNat, by omega⟩
    have hks : k < s.size := by rw [hk] at hlt; rw [Array.length_toList] at hlt; exact hlt
    have HA := Lib.hid (show ahd s c = s.extract 0 k by unfold ahd fst; rw [if_neg h, hk]; rfl)
    have HB := Lib.hid (show bhd s c = s.extract (k + 1) s.size by unfold bhd fst; rw [if_neg h, hk]; rfl)
    have HC := Lib.hid (show hasB s c = true by unfold hasB; rw [hk]; rw [beq_eq_false_iff_ne.2 (by omega)]; rfl)
    have HI := Lib.hid hk
    clear h h0 hlt hk
    obtain ⟨q, eq, hq⟩ : ∃ q : Nat, (k : Int) + 1 = q ∧ q = k + 1 := ⟨k + 1, by omega, rfl⟩
    have hqs : q ≤ s.size := by omega
    have hk0 : decide ((0 : Int) ≤ k) = true := by simp
    have HQ := Lib.hid hq
    clear hq
    go_enter Tryz.func130, Tryz.ntmps130
    go_wp2_with (go_at_call 162; refine (Any.stringslite_Index_one lays219 s c _).mono ?_; rintro e w' ⟨rfl, hw⟩; rw [hw, HI.out])
    go_quiet (fail)
    go_wp2_with fail
    go_ret3
    exact ⟨by rw [HA.out, HB.out, HC.out, ← HQ.out]; rfl, _, rfl⟩
theorem scut_any (s : ByteArray) (c : UInt8) (w : World) (hs : s.size ≤ maxLen) :
    Calls Tryz.prog 94 #[.string s, .string ⟨#[c]⟩] w fun e w' => e = .returned (.tuple #[.string (ahd s c), .string (bhd s c), .bool (hasB s c)]) ∧ ∃ n, w' = w.drewN n := by
  go_enter Tryz.func94, Tryz.ntmps94
  go_wp2_with (go_at_call 130; refine (slcut_any s c _ hs).mono ?_; rintro e w' ⟨rfl, n, rfl⟩)
  go_ret3
  exact ⟨rfl, n, rfl⟩
end Go.Proofs.YthmlcmlpmolmoaaGreatDoor
/- strings.Repeat at this dump: so many stars. -/
namespace Go.Proofs.YthmlcmlpmolmoaaGreatDoor
open Go.Shelf Go.RowKit
def lays105_ren : Go.Shelf.Ren := ⟨fun | 105 => 56 | 212 => 96 | 99 => 97 | 165 => 98 | 166 => 99 | 170 => 100 | 169 => 101 | 263 => 132 | 264 => 133 | 206 => 134 | 240 => 135 | 241 => 136 | 276 => 163 | 277 => 164 | n => n, fun | 9 => 9 | 3 => 3 | 4 => 4 | 20 => 20 | 0 => 0 | 46 => 152 | 109 => 153 | 5 => 5 | 72 => 158 | 76 => 162 | 51 => 75 | 146 => 188 | 53 => 190 | 148 => 191 | 70 => 156 | 37 => 22 | 75 => 161 | 127 => 193 | 164 => 219 | 80 => 104 | n => n, fun | n => n⟩
theorem lays105 : Go.Proofs.Lays.n105 Tryz.prog lays105_ren := {
  mixed := by kernel_rfl
  f99 := Tryz.func97.trans (congrArg some (by kernel_rfl))
  f105 := Tryz.func56.trans (congrArg some (by kernel_rfl))
  f165 := Tryz.func98.trans (congrArg some (by kernel_rfl))
  f166 := Tryz.func99.trans (congrArg some (by kernel_rfl))
  f169 := Tryz.func101.trans (congrArg some (by kernel_rfl))
  f170 := Tryz.func100.trans (congrArg some (by kernel_rfl))
  f206 := Tryz.func134.trans (congrArg some (by kernel_rfl))
  f212 := Tryz.func96.trans (congrArg some (by kernel_rfl))
  f240 := Tryz.func135.trans (congrArg some (by kernel_rfl))
  f241 := Tryz.func136.trans (congrArg some (by kernel_rfl))
  f263 := Tryz.func132.trans (congrArg some (by kernel_rfl))
  f264 := Tryz.func133.trans (congrArg some (by kernel_rfl))
  f276 := Tryz.func163.trans (congrArg some (by kernel_rfl))
  f277 := Tryz.func164.trans (congrArg some (by kernel_rfl))
  t0 := Tryz.underlying0
  a0 := Tryz.isAgg0
  z0 := Tryz.sizeOf0
  v0 := Tryz.zeroValue0
  t3 := Tryz.underlying3
  a3 := Tryz.isAgg3
  z3 := Tryz.sizeOf3
  v3 := Tryz.zeroValue3
  t4 := Tryz.underlying4
  a4 := Tryz.isAgg4
  z4 := Tryz.sizeOf4
  v4 := Tryz.zeroValue4
  t5 := Tryz.underlying5
  a5 := Tryz.isAgg5
  z5 := Tryz.sizeOf5
  v5 := Tryz.zeroValue5
  t9 := Tryz.underlying9
  a9 := Tryz.isAgg9
  z9 := Tryz.sizeOf9
  v9 := Tryz.zeroValue9
  t20 := Tryz.underlying20
  a20 := Tryz.isAgg20
  z20 := Tryz.sizeOf20
  v20 := Tryz.zeroValue20
  t37 := Tryz.underlying22
  a37 := Tryz.isAgg22
  z37 := Tryz.sizeOf22
  v37 := Tryz.zeroValue22
  t46 := Tryz.underlying152
  a46 := Tryz.isAgg152
  z46 := Tryz.sizeOf152
  v46 := Tryz.zeroValue152
  t51 := Tryz.underlying75
  a51 := Tryz.isAgg75
  z51 := Tryz.sizeOf75
  v51 := Tryz.zeroValue75
  t53 := Tryz.underlying190
  a53 := Tryz.isAgg190
  z53 := Tryz.sizeOf190
  v53 := Tryz.zeroValue190
  t70 := Tryz.underlying156
  a70 := Tryz.isAgg156
  z70 := Tryz.sizeOf156
  v70 := Tryz.zeroValue156
  t72 := Tryz.underlying158
  a72 := Tryz.isAgg158
  z72 := Tryz.sizeOf158
  v72 := Tryz.zeroValue158
  t75 := Tryz.underlying161
  a75 := Tryz.isAgg161
  z75 := Tryz.sizeOf161
  v75 := Tryz.zeroValue161
  t76 := Tryz.underlying162
  a76 := Tryz.isAgg162
  z76 := Tryz.sizeOf162
  v76 := Tryz.zeroValue162
  t109 := Tryz.underlying153
  a109 := Tryz.isAgg153
  z109 := Tryz.sizeOf153
  v109 := Tryz.zeroValue153
  t127 := Tryz.underlying193
  a127 := Tryz.isAgg193
  z127 := Tryz.sizeOf193
  v127 := Tryz.zeroValue193
  t146 := Tryz.underlying188
  a146 := Tryz.isAgg188
  z146 := Tryz.sizeOf188
  v146 := Tryz.zeroValue188
  t148 := Tryz.underlying191
  a148 := Tryz.isAgg191
  z148 := Tryz.sizeOf191
  v148 := Tryz.zeroValue191
  t164 := Tryz.underlying219
  a164 := Tryz.isAgg219
  z164 := Tryz.sizeOf219
  v164 := Tryz.zeroValue219 }
theorem Builder_Extra_105 : Builder.Extra Tryz.prog lays105_ren := {
  sizeBuilder := by kernel_rfl
  liesBuilder := by kernel_rfl
  t5 := Tryz.underlying5
  a5 := Tryz.isAgg5
  z5 := Tryz.sizeOf5
  v5 := Tryz.zeroValue5
  infoByte := by kernel_rfl
  cellsByte := by kernel_rfl
  sizeByte := by kernel_rfl
  neB5 := by decide }

/-- so many asterisks -/
def stars (k : Nat) : ByteArray := ⟨(List.replicate k (42 : UInt8)).toArray⟩

theorem stars_size (k : Nat) : (stars k).size = k := by show (List.replicate k (42 : UInt8)).toArray.size = k; simp

theorem stars_any (c : Nat) (w : World) (hc : c ≤ 1000000) :
    Calls Tryz.prog 56 #[.string ⟨#[42]⟩, .int .i64 c] w fun e w' => e = .returned (.string (stars c)) ∧ Below w.heap.size w w' :=
  (Any.strings_Repeat lays105 Builder_Extra_105 ⟨#[42]⟩ c w (by omega) (by show 1 * c ≤ _; omega)).mono fun e w' ⟨he, hb⟩ => ⟨by
    rw [he]
    refine congrArg (fun s => Ending.returned (.string s)) ?_
    unfold stars
    rw [show ((⟨#[42]⟩ : ByteArray).data.toList) = List.replicate 1 42 from rfl, Lib.repeatL_replicate, Nat.mul_one], hb⟩
end Go.Proofs.YthmlcmlpmolmoaaGreatDoor
/- strconv.Itoa at this dump. -/
namespace Go.Proofs.YthmlcmlpmolmoaaGreatDoor
open Go.Shelf Go.RowKit
def laysM171_ren : Go.Shelf.Ren := ⟨fun | 171 => 72 | 243 => 115 | 246 => 147 | 283 => 176 | 284 => 177 | 285 => 178 | 286 => 179 | 129 => 169 | 317 => 204 | 318 => 205 | 319 => 206 | 320 => 207 | 337 => 228 | 338 => 229 | n => n, fun | 3 => 3 | 9 => 9 | 2 => 2 | 4 => 4 | 171 => 234 | 0 => 0 | 53 => 190 | 37 => 22 | 5 => 5 | 173 => 236 | 212 => 254 | 51 => 75 | 20 => 20 | 213 => 255 | 46 => 152 | 232 => 125 | 233 => 194 | n => n, fun | 17 => 5 | 18 => 6 | 19 => 7 | n => n⟩
theorem laysM171 : Go.Proofs.LaysM.n171 Tryz.prog laysM171_ren := {
  mixed := by kernel_rfl
  f129 := Tryz.func169.trans (congrArg some (by kernel_rfl))
  f171 := Tryz.func72.trans (congrArg some (by kernel_rfl))
  f243 := Tryz.func115.trans (congrArg some (by kernel_rfl))
  f246 := Tryz.func147.trans (congrArg some (by kernel_rfl))
  f283 := Tryz.func176.trans (congrArg some (by kernel_rfl))
  f284 := Tryz.func177.trans (congrArg some (by kernel_rfl))
  f285 := Tryz.func178.trans (congrArg some (by kernel_rfl))
  f286 := Tryz.func179.trans (congrArg some (by kernel_rfl))
  f317 := Tryz.func204.trans (congrArg some (by kernel_rfl))
  f318 := Tryz.func205.trans (congrArg some (by kernel_rfl))
  f319 := Tryz.func206.trans (congrArg some (by kernel_rfl))
  f320 := Tryz.func207.trans (congrArg some (by kernel_rfl))
  f337 := Tryz.func228.trans (congrArg some (by kernel_rfl))
  f338 := Tryz.func229.trans (congrArg some (by kernel_rfl))
  t0 := Tryz.underlying0
  a0 := Tryz.isAgg0
  z0 := Tryz.sizeOf0
  v0 := Tryz.zeroValue0
  t2 := Tryz.underlying2
  a2 := Tryz.isAgg2
  z2 := Tryz.sizeOf2
  v2 := Tryz.zeroValue2
  t3 := Tryz.underlying3
  a3 := Tryz.isAgg3
  z3 := Tryz.sizeOf3
  v3 := Tryz.zeroValue3
  t4 := Tryz.underlying4
  a4 := Tryz.isAgg4
  z4 := Tryz.sizeOf4
  v4 := Tryz.zeroValue4
  t5 := Tryz.underlying5
  a5 := Tryz.isAgg5
  z5 := Tryz.sizeOf5
  v5 := Tryz.zeroValue5
  t9 := Tryz.underlying9
  a9 := Tryz.isAgg9
  z9 := Tryz.sizeOf9
  v9 := Tryz.zeroValue9
  t20 := Tryz.underlying20
  a20 := Tryz.isAgg20
  z20 := Tryz.sizeOf20
  v20 := Tryz.zeroValue20
  t37 := Tryz.underlying22
  a37 := Tryz.isAgg22
  z37 := Tryz.sizeOf22
  v37 := Tryz.zeroValue22
  t46 := Tryz.underlying152
  a46 := Tryz.isAgg152
  z46 := Tryz.sizeOf152
  v46 := Tryz.zeroValue152
  t51 := Tryz.underlying75
  a51 := Tryz.isAgg75
  z51 := Tryz.sizeOf75
  v51 := Tryz.zeroValue75
  t53 := Tryz.underlying190
  a53 := Tryz.isAgg190
  z53 := Tryz.sizeOf190
  v53 := Tryz.zeroValue190
  t171 := Tryz.underlying234
  a171 := Tryz.isAgg234
  z171 := Tryz.sizeOf234
  v171 := Tryz.zeroValue234
  t173 := Tryz.underlying236
  a173 := Tryz.isAgg236
  z173 := Tryz.sizeOf236
  v173 := Tryz.zeroValue236
  t212 := Tryz.underlying254
  a212 := Tryz.isAgg254
  z212 := Tryz.sizeOf254
  v212 := Tryz.zeroValue254
  t213 := Tryz.underlying255
  a213 := Tryz.isAgg255
  z213 := Tryz.sizeOf255
  t232 := Tryz.underlying125
  a232 := Tryz.isAgg125
  z232 := Tryz.sizeOf125
  v232 := Tryz.zeroValue125
  t233 := Tryz.underlying194
  a233 := Tryz.isAgg194
  z233 := Tryz.sizeOf194
  v233 := Tryz.zeroValue194
  g17 := by kernel_rfl
  g18 := by kernel_rfl
  g19 := by kernel_rfl
  i0 := by kernel_rfl
  i2 := by kernel_rfl
  i3 := by kernel_rfl
  i4 := by kernel_rfl
  i5 := by kernel_rfl
  i9 := by kernel_rfl
  i20 := by kernel_rfl
  i37 := by kernel_rfl
  i46 := by kernel_rfl
  i51 := by kernel_rfl
  i53 := by kernel_rfl
  i171 := by kernel_rfl
  i173 := by kernel_rfl
  i212 := by kernel_rfl
  i232 := by kernel_rfl
  i233 := by kernel_rfl
  m17 := by kernel_rfl
  m18 := by kernel_rfl
  m19 := by kernel_rfl }

/-- a number's digits -/
def itoaB (n : Int) : ByteArray := ⟨(Lib.itoa n).toArray⟩

/-- the table that strconv reads -/
def P10 (w : World) : Prop := Lib.TabIs Tryz.prog w "internal/strconv.uint64pow10" .u64 Lib.pow10Tab

theorem gP10 : Tryz.prog.globalNamed "internal/strconv.uint64pow10" = some 5 := by kernel_rfl

theorem P10.lt {w : World} (h : P10 w) : 5 < w.heap.size := block_lt (h.cell gP10 0 (by decide))

theorem P10.keep {w w' : World} (h : P10 w) (hb : Below w.heap.size w w') : P10 w' := Joins.tab_stays gP10 h hb (Nat.le_refl _)

theorem itoa_any (n : Int) (w : World) (h0 : -9223372036854775808 ≤ n) (h1 : n ≤ 9223372036854775807) (hp : P10 w) :
    Calls Tryz.prog 72 #[.int .i64 n] w fun e w' => e = .returned (.string (itoaB n)) ∧ Below w.heap.size w w' :=
  (Any.strconv_Itoa laysM171 n h0 h1 w hp).mono fun _ _ ⟨he, k, os, hw⟩ => ⟨he, hw ▸ below_regrown w (w.drawn + k) os⟩
end Go.Proofs.YthmlcmlpmolmoaaGreatDoor
/- Texts of numbers. -/
namespace Go.Proofs.YthmlcmlpmolmoaaGreatDoor
open Go.RowKit

theorem itoaB_size (n : Int) (h0 : -9223372036854775808 ≤ n) (h1 : n ≤ 9223372036854775807) : (itoaB n).size ≤ 21 := by
  unfold itoaB
  show ((Lib.itoa n).toArray).size ≤ 21
  rw [List.size_toArray]
  exact Lib.itoa_length_le n h0 h1

theorem app_list (a b : ByteArray) : (a ++ b).data.toList = a.data.toList ++ b.data.toList := by rw [ByteArray.data_append, Array.toList_append]

theorem ba_ext {a b : ByteArray} (h : a.data.toList = b.data.toList) : a = b := by
  apply ByteArray.ext; exact Array.ext' h

theorem itoaB_nat (n : Nat) : itoaB n = ⟨(Lib.decDigits n).toArray⟩ := by unfold itoaB; rw [Lib.itoa_nonneg]

end Go.Proofs.YthmlcmlpmolmoaaGreatDoor
