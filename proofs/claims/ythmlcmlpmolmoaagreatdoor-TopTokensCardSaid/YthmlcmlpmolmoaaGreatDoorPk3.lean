/- 10 texts in one, in their order. -/
import Derived.Test.YthmlcmlpmolmoaaGreatDoorPk2
import Derived.RangeFuncNested
import Derived.RangeFuncBound
import Derived.RangeFuncCalls
import Derived.RangeFuncLeaves
import Derived.Shelf.Abstract
import Derived.Shelf.RegionOpen
import Derived.OwnWalkIn
import Derived.TacticsInMore
import Derived.LoopNIn
import Derived.LoopIn
/- A row of rows of bytes that grows by append. -/
namespace Go.Proofs.YthmlcmlpmolmoaaGreatDoor
open Go.RowKit

/-- v holds k rows of len bytes each, in the call's own memory from base on -/
structure LR (base : Nat) (w : World) (v : Value) (k len : Nat) (S : Nat → Nat → Nat) (G C : Nat → Nat) : Prop where
  own : w.ownsRow base 22 1 v k ((List.range k).map fun j => .slice (some ⟨G j, 0, none⟩) len (C j))
  rows : ∀ j, j < k → RowX w (G j) 5 len (fun t => .int .u8 (S j t : Nat))
namespace LR
variable {base k len : Nat} {w w' : World} {v : Value} {S : Nat → Nat → Nat} {G C : Nat → Nat}
theorem nil (base : Nat) (w : World) (len : Nat) (S : Nat → Nat → Nat) (G C : Nat → Nat) : LR base w (.slice none 0 0) 0 len S G C := ⟨World.ownsRow_nil w base _ 1, fun _ hj => absurd hj (Nat.not_lt_zero _)⟩
theorem keepB {B : Nat} (h : LR base w v k len S G C) (hb : Below B w w') (hB : w.heap.size ≤ B) : LR base w' v k len S G C := by
  refine ⟨?_, fun j hj => (h.rows j hj).below hb (Nat.lt_of_lt_of_le (h.rows j hj).lt hB)⟩
  rcases h.own with ⟨h1, h2 | ⟨g, cap, cur, e, hg, hh, r⟩⟩
  · exact ⟨h1, Or.inl h2⟩
  · exact ⟨h1, Or.inr ⟨g, cap, cur, e, hg, (hb.block g (Nat.lt_of_lt_of_le (Array.getElem?_eq_some_iff.1 hh).1 hB)).trans hh, r⟩⟩
theorem keep (h : LR base w v k len S G C) (hb : Below w.heap.size w w') : LR base w' v k len S G C := h.keepB hb (Nat.le_refl _)
theorem alloc' (h : LR base w v k len S G C) (o : Obj) : LR base (w.alloc o) v k len S G C := h.keep ((Below.refl _ _).alloc (Nat.le_refl _) o)
/-- a block of another kind of cells, or none of its rows, may change -/
theorem chg {K : Nat} (h : LR base w v k len S G C) (hc : Chg K w w') (hK : ∀ j, j < k → G j ≠ K) (hT : ∀ c fr, w.heap[K]? ≠ some (.cells c 22 fr)) : LR base w' v k len S G C := by
  refine ⟨?_, fun j hj => (h.rows j hj).of_block (hc.block _ (h.rows j hj).lt (hK j hj))⟩
  rcases h.own with ⟨h1, h2 | ⟨g, cap, cur, e, hg, hh, r⟩⟩
  · exact ⟨h1, Or.inl h2⟩
  · exact ⟨h1, Or.inr ⟨g, cap, cur, e, hg, (hc.block g (Array.getElem?_eq_some_iff.1 hh).1 (fun e' => hT _ _ (e' ▸ hh))).trans hh, r⟩⟩
theorem base_le {B : Nat} (h : LR base w v k len S G C) (hB : B ≤ base) : LR B w v k len S G C := by
  refine ⟨?_, h.rows⟩
  rcases h.own with ⟨h1, h2 | ⟨g, cap, cur, e, hg, r⟩⟩
  · exact ⟨h1, Or.inl h2⟩
  · exact ⟨h1, Or.inr ⟨g, cap, cur, e, Nat.le_trans hB hg, r⟩⟩
theorem slice (h : LR base w v k len S G C) : ∃ A cap, v = .slice A k cap ∧ k ≤ cap ∧ (0 < k → ∃ g, A = some ⟨g, 0, none⟩ ∧ g < w.heap.size ∧ ∀ j, j < k → w.cell? ⟨g, j, none⟩ = some (.slice (some ⟨G j, 0, none⟩) len (C j))) := by
  have hown := h.own
  rcases hown.2 with ⟨rfl, hn⟩ | ⟨g, cap, cur, rfl, hg, hh, h1, r⟩
  · subst hn; exact ⟨none, 0, rfl, Nat.le_refl _, fun h => absurd h (Nat.lt_irrefl _)⟩
  · refine ⟨_, cap, rfl, h1, fun _ => ⟨g, rfl, (Array.getElem?_eq_some_iff.1 hh).1, fun j hj => ?_⟩⟩
    rw [hown.cellAt j (by omega), List.getElem?_map, List.getElem?_range hj]; rfl
end LR
theorem infoS' : (Tryz.prog.info? 22).map (fun i => (i.zero, i.size, i.bytes)) = some (some (.slice none 0 0), 1, 24) := by kernel_rfl
/-- append of one row -/
theorem wpList_appS {ops : Array Oper} {rest : List Oper} {o : Oper} {a : Act} {Q : Exit → Act → World → Prop} {w : World} (hgd : o.guard = none) (s x : Operand)
    (ho : o.op = .call { callee := .builtin .append, args := #[s, x], argTypes := #[32, 32] })
    (base : Nat) (v : Value) (k len : Nat) (S : Nat → Nat → Nat) (G C : Nat → Nat) (hs : a.eval s = v) (h : LR base w v k len S G C)
    (X T cT : Nat) (hx : a.eval x = .slice (some ⟨X, 0, none⟩) 1 1) (hX : w.cell? ⟨X, 0, none⟩ = some (.slice (some ⟨T, 0, none⟩) len cT)) (hT : RowX w T 5 len (fun t => .int .u8 (S k t : Nat))) (hk : k ≤ 1000) (hbase : base ≤ w.heap.size)
    (hq : ∀ v' w', LR base w' v' (k + 1) len S (fun j => if j = k then T else G j) (fun j => if j = k then cT else C j) → Below base w w' → wpList Tryz.prog ops Q rest (a.put o.dst v') w') : wpList Tryz.prog ops Q (o :: rest) a w := by
  obtain ⟨i, hi, hz, hsz, hb⟩ := info_parts infoS'
  refine wpList_append_own w hgd s x 32 ho base 22 i (.slice none 0 0) 1 24 Tryz.underlying32 hi hz hsz hb rfl (by decide) v k _ hs h.own ⟨X, 0, none⟩ 1 1 [.slice (some ⟨T, 0, none⟩) len cT] hx rfl ?_ ?_ (by unfold maxLen; omega) (by omega) hbase ?_
  · intro j u hj
    match j, hj with
    | 0, hj => simp at hj; subst hj; exact hX
  · intro u hu; simp at hu; subst hu; rfl
  · intro v' w' h1 h2 _
    have hb' : Below base w w' := (Below.refl base w).grown h2 hbase fun k hk => (h.own.lt k hk).1
    have keepRow : ∀ g f, RowX w g 5 len f → RowX w' g 5 len f := fun g f hr => hr.of_block (h2.block g hr.lt fun e => by
      rcases h.own.2 with ⟨rfl, _⟩ | ⟨g', cap, cur, rfl, hg, hh, _⟩
      · cases e
      · obtain rfl : g = g' := by simpa [Value.ownBlock] using e
        obtain ⟨c, fr, hc, _⟩ := hr
        rw [hh] at hc
        injection hc with hc
        injection hc with _ ht _
        exact absurd ht (by decide))
    refine hq v' w' ⟨?_, fun j hj => ?_⟩ hb'
    · rw [List.range_succ, List.map_append]
      have e1 : (List.range k).map (fun j => Value.slice (some ⟨G j, 0, none⟩) len (C j)) = (List.range k).map (fun j => Value.slice (some ⟨if j = k then T else G j, 0, none⟩) len (if j = k then cT else C j)) :=
        List.map_congr_left fun j hj => by
          have hne : ¬ j = k := Nat.ne_of_lt (List.mem_range.1 hj)
          rw [if_neg hne, if_neg hne]
      rw [← e1]
      simpa using h1
    · by_cases e : j = k
      · subst e; rw [if_pos rfl]; exact keepRow _ _ hT
      · rw [if_neg e]; exact keepRow _ _ (h.rows j (by omega))
/-- an own row of bytes, as a row -/
theorem OwnB.rowX {w : World} {base n : Nat} {v : Value} {f : Nat → Nat} (h : OwnB w base v n f) (hn : 0 < n) : ∃ g c, v = .slice (some ⟨g, 0, none⟩) n c ∧ base ≤ g ∧ n ≤ c ∧ RowX w g 5 n (fun t => .int .u8 (f t : Nat)) := by
  rcases h.2 with ⟨rfl, hx⟩ | ⟨g, cap, cur, rfl, hg, hh, h1, h2, h3, h4⟩
  · omega
  · refine ⟨g, cap, rfl, hg, h1, cur, (0, 0), hh, by omega, Or.inl rfl, fun i hi => ?_⟩
    have e := congrArg (fun l => l[i]?) h4
    simp only [Nat.mul_one, List.getElem?_take, if_pos hi] at e
    rw [bytesL_at hi] at e
    simpa using e
theorem RowX.arr {w : World} {g n : Nat} {f : Nat → Nat} (h : RowX w g 5 n (fun t => .int .u8 (f t : Nat))) : Arr w g 0 n f := fun j hj => by
  rw [Nat.zero_add]; exact ⟨h.cell hj, h.frozen hj⟩
theorem RowX.slB {w : World} {g n : Nat} {f : Nat → Nat} (h : RowX w g 5 n (fun t => .int .u8 (f t : Nat))) (hf : By n f) : SlB w (some ⟨g, 0, none⟩) n f := SlB.of_rowX h fun j hj => ⟨hf j hj, rfl⟩
end Go.Proofs.YthmlcmlpmolmoaaGreatDoor
/- Contracts of the reference's aes: round keys. -/
namespace Go.Proofs.YthmlcmlpmolmoaaGreatDoor
open Go.RowKit

theorem row4 (w : World) (y0 y1 y2 y3 : Nat) (f : Nat → Nat) (h0 : f 0 = y0) (h1 : f 1 = y1) (h2 : f 2 = y2) (h3 : f 3 = y3) :
    RowX (w.alloc (.cells #[.int .u8 (y0 : Nat), .int .u8 (y1 : Nat), .int .u8 (y2 : Nat), .int .u8 (y3 : Nat)] 5)) w.heap.size 5 4 (fun t => .int .u8 (f t : Nat)) := by
  subst h0 h1 h2 h3
  exact RowX.of_rowIs (World.rowIs_alloc w _ _ _ fun i hi => by
    rcases (show i = 0 ∨ i = 1 ∨ i = 2 ∨ i = 3 by have : i < 4 := hi; omega) with rfl | rfl | rfl | rfl <;> rfl)
/-- the words of a schedule -/
abbrev wordOf (S : Nat → Nat) (j t : Nat) : Nat := S (4 * j + t)
/-- the reference's round keys, told -/
def RRoundsP (n : Nat) (key : Nat → Nat) (w : World) (e : Ending) (w' : World) : Prop :=
  ∃ v G C, e = .returned v ∧ LR w.heap.size w' v (n + 7) 16 (fun j t => ks n key (16 * j + t)) G C ∧ Below w.heap.size w w'
set_option maxRecDepth 100000 in
set_option maxHeartbeats 4000000 in
theorem rrounds_any (A1 A2 : Option Addr) (n c1 c2 : Nat) (key : Nat → Nat) (w : World) (hn : n = 4 ∨ n = 8) (hc : 4 * n ≤ c1) (h1 : SlB w A1 (4 * n) key) (h2 : SlB w A2 256 box) :
    Calls Tryz.prog 154 #[.slice A1 (4 * n) c1, .slice A2 256 c2] w (RRoundsP n key w) := by
  obtain ⟨B1, o1, rfl, l1, e1⟩ := h1 (by omega)
  obtain ⟨B2, o2, rfl, l2, e2⟩ := h2 (by decide)
  have HS1 := Lib.hid h1
  have HY := Lib.hid (show By (4 * n) key from fun j hj => (e1 j hj).1)
  have L1 := Lib.hid l1
  have E2 := Lib.hid fun x (hx : x < 256) => (e2 x hx).2
  have L2 := Lib.hid l2
  have HN := Lib.hid hn
  have HC1 := Lib.hid hc
  have hn4 : (4 : Int) ≤ (n : Nat) := by omega
  have hn8 : ((n : Nat) : Int) ≤ 8 := by omega
  have hn0 : ¬ ((n : Nat) : Int) = 0 := by omega
  obtain ⟨l, hl⟩ : ∃ l, 4 * n = l := ⟨_, rfl⟩
  have HL := Lib.hid hl
  rw [hl]
  have hdiv : ((l : Nat) : Int) / 4 = (n : Nat) := by omega
  clear h1 h2 e1 e2 l1 l2 hn hc hl
  go_enter Tryz.func154, Tryz.ntmps154
  go_wp2_with fail
  go_loopw [6, 7] (fun v6 v7 wr => ∃ (i cap : Nat) (A : Option Addr) (G C : Nat → Nat), i ≤ 4 * (n + 7) ∧ v7 = .int .i64 (i : Nat) ∧ v6 = .slice A i cap ∧ LR w.heap.size wr (.slice A i cap) i 4 (wordOf (ks n key)) G C ∧ Below w.heap.size w wr) (fun _ v7 _ => 70 - (intOf v7).toNat)
  case atStart => exact ⟨0, 0, none, fun _ => 0, fun _ => 0, Nat.zero_le _, rfl, rfl, LR.nil _ _ _ _ _ _, Below.refl _ _⟩
  case round =>
    obtain ⟨i, cap, A, G, C, hi, rfl, rfl, h1, h2⟩ := hrel
    have H1 := Lib.hid h1
    have H2 := Lib.hid h2
    clear h1 h2
    by_cases hlt : i < 4 * (n + 7)
    · have hlti : (i : Int) < 4 * ((n : Int) + 7) := by omega
      by_cases hin : i < n
      · have hc4 : ¬ c1 = 4 * i := by have := HC1.out; omega
        have hcb : 0 ≤ 4 * (i : Int) + 4 ∧ 4 * (i : Int) + 4 ≤ (c1 : Nat) := by have := HC1.out; omega
        have HSL := Lib.hid (show SlB (wr.alloc (.cells #[] 5)) (some ⟨B1, o1 + 4 * i, none⟩) 4 (fun t => key (4 * i + t)) from fun _ => ⟨B1, o1 + 4 * i, rfl, Nat.lt_of_lt_of_le L1.out (Nat.le_trans H2.out.size (by simp)), fun j hj => ⟨HY.out _ (by omega), by
          rw [World.cell?_alloc_past _ _ _ (Nat.lt_of_lt_of_le L1.out H2.out.size), H2.out.cell (p := ⟨B1, _, none⟩) L1.out]
          obtain ⟨B, o, e, _, hcc⟩ := HS1.out (by omega)
          obtain ⟨rfl, rfl, _⟩ : B1 = B ∧ o1 = o ∧ True := by injection e with e; injection e with e1 e2; exact ⟨e1, e2, trivial⟩
          rw [Nat.add_assoc]
          exact (hcc (4 * i + j) (by omega)).2⟩⟩)
        have HBY := Lib.hid (show ∀ j, j < 4 → key (4 * i + j) < 256 from fun j hj => HY.out _ (by omega))
        have HKS := Lib.hid (show ∀ t, t < 4 → catB 0 (fun _ => 0) (fun t => key (4 * i + t)) t = wordOf (ks n key) i t from fun t ht => by
          unfold catB
          rw [if_neg (Nat.not_lt_zero _), Nat.sub_zero]
          exact (ks_key (by omega)).symm)
        have H44 := Lib.hid (show 4 * i + 4 - 4 * i = 4 by omega)
        have HSL := Lib.hid (show SlB (wr.alloc (.cells #[] 5)) (some ⟨B1, o1 + 4 * i, none⟩) (4 * i + 4 - 4 * i) (fun t => key (4 * i + t)) by rw [H44.out]; exact HSL.out)
        have HBY := Lib.hid (show ∀ j, j < 4 * i + 4 - 4 * i → key (4 * i + j) < 256 by rw [H44.out]; exact HBY.out)
        have T1 : OwnB (wr.alloc (.cells #[] 5)) wr.heap.size (.slice (some ⟨wr.heap.size, 0, none⟩) 0 0) 0 (fun _ => 0) := OwnB.empty wr _ _ (Nat.le_refl _)
        have T2 : wr.heap.size ≤ (wr.alloc (.cells #[] 5)).heap.size := by simp
        have T1 := Lib.hid T1
        have T2 := Lib.hid T2
        go_wp2_with (at_builtin; first | (refine wpList_appO rfl (.tmp 28) (.tmp 35) rfl wr.heap.size _ 0 (fun _ => 0) rfl T1.out (some ⟨B1, o1 + 4 * i, none⟩) (4 * i + 4 - 4 * i) (c1 - 4 * i) (fun t => key (4 * i + t)) rfl HSL.out (fun h => by cases h) (by omega) T2.out (fun j hj => absurd hj (Nat.not_lt_zero _)) HBY.out ?_; intro A2 c2' w2 ho2 _ _ hb2; rw [Nat.zero_add, H44.out] at ho2 ⊢; obtain ⟨T, cT, hv, hT1, hT2, hT3⟩ := OwnB.rowX ho2 (by decide); cases hv; have HT := Lib.hid (hT3.congr (g := fun t => .int .u8 (wordOf (ks n key) i t : Nat)) fun t ht => by rw [HKS.out t ht]); have HB2 := Lib.hid (((Below.refl wr.heap.size wr).alloc (Nat.le_refl _) (.cells #[] 5)).trans hb2); have HZ2 := Lib.hid (show w.heap.size ≤ (w2.alloc (.cells #[.slice (some ⟨T, 0, none⟩) 4 c2'] 22)).heap.size from Nat.le_trans H2.out.size (Nat.le_trans HB2.out.size (by simp))); clear ho2 hb2 hT3) | (go_must (refine wpList_appS rfl (.tmp 27) (.tmp 37) rfl w.heap.size _ i 4 _ G C rfl (H1.out.keep HB2.out |>.alloc' (.cells #[.slice (some ⟨T, 0, none⟩) 4 c2'] 22)) w2.heap.size T c2' rfl (World.cell?_alloc_at _ _ _ _ rfl) (HT.out.alloc _) (by omega) HZ2.out ?_); intro v3 w3 h3 hb3; have H3 := Lib.hid h3; have HB3 := Lib.hid (H2.out.trans ((HB2.out.mono H2.out.size).trans (((Below.refl w2.heap.size w2).alloc (Nat.le_refl _) _).mono (Nat.le_trans H2.out.size HB2.out.size) |>.trans hb3))); clear h3 hb3))
        obtain ⟨A3, cap3, hv3, _, _⟩ := H3.out.slice
        subst hv3
        clear hc4 hcb
        go_roundw
        case rel => exact ⟨i + 1, cap3, A3, _, _, by omega, by go_num, rfl, H3.out, HB3.out⟩
        case measure => simp [intOf]; omega
      · obtain ⟨i1, hi1⟩ : ∃ i1, i = i1 + 1 := ⟨i - 1, by have := HN.out; omega⟩
        obtain ⟨i2, hi2⟩ : ∃ i2, i = i2 + n := ⟨i - n, by omega⟩
        obtain ⟨A6, cap6, hv6, hcap6, hsl6⟩ := H1.out.slice
        obtain ⟨rfl, _, rfl⟩ : A = A6 ∧ True ∧ cap = cap6 := by injection hv6 with e1 e2 e3; exact ⟨e1, trivial, e3⟩
        obtain ⟨g6, rfl, hg6, hcl6⟩ := hsl6 (by omega)
        have HCL := Lib.hid hcl6
        have HG6 := Lib.hid hg6
        have hs1 : (i : Int) - 1 = (i1 : Nat) := by omega
        have hs2 : (i : Int) - (n : Nat) = (i2 : Nat) := by omega
        have hs2w : IntKind.i64.wrap ((i : Int) - (n : Nat)) = (i2 : Nat) := by rw [IntWalk.i64_in _ (by omega)]; omega
        have hi10 : (0 : Int) ≤ (i1 : Nat) := by omega
        have hi1l : ((i1 : Nat) : Int) < (i : Nat) := by omega
        have hi20 : (0 : Int) ≤ (i2 : Nat) := by omega
        have hi2l : ((i2 : Nat) : Int) < (i : Nat) := by have := HN.out; omega
        have HKB := Lib.hid fun x => ks_by (n := n) (key := key) (by have := HN.out; omega) HY.out x
        have hway : ((((i : Int) % (n : Nat) == 0) = false ∧ ((n : Int) == 8) = false ∧ ∀ j, kt n (ks n key) i j = ks n key (4 * i1 + j)) ∨ (((i : Int) % (n : Nat) == 0) = false ∧ ((n : Int) == 8) = true ∧ ((i : Int) % 8 == 4) = false ∧ ∀ j, kt n (ks n key) i j = ks n key (4 * i1 + j))) ∨
            (((i : Int) % (n : Nat) == 0) = false ∧ ((n : Int) == 8) = true ∧ ((i : Int) % 8 == 4) = true ∧ ∀ j, kt n (ks n key) i j = box (ks n key (4 * i1 + j))) ∨
            (((i : Int) % (n : Nat) == 0) = true ∧ ∀ j, kt n (ks n key) i j = box (ks n key (4 * i1 + (j + 1) % 4)) ^^^ (if j = 0 then gpow 2 (i / n - 1) else 0)) := by
          have e1 : i - 1 = i1 := by omega
          by_cases hm : i % n = 0
          · right; right
            refine ⟨by rw [beq_iff_eq]; omega, fun j => ?_⟩
            unfold kt
            rw [if_pos hm, e1]
          · have hm' : ((i : Int) % (n : Nat) == 0) = false := by rw [beq_eq_false_iff_ne]; omega
            by_cases h8 : n = 8
            · have h8' : ((n : Int) == 8) = true := by rw [beq_iff_eq]; omega
              by_cases h4 : i % 8 = 4
              · right; left
                refine ⟨hm', h8', by rw [beq_iff_eq]; omega, fun j => ?_⟩
                unfold kt
                rw [if_neg hm, if_pos ⟨h8, h4⟩, e1]
              · left; right
                refine ⟨hm', h8', by rw [beq_eq_false_iff_ne]; omega, fun j => ?_⟩
                unfold kt
                rw [if_neg hm, if_neg (fun e => h4 e.2), e1]
            · left; left
              refine ⟨hm', by rw [beq_eq_false_iff_ne]; omega, fun j => ?_⟩
              unfold kt
              rw [if_neg hm, if_neg (fun e => h8 e.1), e1]
        have HI1 := Lib.hid hi1
        have HI2 := Lib.hid hi2
        have HIN := Lib.hid hin
        have hcw := HCL.out i1 (by omega)
        have hcw0 : (wr.alloc (.cells #[] 5)).cell? ⟨g6, i1, none⟩ = some (.slice (some ⟨G i1, 0, none⟩) 4 (C i1)) := (World.cell?_alloc_past _ _ _ HG6.out).trans hcw
        have T1 := Lib.hid (show OwnB (wr.alloc (.cells #[] 5)) wr.heap.size (.slice (some ⟨wr.heap.size, 0, none⟩) 0 0) 0 (fun _ => 0) from OwnB.empty wr _ _ (Nat.le_refl _))
        have T2 := Lib.hid (show wr.heap.size ≤ (wr.alloc (.cells #[] 5)).heap.size by simp)
        have HSL := Lib.hid (((H1.out.rows i1 (by omega)).alloc (.cells #[] 5)).slB fun j _ => HKB.out _)
        clear hi1 hi2 hin hcl6 hg6 hsl6 hv6 hcw
        rcases hway with (⟨ht1, ht2, ht3⟩ | ⟨ht1, ht2, ht4, ht3⟩) | ⟨ht1, ht2, ht4, ht3⟩ | ⟨ht1, ht3⟩
        all_goals
          have HKT := Lib.hid ht3
          clear ht3
        focus
          go_wp2_with (at_builtin; refine wpList_appO rfl (.tmp 39) (.tmp 44) rfl wr.heap.size _ 0 (fun _ => 0) rfl T1.out (some ⟨G i1, 0, none⟩) 4 (C i1) (fun t => ks n key (4 * i1 + t)) rfl HSL.out (fun h => by cases h) (by omega) T2.out (fun j hj => absurd hj (Nat.not_lt_zero _)) (fun j _ => HKB.out _) ?_; intro A2 c2' w2 ho2 _ _ hb2; rw [Nat.zero_add] at ho2 ⊢; obtain ⟨T, cT, hv, hT1, hT2, hT3⟩ := OwnB.rowX ho2 (by decide); cases hv; have HT := Lib.hid (hT3.congr (g := fun t => .int .u8 (ks n key (4 * i1 + t) : Nat)) fun t ht => by unfold catB; rw [if_neg (Nat.not_lt_zero _), Nat.sub_zero]); have HTN := Lib.hid hT1; have HB2 := Lib.hid (((Below.refl wr.heap.size wr).alloc (Nat.le_refl _) (.cells #[] 5)).trans hb2); clear ho2 hb2 hT3 hT1 hT2; have HBW := Lib.hid (H2.out.trans (HB2.out.mono H2.out.size)))
          have HTW := Lib.hid (HT.out.congr (g := fun t => .int .u8 (kt n (ks n key) i t : Nat)) fun t _ => by rw [HKT.out t])
          have HRW := Lib.hid (H1.out.keep HB2.out)
          have HSW := Lib.hid (show T < w2.heap.size ∧ wr.heap.size ≤ T from ⟨HT.out.lt, HTN.out⟩)
          have HBW0 := HB2
          clear HT HB2 HTN HKT ht1 ht2 HBW
          generalize w2 = W at *
          generalize T = TB at *
        rotate_left
        focus
          go_wp2_with (at_builtin; refine wpList_appO rfl (.tmp 39) (.tmp 44) rfl wr.heap.size _ 0 (fun _ => 0) rfl T1.out (some ⟨G i1, 0, none⟩) 4 (C i1) (fun t => ks n key (4 * i1 + t)) rfl HSL.out (fun h => by cases h) (by omega) T2.out (fun j hj => absurd hj (Nat.not_lt_zero _)) (fun j _ => HKB.out _) ?_; intro A2 c2' w2 ho2 _ _ hb2; rw [Nat.zero_add] at ho2 ⊢; obtain ⟨T, cT, hv, hT1, hT2, hT3⟩ := OwnB.rowX ho2 (by decide); cases hv; have HT := Lib.hid (hT3.congr (g := fun t => .int .u8 (ks n key (4 * i1 + t) : Nat)) fun t ht => by unfold catB; rw [if_neg (Nat.not_lt_zero _), Nat.sub_zero]); have HTN := Lib.hid hT1; have HB2 := Lib.hid (((Below.refl wr.heap.size wr).alloc (Nat.le_refl _) (.cells #[] 5)).trans hb2); clear ho2 hb2 hT3 hT1 hT2; have HBW := Lib.hid (H2.out.trans (HB2.out.mono H2.out.size)))
          have HTW := Lib.hid (HT.out.congr (g := fun t => .int .u8 (kt n (ks n key) i t : Nat)) fun t _ => by rw [HKT.out t])
          have HRW := Lib.hid (H1.out.keep HB2.out)
          have HSW := Lib.hid (show T < w2.heap.size ∧ wr.heap.size ≤ T from ⟨HT.out.lt, HTN.out⟩)
          have HBW0 := HB2
          clear HT HB2 HTN HKT ht1 ht2 ht4 HBW
          generalize w2 = W at *
          generalize T = TB at *
        rotate_left
        focus
          have hx0 := HKB.out (4 * i1 + 0)
          have hx1 := HKB.out (4 * i1 + 1)
          have hx2 := HKB.out (4 * i1 + 2)
          have hx3 := HKB.out (4 * i1 + 3)
          have hxi0 : ((ks n key (4 * i1 + 0) : Nat) : Int) < 256 := by omega
          have hxi1 : ((ks n key (4 * i1 + 1) : Nat) : Int) < 256 := by omega
          have hxi2 : ((ks n key (4 * i1 + 2) : Nat) : Int) < 256 := by omega
          have hxi3 : ((ks n key (4 * i1 + 3) : Nat) : Int) < 256 := by omega
          go_wp2_with (at_builtin; refine wpList_appO rfl (.tmp 39) (.tmp 44) rfl wr.heap.size _ 0 (fun _ => 0) rfl T1.out (some ⟨G i1, 0, none⟩) 4 (C i1) (fun t => ks n key (4 * i1 + t)) rfl HSL.out (fun h => by cases h) (by omega) T2.out (fun j hj => absurd hj (Nat.not_lt_zero _)) (fun j _ => HKB.out _) ?_; intro A2 c2' w2 ho2 _ _ hb2; rw [Nat.zero_add] at ho2 ⊢; obtain ⟨T, cT, hv, hT1, hT2, hT3⟩ := OwnB.rowX ho2 (by decide); cases hv; have HT := Lib.hid (hT3.congr (g := fun t => .int .u8 (ks n key (4 * i1 + t) : Nat)) fun t ht => by unfold catB; rw [if_neg (Nat.not_lt_zero _), Nat.sub_zero]); have HTN := Lib.hid hT1; have HB2 := Lib.hid (((Below.refl wr.heap.size wr).alloc (Nat.le_refl _) (.cells #[] 5)).trans hb2); clear ho2 hb2 hT3 hT1 hT2; have HBW := Lib.hid (H2.out.trans (HB2.out.mono H2.out.size)); have hd0 := HT.out.cell (i := 0) (by decide); have hd1 := HT.out.cell (i := 1) (by decide); have hd2 := HT.out.cell (i := 2) (by decide); have hd3 := HT.out.cell (i := 3) (by decide); have hb0 := (HBW.out.cell (p := ⟨B2, o2 + ks n key (4 * i1 + 0), none⟩) L2.out).trans (E2.out _ (HKB.out (4 * i1 + 0))); have hb1 := (HBW.out.cell (p := ⟨B2, o2 + ks n key (4 * i1 + 1), none⟩) L2.out).trans (E2.out _ (HKB.out (4 * i1 + 1))); have hb2 := (HBW.out.cell (p := ⟨B2, o2 + ks n key (4 * i1 + 2), none⟩) L2.out).trans (E2.out _ (HKB.out (4 * i1 + 2))); have hb3 := (HBW.out.cell (p := ⟨B2, o2 + ks n key (4 * i1 + 3), none⟩) L2.out).trans (E2.out _ (HKB.out (4 * i1 + 3))))
          have HE0 := Lib.hid (show kt n (ks n key) i 0 = box (ks n key (4 * i1 + 0)) ∧ kt n (ks n key) i 1 = box (ks n key (4 * i1 + 1)) ∧ kt n (ks n key) i 2 = box (ks n key (4 * i1 + 2)) ∧ kt n (ks n key) i 3 = box (ks n key (4 * i1 + 3)) from ⟨HKT.out 0, HKT.out 1, HKT.out 2, HKT.out 3⟩)
          generalize box (ks n key (4 * i1 + 0)) = y0 at *
          generalize box (ks n key (4 * i1 + 1)) = y1 at *
          generalize box (ks n key (4 * i1 + 2)) = y2 at *
          generalize box (ks n key (4 * i1 + 3)) = y3 at *
          generalize ks n key (4 * i1 + 0) = x0 at *
          generalize ks n key (4 * i1 + 1) = x1 at *
          generalize ks n key (4 * i1 + 2) = x2 at *
          generalize ks n key (4 * i1 + 3) = x3 at *
          have HR0 := Lib.hid (show LR w.heap.size w2.drew _ i 4 _ G C from (H1.out.keep HB2.out).keep (Below.refl _ _).drew)
          have HB0 := Lib.hid (show Below wr.heap.size wr w2.drew from HB2.out.drew)
          refine wp_region_still_tail 24 (by kernel_rfl) (by kernel_rfl) ?_
          change wpStill _ _ w2.drew (fun a' => wpList _ _ _ _ a' w2.drew) _ _
          replace hd0 : w2.drew.cell? _ = _ := hd0
          replace hd1 : w2.drew.cell? _ = _ := hd1
          replace hd2 : w2.drew.cell? _ = _ := hd2
          replace hd3 : w2.drew.cell? _ = _ := hd3
          replace hb0 : w2.drew.cell? _ = _ := hb0
          replace hb1 : w2.drew.cell? _ = _ := hb1
          replace hb2 : w2.drew.cell? _ = _ := hb2
          replace hb3 : w2.drew.cell? _ = _ := hb3
          generalize w2.drew = Wd at *
          simp only [List.take_succ_cons, List.take_zero, List.drop_succ_cons, List.drop_zero]
          repeat still_step
          refine wpStill_nil ?_
          go_wp2_with fail
          have HTW := Lib.hid (row4 Wd y0 y1 y2 y3 (kt n (ks n key) i) HE0.out.1 HE0.out.2.1 HE0.out.2.2.1 HE0.out.2.2.2)
          have HRW := Lib.hid (HR0.out.alloc' (.cells #[.int .u8 (y0 : Nat), .int .u8 (y1 : Nat), .int .u8 (y2 : Nat), .int .u8 (y3 : Nat)] 5))
          have HBW0 := Lib.hid (HB0.out.alloc HB0.out.size (.cells #[.int .u8 (y0 : Nat), .int .u8 (y1 : Nat), .int .u8 (y2 : Nat), .int .u8 (y3 : Nat)] 5))
          have HSW := Lib.hid (show Wd.heap.size < (Wd.alloc (.cells #[.int .u8 (y0 : Nat), .int .u8 (y1 : Nat), .int .u8 (y2 : Nat), .int .u8 (y3 : Nat)] 5)).heap.size ∧ wr.heap.size ≤ Wd.heap.size from ⟨by simp, HB0.out.size⟩)
          generalize Wd.alloc (.cells #[.int .u8 (y0 : Nat), .int .u8 (y1 : Nat), .int .u8 (y2 : Nat), .int .u8 (y3 : Nat)] 5) = W at *
          generalize Wd.heap.size = TB at *
          clear HT HB2 HTN HKT HBW hd0 hd1 hd2 hd3 hb0 hb1 hb2 hb3 HE0 hx0 hx1 hx2 hx3 hxi0 hxi1 hxi2 hxi3 ht1 ht2 ht4 HR0 HB0
        rotate_left
        focus
          have hx0 := HKB.out (4 * i1 + 0)
          have hx1 := HKB.out (4 * i1 + 1)
          have hx2 := HKB.out (4 * i1 + 2)
          have hx3 := HKB.out (4 * i1 + 3)
          have hxi0 : ((ks n key (4 * i1 + 0) : Nat) : Int) < 256 := by omega
          have hxi1 : ((ks n key (4 * i1 + 1) : Nat) : Int) < 256 := by omega
          have hxi2 : ((ks n key (4 * i1 + 2) : Nat) : Int) < 256 := by omega
          have hxi3 : ((ks n key (4 * i1 + 3) : Nat) : Int) < 256 := by omega
          go_wp2_with (at_builtin; refine wpList_appO rfl (.tmp 39) (.tmp 44) rfl wr.heap.size _ 0 (fun _ => 0) rfl T1.out (some ⟨G i1, 0, none⟩) 4 (C i1) (fun t => ks n key (4 * i1 + t)) rfl HSL.out (fun h => by cases h) (by omega) T2.out (fun j hj => absurd hj (Nat.not_lt_zero _)) (fun j _ => HKB.out _) ?_; intro A2 c2' w2 ho2 _ _ hb2; rw [Nat.zero_add] at ho2 ⊢; obtain ⟨T, cT, hv, hT1, hT2, hT3⟩ := OwnB.rowX ho2 (by decide); cases hv; have HT := Lib.hid (hT3.congr (g := fun t => .int .u8 (ks n key (4 * i1 + t) : Nat)) fun t ht => by unfold catB; rw [if_neg (Nat.not_lt_zero _), Nat.sub_zero]); have HTN := Lib.hid hT1; have HB2 := Lib.hid (((Below.refl wr.heap.size wr).alloc (Nat.le_refl _) (.cells #[] 5)).trans hb2); clear ho2 hb2 hT3 hT1 hT2; have HBW := Lib.hid (H2.out.trans (HB2.out.mono H2.out.size)); have hd0 := HT.out.cell (i := 0) (by decide); have hd1 := HT.out.cell (i := 1) (by decide); have hd2 := HT.out.cell (i := 2) (by decide); have hd3 := HT.out.cell (i := 3) (by decide); have hb0 := (HBW.out.cell (p := ⟨B2, o2 + ks n key (4 * i1 + 0), none⟩) L2.out).trans (E2.out _ (HKB.out (4 * i1 + 0))); have hb1 := (HBW.out.cell (p := ⟨B2, o2 + ks n key (4 * i1 + 1), none⟩) L2.out).trans (E2.out _ (HKB.out (4 * i1 + 1))); have hb2 := (HBW.out.cell (p := ⟨B2, o2 + ks n key (4 * i1 + 2), none⟩) L2.out).trans (E2.out _ (HKB.out (4 * i1 + 2))); have hb3 := (HBW.out.cell (p := ⟨B2, o2 + ks n key (4 * i1 + 3), none⟩) L2.out).trans (E2.out _ (HKB.out (4 * i1 + 3))))
          have HE0 := Lib.hid (show kt n (ks n key) i 0 = box (ks n key (4 * i1 + 1)) ^^^ gpow 2 (i / n - 1) ∧ kt n (ks n key) i 1 = box (ks n key (4 * i1 + 2)) ∧ kt n (ks n key) i 2 = box (ks n key (4 * i1 + 3)) ∧ kt n (ks n key) i 3 = box (ks n key (4 * i1 + 0)) from
            ⟨by rw [HKT.out 0, if_pos rfl], by rw [HKT.out 1, if_neg (by decide), Nat.xor_zero], by rw [HKT.out 2, if_neg (by decide), Nat.xor_zero], by rw [HKT.out 3, if_neg (by decide), Nat.xor_zero]⟩)
          obtain ⟨q, hq⟩ : ∃ q, i / n - 1 = q := ⟨_, rfl⟩
          rw [hq] at HE0
          have hdv : ((i / n : Nat) : Int) = (i : Int) / (n : Nat) := by simp
          have hq1 : 1 ≤ i / n := by
            have := HIN.out
            rcases HN.out with h | h <;> subst h <;> omega
          have hq2 : i / n ≤ 60 := Nat.le_trans (Nat.div_le_self _ _) (by have := HN.out; omega)
          have HE := Lib.hid (show IntKind.i64.wrap (IntKind.i64.wrap ((i : Int) / (n : Nat)) - 1) = (q : Nat) by
            rw [← hdv, show IntKind.i64.wrap ((i / n : Nat) : Int) = ((q + 1 : Nat) : Int) by rw [IntWalk.i64_in _ (by omega)]; omega, IntWalk.i64_in _ (by omega)]; omega)
          have hnn : ¬ n = 0 := by have := HN.out; omega
          have hpl : gpow 2 q < 256 := gpow_lt (by decide) q
          have HPW := Lib.hid fun (t : Int) (ht : t = (q : Nat)) w => (show Calls Tryz.prog 190 #[.int .u8 2, .int .i64 t] w fun e w' => e = .returned (.int .u8 (gpow 2 q : Nat)) ∧ w = w' by subst ht; exact rpow_any 2 (q : Nat) w (by decide) (by omega))
          have hy1 := box_lt hx1
          generalize box (ks n key (4 * i1 + 0)) = y0 at *
          generalize box (ks n key (4 * i1 + 1)) = y1 at *
          generalize box (ks n key (4 * i1 + 2)) = y2 at *
          generalize box (ks n key (4 * i1 + 3)) = y3 at *
          generalize ks n key (4 * i1 + 0) = x0 at *
          generalize ks n key (4 * i1 + 1) = x1 at *
          generalize ks n key (4 * i1 + 2) = x2 at *
          generalize ks n key (4 * i1 + 3) = x3 at *
          generalize hgp : gpow 2 q = z at *
          have hyz := x8 hy1 hpl
          clear hdv hq1 hq2 hq hgp
          have HR0 := Lib.hid (show LR w.heap.size w2.drew _ i 4 _ G C from (H1.out.keep HB2.out).keep (Below.refl _ _).drew)
          have HB0 := Lib.hid (show Below wr.heap.size wr w2.drew from HB2.out.drew)
          refine wp_region_still_tail 30 (by kernel_rfl) (by kernel_rfl) ?_
          change wpStill _ _ w2.drew (fun a' => wpList _ _ _ _ a' w2.drew) _ _
          replace hd0 : w2.drew.cell? _ = _ := hd0
          replace hd1 : w2.drew.cell? _ = _ := hd1
          replace hd2 : w2.drew.cell? _ = _ := hd2
          replace hd3 : w2.drew.cell? _ = _ := hd3
          replace hb0 : w2.drew.cell? _ = _ := hb0
          replace hb1 : w2.drew.cell? _ = _ := hb1
          replace hb2 : w2.drew.cell? _ = _ := hb2
          replace hb3 : w2.drew.cell? _ = _ := hb3
          generalize w2.drew = Wd at *
          simp only [List.take_succ_cons, List.take_zero, List.drop_succ_cons, List.drop_zero]
          repeat still_step
          still_call (same_flip (HPW.out _ HE.out _))
          repeat still_step
          refine wpStill_nil ?_
          go_wp2_with fail
          have HTW := Lib.hid (row4 Wd (y1 ^^^ z) y2 y3 y0 (kt n (ks n key) i) HE0.out.1 HE0.out.2.1 HE0.out.2.2.1 HE0.out.2.2.2)
          have HRW := Lib.hid (HR0.out.alloc' (.cells #[.int .u8 ((y1 ^^^ z : Nat) : Int), .int .u8 (y2 : Nat), .int .u8 (y3 : Nat), .int .u8 (y0 : Nat)] 5))
          have HBW0 := Lib.hid (HB0.out.alloc HB0.out.size (.cells #[.int .u8 ((y1 ^^^ z : Nat) : Int), .int .u8 (y2 : Nat), .int .u8 (y3 : Nat), .int .u8 (y0 : Nat)] 5))
          have HSW := Lib.hid (show Wd.heap.size < (Wd.alloc (.cells #[.int .u8 ((y1 ^^^ z : Nat) : Int), .int .u8 (y2 : Nat), .int .u8 (y3 : Nat), .int .u8 (y0 : Nat)] 5)).heap.size ∧ wr.heap.size ≤ Wd.heap.size from ⟨by simp, HB0.out.size⟩)
          generalize Wd.alloc (.cells #[.int .u8 ((y1 ^^^ z : Nat) : Int), .int .u8 (y2 : Nat), .int .u8 (y3 : Nat), .int .u8 (y0 : Nat)] 5) = W at *
          generalize Wd.heap.size = TB at *
          clear HT HB2 HTN HKT HBW hd0 hd1 hd2 hd3 hb0 hb1 hb2 hb3 HE0 hx0 hx1 hx2 hx3 hxi0 hxi1 hxi2 hxi3 ht1 HPW HE hpl hyz hy1 HR0 HB0
        all_goals
          have HRT := Lib.hid fun j (hj : j < i) => (show G j ≠ TB from Nat.ne_of_lt (Nat.lt_of_lt_of_le (H1.out.rows j hj).lt HSW.out.2))
          have HCT := Lib.hid (show ∀ c fr, W.heap[TB]? ≠ some (.cells c 22 fr) from fun c fr e => by
            obtain ⟨c', fr', h', _⟩ := HTW.out
            rw [e] at h'
            injection h' with h'
            injection h' with _ ht _
            exact absurd ht (by decide))
          clear T1 T2 HSL hcw0 hs1 hi10 hi1l
          go_loopw [9] (fun v wx => ∃ k : Nat, k ≤ 4 ∧ v = .int .i64 k ∧ RowX wx TB 5 4 (fun j => .int .u8 ((if j < k then ks n key (4 * i + j) else kt n (ks n key) i j : Nat) : Int)) ∧ Chg TB W wx) (fun v _ => 4 - (intOf v).toNat)
          case atStart => exact ⟨0, by decide, rfl, HTW.out.congr fun j _ => by rw [if_neg (Nat.not_lt_zero _)], Chg.refl _ _⟩
          case round =>
            obtain ⟨k, hk, rfl, h1, h2⟩ := hrel
            have HRX := Lib.hid (HRW.out.chg h2 HRT.out HCT.out)
            have H5 := Lib.hid h1
            have H6 := Lib.hid h2
            clear h1 h2
            by_cases hlk : k < 4
            · have hc1 := H5.out.cell hlk
              have hf1 := H5.out.frozen hlk
              rw [if_neg (Nat.lt_irrefl k)] at hc1
              obtain ⟨A7, cap7, hv7, _, hsl7⟩ := HRX.out.slice
              obtain ⟨g7, hA7, _, hcl7⟩ := hsl7 (by have := HIN.out; have := HN.out; omega)
              obtain rfl : g6 = g7 := by
                rw [hA7] at hv7
                injection hv7 with e1 _ _
                injection e1 with e1
                injection e1
              have hc2 := hcl7 i2 (by have := HI2.out; have := HN.out; omega)
              have hc3 : wr.cell? ⟨G i2, k, none⟩ = some (.int .u8 (ks n key (4 * i2 + k) : Nat)) := (HRX.out.rows i2 (by have := HI2.out; have := HN.out; omega)).cell hlk
              have hxl := kt_by (n := n) (i := i) (j := k) (S := ks n key) (by have := HN.out; omega) (by have := HIN.out; omega) hlk (fun x _ => HKB.out x)
              have hyl := HKB.out (4 * i2 + k)
              have HX := Lib.hid (show kt n (ks n key) i k ^^^ ks n key (4 * i2 + k) = ks n key (4 * i + k) by
                rw [ks_next (by have := HN.out; omega) (by have := HIN.out; omega) hlt hlk]
                unfold nxt
                rw [show i - n = i2 by have := HI2.out; omega, Nat.xor_comm])
              have HM := Lib.hid (((H5.out.set k (.int .u8 ((kt n (ks n key) i k ^^^ ks n key (4 * i2 + k) : Nat) : Int))).congr (g := fun j => .int .u8 ((if j < k + 1 then ks n key (4 * i + j) else kt n (ks n key) i j : Nat) : Int)) fun j _ => by
                by_cases e : j = k
                · subst e; rw [if_pos rfl, if_pos (Nat.lt_succ_self _), HX.out]
                · rw [if_neg e]
                  by_cases h : j < k
                  · rw [if_pos h, if_pos (by omega)]
                  · rw [if_neg h, if_neg (by omega)]).drew)
              have HC := Lib.hid ((H6.out.setCell (a := ⟨TB, k, none⟩) (Or.inl rfl) (.int .u8 ((kt n (ks n key) i k ^^^ ks n key (4 * i2 + k) : Nat) : Int))).drew)
              clear hsl7 hcl7 hv7
              generalize kt n (ks n key) i k = x at *
              generalize ks n key (4 * i2 + k) = y at *
              have hxy := x8 hxl hyl
              go_wp2_with fail
              go_region
              all_goals
                generalize (wr.setCell ⟨TB, k, none⟩ (.int .u8 ((x ^^^ y : Nat) : Int))).drew = W5 at *
                clear hc1 hc2 hc3 hf1 HRX
                go_wp2_with fail
                go_roundw
                case rel => exact ⟨k + 1, by omega, by go_num, HM.out, HC.out⟩
                case measure => simp [intOf]; omega
            · obtain rfl : k = 4 := by omega
              have HTW5 := Lib.hid (H5.out.congr (g := fun t => .int .u8 (wordOf (ks n key) i t : Nat)) fun j hj => by rw [if_pos hj])
              have HB5 := Lib.hid (show Below w.heap.size w wr from H2.out.trans ((HBW0.out.mono H2.out.size).trans (H6.out.below (Nat.le_trans H2.out.size (Nat.le_trans HSW.out.2 (Nat.le_of_lt HSW.out.1))) (Nat.le_trans H2.out.size HSW.out.2))))
              have HZ5 := Lib.hid fun o => (show w.heap.size ≤ (wr.alloc o).heap.size from Nat.le_trans HB5.out.size (by simp))
              clear H5 hs2 hs2w hi20 hi2l
              go_wp2_with (at_builtin; go_must (refine wpList_appS rfl (.tmp 134) (.tmp 136) rfl w.heap.size _ i 4 _ G C rfl (HRX.out.alloc' _) wr.heap.size TB _ rfl (World.cell?_alloc_at _ _ _ _ rfl) (HTW5.out.alloc _) (by omega) (HZ5.out _) ?_); intro v3 w3 h3 hb3; have H3 := Lib.hid h3; have HB3 := Lib.hid ((HB5.out.alloc HB5.out.size _).trans hb3); clear h3 hb3)
              obtain ⟨A3, cap3, hv3, _, _⟩ := H3.out.slice
              subst hv3
              go_roundw
              case rel => exact ⟨i + 1, cap3, A3, _, _, by omega, by go_num, rfl, H3.out, HB3.out⟩
              case measure => simp [intOf]; omega
    · obtain ⟨A6, cap6, hv6, hcap6, hsl6⟩ := H1.out.slice
      obtain ⟨rfl, _, rfl⟩ : A = A6 ∧ True ∧ cap = cap6 := by injection hv6 with e1 e2 e3; exact ⟨e1, trivial, e3⟩
      obtain ⟨g6, rfl, hg6, hcl6⟩ := hsl6 (by have := HN.out; omega)
      have HIE := Lib.hid (show i = 4 * (n + 7) by omega)
      have HKB := Lib.hid fun x => ks_by (n := n) (key := key) (by have := HN.out; omega) HY.out x
      have hli : ¬ (i : Int) < 4 * ((n : Int) + 7) := by omega
      have HCL := Lib.hid fun W (h : Below wr.heap.size wr W) j (hj : j < i) => (h.cell (p := ⟨g6, j, none⟩) hg6).trans (hcl6 j hj)
      have HRS := Lib.hid fun W (h : Below wr.heap.size wr W) j (hj : j < i) => ((H1.out.rows j hj).below h (H1.out.rows j hj).lt).slB fun t _ => HKB.out (4 * j + t)
      have hi60 : i ≤ 60 := by have := HN.out; omega
      generalize hWr : wr = Wr at *
      clear hv6 hsl6 hcl6 hg6 hWr
      go_wp2_with fail
      go_loopw [10, 11] (fun v10 v11 wx => ∃ (m cap10 : Nat) (A10 : Option Addr) (G10 C10 : Nat → Nat), 4 * m ≤ i ∧ v11 = .int .i64 ((4 * m : Nat) : Int) ∧ v10 = .slice A10 m cap10 ∧ LR Wr.heap.size wx (.slice A10 m cap10) m 16 (fun j t => ks n key (16 * j + t)) G10 C10 ∧ Below Wr.heap.size Wr wx) (fun _ v11 _ => 70 - (intOf v11).toNat)
      case atStart => exact ⟨0, 0, none, fun _ => 0, fun _ => 0, Nat.zero_le _, rfl, rfl, LR.nil _ _ _ _ _ _, Below.refl _ _⟩
      case round =>
        obtain ⟨m, cap10, A10, G10, C10, hm, rfl, rfl, h1, h2⟩ := hrel
        have H3 := Lib.hid h1
        have H4 := Lib.hid h2
        clear h1 h2
        obtain ⟨p, hp⟩ : ∃ p, 4 * m = p := ⟨_, rfl⟩
        rw [hp]
        have HP := Lib.hid hp
        by_cases hlm : p < i
        · have hp4 : p + 4 ≤ i := by have := HIE.out; omega
          have hlm2 : (p : Int) < (i : Nat) := by omega
          generalize hW2 : wr = W2 at *
          clear hW2
          go_wp2_with fail
          go_loopw [12, 13] (fun v12 v13 wy => ∃ (k c12 : Nat) (A12 : Option Addr), k ≤ 4 ∧ v13 = .int .i64 (k : Nat) ∧ v12 = .slice A12 (4 * k) c12 ∧ OwnB wy W2.heap.size (.slice A12 (4 * k) c12) (4 * k) (fun t => ks n key (4 * p + t)) ∧ Below W2.heap.size W2 wy) (fun _ v13 _ => 4 - (intOf v13).toNat)
          case atStart => exact ⟨0, 0, none, by decide, rfl, rfl, OwnB.nil _ _ _, Below.refl _ _⟩
          case round =>
            obtain ⟨k, c12, A12, hk, rfl, rfl, h1, h2⟩ := hrel
            have H5 := Lib.hid h1
            have H6 := Lib.hid h2
            clear h1 h2
            by_cases hlk : k < 4
            · obtain ⟨j, hj⟩ : ∃ j, p + k = j := ⟨_, rfl⟩
              have hji : j < i := by omega
              have hjI : ((j : Nat) : Int) < (i : Nat) := by omega
              have hj0 : (0 : Int) ≤ (j : Nat) := by omega
              have hjs : (p : Int) + (k : Nat) = (j : Nat) := by omega
              have HBB := Lib.hid (show Below Wr.heap.size Wr wr from H4.out.trans (H6.out.mono H4.out.size))
              have hc1 := HCL.out wr HBB.out j hji
              have HS := Lib.hid (HRS.out wr HBB.out j hji)
              have HJ := Lib.hid hj
              clear hj
              go_wp2_with (at_builtin; go_must (refine wpList_appO rfl (.tmp 148) (.tmp 154) rfl W2.heap.size _ (4 * k) (fun t => ks n key (4 * p + t)) rfl H5.out (some ⟨G j, 0, none⟩) 4 (C j) (wordOf (ks n key) j) rfl HS.out (fun h => by cases h) (by omega) H6.out.size (fun t _ => HKB.out _) (fun t _ => HKB.out _) ?_); intro A2 c2' w2 ho2 _ hc2 hb2; have HO2 := Lib.hid (ho2.congr (g := fun t => ks n key (4 * p + t)) fun t ht => by
                unfold catB
                by_cases h : t < 4 * k
                · rw [if_pos h]
                · rw [if_neg h]; show ks n key (4 * j + (t - 4 * k)) = _; congr 1; have := HJ.out; omega); have HB2 := Lib.hid (H6.out.trans hb2); clear ho2 hb2 hc2)
              go_roundw
              case rel => exact ⟨k + 1, c2', A2, by omega, by go_num, rfl, HO2.out, HB2.out⟩
              case measure => simp [intOf]; omega
            · obtain rfl : k = 4 := by omega
              obtain ⟨T, cT, hv, hT1, hT2, hT3⟩ := OwnB.rowX H5.out (by decide)
              cases hv
              have HTW := Lib.hid (show RowX wr T 5 16 (fun t => .int .u8 (ks n key (16 * m + t) : Nat)) from RowX.congr hT3 fun t _ => by have := HP.out; rw [show 4 * p + t = 16 * m + t by omega])
              have HRW := Lib.hid (H3.out.keep H6.out)
              have HZ := Lib.hid fun o => (show Wr.heap.size ≤ (wr.alloc o).heap.size from Nat.le_trans H4.out.size (Nat.le_trans H6.out.size (by simp)))
              have HBW := Lib.hid (H4.out.trans (H6.out.mono H4.out.size))
              have hm20 : m ≤ 1000 := by have := HP.out; omega
              have HTN := Lib.hid hT1
              clear hT1 hT2 hT3
              go_wp2_with (at_builtin; go_must (refine wpList_appS rfl (.tmp 156) (.tmp 158) rfl Wr.heap.size _ m 16 (fun j t => ks n key (16 * j + t)) G10 C10 rfl (HRW.out.alloc' _) wr.heap.size T _ rfl (World.cell?_alloc_at _ _ _ _ rfl) (HTW.out.alloc _) hm20 (HZ.out _) ?_); intro v3 w3 h3 hb3; have H7 := Lib.hid h3; have H8 := Lib.hid ((HBW.out.alloc HBW.out.size _).trans hb3); clear h3 hb3)
              obtain ⟨A3, cap3, hv3, _, _⟩ := H7.out.slice
              subst hv3
              go_roundw
              case rel => exact ⟨m + 1, cap3, A3, _, _, by have := HP.out; omega, by have := HP.out; go_num, rfl, H7.out, H8.out⟩
              case measure => have := HP.out; simp [intOf]; omega
        · have hm7 : m = n + 7 := by have := HP.out; have := HIE.out; omega
          have HM7 := Lib.hid hm7
          have hlm2 : ¬ (p : Int) < (i : Nat) := by omega
          clear hm7
          go_wp2_with fail
          go_ret
          exact ⟨_, G10, C10, rfl, by rw [← HM7.out]; exact H3.out.base_le H2.out.size, H2.out.trans (H4.out.mono H2.out.size)⟩
end Go.Proofs.YthmlcmlpmolmoaaGreatDoor
/- Contracts of the reference's aes: keys and blocks. -/
namespace Go.Proofs.YthmlcmlpmolmoaaGreatDoor
open Go.RowKit

/-- a key of the reference's, at g -/
structure RKey (w : World) (g n : Nat) (key : Nat → Nat) : Prop where
  rounds : ∃ (L cap : Nat) (G C : Nat → Nat), w.cell? ⟨g, 0, none⟩ = some (.slice (some ⟨L, 0, none⟩) (n + 7) cap) ∧ L < w.heap.size ∧ ∀ j, j < n + 7 → w.cell? ⟨L, j, none⟩ = some (.slice (some ⟨G j, 0, none⟩) 16 (C j)) ∧ RowX w (G j) 5 16 (fun t => .int .u8 (ks n key (16 * j + t) : Nat))
  box : ∃ B, w.cell? ⟨g, 1, none⟩ = some (.slice (some ⟨B, 0, none⟩) 256 256) ∧ RowB w B 256 box
  unbox : ∃ U, w.cell? ⟨g, 2, none⟩ = some (.slice (some ⟨U, 0, none⟩) 256 256) ∧ RowB w U 256 unbox
theorem RKey.lt {w : World} {g n : Nat} {key : Nat → Nat} (h : RKey w g n key) : g < w.heap.size := by
  obtain ⟨B, hb, _⟩ := h.box
  exact block_lt hb
theorem RKey.keep {w w' : World} {g n : Nat} {key : Nat → Nat} (h : RKey w g n key) (hb : Below w.heap.size w w') : RKey w' g n key := by
  have hg := h.lt
  obtain ⟨⟨L, cap, G, C, h1, h2, h3⟩, ⟨B, h4, h5⟩, ⟨U, h6, h7⟩⟩ := h
  exact ⟨⟨L, cap, G, C, (hb.cell (p := ⟨g, 0, none⟩) hg).trans h1, Nat.lt_of_lt_of_le h2 hb.size, fun j hj => ⟨(hb.cell (p := ⟨L, j, none⟩) h2).trans (h3 j hj).1, (h3 j hj).2.keep hb⟩⟩,
    ⟨B, (hb.cell (p := ⟨g, 1, none⟩) hg).trans h4, h5.keep hb⟩, ⟨U, (hb.cell (p := ⟨g, 2, none⟩) hg).trans h6, h7.keep hb⟩⟩
theorem rnew_short (A : Option Addr) (len cap : Nat) (w : World) (hl : len ≠ 16) (hl2 : len ≠ 32) (_hl3 : len ≤ 140737488351232) :
    Calls Tryz.prog 121 #[.slice A len cap] w fun e w' => e = .returned (.tuple #[.pointer none, .int .i64 1]) ∧ w = w' := by
  have hb : ((len : Int) != 16) = true := by simp; omega
  have hb2 : ((len : Int) != 32) = true := by simp; omega
  go_enter Tryz.func121, Tryz.ntmps121
  go_wp2_with fail
  go_ret2
  exact ⟨rfl, rfl⟩
def RNewP (n : Nat) (key : Nat → Nat) (w : World) (e : Ending) (w' : World) : Prop :=
  ∃ g, e = .returned (.tuple #[.pointer (some ⟨g, 0, none⟩), .int .i64 0]) ∧ w.heap.size ≤ g ∧ RKey w' g n key ∧ Below w.heap.size w w'
set_option maxHeartbeats 800000 in
theorem rnew_any (A : Option Addr) (n cap : Nat) (key : Nat → Nat) (w : World) (hn : n = 4 ∨ n = 8) (hc : 4 * n ≤ cap) (hA : SlB w A (4 * n) key) :
    Calls Tryz.prog 121 #[.slice A (4 * n) cap] w (RNewP n key w) := by
  have HA := Lib.hid hA
  have HN := Lib.hid hn
  have HC := Lib.hid hc
  have HB0 := Lib.hid fun w => rboxes_any w
  obtain ⟨l, hl⟩ : ∃ l, 4 * n = l := ⟨_, rfl⟩
  have HL := Lib.hid hl
  have hb : (((l : Int) != 16) = true ∧ ((l : Int) != 32) = false) ∨ ((l : Int) != 16) = false := by
    rcases hn with rfl | rfl
    · right; simp; omega
    · left; constructor <;> simp <;> omega
  rw [hl]
  clear hA hn hl hc
  go_enter Tryz.func121, Tryz.ntmps121
  rcases hb with ⟨hb1, hb2⟩ | hb1
  all_goals
    go_wp2_with (first | (go_at_call 153; go_must (refine (HB0.out _).mono ?_); rintro e w1 ⟨rfl, h1, h2⟩; have H1 := Lib.hid h1; have H2 := Lib.hid h2; clear h1 h2) | (go_at_call 154; go_must (have hr := rrounds_any A (some ⟨w.heap.size, 0, none⟩) n cap 256 key w1 HN.out HC.out (HA.out.keep H2.out) (H1.out.slB0 (Nat.le_refl _) box_by)); rw [HL.out] at hr; refine hr.mono ?_; clear hr; rintro e w2 ⟨v, G, C, rfl, h3, h4⟩; obtain ⟨A3, cap3, rfl, _, hsl⟩ := h3.slice; obtain ⟨L, rfl, hL, hcl⟩ := hsl (by omega); have HCL := Lib.hid hcl; have HLL := Lib.hid hL; clear hsl hcl hL; have H3 := Lib.hid h3; have H4 := Lib.hid h4; clear h3 h4) | (go_at_call 155; go_must (refine (rback_any (some ⟨w.heap.size, 0, none⟩) 256 w2 ((H1.out.keep H4.out).slB0 (Nat.le_refl _) box_by)).mono ?_); rintro e w3 ⟨rfl, h5, h6⟩; have H5 := Lib.hid h5; have H6 := Lib.hid h6; clear h5 h6))
    have HR := Lib.hid (show ∀ o, RKey (w3.alloc (.cells #[.slice (some ⟨L, 0, none⟩) (n + 7) cap3, .slice (some ⟨w.heap.size, 0, none⟩) 256 256, .slice (some ⟨w2.heap.size, 0, none⟩) 256 256] o)) w3.heap.size n key from fun o => by
      have hk := (H6.out.trans (((Below.refl w3.heap.size w3).alloc (Nat.le_refl _) (.cells #[.slice (some ⟨L, 0, none⟩) (n + 7) cap3, .slice (some ⟨w.heap.size, 0, none⟩) 256 256, .slice (some ⟨w2.heap.size, 0, none⟩) 256 256] o)).mono H6.out.size))
      exact ⟨⟨L, cap3, G, C, (World.cell?_alloc_at _ _ _ _ rfl).trans rfl, Nat.lt_of_lt_of_le HLL.out hk.size, fun j hj => ⟨(hk.cell (p := ⟨L, j, none⟩) HLL.out).trans (HCL.out j hj), (H3.out.rows j hj).keep hk⟩⟩,
        ⟨w.heap.size, (World.cell?_alloc_at _ _ _ _ rfl).trans rfl, (H1.out.keep H4.out).keep hk⟩, ⟨w2.heap.size, (World.cell?_alloc_at _ _ _ _ rfl).trans rfl, H5.out.alloc _⟩⟩)
    have HBW := Lib.hid (show Below w.heap.size w w3 from H2.out.trans ((H4.out.mono H2.out.size).trans (H6.out.mono (Nat.le_trans H2.out.size H4.out.size))))
    go_ret2
    exact ⟨w3.heap.size, rfl, HBW.out.size, HR.out _, HBW.out.alloc HBW.out.size _⟩

/-- what the reference's encryption leaves -/
def RBlkP (r : Nat → Nat) (w : World) (e : Ending) (w' : World) : Prop :=
  ∃ st, e = .returned (.tuple #[.slice (some ⟨st, 0, none⟩) 16 16, .int .i64 0]) ∧ w.heap.size ≤ st ∧ RowB w' st 16 r ∧ Below w.heap.size w w'
theorem renc_short (g : Nat) (A : Option Addr) (len cap : Nat) (w : World) (hl : len ≠ 16) (_hl2 : len ≤ 140737488351232) :
    Calls Tryz.prog 160 #[.pointer (some ⟨g, 0, none⟩), .slice A len cap] w fun e w' => e = .returned (.tuple #[.slice none 0 0, .int .i64 1]) ∧ w = w' := by
  have hb : ((len : Int) != 16) = true := by simp; omega
  go_enter Tryz.func160, Tryz.ntmps160
  go_wp2_with fail
  go_ret2
  exact ⟨rfl, rfl⟩
theorem size_alloc1 (w : World) (o : Obj) : (w.alloc o).heap.size = w.heap.size + 1 := by simp
/-- four factors in memory -/
theorem four_fac (w : World) (t : TypeId) (a b c d : Nat) (ai bi ci di : Int) (ha : ai = (a : Nat)) (hb : bi = (b : Nat)) (hc : ci = (c : Nat)) (hd : di = (d : Nat)) (h : a < 256 ∧ b < 256 ∧ c < 256 ∧ d < 256) :
    ∀ k, k < 4 → fac a b c d k < 256 ∧ (w.alloc (.cells #[.int .i64 ai, .int .i64 bi, .int .i64 ci, .int .i64 di] t)).cell? ⟨w.heap.size, 0 + k, none⟩ = some (.int .i64 (fac a b c d k : Nat)) := fun k hk => by
  subst ha hb hc hd
  rcases (show k = 0 ∨ k = 1 ∨ k = 2 ∨ k = 3 by omega) with rfl | rfl | rfl | rfl
  · exact ⟨h.1, (World.cell?_alloc_at _ _ _ _ rfl).trans rfl⟩
  · exact ⟨h.2.1, (World.cell?_alloc_at _ _ _ _ rfl).trans rfl⟩
  · exact ⟨h.2.2.1, (World.cell?_alloc_at _ _ _ _ rfl).trans rfl⟩
  · exact ⟨h.2.2.2, (World.cell?_alloc_at _ _ _ _ rfl).trans rfl⟩
theorem rkey_bytes {n : Nat} {key : Nat → Nat} (hn : n = 4 ∨ n = 8) (hkey : By (4 * n) key) (j : Nat) : By 16 (fun t => ks n key (16 * j + t)) := fun _ _ => ks_by (by omega) hkey _
/-- the facts of a key at a later world -/
theorem RKey.at {w : World} {g n : Nat} {key : Nat → Nat} (h : RKey w g n key) : ∃ (L cap B U : Nat) (G C : Nat → Nat), ∀ w', Below w.heap.size w w' →
    w'.cell? ⟨g, 0, none⟩ = some (.slice (some ⟨L, 0, none⟩) (n + 7) cap) ∧ w'.cell? ⟨g, 1, none⟩ = some (.slice (some ⟨B, 0, none⟩) 256 256) ∧ w'.cell? ⟨g, 2, none⟩ = some (.slice (some ⟨U, 0, none⟩) 256 256) ∧
      RowB w' B 256 Go.Proofs.YthmlcmlpmolmoaaGreatDoor.box ∧ RowB w' U 256 Go.Proofs.YthmlcmlpmolmoaaGreatDoor.unbox ∧ ∀ j, j < n + 7 → w'.cell? ⟨L, j, none⟩ = some (.slice (some ⟨G j, 0, none⟩) 16 (C j)) ∧ RowX w' (G j) 5 16 (fun t => .int .u8 (ks n key (16 * j + t) : Nat)) := by
  have hg := h.lt
  obtain ⟨⟨L, cap, G, C, h1, h2, h3⟩, ⟨B, h4, h5⟩, ⟨U, h6, h7⟩⟩ := h
  exact ⟨L, cap, B, U, G, C, fun w' hb => ⟨(hb.cell (p := ⟨g, 0, none⟩) hg).trans h1, (hb.cell (p := ⟨g, 1, none⟩) hg).trans h4, (hb.cell (p := ⟨g, 2, none⟩) hg).trans h6, h5.keep hb, h7.keep hb, fun j hj => ⟨(hb.cell (p := ⟨L, j, none⟩) h2).trans (h3 j hj).1, (h3 j hj).2.keep hb⟩⟩⟩
set_option maxRecDepth 100000 in
set_option maxHeartbeats 1600000 in
theorem renc_any (g n : Nat) (key b : Nat → Nat) (A : Option Addr) (cap : Nat) (w : World) (hn : n = 4 ∨ n = 8) (hkey : By (4 * n) key) (hk : RKey w g n key) (hA : SlB w A 16 b) :
    Calls Tryz.prog 160 #[.pointer (some ⟨g, 0, none⟩), .slice A 16 cap] w (RBlkP (enc n (ks n key) b) w) := by
  have HKB := Lib.hid fun j => rkey_bytes hn hkey j
  have HSK := Lib.hid (show By (16 * (n + 7)) (ks n key) from fun j _ => ks_by (by omega) hkey j)
  have HBB := Lib.hid (show By 16 b from fun j hj => hA.byte hj)
  obtain ⟨L, capL, B, U, G, C, hat⟩ := hk.at
  have HAT := Lib.hid hat
  have HN := Lib.hid hn
  have HA := Lib.hid hA
  obtain ⟨f0, f1, f2, _, _, f3⟩ := hat w (Below.refl _ _)
  have f4 := (f3 0 (by omega)).1
  have HF4 := Lib.hid ((f3 0 (by omega)).2.slB (HKB.out 0))
  have hn7 : (0 : Int) < (n : Int) + 7 := by omega
  clear hn hkey hk hA hat f3
  go_enter Tryz.func160, Tryz.ntmps160
  go_wp2_with ((go_at_call 191; go_must (refine (rlay_any4 A (some ⟨G 0, 0, none⟩) cap (C 0) b _ w HA.out HF4.out).mono ?_); rintro e w1 ⟨rfl, h1, h2⟩; have H1 := Lib.hid h1; have H2 := Lib.hid h2; clear h1 h2))
  clear f0 f1 f2 f4 hn7
  go_loopw [6, 7] (fun v6 v7 wr => ∃ r st : Nat, r ≤ n + 6 ∧ v7 = .int .i64 ((r + 1 : Nat) : Int) ∧ v6 = .slice (some ⟨st, 0, none⟩) 16 16 ∧ w.heap.size ≤ st ∧ RowB wr st 16 (est n (ks n key) b r) ∧ Below w.heap.size w wr) (fun _ v7 _ => 30 - (intOf v7).toNat)
  case atStart => exact ⟨0, w.heap.size, by omega, rfl, rfl, Nat.le_refl _, H1.out, H2.out⟩
  case round =>
    obtain ⟨r, st, hr, rfl, rfl, hst, h1, h2⟩ := hrel
    have H1 := Lib.hid h1
    have H2 := Lib.hid h2
    have HST := Lib.hid hst
    have HBY := Lib.hid (est_by HSK.out HBB.out r hr)
    have HSB := Lib.hid (subs_by box_by 4 HBY.out)
    obtain ⟨f0, f1, f2, fb, _, f3⟩ := HAT.out wr h2
    have HBX := Lib.hid (fb.slB0 (Nat.le_refl _) box_by)
    clear h1 h2 fb f3 hst
    have hn8 : ((n : Nat) : Int) ≤ 8 := by have := HN.out; omega
    have hn0 : (0 : Int) ≤ (n : Nat) := by omega
    obtain ⟨q, hq⟩ : ∃ q, r + 1 = q := ⟨_, rfl⟩
    rw [hq]
    by_cases hlt : q < n + 7
    · have hqi : (q : Int) < (n : Int) + 7 := by omega
      have hq0 : (0 : Int) ≤ (q : Nat) := by omega
      have HQ := Lib.hid hq
      have HQ7 := Lib.hid hlt
      clear hq
      by_cases hmx : q < n + 6
      · have hmi : (q : Int) < (n : Int) + 7 - 1 := by omega
        have hmi2 : (q : Int) < (n : Int) + 6 := by omega
        have HE := Lib.hid (show ∀ j, mixc (subs box 4 (est n (ks n key) b r)) j ^^^ ks n key (16 * q + j) = est n (ks n key) b q j from fun j => by rw [← HQ.out]; show _ = addk _ _ (if r + 1 < n + 6 then _ else _) j; rw [if_pos (by have := HQ.out; omega)]; rfl)
        go_wp2_with (first | (go_at_call 193; go_must (refine (rswap_any (some ⟨st, 0, none⟩) (some ⟨B, 0, none⟩) 16 256 _ box wr (H1.out.slB0 (Nat.le_refl _) HBY.out) HBX.out).mono ?_); rintro e w2 ⟨rfl, h1, h2⟩; have H3 := Lib.hid h1; have H4 := Lib.hid (H2.out.trans (h2.mono H2.out.size)); clear h1 h2) | (go_at_call 192; go_must (refine (rshift_any (some ⟨wr.heap.size, 0, none⟩) 16 1 1 _ w2 (Or.inl ⟨rfl, rfl⟩) (H3.out.slB0 (Nat.le_refl _) (fun j hj => box_lt (HBY.out j hj)))).mono ?_); rintro e w3 ⟨rfl, h1, h2⟩; have H5 := Lib.hid (show RowB w3 w2.heap.size 16 (subs box 4 (est n (ks n key) b r)) from h1.congr fun j _ => rfl); have H6 := Lib.hid (H4.out.trans (h2.mono H4.out.size)); obtain ⟨a0, a1, a2, _, _, a3⟩ := HAT.out w3 H6.out; have aq := (a3 q HQ7.out).1; have HAQ := Lib.hid ((a3 q HQ7.out).2.slB (HKB.out q)); clear h1 h2 a3) | (go_at_call 194; go_must (refine (rmix_any (some ⟨w2.heap.size, 0, none⟩) 16 4 w3.heap.size 0 _ (fac 2 3 1 1) _ ((H5.out.alloc _).slB0 (Nat.le_refl _) HSB.out) (by simp) (four_fac w3 _ 2 3 1 1 2 3 1 1 rfl rfl rfl rfl ⟨by decide, by decide, by decide, by decide⟩)).mono ?_); rintro e w4 ⟨rfl, h1, h2⟩; rw [size_alloc1] at h1; have H7 := Lib.hid (h1.congr (f := mixc (subs box 4 (est n (ks n key) b r))) fun j hj => psum_mix HSB.out hj); have H8 := Lib.hid ((H6.out.alloc H6.out.size _).trans (h2.mono (Nat.le_trans H6.out.size (by simp)))); obtain ⟨c0, c1, c2, _, _, c3⟩ := HAT.out w4 H8.out; have cq := (c3 q HQ7.out).1; have HCQ := Lib.hid ((c3 q HQ7.out).2.slB (HKB.out q)); clear h1 h2 c3) | (go_at_call 191; go_must (refine (rlay_any4 _ (some ⟨G q, 0, none⟩) 16 (C q) (mixc (subs box 4 (est n (ks n key) b r))) _ w4 (H7.out.slB0 (Nat.le_refl _) (mixc_by HSB.out)) HCQ.out).mono ?_); rintro e w5 ⟨rfl, h1, h2⟩; have H9 := Lib.hid h1; have H10 := Lib.hid (H8.out.trans (h2.mono H8.out.size)); have HZ := Lib.hid H8.out.size; clear h1 h2))
        go_roundw
        case rel => exact ⟨q, w4.heap.size, by omega, by go_num, rfl, HZ.out, H9.out.congr fun j _ => HE.out j, H10.out⟩
        case measure => simp [intOf]; omega
      · have hmi : ¬ (q : Int) < (n : Int) + 7 - 1 := by omega
        have hmi2 : ¬ (q : Int) < (n : Int) + 6 := by omega
        have HE := Lib.hid (show ∀ j, subs box 4 (est n (ks n key) b r) j ^^^ ks n key (16 * q + j) = est n (ks n key) b q j from fun j => by rw [← HQ.out]; show _ = addk _ _ (if r + 1 < n + 6 then _ else _) j; rw [if_neg (by have := HQ.out; omega)]; rfl)
        go_wp2_with (first | (go_at_call 193; go_must (refine (rswap_any (some ⟨st, 0, none⟩) (some ⟨B, 0, none⟩) 16 256 _ box wr (H1.out.slB0 (Nat.le_refl _) HBY.out) HBX.out).mono ?_); rintro e w2 ⟨rfl, h1, h2⟩; have H3 := Lib.hid h1; have H4 := Lib.hid (H2.out.trans (h2.mono H2.out.size)); clear h1 h2) | (go_at_call 192; go_must (refine (rshift_any (some ⟨wr.heap.size, 0, none⟩) 16 1 1 _ w2 (Or.inl ⟨rfl, rfl⟩) (H3.out.slB0 (Nat.le_refl _) (fun j hj => box_lt (HBY.out j hj)))).mono ?_); rintro e w3 ⟨rfl, h1, h2⟩; have H5 := Lib.hid (show RowB w3 w2.heap.size 16 (subs box 4 (est n (ks n key) b r)) from h1.congr fun j _ => rfl); have H6 := Lib.hid (H4.out.trans (h2.mono H4.out.size)); obtain ⟨a0, a1, a2, _, _, a3⟩ := HAT.out w3 H6.out; have aq := (a3 q HQ7.out).1; have HAQ := Lib.hid ((a3 q HQ7.out).2.slB (HKB.out q)); clear h1 h2 a3) | (go_at_call 191; go_must (refine (rlay_any4 _ (some ⟨G q, 0, none⟩) 16 (C q) (subs box 4 (est n (ks n key) b r)) _ w3 (H5.out.slB0 (Nat.le_refl _) HSB.out) HAQ.out).mono ?_); rintro e w5 ⟨rfl, h1, h2⟩; have H9 := Lib.hid h1; have H10 := Lib.hid (H6.out.trans (h2.mono H6.out.size)); have HZ := Lib.hid H6.out.size; clear h1 h2))
        go_roundw
        case rel => exact ⟨q, w3.heap.size, by omega, by go_num, rfl, HZ.out, H9.out.congr fun j _ => HE.out j, H10.out⟩
        case measure => simp [intOf]; omega
    · obtain rfl : r = n + 6 := by omega
      have hqi : ¬ (q : Int) < (n : Int) + 7 := by omega
      clear hq
      go_wp2_with fail
      go_ret2
      exact ⟨st, rfl, HST.out, H1.out, H2.out⟩
end Go.Proofs.YthmlcmlpmolmoaaGreatDoor
/- Worlds that are alike but for some blocks. -/
namespace Go.Proofs.YthmlcmlpmolmoaaGreatDoor
open Go.RowKit
/-- w' is w but for the blocks of S and what is new -/
structure ChgS (S : Nat → Prop) (w w' : World) : Prop where
  os : w'.os = w.os
  tape : w'.tape = w.tape
  output : w'.output = w.output
  size : w.heap.size ≤ w'.heap.size
  block : ∀ k, k < w.heap.size → ¬ S k → w'.heap[k]? = w.heap[k]?
namespace ChgS
variable {S : Nat → Prop} {w w' : World}
theorem refl (S : Nat → Prop) (w : World) : ChgS S w w := ⟨rfl, rfl, rfl, Nat.le_refl _, fun _ _ _ => rfl⟩
theorem drewN (h : ChgS S w w') (n : Nat) : ChgS S w (w'.drewN n) := ⟨h.os, h.tape, h.output, h.size, h.block⟩
theorem setCell (h : ChgS S w w') {a : Addr} (ha : S a.block) (v : Value) : ChgS S w (w'.setCell a v) := by
  refine ⟨h.os, h.tape, h.output, ?_, fun k hk hn => (Below.heap_setCell w' a v k (fun e => hn (e ▸ ha))).trans (h.block k hk hn)⟩
  have := h.size
  simpa [World.setCell] using this
theorem below {B : Nat} (h : ChgS S w w') (hB : B ≤ w.heap.size) (hS : ∀ k, S k → B ≤ k) : Below B w w' := ⟨h.os, h.tape, h.output, h.size, fun k hk => h.block k (by omega) (fun e => by have := hS k e; omega)⟩
end ChgS
end Go.Proofs.YthmlcmlpmolmoaaGreatDoor
/- Worlds that are alike but for some blocks: more. -/
namespace Go.Proofs.YthmlcmlpmolmoaaGreatDoor
open Go.RowKit
namespace ChgS
variable {S : Nat → Prop} {w w' w'' : World}
theorem trans (h : ChgS S w w') (h' : ChgS S w' w'') : ChgS S w w'' :=
  ⟨h'.os.trans h.os, h'.tape.trans h.tape, h'.output.trans h.output, Nat.le_trans h.size h'.size, fun k hk hn => (h'.block k (Nat.lt_of_lt_of_le hk h.size) hn).trans (h.block k hk hn)⟩
theorem of_below (h : Below w.heap.size w w') : ChgS S w w' := ⟨h.os, h.tape, h.output, h.size, fun k hk _ => h.block k hk⟩
theorem of_chg {K : Nat} (h : Chg K w w') (hK : S K) : ChgS S w w' := ⟨h.os, h.tape, h.output, h.size, fun k hk hn => h.block k hk (fun e => hn (e ▸ hK))⟩
theorem cell (h : ChgS S w w') {g o : Nat} (hg : g < w.heap.size) (hK : ¬ S g) : w'.cell? ⟨g, o, none⟩ = w.cell? ⟨g, o, none⟩ := World.cell?_of_block (h.block g hg hK)
theorem of_drew (h : ChgS S w.drew w') : ChgS S w w' := ⟨h.os, h.tape, h.output, h.size, h.block⟩
end ChgS
/-- bytes that lie outside the blocks of S -/
def OffS (S : Nat → Prop) (A : Option Addr) (n : Nat) : Prop := 0 < n → ∀ B o, A = some ⟨B, o, none⟩ → ¬ S B
theorem SlB.chgS {S : Nat → Prop} {w w' : World} {A : Option Addr} {n : Nat} {f : Nat → Nat} (h : SlB w A n f) (hc : ChgS S w w') (hO : OffS S A n) : SlB w' A n f := fun hn => by
  obtain ⟨B, o, hA, hB, h⟩ := h hn
  exact ⟨B, o, hA, Nat.lt_of_lt_of_le hB hc.size, fun j hj => ⟨(h j hj).1, (hc.cell hB (hO hn B o hA)).trans (h j hj).2⟩⟩
theorem SlB.offS {S : Nat → Prop} {w : World} {A : Option Addr} {n : Nat} {f : Nat → Nat} (h : SlB w A n f) (hS : ∀ k, S k → w.heap.size ≤ k) : OffS S A n := fun hn B o e => by
  obtain ⟨B', o', e', hB, _⟩ := h hn
  rw [e] at e'
  injection e' with e'
  injection e' with e1 _ _
  intro hk
  have := hS B hk
  omega
theorem Arr.chgS {S : Nat → Prop} {w w' : World} {g o n : Nat} {f : Nat → Nat} (h : Arr w g o n f) (hc : ChgS S w w') (hg : ¬ S g) : Arr w' g o n f := fun j hj => (h.of_block (hc.block g (h.lt (by omega)) hg)) j hj
end Go.Proofs.YthmlcmlpmolmoaaGreatDoor
/- Keys of both kinds in laws. -/
namespace Go.Proofs.YthmlcmlpmolmoaaGreatDoor
open Go.RowKit
theorem KeyAt.words {w : World} {g n : Nat} {key : Nat → Nat} (h : KeyAt w g n key) : w.cell? ⟨g, 0, none⟩ = some (.int .i64 (n : Nat)) := h.elim (fun h => KeyMem.words h) (fun h => KeyMem.words h)
theorem RKey.chg {w w' : World} {g n K : Nat} {z : Int} {key : Nat → Nat} (h : RKey w g n key) (hc : Chg K w w') (hK : w.cell? ⟨K, 0, none⟩ = some (.int .i64 z)) : RKey w' g n key := by
  have hg := h.lt
  obtain ⟨⟨L, cap, G, C, h1, h2, h3⟩, ⟨B, h4, h5⟩, ⟨U, h6, h7⟩⟩ := h
  have n1 : g ≠ K := fun e => by subst e; rw [hK] at h1; cases h1
  have n2 : L ≠ K := fun e => by subst e; have := (h3 0 (by omega)).1; rw [hK] at this; cases this
  have n3 : B ≠ K := fun e => by subst e; have := h5.cell (i := 0) (by decide); rw [hK] at this; cases this
  have n4 : U ≠ K := fun e => by subst e; have := h7.cell (i := 0) (by decide); rw [hK] at this; cases this
  have n5 : ∀ j, j < n + 7 → G j ≠ K := fun j hj e => by subst e; have := (h3 j hj).2.cell (i := 0) (by decide); rw [hK] at this; cases this
  exact ⟨⟨L, cap, G, C, (hc.cell hg n1).trans h1, Nat.lt_of_lt_of_le h2 hc.size, fun j hj => ⟨(hc.cell h2 n2).trans (h3 j hj).1, (h3 j hj).2.of_block (hc.block _ (h3 j hj).2.lt (n5 j hj))⟩⟩,
    ⟨B, (hc.cell hg n1).trans h4, (hc.block B h5.lt n3).trans h5⟩, ⟨U, (hc.cell hg n1).trans h6, (hc.block U h7.lt n4).trans h7⟩⟩
theorem rnew_at (A : Option Addr) (len n cap : Nat) (key : Nat → Nat) (w : World) (hl : 4 * n = len) (hn : n = 4 ∨ n = 8) (hc : len ≤ cap) (hA : SlB w A len key) :
    Calls Tryz.prog 121 #[.slice A len cap] w fun e w' => ∃ g, e = .returned (.tuple #[.pointer (some ⟨g, 0, none⟩), .int .i64 0]) ∧ w.heap.size ≤ g ∧ RKey w' g n key ∧ Below w.heap.size w w' := by
  subst hl
  exact rnew_any A n cap key w hn hc hA
theorem KeyAt.ne {w : World} {g n B : Nat} {key : Nat → Nat} {v : Value} (h : KeyAt w g n key) (hB : w.cell? ⟨B, 0, none⟩ = some v) (hv : ∀ z, v ≠ .int .i64 z) : B ≠ g := fun e => by
  subst e
  rw [h.words] at hB
  exact hv _ (Option.some.inj hB).symm
end Go.Proofs.YthmlcmlpmolmoaaGreatDoor
/- Contracts of package ffx: sizes, lengths; a cipher is made. -/
namespace Go.Proofs.YthmlcmlpmolmoaaGreatDoor
set_option maxRecDepth 100000
open Go.RowKit

theorem sizes_any (n i : Nat) (w : World) (hn : n ≤ 1000000) (hi : i ≤ 1000000) :
    Calls Tryz.prog 65 #[.int .i64 (n : Nat), .int .i64 (i : Nat)] w fun e w' => e = .returned (.tuple #[.int .i64 (fd n i : Nat), .int .i64 (fd n (i + 1) : Nat)]) ∧ w = w' := by
  have hni : (n : Int) ≤ 1000000 := by omega
  have hii : (i : Int) ≤ 1000000 := by omega
  by_cases h : i % 2 = 0
  · have hb : ((i : Int) % 2 == 0) = true := by simp; omega
    have e1 : fd n i = n / 2 := if_pos h
    have e2 : fd n (i + 1) = n - n / 2 := by rw [fd_next, e1]
    have E1 := Lib.hid e1
    have E2 := Lib.hid e2
    clear h e1 e2
    go_enter Tryz.func65, Tryz.ntmps65
    go_wp2_with fail
    go_ret2
    exact ⟨by rw [E1.out, E2.out]; simp; omega, rfl⟩
  · have hb : ((i : Int) % 2 == 0) = false := by simp; omega
    have e1 : fd n i = n - n / 2 := if_neg h
    have e2 : fd n (i + 1) = n / 2 := by rw [fd_next, e1]; omega
    have E1 := Lib.hid e1
    have E2 := Lib.hid e2
    clear h e1 e2
    go_enter Tryz.func65, Tryz.ntmps65
    go_wp2_with fail
    go_ret2
    exact ⟨by rw [E1.out, E2.out]; simp; omega, rfl⟩

theorem wrongL_any (n : Int) (w : World) :
    Calls Tryz.prog 106 #[.int .i64 n] w fun e w' => e = .returned (.bool (decide (n < 6) || decide (32 < n))) ∧ w = w' := by
  by_cases h1 : n < 6
  · have hb : decide (n < 6) = true := by simpa using h1
    clear h1
    go_enter Tryz.func106, Tryz.ntmps106
    go_wp2_with fail
    go_ret
    exact ⟨by simp [hb], rfl⟩
  · have hb : decide (n < 6) = false := by simpa using h1
    clear h1
    go_enter Tryz.func106, Tryz.ntmps106
    go_wp2_with fail
    go_ret
    exact ⟨by simp [hb], rfl⟩

theorem fclone_any (A : Option Addr) (t cap : Nat) (T : Nat → Nat) (w : World) (ht : t ≤ 1000000) (hA : SlB w A t T) (hnil : A = none → t = 0 ∧ cap = 0) :
    Calls Tryz.prog 63 #[.slice A t cap] w fun e w' => ∃ A' c', e = .returned (.slice A' t c') ∧ SlB w' A' t T ∧ t ≤ c' ∧ (A' = none → t = 0 ∧ c' = 0) ∧ (∀ B o, A' = some ⟨B, o, none⟩ → w.heap.size ≤ B) ∧ Below w.heap.size w w' := by
  have q8 : ∀ (w : World) (a : Option Addr) (n c : Nat), (binOp .eql 22 (.slice a n c) (.slice none 0 0)).run Tryz.prog w = .ok (.bool a.isNone) w := fun w a n c => Lib.run_eql_slice_nil w _ _ a n c 0 0 Tryz.underlying22
  cases A with
  | none =>
    obtain ⟨rfl, rfl⟩ := hnil rfl
    clear hA hnil
    go_enter Tryz.func63, Tryz.ntmps63
    go_wp2_with fail
    go_ret
    exact ⟨none, 0, rfl, SlB.nil _ _, Nat.le_refl _, by simp, by simp, Below.refl _ _⟩
  | some ad =>
    have HA := Lib.hid (hA.keep ((Below.refl _ _).alloc (Nat.le_refl _) (.cells #[] 5)))
    have HBB := Lib.hid (show ∀ j, j < t → T j < 256 from fun j hj => hA.byte hj)
    have HE := Lib.hid (OwnB.empty w w.heap.size (fun _ => 0) (Nat.le_refl _))
    have HS := Lib.hid (show w.heap.size ≤ (w.alloc (.cells #[] 5)).heap.size by simp)
    have HB := Lib.hid ((Below.refl w.heap.size w).alloc (Nat.le_refl _) (.cells #[] 5))
    clear hA hnil
    go_enter Tryz.func63, Tryz.ntmps63
    go_wp2_with (at_builtin; refine wpList_appO rfl (.tmp 5) (.tmp 6) rfl w.heap.size _ 0 (fun _ => 0) rfl HE.out (some ad) t cap T rfl HA.out (fun h => by cases h) (by omega) HS.out (fun j hj => absurd hj (Nat.not_lt_zero _)) HBB.out ?_; intro A2 c2 w2 ho2 hs2 hn2 hb2; rw [Nat.zero_add] at ho2 hs2 hn2 ⊢; have HO2 := Lib.hid ho2; have HS2 := Lib.hid hs2; have HN2 := Lib.hid hn2; have HB2 := Lib.hid (HB.out.trans hb2); clear ho2 hs2 hn2 hb2)
    go_ret
    refine ⟨A2, c2, rfl, fun h => ?_, HN2.out.1, HN2.out.2.2, fun B o e => ?_, HB2.out⟩
    · obtain ⟨B', o', e', l', c'⟩ := HS2.out h
      exact ⟨B', o', e', l', fun j hj => by have := c' j hj; unfold catB at this; rw [if_neg (Nat.not_lt_zero _), Nat.sub_zero] at this; exact this⟩
    · subst e
      exact (World.ownsRow.lt HO2.out B rfl).1

/-- a cipher in memory: its key, its tweak -/
structure Cip (w : World) (c g n : Nat) (key : Nat → Nat) (t : Nat) (T : Nat → Nat) : Prop where
  key : KeyAt w g n key
  ptr : w.cell? ⟨c, 0, none⟩ = some (.pointer (some ⟨g, 0, none⟩))
  tw : ∃ A cap, w.cell? ⟨c, 1, none⟩ = some (.slice A t cap) ∧ SlB w A t T ∧ t ≤ cap ∧ (A = none → t = 0 ∧ cap = 0) ∧ (∀ B o, A = some ⟨B, o, none⟩ → B ≠ g)
namespace Cip
variable {w w' : World} {c g n t : Nat} {key T : Nat → Nat}
theorem lt (h : Cip w c g n key t T) : c < w.heap.size := block_lt h.ptr
theorem keep (h : Cip w c g n key t T) (hb : Below w.heap.size w w') : Cip w' c g n key t T := by
  obtain ⟨A, cap, h1, h2, h3, h4, h5⟩ := h.tw
  exact ⟨h.key.keep hb, (hb.cell (p := ⟨c, 0, none⟩) h.lt).trans h.ptr, A, cap, (hb.cell (p := ⟨c, 1, none⟩) h.lt).trans h1, h2.keep hb, h3, h4, h5⟩
theorem ne (h : Cip w c g n key t T) : c ≠ g := h.key.ne h.ptr fun _ e => by cases e
theorem chg (h : Cip w c g n key t T) (hc : Chg g w w') (hk : KeyAt w' g n key) : Cip w' c g n key t T := by
  obtain ⟨A, cap, h1, h2, h3, h4, h5⟩ := h.tw
  refine ⟨hk, (hc.cell h.lt h.ne).trans h.ptr, A, cap, (hc.cell h.lt h.ne).trans h1, fun h0 => ?_, h3, h4, h5⟩
  obtain ⟨B, o, e, hB, hj⟩ := h2 h0
  exact ⟨B, o, e, Nat.lt_of_lt_of_le hB hc.size, fun j hj' => ⟨(hj j hj').1, (hc.cell hB (h5 B o e)).trans (hj j hj').2⟩⟩
theorem drewN (h : Cip w c g n key t T) (k : Nat) : Cip (w.drewN k) c g n key t T := by
  obtain ⟨A, cap, h1, h2, h3, h4, h5⟩ := h.tw
  exact ⟨h.key.of_block rfl, h.ptr, A, cap, h1, h2.drewN k, h3, h4, h5⟩
end Cip

theorem fnew_short (A : Option Addr) (len cap : Nat) (A2 : Option Addr) (t c2 : Nat) (w : World) (hl : len ≠ 16) (hl2 : len ≠ 32) (hl3 : len ≤ 140737488351232) :
    Calls Tryz.prog 33 #[.slice A len cap, .slice A2 t c2] w fun e w' => e = .returned (.tuple #[.pointer none, .int .i64 1]) ∧ w = w' := by
  have HN := Lib.hid (new_short A len cap w hl hl2 hl3)
  clear hl hl2 hl3
  go_enter Tryz.func33, Tryz.ntmps33
  go_wp2_with (go_at_call 62; refine HN.out.mono ?_; rintro e w1 ⟨rfl, rfl⟩)
  go_ret2
  exact ⟨rfl, rfl⟩
theorem fnew_long (A : Option Addr) (len n cap : Nat) (key : Nat → Nat) (A2 : Option Addr) (t c2 : Nat) (w : World) (hn : n = 4 ∨ n = 8) (hl : 4 * n = len) (hA : SlB w A len key) (ht : 16 < t) :
    Calls Tryz.prog 33 #[.slice A len cap, .slice A2 t c2] w fun e w' => e = .returned (.tuple #[.pointer none, .int .i64 2]) ∧ Below w.heap.size w w' := by
  subst hl
  have HN := Lib.hid (new_any A n cap key w hn hA)
  have hb : decide ((16 : Int) < (t : Nat)) = true := by rw [decide_eq_true_eq]; omega
  clear hA hn ht
  go_enter Tryz.func33, Tryz.ntmps33
  go_wp2_with (go_at_call 62; refine HN.out.mono ?_; rintro e w1 ⟨g, rfl, h1, h2, h3⟩; have H3 := Lib.hid h3; clear h1 h2 h3)
  go_ret2
  exact ⟨rfl, H3.out⟩
theorem fnew_any (A : Option Addr) (len n cap : Nat) (key : Nat → Nat) (A2 : Option Addr) (t c2 : Nat) (T : Nat → Nat) (w : World) (hn : n = 4 ∨ n = 8) (hl : 4 * n = len) (hA : SlB w A len key) (ht : t ≤ 16) (hA2 : SlB w A2 t T) (hnil : A2 = none → t = 0 ∧ c2 = 0) :
    Calls Tryz.prog 33 #[.slice A len cap, .slice A2 t c2] w fun e w' => ∃ c g, e = .returned (.tuple #[.pointer (some ⟨c, 0, none⟩), .int .i64 0]) ∧ w.heap.size ≤ g ∧ Cip w' c g n key t T ∧ Below w.heap.size w w' := by
  subst hl
  have HN := Lib.hid (new_any A n cap key w hn hA)
  have hb : decide ((16 : Int) < (t : Nat)) = false := by rw [decide_eq_false_iff_not]; omega
  have HA2 := Lib.hid hA2
  have HNIL := Lib.hid hnil
  have HT := Lib.hid ht
  clear hA hn hA2 hnil ht
  go_enter Tryz.func33, Tryz.ntmps33
  go_wp2_with (first | (go_at_call 62; refine HN.out.mono ?_; rintro e w1 ⟨g, rfl, h1, h2, h3⟩; have H1 := Lib.hid h1; have H2 := Lib.hid h2; have H3 := Lib.hid h3; clear h1 h2 h3) | (go_at_call 63; refine (fclone_any A2 t c2 T w1 (by have := HT.out; omega) (HA2.out.keep H3.out) HNIL.out).mono ?_; rintro e w2 ⟨A3, c3, rfl, h4, h5, h6, h7, h8⟩; have H4 := Lib.hid h4; have H5 := Lib.hid h5; have H6 := Lib.hid h6; have H7 := Lib.hid h7; have H8 := Lib.hid h8; clear h4 h5 h6 h7 h8))
  go_ret2
  have hba := (Below.refl w2.heap.size w2).alloc (Nat.le_refl _) (.cells #[.pointer (some ⟨g, 0, none⟩), .slice A3 t c3] 116)
  have hgl : g < w1.heap.size := H2.out.lt
  refine ⟨w2.heap.size, g, rfl, H1.out, ⟨(H2.out.keep H8.out).keep hba, (World.cell?_alloc_at _ _ _ _ rfl).trans rfl, A3, c3, (World.cell?_alloc_at _ _ _ _ rfl).trans rfl, H4.out.keep hba, H5.out, H6.out, fun B o e => by have := H7.out B o e; omega⟩, ?_⟩
  exact H3.out.trans ((H8.out.mono H3.out.size).trans (hba.mono (Nat.le_trans H3.out.size H8.out.size)))
end Go.Proofs.YthmlcmlpmolmoaaGreatDoor
/- More of bytes: rows that grow, what is new. -/
namespace Go.Proofs.YthmlcmlpmolmoaaGreatDoor
open Go.RowKit
theorem SlB.congr {w : World} {A : Option Addr} {n : Nat} {f f' : Nat → Nat} (h : SlB w A n f) (e : ∀ j, j < n → f j = f' j) : SlB w A n f' := fun hn => by
  obtain ⟨B, o, hA, hB, hc⟩ := h hn
  exact ⟨B, o, hA, hB, fun j hj => by rw [← e j hj]; exact hc j hj⟩
theorem SlB.none0 (w : World) (f : Nat → Nat) : SlB w none 0 f := fun h => absurd h (Nat.lt_irrefl 0)
theorem OwnB.less {w : World} {b base n : Nat} {v : Value} {f : Nat → Nat} (h : OwnB w base v n f) (hb : b ≤ base) : OwnB w b v n f := by
  rcases h with ⟨h1, h2 | ⟨g, cap, cur, e, hg, r⟩⟩
  · exact ⟨h1, Or.inl h2⟩
  · exact ⟨h1, Or.inr ⟨g, cap, cur, e, Nat.le_trans hb hg, r⟩⟩
theorem of_drew {w w' : World} (h : Below w.drew.heap.size w.drew w') : Below w.heap.size w w' := ⟨h.os, h.tape, h.output, h.size, h.block⟩
theorem one_sl (w : World) (x : Nat) (hx : x < 256) : SlB (w.alloc (.cells #[.int .u8 (x : Nat)] 5)) (some ⟨w.heap.size, 0, none⟩) 1 (fun _ => x) := one_slB w 5 x hx
theorem alloc_below (W : World) (o : Obj) : Below W.heap.size W (W.alloc o) := (Below.refl _ _).alloc (Nat.le_refl _) o
theorem xor_lt8 {a b : Nat} (ha : a < 256) (hb : b < 256) : a ^^^ b < 256 := Nat.xor_lt_two_pow (n := 8) ha hb
theorem strOf_cat (n m : Nat) (f g h : Nat → Nat) (hf : ∀ i, i < n → f i = h i) (hg : ∀ i, i < m → g i = h (n + i)) : strOf n f ++ strOf m g = strOf (n + m) h := by
  rw [strOf_congr n f h hf, strOf_congr m g (fun i => h (n + i)) hg]
  unfold strOf
  apply ByteArray.ext
  simp only [ByteArray.data_append]
  apply Array.ext'
  simp [List.range_add]
end Go.Proofs.YthmlcmlpmolmoaaGreatDoor
/- Contracts of package ffx: the input of a round's mask. -/
namespace Go.Proofs.YthmlcmlpmolmoaaGreatDoor
set_option maxRecDepth 100000
open Go.RowKit

/-- the input, its value's bytes behind the first q of them not yet laid -/
def finq (u n t : Nat) (T : Nat → Nat) (r x w q j : Nat) : Nat :=
  if j < 16 then fhd u n t j else if j < 16 + t then T (j - 16) else if j < finL t w - 1 - w then 0 else if j = finL t w - 1 - w then r else if finL t w - 1 - w + q < j then x / 256 ^ (finL t w - 1 - j) % 256 else 0
theorem finq_end (u n t : Nat) (T : Nat → Nat) (r x w j : Nat) : finq u n t T r x w 0 j = finp u n t T r x w j := by
  unfold finq finp
  split
  · rfl
  · split
    · rfl
    · split
      · rfl
      · split
        · rfl
        · rw [if_pos (by omega)]
theorem finq_start {u n t : Nat} {T : Nat → Nat} {r x w j : Nat} (hj : j < finL t w) : (if j = finL t w - 1 - w then r else putB 16 t T (putB 0 16 (fhd u n t) fun _ => 0) j) = finq u n t T r x w w j := by
  have := finL_ge t w
  unfold finq putB
  by_cases h1 : j < 16
  · rw [if_neg (by omega), if_neg (by omega), if_pos (by omega), if_pos h1, Nat.sub_zero]
  · rw [if_neg h1]
    by_cases h2 : j < 16 + t
    · rw [if_neg (by omega), if_pos (by omega), if_pos h2]
    · rw [if_neg h2]
      by_cases h3 : j < finL t w - 1 - w
      · rw [if_neg (by omega), if_neg (by omega), if_neg (by omega), if_pos h3]
      · rw [if_neg h3]
        by_cases h4 : j = finL t w - 1 - w
        · rw [if_pos h4, if_pos h4]
        · rw [if_neg h4, if_neg (by omega), if_neg (by omega), if_neg h4, if_neg (by omega)]
theorem finq_step {u n t : Nat} {T : Nat → Nat} {r x w q j : Nat} (hq : q + 1 ≤ w) : (if j = finL t w - 1 - w + (q + 1) then x / 256 ^ (w - (q + 1)) % 256 else finq u n t T r x w (q + 1) j) = finq u n t T r x w q j := by
  have := finL_ge t w
  unfold finq
  by_cases h : j = finL t w - 1 - w + (q + 1)
  · rw [if_pos h, if_neg (by omega), if_neg (by omega), if_neg (by omega), if_neg (by omega), if_pos (by omega), show finL t w - 1 - j = w - (q + 1) by omega]
  · rw [if_neg h]
    by_cases h1 : finL t w - 1 - w + q < j
    · rw [if_pos h1, if_pos (show finL t w - 1 - w + (q + 1) < j by omega)]
    · rw [if_neg h1, if_neg (show ¬ finL t w - 1 - w + (q + 1) < j by omega)]

set_option maxHeartbeats 1600000 in
theorem input_any (c g n : Nat) (key : Nat → Nat) (t : Nat) (T : Nat → Nat) (N r x k : Nat) (w : World) (hC : Cip w c g n key t T) (ht : t ≤ 16) (hN : 6 ≤ N) (hN2 : N ≤ 32) (hr : r ≤ 9) (hx : x ≤ 9223372036854775807) (hk : k ≤ 8) :
    Calls Tryz.prog 111 #[.pointer (some ⟨c, 0, none⟩), .int .i64 (N : Nat), .int .i64 (r : Nat), .int .i64 (x : Nat), .int .i64 (k : Nat)] w fun e w' => ∃ st, e = .returned (.slice (some ⟨st, 0, none⟩) (finL t k) (finL t k)) ∧ w.heap.size ≤ st ∧ RowB w' st (finL t k) (finp (N / 2) N t T r x k) ∧ Below w.heap.size w w' := by
  have HS := Lib.hid (sizes_any N 0 w (by omega) (by omega))
  obtain ⟨A, cap, h1, h2, h3, h4, _⟩ := hC.tw
  have hu : fd N 0 = N / 2 := rfl
  rw [hu] at HS
  obtain ⟨u, hu⟩ : ∃ u, N / 2 = u := ⟨_, rfl⟩
  obtain ⟨v, hv⟩ : ∃ v, fd N (0 + 1) = v := ⟨_, rfl⟩
  rw [hu, hv] at HS
  rw [hu]
  have hu16 : (u : Int) ≤ 16 := by omega
  have hN32 : (N : Int) ≤ 32 := by omega
  have ht16 : (t : Int) ≤ 16 := by omega
  have hk8 : (k : Int) ≤ 8 := by omega
  have hr9 : (r : Int) ≤ 9 := by omega
  have hcl := hC.lt
  obtain ⟨L, hL⟩ : ∃ L, finL t k = L := ⟨_, rfl⟩
  have hge := finL_ge t k
  have hle := finL_le ht hk
  rw [hL] at hge hle ⊢
  have hmk : ∀ W : World, (Instr.makeSlice 22 (.int .i64 (16 + ((t : Int) + 1 + (k : Int) + 16 - 1) / 16 * 16)) (.int .i64 (16 + ((t : Int) + 1 + (k : Int) + 16 - 1) / 16 * 16))).run Tryz.prog W = .ok (.slice (some ⟨W.heap.size, 0, none⟩) L L) (W.alloc (.cells (madeCells #[.int .u8 0] L) 5)) := fun W => by
    rw [show (16 + ((t : Int) + 1 + (k : Int) + 16 - 1) / 16 * 16) = ((L : Nat) : Int) by rw [← hL]; unfold finL; omega]
    exact mk8 L (by omega) W
  have hsa : ∀ W : World, (Instr.sliceAt 207 (.pointer (some ⟨w.heap.size, 0, none⟩)) none none none).run Tryz.prog W = .ok (.slice (some ⟨w.heap.size, 0, none⟩) 16 16) W := all_arr 207 16 w.heap.size 0 Tryz.underlying207 (by decide)
  have HM16 := Lib.hid (show 16 = Nat.min 16 L from (Nat.min_eq_left (by omega)).symm)
  have hf16 : 0 + 16 ≤ L := by omega
  have HMT := Lib.hid (show t = Nat.min t (L - 16) from (Nat.min_eq_left (by omega)).symm)
  have hft : 16 + t ≤ L := by omega
  have HH1 := lit_slB w 207 (0, 0) [1, 2, 1, 0, 0, 10, 10, u, 0, 0, 0, N, 0, 0, 0, t] fun j => by
    by_cases hj : j < 16
    · exact fhd_lt (u := u) (n := N) (t := t) (by omega) (by omega) (by omega) hj
    · rw [List.getD_eq_getElem?_getD, List.getElem?_eq_none (by simp; omega)]; decide
  have e1 : (w.alloc (.cells (List.map (fun x => Value.int .u8 ((x : Nat) : Int)) [1, 2, 1, 0, 0, 10, 10, u, 0, 0, 0, N, 0, 0, 0, t]).toArray 207 (0, 0))).heap.size = w.heap.size + 1 := by simp
  have b1 := (Below.refl w.heap.size w).alloc (Nat.le_refl _) (.cells (List.map (fun x => Value.int .u8 ((x : Nat) : Int)) [1, 2, 1, 0, 0, 10, 10, u, 0, 0, 0, N, 0, 0, 0, t]).toArray 207 (0, 0))
  have r2 := rowB_made (w.alloc (.cells (List.map (fun x => Value.int .u8 ((x : Nat) : Int)) [1, 2, 1, 0, 0, 10, 10, u, 0, 0, 0, N, 0, 0, 0, t]).toArray 207 (0, 0))) L
  rw [e1] at r2
  have HR2 := Lib.hid r2
  have HH2 := Lib.hid (HH1.keep ((Below.refl _ _).alloc (Nat.le_refl _) (.cells (madeCells #[.int .u8 0] L) 5)))
  have HB2 := Lib.hid (b1.alloc (by omega) (.cells (madeCells #[.int .u8 0] L) 5))
  have hLi : (16 : Int) ≤ (L : Nat) := by omega
  have hLn : L ≠ 16 := by omega
  obtain ⟨d, hd⟩ : ∃ d, L - 1 - k = d := ⟨_, rfl⟩
  have hdi : (L : Int) - 1 - (k : Int) = (d : Nat) := by omega
  have hdl : d ≤ L := by omega
  have hdn : L ≠ d := by omega
  have hdL : d < L := by omega
  have hdk : L - d = k + 1 := by omega
  have HD := Lib.hid hd
  clear hd
  have HL := Lib.hid hL
  clear hL HH1 e1 b1 r2
  go_enter Tryz.func111, Tryz.ntmps111
  go_wp2_with (first | (go_at_call 65; refine HS.out.mono ?_; rintro e w1 ⟨rfl, rfl⟩) | ((refine wpList_copyB rfl (.tmp 49) (.tmp 50) rfl _ _ _ _ _ _ rfl rfl (w.heap.size + 1) 0 L (fun _ => 0) HR2.out (fhd u N t) HH2.out 16 HM16.out (fun _ => rfl) hf16 w.heap.size w HB2.out (Nat.le_succ _) ?_); intro w3 hr3 hb3; have HR3 := Lib.hid hr3; have HB3 := Lib.hid hb3; have HT3 := Lib.hid (h2.keep hb3); have q3 := (hb3.cell (p := ⟨c, 1, none⟩) hcl).trans h1; clear hr3 hb3))
  go_region_law ((refine step_copyB rfl (.tmp 53) (.tmp 57) rfl _ _ _ _ _ _ rfl rfl (w.heap.size + 1) 16 L _ (HR3.out.drew) T (HT3.out.drewN 1) t HMT.out (fun _ => rfl) hft w.heap.size w HB3.out.drew (Nat.le_succ _) ?_); intro w4 hr4 hb4; have HR4 := Lib.hid hr4; have HB4 := Lib.hid hb4; obtain ⟨z4, c4⟩ : ∃ z : Nat, w4.cell? ⟨w.heap.size + 1, d, none⟩ = some (.int .u8 (z : Nat)) := ⟨_, hr4.cell hdL⟩; have f4 := hr4.frozen d; clear hr4 hb4)
  all_goals
    go_wp2_with fail
    have HR5 := Lib.hid ((HR4.out.set d r (.int .u8 (r : Nat)) rfl).congr (f := finq u N t T r x k k) fun j hj => by have h := finq_start (u := u) (n := N) (t := t) (T := T) (r := r) (x := x) (w := k) (j := j) (by rw [HL.out]; exact hj); rw [HL.out, show L - 1 - k = d from HD.out] at h; exact h)
    have HB5 := Lib.hid (HB4.out.setCell (p := ⟨w.heap.size + 1, d, none⟩) (Nat.le_succ _) (.int .u8 (r : Nat)))
    generalize w4.setCell ⟨w.heap.size + 1, d, none⟩ (.int .u8 (r : Nat)) = w5 at *
    clear HR4 HB4 HR3 HB3 HT3 HR2 HH2 HB2 q3 c4 f4
    go_loopw [3, 17] (fun v i wr => ∃ q : Nat, q ≤ k ∧ i = .int .i64 (q : Nat) ∧ v = .int .i64 ((x / 256 ^ (k - q) : Nat) : Int) ∧ RowB wr (w.heap.size + 1) L (finq u N t T r x k q) ∧ Below w.heap.size w wr) (fun _ i _ => (intOf i).toNat)
    case atStart => exact ⟨k, Nat.le_refl _, rfl, by rw [Nat.sub_self, Nat.pow_zero, Nat.div_one], HR5.out, HB5.out⟩
    case round =>
      obtain ⟨q, hq, rfl, rfl, hr6, hb6⟩ := hrel
      have HR6 := Lib.hid hr6
      have HB6 := Lib.hid hb6
      cases q with
      | zero =>
        go_wp2_with fail
        go_ret
        exact ⟨w.heap.size + 1, rfl, Nat.le_succ _, HR6.out.congr fun j _ => finq_end u N t T r x k j, HB6.out⟩
      | succ q =>
        have HST := Lib.hid fun j => finq_step (u := u) (n := N) (t := t) (T := T) (r := r) (x := x) (w := k) (q := q) (j := j) hq
        rw [HL.out, show L - 1 - k = d from HD.out] at HST
        obtain ⟨Q, hQ⟩ : ∃ Q, q + 1 = Q := ⟨_, rfl⟩
        rw [hQ] at HR6 HST ⊢
        have hQi : (Q : Int) ≤ 8 := by omega
        have hQ0 : (0 : Int) < (Q : Nat) := by omega
        have hQk : (Q : Int) < (k : Nat) + 1 := by omega
        obtain ⟨y, hy⟩ : ∃ y, x / 256 ^ (k - Q) = y := ⟨_, rfl⟩
        have hy2 : x / 256 ^ (k - q) = y / 256 := by rw [← hy, Nat.div_div_eq_div_mul, ← Nat.pow_succ, show k - q = k - Q + 1 by omega]
        have hyx : (y : Int) ≤ 9223372036854775807 := by have := Nat.div_le_self x (256 ^ (k - Q)); omega
        rw [hy] at HST ⊢
        have HY2 := Lib.hid hy2
        have HQ := Lib.hid hQ
        obtain ⟨z6, c6⟩ : ∃ z : Nat, wr.cell? ⟨w.heap.size + 1, d + Q, none⟩ = some (.int .u8 (z : Nat)) := ⟨_, hr6.cell (by omega)⟩
        have f6 := hr6.frozen (d + Q)
        have HKK := Lib.hid (show q ≤ k by omega)
        clear hr6 hb6 hy hy2 hQ hq
        go_wp2_with fail
        go_roundw
        case rel => exact ⟨q, HKK.out, by have := HQ.out; go_num, by rw [HY2.out]; go_num, (HR6.out.set (d + Q) (y % 256) _ (by go_num)).congr fun j _ => HST.out j, HB6.out.setCell (p := ⟨w.heap.size + 1, d + Q, none⟩) (Nat.le_succ _) _⟩
        case measure => simp [intOf]; omega
end Go.Proofs.YthmlcmlpmolmoaaGreatDoor
/- Contracts of package ffx: the library's chunks of a slice, of 16 bytes each. -/
namespace Go.Proofs.YthmlcmlpmolmoaaGreatDoor
set_option maxRecDepth 100000
open Go.RowKit Go.Shelf

attribute [local go_sem] Oper.semAt_some

/-- the two cells that the iterator has captured lie as they lay -/
def KpC (Bs Bn : Nat) (W W' : World) : Prop := W'.heap[Bs]? = W.heap[Bs]? ∧ W'.heap[Bn]? = W.heap[Bn]?
theorem KpC.trans {Bs Bn : Nat} {A B C : World} (h : KpC Bs Bn A B) (h' : KpC Bs Bn B C) : KpC Bs Bn A C := ⟨h'.1.trans h.1, h'.2.trans h.2⟩
/-- block k of a row -/
abbrev encC (B o k : Nat) : Array Value := #[.slice (some ⟨B, o + 16 * k, none⟩) 16 16]

set_option maxHeartbeats 2000000 in
theorem chunk1_in (n : Nat) (hn : 1 ≤ n) (l Bs Bn B o m cap : Nat) (hm : m ≤ 100000) (hc : 16 * m ≤ cap) (hcap : cap ≤ 140737488351232) (J Jx : List Nat → World → Prop) (W : World) (hJ : AbidesFrom W.heap.size J)
    (hY : ∀ pre x W1, J pre W1 → pre.length < m → x < m → YieldAt Fence.wide (n - 1) Tryz.prog l (encC B o x) W1 fun e W' =>
      (e = .returned (.bool true) ∧ J (pre ++ [x]) W' ∧ KpC Bs Bn W1 W') ∨ (e = .returned (.bool false) ∧ Jx (pre ++ [x]) W'))
    (h1 : W.cell? ⟨Bs, 0, none⟩ = some (.slice (some ⟨B, o, none⟩) (16 * m) cap)) (h2 : W.cell? ⟨Bn, 0, none⟩ = some (.int .i64 16)) (h0 : J [] W) :
    CallsIn Fence.wide n Tryz.prog 170 #[.func (.yield l) #[] #[], .pointer (some ⟨Bs, 0, none⟩), .pointer (some ⟨Bn, 0, none⟩)] W fun e W' => (∃ v, e = .returned v) ∧
      ((∃ ys, ys = List.range m ∧ J ys W') ∨ (∃ pre, (∃ k, k ≤ m ∧ pre = List.range k) ∧ Jx pre W')) := by
  have hf : Fence.wide.fn 170 := trivial
  have hro : Fence.wide.round = none := rfl
  refine callsIn_of_wp Tryz.func170 rfl hf ?_ hro
  simp only [Tryz.ntmps170, List.size_toArray, List.length_cons, List.length_nil, Nat.reduceAdd, Nat.reduceSub, Array.replicate_succ, Array.replicate_zero, List.push_toArray, List.append_toArray, List.nil_append, List.cons_append]
  gi_wp2
  gi_loopw [4] (fun i wr => ∃ k : Nat, k ≤ m ∧ i = .int .i64 ((16 * k : Nat) : Int) ∧ J (List.range k) wr ∧ KpC Bs Bn W wr)
    (fun i _ => 16 * m - (intOf i).toNat)
  case atStart => exact ⟨0, Nat.zero_le _, rfl, h0, rfl, rfl⟩
  case round =>
    obtain ⟨k, hk, rfl, hJs, hnx⟩ := hrel
    have c1 := (World.cell?_of_block (a := ⟨Bs, 0, none⟩) hnx.1).trans h1
    have c2 := (World.cell?_of_block (a := ⟨Bn, 0, none⟩) hnx.2).trans h2
    by_cases hlt : k < m
    · have hJd : J (List.range k) wr.drew := hJ _ wr wr.drew none hJs ⟨rfl, rfl, rfl, Nat.le_refl _, fun _ _ _ => rfl⟩ (fun r e => by cases e)
      obtain ⟨fn, tmps, assign, body, hy, hR⟩ := hY _ k wr.drew hJd (by rw [List.length_range]; exact hlt) hlt
      unfold encC at hy
      have d1 : wr.drew.cell? ⟨Bs, 0, none⟩ = _ := c1
      have d2 : wr.drew.cell? ⟨Bn, 0, none⟩ = _ := c2
      obtain ⟨q, hq⟩ : ∃ q, 16 * k = q := ⟨_, rfl⟩
      obtain ⟨M, hM⟩ : ∃ M, 16 * m = M := ⟨_, rfl⟩
      rw [hq] at hy ⊢
      rw [hM] at c1 d1 hc ⊢
      have hqM : q + 16 ≤ M := by omega
      have HQ := Lib.hid hq
      have HM := Lib.hid hM
      clear hq hM
      gi_wp2
      gi_region
      all_goals gi_wp2
      all_goals
        refine hR.mono ?_
        rintro e W3 (⟨rfl, hJ3, hk3⟩ | ⟨rfl, hJx3⟩)
        · have c3 : W3.cell? ⟨Bn, 0, none⟩ = _ := (World.cell?_of_block (a := ⟨Bn, 0, none⟩) hk3.2).trans d2
          gi_wp2
          go_roundw
          case rel => exact ⟨k + 1, by omega, by have := HQ.out; go_num, by rw [List.range_succ]; exact hJ3, hnx.1.symm ▸ hk3.1, hnx.2.symm ▸ hk3.2⟩
          case measure => have := HQ.out; have := HM.out; simp [intOf]; omega
        · gi_wp2
          refine bodyPost_ret (results_none rfl _ _ _) rfl ?_
          exact ⟨⟨_, rfl⟩, .inr ⟨_, ⟨k + 1, by omega, (List.range_succ).symm⟩, hJx3⟩⟩
    · obtain rfl : k = m := by omega
      gi_wp2
      go_end0
      exact ⟨⟨_, rfl⟩, .inl ⟨_, rfl, hJs⟩⟩

theorem chunk_stops (n : Nat) (hn : 1 ≤ n) (Bs Bn B o m cap : Nat) (hm : m ≤ 100000) (hc : 16 * m ≤ cap) (hcap : cap ≤ 140737488351232) (w : World)
    (h1 : w.cell? ⟨Bs, 0, none⟩ = some (.slice (some ⟨B, o, none⟩) (16 * m) cap)) (h2 : w.cell? ⟨Bn, 0, none⟩ = some (.int .i64 16)) :
    SeqStopsK Fence.wide n Tryz.prog 170 #[.pointer (some ⟨Bs, 0, none⟩), .pointer (some ⟨Bn, 0, none⟩)] (fun x : Fin m => encC B o x.1) (KpC Bs Bn) (fun ys => ys.map (·.1) = List.range m) (fun pre => ∃ k, k ≤ m ∧ pre.map (·.1) = List.range k) m w := fun l J Jx W hW hJ _ hY h0 => by
  refine (chunk1_in n hn l Bs Bn B o m cap hm hc hcap (fun ys V => ∃ zs : List (Fin m), zs.map (·.1) = ys ∧ J zs V) (fun ys V => ∃ zs : List (Fin m), zs.map (·.1) = ys ∧ Jx zs V) W ?_ ?_
    ((hW.cell (p := ⟨Bs, 0, none⟩) (block_lt h1)).trans h1) ((hW.cell (p := ⟨Bn, 0, none⟩) (block_lt h2)).trans h2) ⟨[], rfl, h0⟩).mono ?_
  · rintro s V V' row ⟨zs, rfl, hz⟩ hg hr
    exact ⟨zs, rfl, hJ zs V V' row hz hg hr⟩
  · rintro pre x W1 ⟨zs, rfl, hz⟩ hlen hx
    obtain ⟨fn, tmps, assign, body, hy, hR⟩ := hY zs ⟨x, hx⟩ W1 hz (by simpa using hlen)
    refine ⟨fn, tmps, assign, body, hy, hR.mono ?_⟩
    rintro e W' (⟨rfl, h3, h4⟩ | ⟨rfl, h3⟩)
    · exact Or.inl ⟨rfl, ⟨zs ++ [⟨x, hx⟩], by simp, h3⟩, h4⟩
    · exact Or.inr ⟨rfl, ⟨zs ++ [⟨x, hx⟩], by simp, h3⟩⟩
  · rintro e W' ⟨he, ⟨ys, rfl, zs, h3, h4⟩ | ⟨pre, ⟨k, hk, rfl⟩, zs, h3, h4⟩⟩
    · exact ⟨he, Or.inl ⟨zs, h3, h4⟩⟩
    · exact ⟨he, Or.inr ⟨zs, ⟨k, hk, h3⟩, h4⟩⟩

theorem chunk_any (A : Option Addr) (len cap : Nat) (w : World) :
    Calls Tryz.prog 144 #[.slice A len cap, .int .i64 16] w fun e w' => e = .returned (.func (.func 170) #[] #[.pointer (some ⟨w.heap.size, 0, none⟩), .pointer (some ⟨w.heap.size + 1, 0, none⟩)]) ∧
      w'.cell? ⟨w.heap.size, 0, none⟩ = some (.slice A len cap) ∧ w'.cell? ⟨w.heap.size + 1, 0, none⟩ = some (.int .i64 16) ∧ w'.heap.size = w.heap.size + 2 ∧ Below w.heap.size w w' := by
  have hmf : ∀ (fn : Fn) (first cap : Array Value) (w : World), (Instr.makeFunc fn first cap).run Tryz.prog w = .ok (.func fn first cap) w := fun _ _ _ _ => rfl
  go_enter Tryz.func144, Tryz.ntmps144
  go_wp2_with fail
  go_ret
  have e1 : (w.alloc (.cells #[.slice A len cap] 22)).heap.size = w.heap.size + 1 := by simp
  have hb := (Below.refl w.heap.size w).alloc (Nat.le_refl _) (.cells #[.slice A len cap] 22)
  have c1 : (w.alloc (.cells #[.slice A len cap] 22)).cell? ⟨w.heap.size, 0, none⟩ = some (.slice A len cap) := (World.cell?_alloc_at _ _ _ _ rfl).trans rfl
  generalize w.alloc (.cells #[.slice A len cap] 22) = w1 at *
  refine ⟨rfl, ?_, ?_, by simp [e1], hb.alloc (by omega) _⟩
  · exact ((Below.refl w1.heap.size w1).alloc (Nat.le_refl _) (.cells #[.int .i64 16] 3)).cell (p := ⟨w.heap.size, 0, none⟩) (by show w.heap.size < _; omega) |>.trans c1
  · exact (World.cell?_alloc_at _ _ _ _ e1.symm).trans rfl
end Go.Proofs.YthmlcmlpmolmoaaGreatDoor
