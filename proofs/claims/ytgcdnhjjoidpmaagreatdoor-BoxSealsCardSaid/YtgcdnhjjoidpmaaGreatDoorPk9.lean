/- 8 texts in one, in their order. -/
import Derived.Test.YtgcdnhjjoidpmaaGreatDoorPk8
import Derived.Laws.CopyOwn
/- Contracts of the reference's aes: the maps of all bytes. -/
namespace Go.Proofs.YtgcdnhjjoidpmaaGreatDoor
open Go.RowKit

theorem mk256 (W : World) : (Instr.makeSlice 22 (.int .i64 256) (.int .i64 256)).run Tryz.prog W = .ok (.slice (some ⟨W.heap.size, 0, none⟩) 256 256) (W.alloc (.cells (madeCells #[.int .u8 0] 256) 5)) := mk8 256 (by decide) W
set_option maxRecDepth 100000 in
set_option maxHeartbeats 800000 in
theorem rback_any (A1 : Option Addr) (c1 : Nat) (w : World) (h1 : SlB w A1 256 box) :
    Calls Tryz.prog 48 #[.slice A1 256 c1] w (NewRow 256 unbox w) := by
  obtain ⟨B1, o1, rfl, l1, e1⟩ := h1 (by decide)
  have E1 := Lib.hid e1
  have L1 := Lib.hid l1
  have hmk := mk256
  clear h1 e1 l1
  go_enter Tryz.func48, Tryz.ntmps48
  go_wp2_with fail
  clear hmk
  go_loopw [4] (fun v wr => ∃ k : Nat, k ≤ 256 ∧ v = .int .i64 k ∧ RowB wr w.heap.size 256 (untab k) ∧ Below w.heap.size w wr) (fun v _ => 256 - (intOf v).toNat)
  case atStart => exact ⟨0, by decide, rfl, (rowB_made w 256).congr fun j _ => (if_neg (Nat.not_lt_zero _)).symm, (Below.refl _ _).alloc (Nat.le_refl _) _⟩
  case round =>
    obtain ⟨k, hk, rfl, h1, h2⟩ := hrel
    have H1 := Lib.hid h1
    have H2 := Lib.hid h2
    clear h1 h2
    by_cases hlt : k < 256
    · have hbl := box_lt hlt
      have hc1 := (H2.out.cell (p := ⟨B1, o1 + k, none⟩) L1.out).trans (E1.out k hlt).2
      have hc3 := H1.out.cell hbl
      have hf3 := H1.out.frozen (box k)
      have HR := Lib.hid ((H1.out.set (box k) k (.int .u8 (k : Nat)) rfl).congr fun j hj => untab_step hlt j hj)
      have HB := Lib.hid (H2.out.setCell (p := ⟨w.heap.size, box k, none⟩) (Nat.le_refl _) (.int .u8 (k : Nat)))
      generalize box k = x at *
      go_wp2_with fail
      go_roundw
      case rel => exact ⟨k + 1, by omega, by go_num, HR.out, HB.out⟩
      case measure => simp [intOf]; omega
    · obtain rfl : k = 256 := by omega
      go_wp2_with fail
      go_ret
      exact ⟨rfl, H1.out.congr fun j hj => untab_all j hj, H2.out⟩

theorem inv_pow : ∀ k, gm (gpow 3 k) (gpow 246 k) = 1
  | 0 => by decide
  | k + 1 => by
    have h3 : (3 : Nat) < 256 := by decide
    have h6 : (246 : Nat) < 256 := by decide
    have hp := gpow_lt h3 k
    have hq := gpow_lt h6 k
    show gm (gm (gpow 3 k) 3) (gm (gpow 246 k) 246) = 1
    rw [gm_comm hq h6, gm_assoc hp h3 (gm_lt _ h6), ← gm_assoc h3 h6 hq, show gm 3 246 = 1 by decide, one_gm hq, inv_pow k]
theorem box_pow (k : Nat) : gbox (gpow 246 k) = box (gpow 3 k) := by
  unfold box
  rw [← ginv_only (gpow_lt (by decide) k) (gpow_lt (by decide) k) (inv_pow k)]
theorem pow3_ne (k : Nat) : gpow 3 k ≠ 0 := fun e => by
  have := inv_pow k
  rw [e, gm_zero1] at this
  exact absurd this (by decide)
/-- the map behind k powers of 3 -/
def bxs (k y : Nat) : Nat := if y = 0 then 99 else if times3 y k = 0 then 0 else box y
theorem bxs_step (k y : Nat) : (if y = gpow 3 k then box (gpow 3 k) else bxs k y) = bxs (k + 1) y := by
  unfold bxs
  by_cases e : y = gpow 3 k
  · have h0 : y ≠ 0 := by rw [e]; exact pow3_ne k
    rw [if_pos e, if_neg h0, if_neg (by simp only [times3]; rw [if_pos e.symm]; omega), e]
  · have t : times3 y (k + 1) = times3 y k := by
      show times3 y k + (if gpow 3 k = y then 1 else 0) = _
      rw [if_neg (fun h => e h.symm), Nat.add_zero]
    rw [if_neg e, t]
theorem bxs_all {y : Nat} (h : y < 256) : bxs 255 y = box y := by
  unfold bxs
  rw [times3_all h]
  by_cases e : y = 0
  · subst e
    rw [if_pos rfl]
    unfold box
    rw [ginv_zero]; rfl
  · rw [if_neg e, if_neg e, if_neg (by decide)]

set_option maxRecDepth 100000 in
set_option maxHeartbeats 1600000 in
theorem rboxes_any (w : World) : Calls Tryz.prog 46 #[] w (NewRow 256 box w) := by
  have hmk := mk256
  have hc0 : (w.alloc (.cells (madeCells #[.int .u8 0] 256) 5)).cell? ⟨w.heap.size, 0, none⟩ = some (.int .u8 0) := (rowB_made w 256).cell (by decide)
  have hf0 : (w.alloc (.cells (madeCells #[.int .u8 0] 256) 5)).frozen? ⟨w.heap.size, 0, none⟩ = false := (rowB_made w 256).frozen 0
  have HR0 := Lib.hid (((rowB_made w 256).set 0 99 (.int .u8 99) rfl).congr (f := bxs 0) fun j _ => by
    unfold bxs
    by_cases e : j = 0
    · rw [if_pos e, if_pos e]
    · rw [if_neg e, if_neg e]; rfl)
  have HB0 := Lib.hid (((Below.refl w.heap.size w).alloc (Nat.le_refl _) (.cells (madeCells #[.int .u8 0] 256) 5)).setCell (p := ⟨w.heap.size, 0, none⟩) (Nat.le_refl _) (.int .u8 99))
  have hse : (w.alloc (.cells (madeCells #[.int .u8 0] 256) 5)).setCell ⟨w.heap.size, 0, none⟩ (.int .u8 99) = w.alloc (.cells ((madeCells #[.int .u8 0] 256).setIfInBounds 0 (.int .u8 99)) 5) := World.setCell_alloc_at _ _ _ _ _ (hn := rfl)
  rw [hse] at HR0 HB0
  clear hse
  go_enter Tryz.func46, Tryz.ntmps46
  go_wp2_with fail
  generalize hW : w.alloc (.cells ((madeCells #[.int .u8 0] 256).setIfInBounds 0 (.int .u8 99)) 5) = W at *
  clear hmk hc0 hf0 hW
  go_loopw [2, 3, 4] (fun x i v wr => ∃ k : Nat, k ≤ 255 ∧ v = .int .i64 k ∧ x = .int .u8 (gpow 3 k : Nat) ∧ i = .int .u8 (gpow 246 k : Nat) ∧ RowB wr w.heap.size 256 (bxs k) ∧ Below w.heap.size w wr) (fun _ _ v _ => 255 - (intOf v).toNat)
  case atStart => exact ⟨0, by decide, rfl, rfl, rfl, HR0.out, HB0.out⟩
  case round =>
    obtain ⟨k, hk, rfl, rfl, rfl, h1, h2⟩ := hrel
    have H1 := Lib.hid h1
    have H2 := Lib.hid h2
    clear h1 h2
    by_cases hlt : k < 255
    · have hxl := gpow_lt (a := 3) (by decide) k
      have hil := gpow_lt (a := 246) (by decide) k
      have HBX := Lib.hid (show gpow 246 k ^^^ rotl (gpow 246 k) 1 ^^^ rotl (gpow 246 k) 2 ^^^ rotl (gpow 246 k) 3 ^^^ rotl (gpow 246 k) 4 ^^^ 99 = box (gpow 3 k) from box_pow k)
      have hc3 := H1.out.cell hxl
      have hf3 := H1.out.frozen (gpow 3 k)
      have HR := Lib.hid ((H1.out.set (gpow 3 k) (box (gpow 3 k)) _ rfl).congr fun j _ => bxs_step k j)
      have HB := Lib.hid (H2.out.setCell (p := ⟨w.heap.size, gpow 3 k, none⟩) (Nat.le_refl _) (.int .u8 ((box (gpow 3 k) : Nat) : Int)))
      rw [← HBX.out] at HR HB
      have HX3 := Lib.hid fun w => (show Calls Tryz.prog 69 #[.int .u8 (gpow 3 k : Nat), .int .u8 3] w fun e w' => e = .returned (.int .u8 (gm (gpow 3 k) 3 : Nat)) ∧ w = w' from rmul_any (gpow 3 k) 3 w hxl (by decide))
      have HI6 := Lib.hid fun w => (show Calls Tryz.prog 69 #[.int .u8 (gpow 246 k : Nat), .int .u8 246] w fun e w' => e = .returned (.int .u8 (gm (gpow 246 k) 246 : Nat)) ∧ w = w' from rmul_any (gpow 246 k) 246 w hil (by decide))
      have HE := Lib.hid (show gm (gpow 3 k) 3 = gpow 3 (k + 1) ∧ gm (gpow 246 k) 246 = gpow 246 (k + 1) from ⟨rfl, rfl⟩)
      generalize bxs k (gpow 3 k) = old at *
      generalize gpow 3 k = x at *
      generalize gpow 246 k = i at *
      have l1 := rotl_lt (n := 1) hil (by decide)
      have l2 := rotl_lt (n := 2) hil (by decide)
      have l3 := rotl_lt (n := 3) hil (by decide)
      have l4 := rotl_lt (n := 4) hil (by decide)
      have e1 := x8 hil l1
      have k1 := xor8 hil l1
      have e2 := x8 k1 l2
      have k2 := xor8 k1 l2
      have e3 := x8 k2 l3
      have k3 := xor8 k2 l3
      have e4 := x8 k3 l4
      have k4 := xor8 k3 l4
      have e5 : bits BinOp.xor .u8 ((i ^^^ rotl i 1 ^^^ rotl i 2 ^^^ rotl i 3 ^^^ rotl i 4 : Nat) : Int) 99 = ((i ^^^ rotl i 1 ^^^ rotl i 2 ^^^ rotl i 3 ^^^ rotl i 4 ^^^ 99 : Nat) : Int) := x8 k4 (show 99 < 256 by decide)
      go_wp2_with (first | (go_at_call 68; (first | (with_reducible refine (rleft_any i 1 1 _ hil (by decide) (by decide)).mono ?_) | (with_reducible refine (rleft_any i 2 2 _ hil (by decide) (by decide)).mono ?_) | (with_reducible refine (rleft_any i 3 3 _ hil (by decide) (by decide)).mono ?_) | (with_reducible refine (rleft_any i 4 4 _ hil (by decide) (by decide)).mono ?_)); rintro e w' ⟨rfl, rfl⟩) | (go_at_call 69; (first | (with_reducible refine (HX3.out _).mono ?_) | (with_reducible refine (HI6.out _).mono ?_)); rintro e w' ⟨rfl, rfl⟩))
      go_roundw
      case rel => exact ⟨k + 1, by omega, by go_num, by rw [HE.out.1], by rw [HE.out.2], HR.out, HB.out⟩
      case measure => simp [intOf]; omega
    · obtain rfl : k = 255 := by omega
      go_wp2_with fail
      go_ret
      exact ⟨rfl, H1.out.congr fun j hj => bxs_all hj, H2.out⟩
end Go.Proofs.YtgcdnhjjoidpmaaGreatDoor
/- A row of rows of bytes that grows by append. -/
namespace Go.Proofs.YtgcdnhjjoidpmaaGreatDoor
open Go.RowKit

/-- v holds k rows of len bytes each, in the call's own memory from base on -/
structure LR (base : Nat) (w : World) (v : Value) (k len : Nat) (S : Nat → Nat → Nat) (G C : Nat → Nat) : Prop where
  own : w.ownsRow base 22 1 v k ((List.range k).map fun j => .slice (some ⟨G j, 0, none⟩) len (C j))
  rows : ∀ j, j < k → RowX w (G j) 5 len (fun t => .int .u8 (S j t : Nat))
namespace LR
variable {base k len : Nat} {w w' : World} {v : Value} {S : Nat → Nat → Nat} {G C : Nat → Nat}
theorem nil (base : Nat) (w : World) (len : Nat) (S : Nat → Nat → Nat) (G C : Nat → Nat) : LR base w (.slice none 0 0) 0 len S G C := ⟨World.ownsRow_nil w base _ 1, fun _ hj => absurd hj (Nat.not_lt_zero _)⟩
theorem keepB {B : Nat} (h : LR base w v k len S G C) (hb : Below B w w') (hB : w.heap.size ≤ B) : LR base w' v k len S G C := by
  refine ⟨?_, fun j hj => (h.rows j hj).below hb (Nat.lt_of_lt_of_le (h.rows j hj).lt hB)⟩
  rcases h.own with ⟨h1, h2 | ⟨g, cap, cur, e, hg, hh, r⟩⟩
  · exact ⟨h1, Or.inl h2⟩
  · exact ⟨h1, Or.inr ⟨g, cap, cur, e, hg, (hb.block g (Nat.lt_of_lt_of_le (Array.getElem?_eq_some_iff.1 hh).1 hB)).trans hh, r⟩⟩
theorem keep (h : LR base w v k len S G C) (hb : Below w.heap.size w w') : LR base w' v k len S G C := h.keepB hb (Nat.le_refl _)
theorem alloc' (h : LR base w v k len S G C) (o : Obj) : LR base (w.alloc o) v k len S G C := h.keep ((Below.refl _ _).alloc (Nat.le_refl _) o)
/-- a block of another kind of cells, or none of its rows, may change -/
theorem chg {K : Nat} (h : LR base w v k len S G C) (hc : Chg K w w') (hK : ∀ j, j < k → G j ≠ K) (hT : ∀ c fr, w.heap[K]? ≠ some (.cells c 22 fr)) : LR base w' v k len S G C := by
  refine ⟨?_, fun j hj => (h.rows j hj).of_block (hc.block _ (h.rows j hj).lt (hK j hj))⟩
  rcases h.own with ⟨h1, h2 | ⟨g, cap, cur, e, hg, hh, r⟩⟩
  · exact ⟨h1, Or.inl h2⟩
  · exact ⟨h1, Or.inr ⟨g, cap, cur, e, hg, (hc.block g (Array.getElem?_eq_some_iff.1 hh).1 (fun e' => hT _ _ (e' ▸ hh))).trans hh, r⟩⟩
theorem base_le {B : Nat} (h : LR base w v k len S G C) (hB : B ≤ base) : LR B w v k len S G C := by
  refine ⟨?_, h.rows⟩
  rcases h.own with ⟨h1, h2 | ⟨g, cap, cur, e, hg, r⟩⟩
  · exact ⟨h1, Or.inl h2⟩
  · exact ⟨h1, Or.inr ⟨g, cap, cur, e, Nat.le_trans hB hg, r⟩⟩
theorem slice (h : LR base w v k len S G C) : ∃ A cap, v = .slice A k cap ∧ k ≤ cap ∧ (0 < k → ∃ g, A = some ⟨g, 0, none⟩ ∧ g < w.heap.size ∧ ∀ j, j < k → w.cell? ⟨g, j, none⟩ = some (.slice (some ⟨G j, 0, none⟩) len (C j))) := by
  have hown := h.own
  rcases hown.2 with ⟨rfl, hn⟩ | ⟨g, cap, cur, rfl, hg, hh, h1, r⟩
  · subst hn; exact ⟨none, 0, rfl, Nat.le_refl _, fun h => absurd h (Nat.lt_irrefl _)⟩
  · refine ⟨_, cap, rfl, h1, fun _ => ⟨g, rfl, (Array.getElem?_eq_some_iff.1 hh).1, fun j hj => ?_⟩⟩
    rw [hown.cellAt j (by omega), List.getElem?_map, List.getElem?_range hj]; rfl
end LR
theorem infoS' : (Tryz.prog.info? 22).map (fun i => (i.zero, i.size, i.bytes)) = some (some (.slice none 0 0), 1, 24) := by kernel_rfl
/-- append of one row -/
theorem wpList_appS {ops : Array Oper} {rest : List Oper} {o : Oper} {a : Act} {Q : Exit → Act → World → Prop} {w : World} (hgd : o.guard = none) (s x : Operand)
    (ho : o.op = .call { callee := .builtin .append, args := #[s, x], argTypes := #[25, 25] })
    (base : Nat) (v : Value) (k len : Nat) (S : Nat → Nat → Nat) (G C : Nat → Nat) (hs : a.eval s = v) (h : LR base w v k len S G C)
    (X T cT : Nat) (hx : a.eval x = .slice (some ⟨X, 0, none⟩) 1 1) (hX : w.cell? ⟨X, 0, none⟩ = some (.slice (some ⟨T, 0, none⟩) len cT)) (hT : RowX w T 5 len (fun t => .int .u8 (S k t : Nat))) (hk : k ≤ 1000) (hbase : base ≤ w.heap.size)
    (hq : ∀ v' w', LR base w' v' (k + 1) len S (fun j => if j = k then T else G j) (fun j => if j = k then cT else C j) → Below base w w' → wpList Tryz.prog ops Q rest (a.put o.dst v') w') : wpList Tryz.prog ops Q (o :: rest) a w := by
  obtain ⟨i, hi, hz, hsz, hb⟩ := info_parts infoS'
  refine wpList_append_own w hgd s x 25 ho base 22 i (.slice none 0 0) 1 24 Tryz.underlying25 hi hz hsz hb rfl (by decide) v k _ hs h.own ⟨X, 0, none⟩ 1 1 [.slice (some ⟨T, 0, none⟩) len cT] hx rfl ?_ ?_ (by unfold maxLen; omega) (by omega) hbase ?_
  · intro j u hj
    match j, hj with
    | 0, hj => simp at hj; subst hj; exact hX
  · intro u hu; simp at hu; subst hu; rfl
  · intro v' w' h1 h2 _
    have hb' : Below base w w' := (Below.refl base w).grown h2 hbase fun k hk => (h.own.lt k hk).1
    have keepRow : ∀ g f, RowX w g 5 len f → RowX w' g 5 len f := fun g f hr => hr.of_block (h2.block g hr.lt fun e => by
      rcases h.own.2 with ⟨rfl, _⟩ | ⟨g', cap, cur, rfl, hg, hh, _⟩
      · cases e
      · obtain rfl : g = g' := by simpa [Value.ownBlock] using e
        obtain ⟨c, fr, hc, _⟩ := hr
        rw [hh] at hc
        injection hc with hc
        injection hc with _ ht _
        exact absurd ht (by decide))
    refine hq v' w' ⟨?_, fun j hj => ?_⟩ hb'
    · rw [List.range_succ, List.map_append]
      have e1 : (List.range k).map (fun j => Value.slice (some ⟨G j, 0, none⟩) len (C j)) = (List.range k).map (fun j => Value.slice (some ⟨if j = k then T else G j, 0, none⟩) len (if j = k then cT else C j)) :=
        List.map_congr_left fun j hj => by
          have hne : ¬ j = k := Nat.ne_of_lt (List.mem_range.1 hj)
          rw [if_neg hne, if_neg hne]
      rw [← e1]
      simpa using h1
    · by_cases e : j = k
      · subst e; rw [if_pos rfl]; exact keepRow _ _ hT
      · rw [if_neg e]; exact keepRow _ _ (h.rows j (by omega))
/-- an own row of bytes, as a row -/
theorem OwnB.rowX {w : World} {base n : Nat} {v : Value} {f : Nat → Nat} (h : OwnB w base v n f) (hn : 0 < n) : ∃ g c, v = .slice (some ⟨g, 0, none⟩) n c ∧ base ≤ g ∧ n ≤ c ∧ RowX w g 5 n (fun t => .int .u8 (f t : Nat)) := by
  rcases h.2 with ⟨rfl, hx⟩ | ⟨g, cap, cur, rfl, hg, hh, h1, h2, h3, h4⟩
  · omega
  · refine ⟨g, cap, rfl, hg, h1, cur, (0, 0), hh, by omega, Or.inl rfl, fun i hi => ?_⟩
    have e := congrArg (fun l => l[i]?) h4
    simp only [Nat.mul_one, List.getElem?_take, if_pos hi] at e
    rw [bytesL_at hi] at e
    simpa using e
theorem RowX.arr {w : World} {g n : Nat} {f : Nat → Nat} (h : RowX w g 5 n (fun t => .int .u8 (f t : Nat))) : Arr w g 0 n f := fun j hj => by
  rw [Nat.zero_add]; exact ⟨h.cell hj, h.frozen hj⟩
theorem RowX.slB {w : World} {g n : Nat} {f : Nat → Nat} (h : RowX w g 5 n (fun t => .int .u8 (f t : Nat))) (hf : By n f) : SlB w (some ⟨g, 0, none⟩) n f := SlB.of_rowX h fun j hj => ⟨hf j hj, rfl⟩
end Go.Proofs.YtgcdnhjjoidpmaaGreatDoor
/- Contracts of the reference's aes: round keys. -/
namespace Go.Proofs.YtgcdnhjjoidpmaaGreatDoor
open Go.RowKit

theorem row4 (w : World) (y0 y1 y2 y3 : Nat) (f : Nat → Nat) (h0 : f 0 = y0) (h1 : f 1 = y1) (h2 : f 2 = y2) (h3 : f 3 = y3) :
    RowX (w.alloc (.cells #[.int .u8 (y0 : Nat), .int .u8 (y1 : Nat), .int .u8 (y2 : Nat), .int .u8 (y3 : Nat)] 5)) w.heap.size 5 4 (fun t => .int .u8 (f t : Nat)) := by
  subst h0 h1 h2 h3
  exact RowX.of_rowIs (World.rowIs_alloc w _ _ _ fun i hi => by
    rcases (show i = 0 ∨ i = 1 ∨ i = 2 ∨ i = 3 by have : i < 4 := hi; omega) with rfl | rfl | rfl | rfl <;> rfl)
/-- the words of a schedule -/
abbrev wordOf (S : Nat → Nat) (j t : Nat) : Nat := S (4 * j + t)
/-- the reference's round keys, told -/
def RRoundsP (n : Nat) (key : Nat → Nat) (w : World) (e : Ending) (w' : World) : Prop :=
  ∃ v G C, e = .returned v ∧ LR w.heap.size w' v (n + 7) 16 (fun j t => ks n key (16 * j + t)) G C ∧ Below w.heap.size w w'
set_option maxRecDepth 100000 in
set_option maxHeartbeats 4000000 in
theorem rrounds_any (A1 A2 : Option Addr) (n c1 c2 : Nat) (key : Nat → Nat) (w : World) (hn : n = 4 ∨ n = 8) (hc : 4 * n ≤ c1) (h1 : SlB w A1 (4 * n) key) (h2 : SlB w A2 256 box) :
    Calls Tryz.prog 47 #[.slice A1 (4 * n) c1, .slice A2 256 c2] w (RRoundsP n key w) := by
  obtain ⟨B1, o1, rfl, l1, e1⟩ := h1 (by omega)
  obtain ⟨B2, o2, rfl, l2, e2⟩ := h2 (by decide)
  have HS1 := Lib.hid h1
  have HY := Lib.hid (show By (4 * n) key from fun j hj => (e1 j hj).1)
  have L1 := Lib.hid l1
  have E2 := Lib.hid fun x (hx : x < 256) => (e2 x hx).2
  have L2 := Lib.hid l2
  have HN := Lib.hid hn
  have HC1 := Lib.hid hc
  have hn4 : (4 : Int) ≤ (n : Nat) := by omega
  have hn8 : ((n : Nat) : Int) ≤ 8 := by omega
  have hn0 : ¬ ((n : Nat) : Int) = 0 := by omega
  obtain ⟨l, hl⟩ : ∃ l, 4 * n = l := ⟨_, rfl⟩
  have HL := Lib.hid hl
  rw [hl]
  have hdiv : ((l : Nat) : Int) / 4 = (n : Nat) := by omega
  clear h1 h2 e1 e2 l1 l2 hn hc hl
  go_enter Tryz.func47, Tryz.ntmps47
  go_wp2_with fail
  go_loopw [6, 7] (fun v6 v7 wr => ∃ (i cap : Nat) (A : Option Addr) (G C : Nat → Nat), i ≤ 4 * (n + 7) ∧ v7 = .int .i64 (i : Nat) ∧ v6 = .slice A i cap ∧ LR w.heap.size wr (.slice A i cap) i 4 (wordOf (ks n key)) G C ∧ Below w.heap.size w wr) (fun _ v7 _ => 70 - (intOf v7).toNat)
  case atStart => exact ⟨0, 0, none, fun _ => 0, fun _ => 0, Nat.zero_le _, rfl, rfl, LR.nil _ _ _ _ _ _, Below.refl _ _⟩
  case round =>
    obtain ⟨i, cap, A, G, C, hi, rfl, rfl, h1, h2⟩ := hrel
    have H1 := Lib.hid h1
    have H2 := Lib.hid h2
    clear h1 h2
    by_cases hlt : i < 4 * (n + 7)
    · have hlti : (i : Int) < 4 * ((n : Int) + 7) := by omega
      by_cases hin : i < n
      · have hc4 : ¬ c1 = 4 * i := by have := HC1.out; omega
        have hcb : 0 ≤ 4 * (i : Int) + 4 ∧ 4 * (i : Int) + 4 ≤ (c1 : Nat) := by have := HC1.out; omega
        have HSL := Lib.hid (show SlB (wr.alloc (.cells #[] 5)) (some ⟨B1, o1 + 4 * i, none⟩) 4 (fun t => key (4 * i + t)) from fun _ => ⟨B1, o1 + 4 * i, rfl, Nat.lt_of_lt_of_le L1.out (Nat.le_trans H2.out.size (by simp)), fun j hj => ⟨HY.out _ (by omega), by
          rw [World.cell?_alloc_past _ _ _ (Nat.lt_of_lt_of_le L1.out H2.out.size), H2.out.cell (p := ⟨B1, _, none⟩) L1.out]
          obtain ⟨B, o, e, _, hcc⟩ := HS1.out (by omega)
          obtain ⟨rfl, rfl, _⟩ : B1 = B ∧ o1 = o ∧ True := by injection e with e; injection e with e1 e2; exact ⟨e1, e2, trivial⟩
          rw [Nat.add_assoc]
          exact (hcc (4 * i + j) (by omega)).2⟩⟩)
        have HBY := Lib.hid (show ∀ j, j < 4 → key (4 * i + j) < 256 from fun j hj => HY.out _ (by omega))
        have HKS := Lib.hid (show ∀ t, t < 4 → catB 0 (fun _ => 0) (fun t => key (4 * i + t)) t = wordOf (ks n key) i t from fun t ht => by
          unfold catB
          rw [if_neg (Nat.not_lt_zero _), Nat.sub_zero]
          exact (ks_key (by omega)).symm)
        have H44 := Lib.hid (show 4 * i + 4 - 4 * i = 4 by omega)
        have HSL := Lib.hid (show SlB (wr.alloc (.cells #[] 5)) (some ⟨B1, o1 + 4 * i, none⟩) (4 * i + 4 - 4 * i) (fun t => key (4 * i + t)) by rw [H44.out]; exact HSL.out)
        have HBY := Lib.hid (show ∀ j, j < 4 * i + 4 - 4 * i → key (4 * i + j) < 256 by rw [H44.out]; exact HBY.out)
        have T1 : OwnB (wr.alloc (.cells #[] 5)) wr.heap.size (.slice (some ⟨wr.heap.size, 0, none⟩) 0 0) 0 (fun _ => 0) := OwnB.empty wr _ _ (Nat.le_refl _)
        have T2 : wr.heap.size ≤ (wr.alloc (.cells #[] 5)).heap.size := by simp
        have T1 := Lib.hid T1
        have T2 := Lib.hid T2
        go_wp2_with (at_builtin; first | (refine wpList_appO rfl (.tmp 28) (.tmp 35) rfl wr.heap.size _ 0 (fun _ => 0) rfl T1.out (some ⟨B1, o1 + 4 * i, none⟩) (4 * i + 4 - 4 * i) (c1 - 4 * i) (fun t => key (4 * i + t)) rfl HSL.out (fun h => by cases h) (by omega) T2.out (fun j hj => absurd hj (Nat.not_lt_zero _)) HBY.out ?_; intro A2 c2' w2 ho2 _ _ hb2; rw [Nat.zero_add, H44.out] at ho2 ⊢; obtain ⟨T, cT, hv, hT1, hT2, hT3⟩ := OwnB.rowX ho2 (by decide); cases hv; have HT := Lib.hid (hT3.congr (g := fun t => .int .u8 (wordOf (ks n key) i t : Nat)) fun t ht => by rw [HKS.out t ht]); have HB2 := Lib.hid (((Below.refl wr.heap.size wr).alloc (Nat.le_refl _) (.cells #[] 5)).trans hb2); have HZ2 := Lib.hid (show w.heap.size ≤ (w2.alloc (.cells #[.slice (some ⟨T, 0, none⟩) 4 c2'] 22)).heap.size from Nat.le_trans H2.out.size (Nat.le_trans HB2.out.size (by simp))); clear ho2 hb2 hT3) | (go_must (refine wpList_appS rfl (.tmp 27) (.tmp 37) rfl w.heap.size _ i 4 _ G C rfl (H1.out.keep HB2.out |>.alloc' (.cells #[.slice (some ⟨T, 0, none⟩) 4 c2'] 22)) w2.heap.size T c2' rfl (World.cell?_alloc_at _ _ _ _ rfl) (HT.out.alloc _) (by omega) HZ2.out ?_); intro v3 w3 h3 hb3; have H3 := Lib.hid h3; have HB3 := Lib.hid (H2.out.trans ((HB2.out.mono H2.out.size).trans (((Below.refl w2.heap.size w2).alloc (Nat.le_refl _) _).mono (Nat.le_trans H2.out.size HB2.out.size) |>.trans hb3))); clear h3 hb3))
        obtain ⟨A3, cap3, hv3, _, _⟩ := H3.out.slice
        subst hv3
        clear hc4 hcb
        go_roundw
        case rel => exact ⟨i + 1, cap3, A3, _, _, by omega, by go_num, rfl, H3.out, HB3.out⟩
        case measure => simp [intOf]; omega
      · obtain ⟨i1, hi1⟩ : ∃ i1, i = i1 + 1 := ⟨i - 1, by have := HN.out; omega⟩
        obtain ⟨i2, hi2⟩ : ∃ i2, i = i2 + n := ⟨i - n, by omega⟩
        obtain ⟨A6, cap6, hv6, hcap6, hsl6⟩ := H1.out.slice
        obtain ⟨rfl, _, rfl⟩ : A = A6 ∧ True ∧ cap = cap6 := by injection hv6 with e1 e2 e3; exact ⟨e1, trivial, e3⟩
        obtain ⟨g6, rfl, hg6, hcl6⟩ := hsl6 (by omega)
        have HCL := Lib.hid hcl6
        have HG6 := Lib.hid hg6
        have hs1 : (i : Int) - 1 = (i1 : Nat) := by omega
        have hs2 : (i : Int) - (n : Nat) = (i2 : Nat) := by omega
        have hs2w : IntKind.i64.wrap ((i : Int) - (n : Nat)) = (i2 : Nat) := by rw [IntWalk.i64_in _ (by omega)]; omega
        have hi10 : (0 : Int) ≤ (i1 : Nat) := by omega
        have hi1l : ((i1 : Nat) : Int) < (i : Nat) := by omega
        have hi20 : (0 : Int) ≤ (i2 : Nat) := by omega
        have hi2l : ((i2 : Nat) : Int) < (i : Nat) := by have := HN.out; omega
        have HKB := Lib.hid fun x => ks_by (n := n) (key := key) (by have := HN.out; omega) HY.out x
        have hway : ((((i : Int) % (n : Nat) == 0) = false ∧ ((n : Int) == 8) = false ∧ ∀ j, kt n (ks n key) i j = ks n key (4 * i1 + j)) ∨ (((i : Int) % (n : Nat) == 0) = false ∧ ((n : Int) == 8) = true ∧ ((i : Int) % 8 == 4) = false ∧ ∀ j, kt n (ks n key) i j = ks n key (4 * i1 + j))) ∨
            (((i : Int) % (n : Nat) == 0) = false ∧ ((n : Int) == 8) = true ∧ ((i : Int) % 8 == 4) = true ∧ ∀ j, kt n (ks n key) i j = box (ks n key (4 * i1 + j))) ∨
            (((i : Int) % (n : Nat) == 0) = true ∧ ∀ j, kt n (ks n key) i j = box (ks n key (4 * i1 + (j + 1) % 4)) ^^^ (if j = 0 then gpow 2 (i / n - 1) else 0)) := by
          have e1 : i - 1 = i1 := by omega
          by_cases hm : i % n = 0
          · right; right
            refine ⟨by rw [beq_iff_eq]; omega, fun j => ?_⟩
            unfold kt
            rw [if_pos hm, e1]
          · have hm' : ((i : Int) % (n : Nat) == 0) = false := by rw [beq_eq_false_iff_ne]; omega
            by_cases h8 : n = 8
            · have h8' : ((n : Int) == 8) = true := by rw [beq_iff_eq]; omega
              by_cases h4 : i % 8 = 4
              · right; left
                refine ⟨hm', h8', by rw [beq_iff_eq]; omega, fun j => ?_⟩
                unfold kt
                rw [if_neg hm, if_pos ⟨h8, h4⟩, e1]
              · left; right
                refine ⟨hm', h8', by rw [beq_eq_false_iff_ne]; omega, fun j => ?_⟩
                unfold kt
                rw [if_neg hm, if_neg (fun e => h4 e.2), e1]
            · left; left
              refine ⟨hm', by rw [beq_eq_false_iff_ne]; omega, fun j => ?_⟩
              unfold kt
              rw [if_neg hm, if_neg (fun e => h8 e.1), e1]
        have HI1 := Lib.hid hi1
        have HI2 := Lib.hid hi2
        have HIN := Lib.hid hin
        have hcw := HCL.out i1 (by omega)
        have hcw0 : (wr.alloc (.cells #[] 5)).cell? ⟨g6, i1, none⟩ = some (.slice (some ⟨G i1, 0, none⟩) 4 (C i1)) := (World.cell?_alloc_past _ _ _ HG6.out).trans hcw
        have T1 := Lib.hid (show OwnB (wr.alloc (.cells #[] 5)) wr.heap.size (.slice (some ⟨wr.heap.size, 0, none⟩) 0 0) 0 (fun _ => 0) from OwnB.empty wr _ _ (Nat.le_refl _))
        have T2 := Lib.hid (show wr.heap.size ≤ (wr.alloc (.cells #[] 5)).heap.size by simp)
        have HSL := Lib.hid (((H1.out.rows i1 (by omega)).alloc (.cells #[] 5)).slB fun j _ => HKB.out _)
        clear hi1 hi2 hin hcl6 hg6 hsl6 hv6 hcw
        rcases hway with (⟨ht1, ht2, ht3⟩ | ⟨ht1, ht2, ht4, ht3⟩) | ⟨ht1, ht2, ht4, ht3⟩ | ⟨ht1, ht3⟩
        all_goals
          have HKT := Lib.hid ht3
          clear ht3
        focus
          go_wp2_with (at_builtin; refine wpList_appO rfl (.tmp 39) (.tmp 44) rfl wr.heap.size _ 0 (fun _ => 0) rfl T1.out (some ⟨G i1, 0, none⟩) 4 (C i1) (fun t => ks n key (4 * i1 + t)) rfl HSL.out (fun h => by cases h) (by omega) T2.out (fun j hj => absurd hj (Nat.not_lt_zero _)) (fun j _ => HKB.out _) ?_; intro A2 c2' w2 ho2 _ _ hb2; rw [Nat.zero_add] at ho2 ⊢; obtain ⟨T, cT, hv, hT1, hT2, hT3⟩ := OwnB.rowX ho2 (by decide); cases hv; have HT := Lib.hid (hT3.congr (g := fun t => .int .u8 (ks n key (4 * i1 + t) : Nat)) fun t ht => by unfold catB; rw [if_neg (Nat.not_lt_zero _), Nat.sub_zero]); have HTN := Lib.hid hT1; have HB2 := Lib.hid (((Below.refl wr.heap.size wr).alloc (Nat.le_refl _) (.cells #[] 5)).trans hb2); clear ho2 hb2 hT3 hT1 hT2; have HBW := Lib.hid (H2.out.trans (HB2.out.mono H2.out.size)))
          have HTW := Lib.hid (HT.out.congr (g := fun t => .int .u8 (kt n (ks n key) i t : Nat)) fun t _ => by rw [HKT.out t])
          have HRW := Lib.hid (H1.out.keep HB2.out)
          have HSW := Lib.hid (show T < w2.heap.size ∧ wr.heap.size ≤ T from ⟨HT.out.lt, HTN.out⟩)
          have HBW0 := HB2
          clear HT HB2 HTN HKT ht1 ht2 HBW
          generalize w2 = W at *
          generalize T = TB at *
        rotate_left
        focus
          go_wp2_with (at_builtin; refine wpList_appO rfl (.tmp 39) (.tmp 44) rfl wr.heap.size _ 0 (fun _ => 0) rfl T1.out (some ⟨G i1, 0, none⟩) 4 (C i1) (fun t => ks n key (4 * i1 + t)) rfl HSL.out (fun h => by cases h) (by omega) T2.out (fun j hj => absurd hj (Nat.not_lt_zero _)) (fun j _ => HKB.out _) ?_; intro A2 c2' w2 ho2 _ _ hb2; rw [Nat.zero_add] at ho2 ⊢; obtain ⟨T, cT, hv, hT1, hT2, hT3⟩ := OwnB.rowX ho2 (by decide); cases hv; have HT := Lib.hid (hT3.congr (g := fun t => .int .u8 (ks n key (4 * i1 + t) : Nat)) fun t ht => by unfold catB; rw [if_neg (Nat.not_lt_zero _), Nat.sub_zero]); have HTN := Lib.hid hT1; have HB2 := Lib.hid (((Below.refl wr.heap.size wr).alloc (Nat.le_refl _) (.cells #[] 5)).trans hb2); clear ho2 hb2 hT3 hT1 hT2; have HBW := Lib.hid (H2.out.trans (HB2.out.mono H2.out.size)))
          have HTW := Lib.hid (HT.out.congr (g := fun t => .int .u8 (kt n (ks n key) i t : Nat)) fun t _ => by rw [HKT.out t])
          have HRW := Lib.hid (H1.out.keep HB2.out)
          have HSW := Lib.hid (show T < w2.heap.size ∧ wr.heap.size ≤ T from ⟨HT.out.lt, HTN.out⟩)
          have HBW0 := HB2
          clear HT HB2 HTN HKT ht1 ht2 ht4 HBW
          generalize w2 = W at *
          generalize T = TB at *
        rotate_left
        focus
          have hx0 := HKB.out (4 * i1 + 0)
          have hx1 := HKB.out (4 * i1 + 1)
          have hx2 := HKB.out (4 * i1 + 2)
          have hx3 := HKB.out (4 * i1 + 3)
          have hxi0 : ((ks n key (4 * i1 + 0) : Nat) : Int) < 256 := by omega
          have hxi1 : ((ks n key (4 * i1 + 1) : Nat) : Int) < 256 := by omega
          have hxi2 : ((ks n key (4 * i1 + 2) : Nat) : Int) < 256 := by omega
          have hxi3 : ((ks n key (4 * i1 + 3) : Nat) : Int) < 256 := by omega
          go_wp2_with (at_builtin; refine wpList_appO rfl (.tmp 39) (.tmp 44) rfl wr.heap.size _ 0 (fun _ => 0) rfl T1.out (some ⟨G i1, 0, none⟩) 4 (C i1) (fun t => ks n key (4 * i1 + t)) rfl HSL.out (fun h => by cases h) (by omega) T2.out (fun j hj => absurd hj (Nat.not_lt_zero _)) (fun j _ => HKB.out _) ?_; intro A2 c2' w2 ho2 _ _ hb2; rw [Nat.zero_add] at ho2 ⊢; obtain ⟨T, cT, hv, hT1, hT2, hT3⟩ := OwnB.rowX ho2 (by decide); cases hv; have HT := Lib.hid (hT3.congr (g := fun t => .int .u8 (ks n key (4 * i1 + t) : Nat)) fun t ht => by unfold catB; rw [if_neg (Nat.not_lt_zero _), Nat.sub_zero]); have HTN := Lib.hid hT1; have HB2 := Lib.hid (((Below.refl wr.heap.size wr).alloc (Nat.le_refl _) (.cells #[] 5)).trans hb2); clear ho2 hb2 hT3 hT1 hT2; have HBW := Lib.hid (H2.out.trans (HB2.out.mono H2.out.size)); have hd0 := HT.out.cell (i := 0) (by decide); have hd1 := HT.out.cell (i := 1) (by decide); have hd2 := HT.out.cell (i := 2) (by decide); have hd3 := HT.out.cell (i := 3) (by decide); have hb0 := (HBW.out.cell (p := ⟨B2, o2 + ks n key (4 * i1 + 0), none⟩) L2.out).trans (E2.out _ (HKB.out (4 * i1 + 0))); have hb1 := (HBW.out.cell (p := ⟨B2, o2 + ks n key (4 * i1 + 1), none⟩) L2.out).trans (E2.out _ (HKB.out (4 * i1 + 1))); have hb2 := (HBW.out.cell (p := ⟨B2, o2 + ks n key (4 * i1 + 2), none⟩) L2.out).trans (E2.out _ (HKB.out (4 * i1 + 2))); have hb3 := (HBW.out.cell (p := ⟨B2, o2 + ks n key (4 * i1 + 3), none⟩) L2.out).trans (E2.out _ (HKB.out (4 * i1 + 3))))
          have HE0 := Lib.hid (show kt n (ks n key) i 0 = box (ks n key (4 * i1 + 0)) ∧ kt n (ks n key) i 1 = box (ks n key (4 * i1 + 1)) ∧ kt n (ks n key) i 2 = box (ks n key (4 * i1 + 2)) ∧ kt n (ks n key) i 3 = box (ks n key (4 * i1 + 3)) from ⟨HKT.out 0, HKT.out 1, HKT.out 2, HKT.out 3⟩)
          generalize box (ks n key (4 * i1 + 0)) = y0 at *
          generalize box (ks n key (4 * i1 + 1)) = y1 at *
          generalize box (ks n key (4 * i1 + 2)) = y2 at *
          generalize box (ks n key (4 * i1 + 3)) = y3 at *
          generalize ks n key (4 * i1 + 0) = x0 at *
          generalize ks n key (4 * i1 + 1) = x1 at *
          generalize ks n key (4 * i1 + 2) = x2 at *
          generalize ks n key (4 * i1 + 3) = x3 at *
          have HR0 := Lib.hid (show LR w.heap.size w2.drew _ i 4 _ G C from (H1.out.keep HB2.out).keep (Below.refl _ _).drew)
          have HB0 := Lib.hid (show Below wr.heap.size wr w2.drew from HB2.out.drew)
          refine wp_region_still_tail 24 (by kernel_rfl) (by kernel_rfl) ?_
          change wpStill _ _ w2.drew (fun a' => wpList _ _ _ _ a' w2.drew) _ _
          replace hd0 : w2.drew.cell? _ = _ := hd0
          replace hd1 : w2.drew.cell? _ = _ := hd1
          replace hd2 : w2.drew.cell? _ = _ := hd2
          replace hd3 : w2.drew.cell? _ = _ := hd3
          replace hb0 : w2.drew.cell? _ = _ := hb0
          replace hb1 : w2.drew.cell? _ = _ := hb1
          replace hb2 : w2.drew.cell? _ = _ := hb2
          replace hb3 : w2.drew.cell? _ = _ := hb3
          generalize w2.drew = Wd at *
          simp only [List.take_succ_cons, List.take_zero, List.drop_succ_cons, List.drop_zero]
          repeat still_step
          refine wpStill_nil ?_
          go_wp2_with fail
          have HTW := Lib.hid (row4 Wd y0 y1 y2 y3 (kt n (ks n key) i) HE0.out.1 HE0.out.2.1 HE0.out.2.2.1 HE0.out.2.2.2)
          have HRW := Lib.hid (HR0.out.alloc' (.cells #[.int .u8 (y0 : Nat), .int .u8 (y1 : Nat), .int .u8 (y2 : Nat), .int .u8 (y3 : Nat)] 5))
          have HBW0 := Lib.hid (HB0.out.alloc HB0.out.size (.cells #[.int .u8 (y0 : Nat), .int .u8 (y1 : Nat), .int .u8 (y2 : Nat), .int .u8 (y3 : Nat)] 5))
          have HSW := Lib.hid (show Wd.heap.size < (Wd.alloc (.cells #[.int .u8 (y0 : Nat), .int .u8 (y1 : Nat), .int .u8 (y2 : Nat), .int .u8 (y3 : Nat)] 5)).heap.size ∧ wr.heap.size ≤ Wd.heap.size from ⟨by simp, HB0.out.size⟩)
          generalize Wd.alloc (.cells #[.int .u8 (y0 : Nat), .int .u8 (y1 : Nat), .int .u8 (y2 : Nat), .int .u8 (y3 : Nat)] 5) = W at *
          generalize Wd.heap.size = TB at *
          clear HT HB2 HTN HKT HBW hd0 hd1 hd2 hd3 hb0 hb1 hb2 hb3 HE0 hx0 hx1 hx2 hx3 hxi0 hxi1 hxi2 hxi3 ht1 ht2 ht4 HR0 HB0
        rotate_left
        focus
          have hx0 := HKB.out (4 * i1 + 0)
          have hx1 := HKB.out (4 * i1 + 1)
          have hx2 := HKB.out (4 * i1 + 2)
          have hx3 := HKB.out (4 * i1 + 3)
          have hxi0 : ((ks n key (4 * i1 + 0) : Nat) : Int) < 256 := by omega
          have hxi1 : ((ks n key (4 * i1 + 1) : Nat) : Int) < 256 := by omega
          have hxi2 : ((ks n key (4 * i1 + 2) : Nat) : Int) < 256 := by omega
          have hxi3 : ((ks n key (4 * i1 + 3) : Nat) : Int) < 256 := by omega
          go_wp2_with (at_builtin; refine wpList_appO rfl (.tmp 39) (.tmp 44) rfl wr.heap.size _ 0 (fun _ => 0) rfl T1.out (some ⟨G i1, 0, none⟩) 4 (C i1) (fun t => ks n key (4 * i1 + t)) rfl HSL.out (fun h => by cases h) (by omega) T2.out (fun j hj => absurd hj (Nat.not_lt_zero _)) (fun j _ => HKB.out _) ?_; intro A2 c2' w2 ho2 _ _ hb2; rw [Nat.zero_add] at ho2 ⊢; obtain ⟨T, cT, hv, hT1, hT2, hT3⟩ := OwnB.rowX ho2 (by decide); cases hv; have HT := Lib.hid (hT3.congr (g := fun t => .int .u8 (ks n key (4 * i1 + t) : Nat)) fun t ht => by unfold catB; rw [if_neg (Nat.not_lt_zero _), Nat.sub_zero]); have HTN := Lib.hid hT1; have HB2 := Lib.hid (((Below.refl wr.heap.size wr).alloc (Nat.le_refl _) (.cells #[] 5)).trans hb2); clear ho2 hb2 hT3 hT1 hT2; have HBW := Lib.hid (H2.out.trans (HB2.out.mono H2.out.size)); have hd0 := HT.out.cell (i := 0) (by decide); have hd1 := HT.out.cell (i := 1) (by decide); have hd2 := HT.out.cell (i := 2) (by decide); have hd3 := HT.out.cell (i := 3) (by decide); have hb0 := (HBW.out.cell (p := ⟨B2, o2 + ks n key (4 * i1 + 0), none⟩) L2.out).trans (E2.out _ (HKB.out (4 * i1 + 0))); have hb1 := (HBW.out.cell (p := ⟨B2, o2 + ks n key (4 * i1 + 1), none⟩) L2.out).trans (E2.out _ (HKB.out (4 * i1 + 1))); have hb2 := (HBW.out.cell (p := ⟨B2, o2 + ks n key (4 * i1 + 2), none⟩) L2.out).trans (E2.out _ (HKB.out (4 * i1 + 2))); have hb3 := (HBW.out.cell (p := ⟨B2, o2 + ks n key (4 * i1 + 3), none⟩) L2.out).trans (E2.out _ (HKB.out (4 * i1 + 3))))
          have HE0 := Lib.hid (show kt n (ks n key) i 0 = box (ks n key (4 * i1 + 1)) ^^^ gpow 2 (i / n - 1) ∧ kt n (ks n key) i 1 = box (ks n key (4 * i1 + 2)) ∧ kt n (ks n key) i 2 = box (ks n key (4 * i1 + 3)) ∧ kt n (ks n key) i 3 = box (ks n key (4 * i1 + 0)) from
            ⟨by rw [HKT.out 0, if_pos rfl], by rw [HKT.out 1, if_neg (by decide), Nat.xor_zero], by rw [HKT.out 2, if_neg (by decide), Nat.xor_zero], by rw [HKT.out 3, if_neg (by decide), Nat.xor_zero]⟩)
          obtain ⟨q, hq⟩ : ∃ q, i / n - 1 = q := ⟨_, rfl⟩
          rw [hq] at HE0
          have hdv : ((i / n : Nat) : Int) = (i : Int) / (n : Nat) := by simp
          have hq1 : 1 ≤ i / n := by
            have := HIN.out
            rcases HN.out with h | h <;> subst h <;> omega
          have hq2 : i / n ≤ 60 := Nat.le_trans (Nat.div_le_self _ _) (by have := HN.out; omega)
          have HE := Lib.hid (show IntKind.i64.wrap (IntKind.i64.wrap ((i : Int) / (n : Nat)) - 1) = (q : Nat) by
            rw [← hdv, show IntKind.i64.wrap ((i / n : Nat) : Int) = ((q + 1 : Nat) : Int) by rw [IntWalk.i64_in _ (by omega)]; omega, IntWalk.i64_in _ (by omega)]; omega)
          have hnn : ¬ n = 0 := by have := HN.out; omega
          have hpl : gpow 2 q < 256 := gpow_lt (by decide) q
          have HPW := Lib.hid fun (t : Int) (ht : t = (q : Nat)) w => (show Calls Tryz.prog 70 #[.int .u8 2, .int .i64 t] w fun e w' => e = .returned (.int .u8 (gpow 2 q : Nat)) ∧ w = w' by subst ht; exact rpow_any 2 (q : Nat) w (by decide) (by omega))
          have hy1 := box_lt hx1
          generalize box (ks n key (4 * i1 + 0)) = y0 at *
          generalize box (ks n key (4 * i1 + 1)) = y1 at *
          generalize box (ks n key (4 * i1 + 2)) = y2 at *
          generalize box (ks n key (4 * i1 + 3)) = y3 at *
          generalize ks n key (4 * i1 + 0) = x0 at *
          generalize ks n key (4 * i1 + 1) = x1 at *
          generalize ks n key (4 * i1 + 2) = x2 at *
          generalize ks n key (4 * i1 + 3) = x3 at *
          generalize hgp : gpow 2 q = z at *
          have hyz := x8 hy1 hpl
          clear hdv hq1 hq2 hq hgp
          have HR0 := Lib.hid (show LR w.heap.size w2.drew _ i 4 _ G C from (H1.out.keep HB2.out).keep (Below.refl _ _).drew)
          have HB0 := Lib.hid (show Below wr.heap.size wr w2.drew from HB2.out.drew)
          refine wp_region_still_tail 30 (by kernel_rfl) (by kernel_rfl) ?_
          change wpStill _ _ w2.drew (fun a' => wpList _ _ _ _ a' w2.drew) _ _
          replace hd0 : w2.drew.cell? _ = _ := hd0
          replace hd1 : w2.drew.cell? _ = _ := hd1
          replace hd2 : w2.drew.cell? _ = _ := hd2
          replace hd3 : w2.drew.cell? _ = _ := hd3
          replace hb0 : w2.drew.cell? _ = _ := hb0
          replace hb1 : w2.drew.cell? _ = _ := hb1
          replace hb2 : w2.drew.cell? _ = _ := hb2
          replace hb3 : w2.drew.cell? _ = _ := hb3
          generalize w2.drew = Wd at *
          simp only [List.take_succ_cons, List.take_zero, List.drop_succ_cons, List.drop_zero]
          repeat still_step
          still_call (same_flip (HPW.out _ HE.out _))
          repeat still_step
          refine wpStill_nil ?_
          go_wp2_with fail
          have HTW := Lib.hid (row4 Wd (y1 ^^^ z) y2 y3 y0 (kt n (ks n key) i) HE0.out.1 HE0.out.2.1 HE0.out.2.2.1 HE0.out.2.2.2)
          have HRW := Lib.hid (HR0.out.alloc' (.cells #[.int .u8 ((y1 ^^^ z : Nat) : Int), .int .u8 (y2 : Nat), .int .u8 (y3 : Nat), .int .u8 (y0 : Nat)] 5))
          have HBW0 := Lib.hid (HB0.out.alloc HB0.out.size (.cells #[.int .u8 ((y1 ^^^ z : Nat) : Int), .int .u8 (y2 : Nat), .int .u8 (y3 : Nat), .int .u8 (y0 : Nat)] 5))
          have HSW := Lib.hid (show Wd.heap.size < (Wd.alloc (.cells #[.int .u8 ((y1 ^^^ z : Nat) : Int), .int .u8 (y2 : Nat), .int .u8 (y3 : Nat), .int .u8 (y0 : Nat)] 5)).heap.size ∧ wr.heap.size ≤ Wd.heap.size from ⟨by simp, HB0.out.size⟩)
          generalize Wd.alloc (.cells #[.int .u8 ((y1 ^^^ z : Nat) : Int), .int .u8 (y2 : Nat), .int .u8 (y3 : Nat), .int .u8 (y0 : Nat)] 5) = W at *
          generalize Wd.heap.size = TB at *
          clear HT HB2 HTN HKT HBW hd0 hd1 hd2 hd3 hb0 hb1 hb2 hb3 HE0 hx0 hx1 hx2 hx3 hxi0 hxi1 hxi2 hxi3 ht1 HPW HE hpl hyz hy1 HR0 HB0
        all_goals
          have HRT := Lib.hid fun j (hj : j < i) => (show G j ≠ TB from Nat.ne_of_lt (Nat.lt_of_lt_of_le (H1.out.rows j hj).lt HSW.out.2))
          have HCT := Lib.hid (show ∀ c fr, W.heap[TB]? ≠ some (.cells c 22 fr) from fun c fr e => by
            obtain ⟨c', fr', h', _⟩ := HTW.out
            rw [e] at h'
            injection h' with h'
            injection h' with _ ht _
            exact absurd ht (by decide))
          clear T1 T2 HSL hcw0 hs1 hi10 hi1l
          go_loopw [9] (fun v wx => ∃ k : Nat, k ≤ 4 ∧ v = .int .i64 k ∧ RowX wx TB 5 4 (fun j => .int .u8 ((if j < k then ks n key (4 * i + j) else kt n (ks n key) i j : Nat) : Int)) ∧ Chg TB W wx) (fun v _ => 4 - (intOf v).toNat)
          case atStart => exact ⟨0, by decide, rfl, HTW.out.congr fun j _ => by rw [if_neg (Nat.not_lt_zero _)], Chg.refl _ _⟩
          case round =>
            obtain ⟨k, hk, rfl, h1, h2⟩ := hrel
            have HRX := Lib.hid (HRW.out.chg h2 HRT.out HCT.out)
            have H5 := Lib.hid h1
            have H6 := Lib.hid h2
            clear h1 h2
            by_cases hlk : k < 4
            · have hc1 := H5.out.cell hlk
              have hf1 := H5.out.frozen hlk
              rw [if_neg (Nat.lt_irrefl k)] at hc1
              obtain ⟨A7, cap7, hv7, _, hsl7⟩ := HRX.out.slice
              obtain ⟨g7, hA7, _, hcl7⟩ := hsl7 (by have := HIN.out; have := HN.out; omega)
              obtain rfl : g6 = g7 := by
                rw [hA7] at hv7
                injection hv7 with e1 _ _
                injection e1 with e1
                injection e1
              have hc2 := hcl7 i2 (by have := HI2.out; have := HN.out; omega)
              have hc3 : wr.cell? ⟨G i2, k, none⟩ = some (.int .u8 (ks n key (4 * i2 + k) : Nat)) := (HRX.out.rows i2 (by have := HI2.out; have := HN.out; omega)).cell hlk
              have hxl := kt_by (n := n) (i := i) (j := k) (S := ks n key) (by have := HN.out; omega) (by have := HIN.out; omega) hlk (fun x _ => HKB.out x)
              have hyl := HKB.out (4 * i2 + k)
              have HX := Lib.hid (show kt n (ks n key) i k ^^^ ks n key (4 * i2 + k) = ks n key (4 * i + k) by
                rw [ks_next (by have := HN.out; omega) (by have := HIN.out; omega) hlt hlk]
                unfold nxt
                rw [show i - n = i2 by have := HI2.out; omega, Nat.xor_comm])
              have HM := Lib.hid (((H5.out.set k (.int .u8 ((kt n (ks n key) i k ^^^ ks n key (4 * i2 + k) : Nat) : Int))).congr (g := fun j => .int .u8 ((if j < k + 1 then ks n key (4 * i + j) else kt n (ks n key) i j : Nat) : Int)) fun j _ => by
                by_cases e : j = k
                · subst e; rw [if_pos rfl, if_pos (Nat.lt_succ_self _), HX.out]
                · rw [if_neg e]
                  by_cases h : j < k
                  · rw [if_pos h, if_pos (by omega)]
                  · rw [if_neg h, if_neg (by omega)]).drew)
              have HC := Lib.hid ((H6.out.setCell (a := ⟨TB, k, none⟩) (Or.inl rfl) (.int .u8 ((kt n (ks n key) i k ^^^ ks n key (4 * i2 + k) : Nat) : Int))).drew)
              clear hsl7 hcl7 hv7
              generalize kt n (ks n key) i k = x at *
              generalize ks n key (4 * i2 + k) = y at *
              have hxy := x8 hxl hyl
              go_wp2_with fail
              go_region
              all_goals
                generalize (wr.setCell ⟨TB, k, none⟩ (.int .u8 ((x ^^^ y : Nat) : Int))).drew = W5 at *
                clear hc1 hc2 hc3 hf1 HRX
                go_wp2_with fail
                go_roundw
                case rel => exact ⟨k + 1, by omega, by go_num, HM.out, HC.out⟩
                case measure => simp [intOf]; omega
            · obtain rfl : k = 4 := by omega
              have HTW5 := Lib.hid (H5.out.congr (g := fun t => .int .u8 (wordOf (ks n key) i t : Nat)) fun j hj => by rw [if_pos hj])
              have HB5 := Lib.hid (show Below w.heap.size w wr from H2.out.trans ((HBW0.out.mono H2.out.size).trans (H6.out.below (Nat.le_trans H2.out.size (Nat.le_trans HSW.out.2 (Nat.le_of_lt HSW.out.1))) (Nat.le_trans H2.out.size HSW.out.2))))
              have HZ5 := Lib.hid fun o => (show w.heap.size ≤ (wr.alloc o).heap.size from Nat.le_trans HB5.out.size (by simp))
              clear H5 hs2 hs2w hi20 hi2l
              go_wp2_with (at_builtin; go_must (refine wpList_appS rfl (.tmp 134) (.tmp 136) rfl w.heap.size _ i 4 _ G C rfl (HRX.out.alloc' _) wr.heap.size TB _ rfl (World.cell?_alloc_at _ _ _ _ rfl) (HTW5.out.alloc _) (by omega) (HZ5.out _) ?_); intro v3 w3 h3 hb3; have H3 := Lib.hid h3; have HB3 := Lib.hid ((HB5.out.alloc HB5.out.size _).trans hb3); clear h3 hb3)
              obtain ⟨A3, cap3, hv3, _, _⟩ := H3.out.slice
              subst hv3
              go_roundw
              case rel => exact ⟨i + 1, cap3, A3, _, _, by omega, by go_num, rfl, H3.out, HB3.out⟩
              case measure => simp [intOf]; omega
    · obtain ⟨A6, cap6, hv6, hcap6, hsl6⟩ := H1.out.slice
      obtain ⟨rfl, _, rfl⟩ : A = A6 ∧ True ∧ cap = cap6 := by injection hv6 with e1 e2 e3; exact ⟨e1, trivial, e3⟩
      obtain ⟨g6, rfl, hg6, hcl6⟩ := hsl6 (by have := HN.out; omega)
      have HIE := Lib.hid (show i = 4 * (n + 7) by omega)
      have HKB := Lib.hid fun x => ks_by (n := n) (key := key) (by have := HN.out; omega) HY.out x
      have hli : ¬ (i : Int) < 4 * ((n : Int) + 7) := by omega
      have HCL := Lib.hid fun W (h : Below wr.heap.size wr W) j (hj : j < i) => (h.cell (p := ⟨g6, j, none⟩) hg6).trans (hcl6 j hj)
      have HRS := Lib.hid fun W (h : Below wr.heap.size wr W) j (hj : j < i) => ((H1.out.rows j hj).below h (H1.out.rows j hj).lt).slB fun t _ => HKB.out (4 * j + t)
      have hi60 : i ≤ 60 := by have := HN.out; omega
      generalize hWr : wr = Wr at *
      clear hv6 hsl6 hcl6 hg6 hWr
      go_wp2_with fail
      go_loopw [10, 11] (fun v10 v11 wx => ∃ (m cap10 : Nat) (A10 : Option Addr) (G10 C10 : Nat → Nat), 4 * m ≤ i ∧ v11 = .int .i64 ((4 * m : Nat) : Int) ∧ v10 = .slice A10 m cap10 ∧ LR Wr.heap.size wx (.slice A10 m cap10) m 16 (fun j t => ks n key (16 * j + t)) G10 C10 ∧ Below Wr.heap.size Wr wx) (fun _ v11 _ => 70 - (intOf v11).toNat)
      case atStart => exact ⟨0, 0, none, fun _ => 0, fun _ => 0, Nat.zero_le _, rfl, rfl, LR.nil _ _ _ _ _ _, Below.refl _ _⟩
      case round =>
        obtain ⟨m, cap10, A10, G10, C10, hm, rfl, rfl, h1, h2⟩ := hrel
        have H3 := Lib.hid h1
        have H4 := Lib.hid h2
        clear h1 h2
        obtain ⟨p, hp⟩ : ∃ p, 4 * m = p := ⟨_, rfl⟩
        rw [hp]
        have HP := Lib.hid hp
        by_cases hlm : p < i
        · have hp4 : p + 4 ≤ i := by have := HIE.out; omega
          have hlm2 : (p : Int) < (i : Nat) := by omega
          generalize hW2 : wr = W2 at *
          clear hW2
          go_wp2_with fail
          go_loopw [12, 13] (fun v12 v13 wy => ∃ (k c12 : Nat) (A12 : Option Addr), k ≤ 4 ∧ v13 = .int .i64 (k : Nat) ∧ v12 = .slice A12 (4 * k) c12 ∧ OwnB wy W2.heap.size (.slice A12 (4 * k) c12) (4 * k) (fun t => ks n key (4 * p + t)) ∧ Below W2.heap.size W2 wy) (fun _ v13 _ => 4 - (intOf v13).toNat)
          case atStart => exact ⟨0, 0, none, by decide, rfl, rfl, OwnB.nil _ _ _, Below.refl _ _⟩
          case round =>
            obtain ⟨k, c12, A12, hk, rfl, rfl, h1, h2⟩ := hrel
            have H5 := Lib.hid h1
            have H6 := Lib.hid h2
            clear h1 h2
            by_cases hlk : k < 4
            · obtain ⟨j, hj⟩ : ∃ j, p + k = j := ⟨_, rfl⟩
              have hji : j < i := by omega
              have hjI : ((j : Nat) : Int) < (i : Nat) := by omega
              have hj0 : (0 : Int) ≤ (j : Nat) := by omega
              have hjs : (p : Int) + (k : Nat) = (j : Nat) := by omega
              have HBB := Lib.hid (show Below Wr.heap.size Wr wr from H4.out.trans (H6.out.mono H4.out.size))
              have hc1 := HCL.out wr HBB.out j hji
              have HS := Lib.hid (HRS.out wr HBB.out j hji)
              have HJ := Lib.hid hj
              clear hj
              go_wp2_with (at_builtin; go_must (refine wpList_appO rfl (.tmp 148) (.tmp 154) rfl W2.heap.size _ (4 * k) (fun t => ks n key (4 * p + t)) rfl H5.out (some ⟨G j, 0, none⟩) 4 (C j) (wordOf (ks n key) j) rfl HS.out (fun h => by cases h) (by omega) H6.out.size (fun t _ => HKB.out _) (fun t _ => HKB.out _) ?_); intro A2 c2' w2 ho2 _ hc2 hb2; have HO2 := Lib.hid (ho2.congr (g := fun t => ks n key (4 * p + t)) fun t ht => by
                unfold catB
                by_cases h : t < 4 * k
                · rw [if_pos h]
                · rw [if_neg h]; show ks n key (4 * j + (t - 4 * k)) = _; congr 1; have := HJ.out; omega); have HB2 := Lib.hid (H6.out.trans hb2); clear ho2 hb2 hc2)
              go_roundw
              case rel => exact ⟨k + 1, c2', A2, by omega, by go_num, rfl, HO2.out, HB2.out⟩
              case measure => simp [intOf]; omega
            · obtain rfl : k = 4 := by omega
              obtain ⟨T, cT, hv, hT1, hT2, hT3⟩ := OwnB.rowX H5.out (by decide)
              cases hv
              have HTW := Lib.hid (show RowX wr T 5 16 (fun t => .int .u8 (ks n key (16 * m + t) : Nat)) from RowX.congr hT3 fun t _ => by have := HP.out; rw [show 4 * p + t = 16 * m + t by omega])
              have HRW := Lib.hid (H3.out.keep H6.out)
              have HZ := Lib.hid fun o => (show Wr.heap.size ≤ (wr.alloc o).heap.size from Nat.le_trans H4.out.size (Nat.le_trans H6.out.size (by simp)))
              have HBW := Lib.hid (H4.out.trans (H6.out.mono H4.out.size))
              have hm20 : m ≤ 1000 := by have := HP.out; omega
              have HTN := Lib.hid hT1
              clear hT1 hT2 hT3
              go_wp2_with (at_builtin; go_must (refine wpList_appS rfl (.tmp 156) (.tmp 158) rfl Wr.heap.size _ m 16 (fun j t => ks n key (16 * j + t)) G10 C10 rfl (HRW.out.alloc' _) wr.heap.size T _ rfl (World.cell?_alloc_at _ _ _ _ rfl) (HTW.out.alloc _) hm20 (HZ.out _) ?_); intro v3 w3 h3 hb3; have H7 := Lib.hid h3; have H8 := Lib.hid ((HBW.out.alloc HBW.out.size _).trans hb3); clear h3 hb3)
              obtain ⟨A3, cap3, hv3, _, _⟩ := H7.out.slice
              subst hv3
              go_roundw
              case rel => exact ⟨m + 1, cap3, A3, _, _, by have := HP.out; omega, by have := HP.out; go_num, rfl, H7.out, H8.out⟩
              case measure => have := HP.out; simp [intOf]; omega
        · have hm7 : m = n + 7 := by have := HP.out; have := HIE.out; omega
          have HM7 := Lib.hid hm7
          have hlm2 : ¬ (p : Int) < (i : Nat) := by omega
          clear hm7
          go_wp2_with fail
          go_ret
          exact ⟨_, G10, C10, rfl, by rw [← HM7.out]; exact H3.out.base_le H2.out.size, H2.out.trans (H4.out.mono H2.out.size)⟩
end Go.Proofs.YtgcdnhjjoidpmaaGreatDoor
/- Contracts of the reference's aes: keys and blocks. -/
namespace Go.Proofs.YtgcdnhjjoidpmaaGreatDoor
open Go.RowKit

/-- a key of the reference's, at g -/
structure RKey (w : World) (g n : Nat) (key : Nat → Nat) : Prop where
  rounds : ∃ (L cap : Nat) (G C : Nat → Nat), w.cell? ⟨g, 0, none⟩ = some (.slice (some ⟨L, 0, none⟩) (n + 7) cap) ∧ L < w.heap.size ∧ ∀ j, j < n + 7 → w.cell? ⟨L, j, none⟩ = some (.slice (some ⟨G j, 0, none⟩) 16 (C j)) ∧ RowX w (G j) 5 16 (fun t => .int .u8 (ks n key (16 * j + t) : Nat))
  box : ∃ B, w.cell? ⟨g, 1, none⟩ = some (.slice (some ⟨B, 0, none⟩) 256 256) ∧ RowB w B 256 box
  unbox : ∃ U, w.cell? ⟨g, 2, none⟩ = some (.slice (some ⟨U, 0, none⟩) 256 256) ∧ RowB w U 256 unbox
theorem RKey.lt {w : World} {g n : Nat} {key : Nat → Nat} (h : RKey w g n key) : g < w.heap.size := by
  obtain ⟨B, hb, _⟩ := h.box
  exact block_lt hb
theorem RKey.keep {w w' : World} {g n : Nat} {key : Nat → Nat} (h : RKey w g n key) (hb : Below w.heap.size w w') : RKey w' g n key := by
  have hg := h.lt
  obtain ⟨⟨L, cap, G, C, h1, h2, h3⟩, ⟨B, h4, h5⟩, ⟨U, h6, h7⟩⟩ := h
  exact ⟨⟨L, cap, G, C, (hb.cell (p := ⟨g, 0, none⟩) hg).trans h1, Nat.lt_of_lt_of_le h2 hb.size, fun j hj => ⟨(hb.cell (p := ⟨L, j, none⟩) h2).trans (h3 j hj).1, (h3 j hj).2.keep hb⟩⟩,
    ⟨B, (hb.cell (p := ⟨g, 1, none⟩) hg).trans h4, h5.keep hb⟩, ⟨U, (hb.cell (p := ⟨g, 2, none⟩) hg).trans h6, h7.keep hb⟩⟩
theorem rnew_short (A : Option Addr) (len cap : Nat) (w : World) (hl : len ≠ 16) (hl2 : len ≠ 32) (_hl3 : len ≤ 140737488351232) :
    Calls Tryz.prog 32 #[.slice A len cap] w fun e w' => e = .returned (.tuple #[.pointer none, .int .i64 1]) ∧ w = w' := by
  have hb : ((len : Int) != 16) = true := by simp; omega
  have hb2 : ((len : Int) != 32) = true := by simp; omega
  go_enter Tryz.func32, Tryz.ntmps32
  go_wp2_with fail
  go_ret2
  exact ⟨rfl, rfl⟩
def RNewP (n : Nat) (key : Nat → Nat) (w : World) (e : Ending) (w' : World) : Prop :=
  ∃ g, e = .returned (.tuple #[.pointer (some ⟨g, 0, none⟩), .int .i64 0]) ∧ w.heap.size ≤ g ∧ RKey w' g n key ∧ Below w.heap.size w w'
set_option maxHeartbeats 800000 in
theorem rnew_any (A : Option Addr) (n cap : Nat) (key : Nat → Nat) (w : World) (hn : n = 4 ∨ n = 8) (hc : 4 * n ≤ cap) (hA : SlB w A (4 * n) key) :
    Calls Tryz.prog 32 #[.slice A (4 * n) cap] w (RNewP n key w) := by
  have HA := Lib.hid hA
  have HN := Lib.hid hn
  have HC := Lib.hid hc
  have HB0 := Lib.hid fun w => rboxes_any w
  obtain ⟨l, hl⟩ : ∃ l, 4 * n = l := ⟨_, rfl⟩
  have HL := Lib.hid hl
  have hb : (((l : Int) != 16) = true ∧ ((l : Int) != 32) = false) ∨ ((l : Int) != 16) = false := by
    rcases hn with rfl | rfl
    · right; simp; omega
    · left; constructor <;> simp <;> omega
  rw [hl]
  clear hA hn hl hc
  go_enter Tryz.func32, Tryz.ntmps32
  rcases hb with ⟨hb1, hb2⟩ | hb1
  all_goals
    go_wp2_with (first | (go_at_call 46; go_must (refine (HB0.out _).mono ?_); rintro e w1 ⟨rfl, h1, h2⟩; have H1 := Lib.hid h1; have H2 := Lib.hid h2; clear h1 h2) | (go_at_call 47; go_must (have hr := rrounds_any A (some ⟨w.heap.size, 0, none⟩) n cap 256 key w1 HN.out HC.out (HA.out.keep H2.out) (H1.out.slB0 (Nat.le_refl _) box_by)); rw [HL.out] at hr; refine hr.mono ?_; clear hr; rintro e w2 ⟨v, G, C, rfl, h3, h4⟩; obtain ⟨A3, cap3, rfl, _, hsl⟩ := h3.slice; obtain ⟨L, rfl, hL, hcl⟩ := hsl (by omega); have HCL := Lib.hid hcl; have HLL := Lib.hid hL; clear hsl hcl hL; have H3 := Lib.hid h3; have H4 := Lib.hid h4; clear h3 h4) | (go_at_call 48; go_must (refine (rback_any (some ⟨w.heap.size, 0, none⟩) 256 w2 ((H1.out.keep H4.out).slB0 (Nat.le_refl _) box_by)).mono ?_); rintro e w3 ⟨rfl, h5, h6⟩; have H5 := Lib.hid h5; have H6 := Lib.hid h6; clear h5 h6))
    have HR := Lib.hid (show ∀ o, RKey (w3.alloc (.cells #[.slice (some ⟨L, 0, none⟩) (n + 7) cap3, .slice (some ⟨w.heap.size, 0, none⟩) 256 256, .slice (some ⟨w2.heap.size, 0, none⟩) 256 256] o)) w3.heap.size n key from fun o => by
      have hk := (H6.out.trans (((Below.refl w3.heap.size w3).alloc (Nat.le_refl _) (.cells #[.slice (some ⟨L, 0, none⟩) (n + 7) cap3, .slice (some ⟨w.heap.size, 0, none⟩) 256 256, .slice (some ⟨w2.heap.size, 0, none⟩) 256 256] o)).mono H6.out.size))
      exact ⟨⟨L, cap3, G, C, (World.cell?_alloc_at _ _ _ _ rfl).trans rfl, Nat.lt_of_lt_of_le HLL.out hk.size, fun j hj => ⟨(hk.cell (p := ⟨L, j, none⟩) HLL.out).trans (HCL.out j hj), (H3.out.rows j hj).keep hk⟩⟩,
        ⟨w.heap.size, (World.cell?_alloc_at _ _ _ _ rfl).trans rfl, (H1.out.keep H4.out).keep hk⟩, ⟨w2.heap.size, (World.cell?_alloc_at _ _ _ _ rfl).trans rfl, H5.out.alloc _⟩⟩)
    have HBW := Lib.hid (show Below w.heap.size w w3 from H2.out.trans ((H4.out.mono H2.out.size).trans (H6.out.mono (Nat.le_trans H2.out.size H4.out.size))))
    go_ret2
    exact ⟨w3.heap.size, rfl, HBW.out.size, HR.out _, HBW.out.alloc HBW.out.size _⟩

/-- what the reference's encryption leaves -/
def RBlkP (r : Nat → Nat) (w : World) (e : Ending) (w' : World) : Prop :=
  ∃ st, e = .returned (.tuple #[.slice (some ⟨st, 0, none⟩) 16 16, .int .i64 0]) ∧ w.heap.size ≤ st ∧ RowB w' st 16 r ∧ Below w.heap.size w w'
theorem renc_short (g : Nat) (A : Option Addr) (len cap : Nat) (w : World) (hl : len ≠ 16) (_hl2 : len ≤ 140737488351232) :
    Calls Tryz.prog 40 #[.pointer (some ⟨g, 0, none⟩), .slice A len cap] w fun e w' => e = .returned (.tuple #[.slice none 0 0, .int .i64 1]) ∧ w = w' := by
  have hb : ((len : Int) != 16) = true := by simp; omega
  go_enter Tryz.func40, Tryz.ntmps40
  go_wp2_with fail
  go_ret2
  exact ⟨rfl, rfl⟩
theorem size_alloc1 (w : World) (o : Obj) : (w.alloc o).heap.size = w.heap.size + 1 := by simp
/-- four factors in memory -/
theorem four_fac (w : World) (t : TypeId) (a b c d : Nat) (ai bi ci di : Int) (ha : ai = (a : Nat)) (hb : bi = (b : Nat)) (hc : ci = (c : Nat)) (hd : di = (d : Nat)) (h : a < 256 ∧ b < 256 ∧ c < 256 ∧ d < 256) :
    ∀ k, k < 4 → fac a b c d k < 256 ∧ (w.alloc (.cells #[.int .i64 ai, .int .i64 bi, .int .i64 ci, .int .i64 di] t)).cell? ⟨w.heap.size, 0 + k, none⟩ = some (.int .i64 (fac a b c d k : Nat)) := fun k hk => by
  subst ha hb hc hd
  rcases (show k = 0 ∨ k = 1 ∨ k = 2 ∨ k = 3 by omega) with rfl | rfl | rfl | rfl
  · exact ⟨h.1, (World.cell?_alloc_at _ _ _ _ rfl).trans rfl⟩
  · exact ⟨h.2.1, (World.cell?_alloc_at _ _ _ _ rfl).trans rfl⟩
  · exact ⟨h.2.2.1, (World.cell?_alloc_at _ _ _ _ rfl).trans rfl⟩
  · exact ⟨h.2.2.2, (World.cell?_alloc_at _ _ _ _ rfl).trans rfl⟩
theorem rkey_bytes {n : Nat} {key : Nat → Nat} (hn : n = 4 ∨ n = 8) (hkey : By (4 * n) key) (j : Nat) : By 16 (fun t => ks n key (16 * j + t)) := fun _ _ => ks_by (by omega) hkey _
/-- the facts of a key at a later world -/
theorem RKey.at {w : World} {g n : Nat} {key : Nat → Nat} (h : RKey w g n key) : ∃ (L cap B U : Nat) (G C : Nat → Nat), ∀ w', Below w.heap.size w w' →
    w'.cell? ⟨g, 0, none⟩ = some (.slice (some ⟨L, 0, none⟩) (n + 7) cap) ∧ w'.cell? ⟨g, 1, none⟩ = some (.slice (some ⟨B, 0, none⟩) 256 256) ∧ w'.cell? ⟨g, 2, none⟩ = some (.slice (some ⟨U, 0, none⟩) 256 256) ∧
      RowB w' B 256 Go.Proofs.YtgcdnhjjoidpmaaGreatDoor.box ∧ RowB w' U 256 Go.Proofs.YtgcdnhjjoidpmaaGreatDoor.unbox ∧ ∀ j, j < n + 7 → w'.cell? ⟨L, j, none⟩ = some (.slice (some ⟨G j, 0, none⟩) 16 (C j)) ∧ RowX w' (G j) 5 16 (fun t => .int .u8 (ks n key (16 * j + t) : Nat)) := by
  have hg := h.lt
  obtain ⟨⟨L, cap, G, C, h1, h2, h3⟩, ⟨B, h4, h5⟩, ⟨U, h6, h7⟩⟩ := h
  exact ⟨L, cap, B, U, G, C, fun w' hb => ⟨(hb.cell (p := ⟨g, 0, none⟩) hg).trans h1, (hb.cell (p := ⟨g, 1, none⟩) hg).trans h4, (hb.cell (p := ⟨g, 2, none⟩) hg).trans h6, h5.keep hb, h7.keep hb, fun j hj => ⟨(hb.cell (p := ⟨L, j, none⟩) h2).trans (h3 j hj).1, (h3 j hj).2.keep hb⟩⟩⟩
set_option maxRecDepth 100000 in
set_option maxHeartbeats 1600000 in
theorem renc_any (g n : Nat) (key b : Nat → Nat) (A : Option Addr) (cap : Nat) (w : World) (hn : n = 4 ∨ n = 8) (hkey : By (4 * n) key) (hk : RKey w g n key) (hA : SlB w A 16 b) :
    Calls Tryz.prog 40 #[.pointer (some ⟨g, 0, none⟩), .slice A 16 cap] w (RBlkP (enc n (ks n key) b) w) := by
  have HKB := Lib.hid fun j => rkey_bytes hn hkey j
  have HSK := Lib.hid (show By (16 * (n + 7)) (ks n key) from fun j _ => ks_by (by omega) hkey j)
  have HBB := Lib.hid (show By 16 b from fun j hj => hA.byte hj)
  obtain ⟨L, capL, B, U, G, C, hat⟩ := hk.at
  have HAT := Lib.hid hat
  have HN := Lib.hid hn
  have HA := Lib.hid hA
  obtain ⟨f0, f1, f2, _, _, f3⟩ := hat w (Below.refl _ _)
  have f4 := (f3 0 (by omega)).1
  have HF4 := Lib.hid ((f3 0 (by omega)).2.slB (HKB.out 0))
  have hn7 : (0 : Int) < (n : Int) + 7 := by omega
  clear hn hkey hk hA hat f3
  go_enter Tryz.func40, Tryz.ntmps40
  go_wp2_with ((go_at_call 56; go_must (refine (rlay_any4 A (some ⟨G 0, 0, none⟩) cap (C 0) b _ w HA.out HF4.out).mono ?_); rintro e w1 ⟨rfl, h1, h2⟩; have H1 := Lib.hid h1; have H2 := Lib.hid h2; clear h1 h2))
  clear f0 f1 f2 f4 hn7
  go_loopw [6, 7] (fun v6 v7 wr => ∃ r st : Nat, r ≤ n + 6 ∧ v7 = .int .i64 ((r + 1 : Nat) : Int) ∧ v6 = .slice (some ⟨st, 0, none⟩) 16 16 ∧ w.heap.size ≤ st ∧ RowB wr st 16 (est n (ks n key) b r) ∧ Below w.heap.size w wr) (fun _ v7 _ => 30 - (intOf v7).toNat)
  case atStart => exact ⟨0, w.heap.size, by omega, rfl, rfl, Nat.le_refl _, H1.out, H2.out⟩
  case round =>
    obtain ⟨r, st, hr, rfl, rfl, hst, h1, h2⟩ := hrel
    have H1 := Lib.hid h1
    have H2 := Lib.hid h2
    have HST := Lib.hid hst
    have HBY := Lib.hid (est_by HSK.out HBB.out r hr)
    have HSB := Lib.hid (subs_by box_by 4 HBY.out)
    obtain ⟨f0, f1, f2, fb, _, f3⟩ := HAT.out wr h2
    have HBX := Lib.hid (fb.slB0 (Nat.le_refl _) box_by)
    clear h1 h2 fb f3 hst
    have hn8 : ((n : Nat) : Int) ≤ 8 := by have := HN.out; omega
    have hn0 : (0 : Int) ≤ (n : Nat) := by omega
    obtain ⟨q, hq⟩ : ∃ q, r + 1 = q := ⟨_, rfl⟩
    rw [hq]
    by_cases hlt : q < n + 7
    · have hqi : (q : Int) < (n : Int) + 7 := by omega
      have hq0 : (0 : Int) ≤ (q : Nat) := by omega
      have HQ := Lib.hid hq
      have HQ7 := Lib.hid hlt
      clear hq
      by_cases hmx : q < n + 6
      · have hmi : (q : Int) < (n : Int) + 7 - 1 := by omega
        have hmi2 : (q : Int) < (n : Int) + 6 := by omega
        have HE := Lib.hid (show ∀ j, mixc (subs box 4 (est n (ks n key) b r)) j ^^^ ks n key (16 * q + j) = est n (ks n key) b q j from fun j => by rw [← HQ.out]; show _ = addk _ _ (if r + 1 < n + 6 then _ else _) j; rw [if_pos (by have := HQ.out; omega)]; rfl)
        go_wp2_with (first | (go_at_call 58; go_must (refine (rswap_any (some ⟨st, 0, none⟩) (some ⟨B, 0, none⟩) 16 256 _ box wr (H1.out.slB0 (Nat.le_refl _) HBY.out) HBX.out).mono ?_); rintro e w2 ⟨rfl, h1, h2⟩; have H3 := Lib.hid h1; have H4 := Lib.hid (H2.out.trans (h2.mono H2.out.size)); clear h1 h2) | (go_at_call 57; go_must (refine (rshift_any (some ⟨wr.heap.size, 0, none⟩) 16 1 1 _ w2 (Or.inl ⟨rfl, rfl⟩) (H3.out.slB0 (Nat.le_refl _) (fun j hj => box_lt (HBY.out j hj)))).mono ?_); rintro e w3 ⟨rfl, h1, h2⟩; have H5 := Lib.hid (show RowB w3 w2.heap.size 16 (subs box 4 (est n (ks n key) b r)) from h1.congr fun j _ => rfl); have H6 := Lib.hid (H4.out.trans (h2.mono H4.out.size)); obtain ⟨a0, a1, a2, _, _, a3⟩ := HAT.out w3 H6.out; have aq := (a3 q HQ7.out).1; have HAQ := Lib.hid ((a3 q HQ7.out).2.slB (HKB.out q)); clear h1 h2 a3) | (go_at_call 59; go_must (refine (rmix_any (some ⟨w2.heap.size, 0, none⟩) 16 4 w3.heap.size 0 _ (fac 2 3 1 1) _ ((H5.out.alloc _).slB0 (Nat.le_refl _) HSB.out) (by simp) (four_fac w3 _ 2 3 1 1 2 3 1 1 rfl rfl rfl rfl ⟨by decide, by decide, by decide, by decide⟩)).mono ?_); rintro e w4 ⟨rfl, h1, h2⟩; rw [size_alloc1] at h1; have H7 := Lib.hid (h1.congr (f := mixc (subs box 4 (est n (ks n key) b r))) fun j hj => psum_mix HSB.out hj); have H8 := Lib.hid ((H6.out.alloc H6.out.size _).trans (h2.mono (Nat.le_trans H6.out.size (by simp)))); obtain ⟨c0, c1, c2, _, _, c3⟩ := HAT.out w4 H8.out; have cq := (c3 q HQ7.out).1; have HCQ := Lib.hid ((c3 q HQ7.out).2.slB (HKB.out q)); clear h1 h2 c3) | (go_at_call 56; go_must (refine (rlay_any4 _ (some ⟨G q, 0, none⟩) 16 (C q) (mixc (subs box 4 (est n (ks n key) b r))) _ w4 (H7.out.slB0 (Nat.le_refl _) (mixc_by HSB.out)) HCQ.out).mono ?_); rintro e w5 ⟨rfl, h1, h2⟩; have H9 := Lib.hid h1; have H10 := Lib.hid (H8.out.trans (h2.mono H8.out.size)); have HZ := Lib.hid H8.out.size; clear h1 h2))
        go_roundw
        case rel => exact ⟨q, w4.heap.size, by omega, by go_num, rfl, HZ.out, H9.out.congr fun j _ => HE.out j, H10.out⟩
        case measure => simp [intOf]; omega
      · have hmi : ¬ (q : Int) < (n : Int) + 7 - 1 := by omega
        have hmi2 : ¬ (q : Int) < (n : Int) + 6 := by omega
        have HE := Lib.hid (show ∀ j, subs box 4 (est n (ks n key) b r) j ^^^ ks n key (16 * q + j) = est n (ks n key) b q j from fun j => by rw [← HQ.out]; show _ = addk _ _ (if r + 1 < n + 6 then _ else _) j; rw [if_neg (by have := HQ.out; omega)]; rfl)
        go_wp2_with (first | (go_at_call 58; go_must (refine (rswap_any (some ⟨st, 0, none⟩) (some ⟨B, 0, none⟩) 16 256 _ box wr (H1.out.slB0 (Nat.le_refl _) HBY.out) HBX.out).mono ?_); rintro e w2 ⟨rfl, h1, h2⟩; have H3 := Lib.hid h1; have H4 := Lib.hid (H2.out.trans (h2.mono H2.out.size)); clear h1 h2) | (go_at_call 57; go_must (refine (rshift_any (some ⟨wr.heap.size, 0, none⟩) 16 1 1 _ w2 (Or.inl ⟨rfl, rfl⟩) (H3.out.slB0 (Nat.le_refl _) (fun j hj => box_lt (HBY.out j hj)))).mono ?_); rintro e w3 ⟨rfl, h1, h2⟩; have H5 := Lib.hid (show RowB w3 w2.heap.size 16 (subs box 4 (est n (ks n key) b r)) from h1.congr fun j _ => rfl); have H6 := Lib.hid (H4.out.trans (h2.mono H4.out.size)); obtain ⟨a0, a1, a2, _, _, a3⟩ := HAT.out w3 H6.out; have aq := (a3 q HQ7.out).1; have HAQ := Lib.hid ((a3 q HQ7.out).2.slB (HKB.out q)); clear h1 h2 a3) | (go_at_call 56; go_must (refine (rlay_any4 _ (some ⟨G q, 0, none⟩) 16 (C q) (subs box 4 (est n (ks n key) b r)) _ w3 (H5.out.slB0 (Nat.le_refl _) HSB.out) HAQ.out).mono ?_); rintro e w5 ⟨rfl, h1, h2⟩; have H9 := Lib.hid h1; have H10 := Lib.hid (H6.out.trans (h2.mono H6.out.size)); have HZ := Lib.hid H6.out.size; clear h1 h2))
        go_roundw
        case rel => exact ⟨q, w3.heap.size, by omega, by go_num, rfl, HZ.out, H9.out.congr fun j _ => HE.out j, H10.out⟩
        case measure => simp [intOf]; omega
    · obtain rfl : r = n + 6 := by omega
      have hqi : ¬ (q : Int) < (n : Int) + 7 := by omega
      clear hq
      go_wp2_with fail
      go_ret2
      exact ⟨st, rfl, HST.out, H1.out, H2.out⟩
end Go.Proofs.YtgcdnhjjoidpmaaGreatDoor
namespace Go.Proofs.YtgcdnhjjoidpmaaGreatDoor
open Go.RowKit

theorem splice_full (n : Nat) (bs : Nat → Nat) : splice (List.replicate (n + 1) (Value.int .u8 0)) 0 (bytesL n bs) = bytesL (n + 1) (fun j => if j < n then bs j else 0) := by
  unfold splice bytesL
  rw [List.take_zero, List.nil_append, List.range_succ, List.map_append]
  congr 1
  · apply List.map_congr_left
    intro j hj
    show _ = Value.int .u8 ((if j < n then bs j else 0 : Nat) : Int)
    rw [if_pos (List.mem_range.1 hj)]
  · rw [List.length_map, List.length_range, Nat.zero_add, List.drop_replicate, show n + 1 - n = 1 by omega]
    simp
theorem row_of_bytesL {w : World} {g n : Nat} {f : Nat → Nat} (h : w.heap[g]? = some (.cells (bytesL n f).toArray 5 (0, 0))) : w.rowIs g 5 n (fun j => .int .u8 (f j : Nat)) := by
  refine ⟨_, h, by simp [bytesL], fun i hi => ?_⟩
  rw [List.getElem?_toArray]
  unfold bytesL
  rw [List.getElem?_map, List.getElem?_range hi]; rfl

set_option maxHeartbeats 800000 in
theorem lent_any (A : Option Addr) (len cap : Nat) (bs : Nat → Nat) (w : World) (hl : len ≤ 140737488351232) (hA : SlB w A len bs) :
    Calls Tryz.prog 8 #[.slice A len cap] w fun e w' => ∃ g, e = .returned (.slice (some ⟨g, 0, none⟩) len (len + 1)) ∧ w.heap.size ≤ g ∧
      w'.rowIs g 5 (len + 1) (fun j => .int .u8 (if j < len then bs j else 77 : Nat)) ∧ Below w.heap.size w w' := by
  obtain ⟨i, hi, hz, hsz, hb⟩ := info_parts info8
  have hmk : ∀ W : World, (Instr.makeSlice 22 (.int .i64 (len : Int)) (.int .i64 ((len : Int) + 1))).run Tryz.prog W = .ok (.slice (some ⟨W.heap.size, 0, none⟩) len (len + 1)) (W.alloc (.cells (madeCells #[.int .u8 0] (len + 1)) 5)) := fun W => by
    have := run_make (P := Tryz.prog) W 22 5 i (.int .u8 0) Tryz.underlying22 hi hz .i64 .i64 (len : Int) ((len : Int) + 1) (by omega) (by omega) (by rw [hb]; omega) (by omega)
    rw [this, hsz, Int.toNat_natCast, show ((len : Int) + 1).toNat = len + 1 by omega, Nat.mul_one]
    rfl
  have HA := Lib.hid hA
  clear hA hi hz hsz hb
  have HX := Lib.hid (SlB.keep HA.out ((Below.refl _ _).alloc (Nat.le_refl _) (.cells (madeCells #[.int .u8 0] (len + 1)) 5)))
  have HB1 := Lib.hid ((Below.refl w.heap.size w).alloc (Nat.le_refl _) (.cells (madeCells #[.int .u8 0] (len + 1)) 5))
  have HG := Lib.hid (show (w.alloc (.cells (madeCells #[.int .u8 0] (len + 1)) 5)).heap[w.heap.size]? = some (.cells (List.replicate (len + 1) (Value.int .u8 0)).toArray 5 (0, 0)) by
    rw [heap_alloc_new]
    congr 2
    apply Array.ext'
    rw [toList_madeCells_one])
  have hlen : (bytesL len bs).length = Nat.min len len := by simp [bytesL]
  have hfit : 0 + (bytesL len bs).length ≤ (List.replicate (len + 1) (Value.int .u8 0)).length := by simp [bytesL]
  have hone : ∀ v ∈ bytesL len bs, v.oneCell' = true := by
    intro u hu
    obtain ⟨j, hj⟩ := List.getElem?_of_mem hu
    obtain ⟨_, rfl⟩ := bytesL_get _ _ j u hj
    rfl
  have HPOS := Lib.hid (show 0 < (bytesL len bs).length → (some (⟨w.heap.size, 0, none⟩ : Addr)) = some ⟨w.heap.size, 0, none⟩ ∧ ∃ ad, A = some ad ∧ ∀ j v, (bytesL len bs)[j]? = some v → (w.alloc (.cells (madeCells #[.int .u8 0] (len + 1)) 5)).cell? (ad.add j) = some v from fun h => by
    have h0 : 0 < len := by simpa [bytesL] using h
    obtain ⟨B, o, hA, _, hc⟩ := HX.out h0
    refine ⟨rfl, _, hA, fun j v hj => ?_⟩
    obtain ⟨hjl, rfl⟩ := bytesL_get _ _ j v hj
    rw [Go.WideShapes.add_plain]
    exact (hc j hjl).2)
  have hsz1 : (Tryz.prog.info? 5).map (·.size) = some 1 := by kernel_rfl
  have HL := Lib.hid hlen
  have HF := Lib.hid hfit
  have HO := Lib.hid hone
  have HS := Lib.hid hsz1
  clear hlen hfit hone hsz1
  go_enter Tryz.func8, Tryz.ntmps8
  go_wp2_with (((refine wpList_copy_splice rfl (.tmp 10) (.tmp 11) 22 22 rfl 5 Tryz.underlying22 HS.out (some ⟨w.heap.size, 0, none⟩) A len (len + 1) len cap rfl rfl w.heap.size 0 _ 5 HG.out (bytesL len bs) HL.out HPOS.out HF.out HO.out w.heap.size w HB1.out (Nat.le_refl _) ?_); intro w2 HR hb2; rw [splice_full] at HR; have HR2 := Lib.hid (row_of_bytesL HR.out); have HB2 := Lib.hid hb2; have hc := HR2.out.cell (i := len) (Nat.lt_succ_self len); rw [if_neg (Nat.lt_irrefl len)] at hc; have hf := HR2.out.frozen len; clear HR hb2))
  go_ret
  exact ⟨w.heap.size, rfl, Nat.le_refl _, (HR2.out.set len (.int .u8 77)).congr fun j hj => by
    by_cases e : j = len
    · rw [if_pos e, if_neg (by omega)]; rfl
    · rw [if_neg e, if_pos (by omega), if_pos (by omega)], HB2.out.setCell (Nat.le_refl _) _⟩

set_option maxHeartbeats 800000 in
theorem kept_any (g : Nat) (A : Option Addr) (len cap : Nat) (bs : Nat → Nat) (w : World) (hl : len ≤ 140737488351232) (hA : SlB w A len bs)
    (hr : w.rowIs g 5 (len + 1) (fun j => .int .u8 (if j < len then bs j else 77 : Nat))) :
    Calls Tryz.prog 11 #[.slice (some ⟨g, 0, none⟩) len (len + 1), .slice A len cap] w fun e w' => e = .returned (.bool true) ∧ w = w' := by
  have hcv1 := convRowX (cap := len + 1) ((RowX.of_rowIs hr).less (Nat.le_succ len)) bs (Nat.le_refl _) (fun i hi => by rw [if_pos hi])
  have hcv2 := convSl (cap := cap) hA (Nat.le_refl len)
  have hc := hr.cell (i := len) (Nat.lt_succ_self len)
  rw [if_neg (Nat.lt_irrefl len)] at hc
  clear hr hA
  generalize strOf len bs = y at *
  go_enter Tryz.func11, Tryz.ntmps11
  go_wp2_with fail
  go_ret
  exact ⟨rfl, rfl⟩
end Go.Proofs.YtgcdnhjjoidpmaaGreatDoor
/- Keys of both kinds in laws; bytes that were lent. -/
namespace Go.Proofs.YtgcdnhjjoidpmaaGreatDoor
open Go.RowKit
theorem KeyAt.words {w : World} {g n : Nat} {key : Nat → Nat} (h : KeyAt w g n key) : w.cell? ⟨g, 0, none⟩ = some (.int .i64 (n : Nat)) := h.elim (fun h => KeyMem.words h) (fun h => KeyMem.words h)
theorem RKey.chg {w w' : World} {g n K : Nat} {z : Int} {key : Nat → Nat} (h : RKey w g n key) (hc : Chg K w w') (hK : w.cell? ⟨K, 0, none⟩ = some (.int .i64 z)) : RKey w' g n key := by
  have hg := h.lt
  obtain ⟨⟨L, cap, G, C, h1, h2, h3⟩, ⟨B, h4, h5⟩, ⟨U, h6, h7⟩⟩ := h
  have n1 : g ≠ K := fun e => by subst e; rw [hK] at h1; cases h1
  have n2 : L ≠ K := fun e => by subst e; have := (h3 0 (by omega)).1; rw [hK] at this; cases this
  have n3 : B ≠ K := fun e => by subst e; have := h5.cell (i := 0) (by decide); rw [hK] at this; cases this
  have n4 : U ≠ K := fun e => by subst e; have := h7.cell (i := 0) (by decide); rw [hK] at this; cases this
  have n5 : ∀ j, j < n + 7 → G j ≠ K := fun j hj e => by subst e; have := (h3 j hj).2.cell (i := 0) (by decide); rw [hK] at this; cases this
  exact ⟨⟨L, cap, G, C, (hc.cell hg n1).trans h1, Nat.lt_of_lt_of_le h2 hc.size, fun j hj => ⟨(hc.cell h2 n2).trans (h3 j hj).1, (h3 j hj).2.of_block (hc.block _ (h3 j hj).2.lt (n5 j hj))⟩⟩,
    ⟨B, (hc.cell hg n1).trans h4, (hc.block B h5.lt n3).trans h5⟩, ⟨U, (hc.cell hg n1).trans h6, (hc.block U h7.lt n4).trans h7⟩⟩
theorem rnew_at (A : Option Addr) (len n cap : Nat) (key : Nat → Nat) (w : World) (hl : 4 * n = len) (hn : n = 4 ∨ n = 8) (hc : len ≤ cap) (hA : SlB w A len key) :
    Calls Tryz.prog 32 #[.slice A len cap] w fun e w' => ∃ g, e = .returned (.tuple #[.pointer (some ⟨g, 0, none⟩), .int .i64 0]) ∧ w.heap.size ≤ g ∧ RKey w' g n key ∧ Below w.heap.size w w' := by
  subst hl
  exact rnew_any A n cap key w hn hc hA
theorem lent_slB {w : World} {g len : Nat} {b : Nat → Nat} (h : w.rowIs g 5 (len + 1) (fun j => .int .u8 (if j < len then b j else 77 : Nat))) (hb : By len b) : SlB w (some ⟨g, 0, none⟩) len b :=
  SlB.of_rowX ((RowX.of_rowIs h).less (Nat.le_succ len)) fun j hj => ⟨hb j hj, by rw [if_pos hj]⟩
theorem lent_arr {w : World} {g len : Nat} {b : Nat → Nat} (h : w.rowIs g 5 (len + 1) (fun j => .int .u8 (if j < len then b j else 77 : Nat))) : Arr w g 0 (len + 1) (fun j => if j < len then b j else 77) :=
  RowX.arr (RowX.of_rowIs h)
theorem KeyAt.ne {w : World} {g n B : Nat} {key : Nat → Nat} {v : Value} (h : KeyAt w g n key) (hB : w.cell? ⟨B, 0, none⟩ = some v) (hv : ∀ z, v ≠ .int .i64 z) : B ≠ g := fun e => by
  subst e
  rw [h.words] at hB
  exact hv _ (Option.some.inj hB).symm
end Go.Proofs.YtgcdnhjjoidpmaaGreatDoor
/- The reference of layer 7: Xor. -/
namespace Go.Proofs.YtgcdnhjjoidpmaaGreatDoor
open Go.RowKit
set_option maxRecDepth 100000 in
theorem rxor_arg (A P : Option Addr) (len cap m c : Nat) (key : Nat → Nat) (N T : Int) (w : World) (hl : len ≤ 140737488351232) (hc : len ≤ cap) (hA : SlB w A len key) (h : wrong len N T) :
    Calls Tryz.prog 24 #[.slice A len cap, .int .i64 N, .int .i64 T, .slice P m c] w fun e w' => e = .returned (.tuple #[.slice none 0 0, .int .i64 1]) ∧ Below w.heap.size w w' := by
  by_cases hk : len ≠ 16 ∧ len ≠ 32
  · have HS := Lib.hid (rnew_short A len cap w hk.1 hk.2 hl)
    clear h hk hA
    go_enter Tryz.func24, Tryz.ntmps24
    go_wp2_with (go_at_call 32; refine HS.out.mono ?_; rintro e w1 ⟨rfl, rfl⟩)
    go_ret2
    exact ⟨rfl, Below.refl _ _⟩
  · obtain ⟨n, hn, hl4⟩ : ∃ n, (n = 4 ∨ n = 8) ∧ 4 * n = len := by
      by_cases h : len = 16
      · exact ⟨4, Or.inl rfl, by omega⟩
      · exact ⟨8, Or.inr rfl, by omega⟩
    have HS := Lib.hid (rnew_at A len n cap key w hl4 hn hc hA)
    have hb : decide (N < 0) = true ∨ (decide (N < 0) = false ∧ decide (T < 0) = true) := by
      unfold wrong at h
      by_cases hN : N < 0
      · exact Or.inl (by simpa using hN)
      · exact Or.inr ⟨by simpa using hN, by rw [decide_eq_true_eq]; omega⟩
    clear h hk hA hn hl4
    rcases hb with hb1 | ⟨hb1, hb2⟩
    all_goals
      go_enter Tryz.func24, Tryz.ntmps24
      go_wp2_with (go_at_call 32; refine HS.out.mono ?_; rintro e w1 ⟨g, rfl, _, _, h3⟩; have H3 := Lib.hid h3; clear h3)
      go_ret2
      exact ⟨rfl, H3.out⟩
set_option maxRecDepth 100000 in
theorem rxor_long (A P : Option Addr) (len n cap m c N T : Nat) (key : Nat → Nat) (w : World) (hn : n = 4 ∨ n = 8) (hl : 4 * n = len) (hc : len ≤ cap) (hA : SlB w A len key) (hm : m ≤ 140737488351232) (h : 65536 < m ∨ 1099511627776 < T) :
    Calls Tryz.prog 24 #[.slice A len cap, .int .i64 (N : Nat), .int .i64 (T : Nat), .slice P m c] w fun e w' => e = .returned (.tuple #[.slice none 0 0, .int .i64 2]) ∧ Below w.heap.size w w' := by
  have HS := Lib.hid (rnew_at A len n cap key w hl hn hc hA)
  have hdN : decide ((N : Int) < 0) = false := by simp
  have hdT : decide ((T : Int) < 0) = false := by simp
  have hb : decide ((65536 : Int) < (m : Nat)) = true ∨ (decide ((65536 : Int) < (m : Nat)) = false ∧ decide ((1099511627776 : Int) < (T : Nat)) = true) := by
    by_cases h1 : 65536 < m
    · exact Or.inl (by rw [decide_eq_true_eq]; omega)
    · exact Or.inr ⟨by rw [decide_eq_false_iff_not]; omega, by rw [decide_eq_true_eq]; omega⟩
  clear hA hn hl h hc
  rcases hb with hb1 | ⟨hb1, hb2⟩
  all_goals
    go_enter Tryz.func24, Tryz.ntmps24
    go_wp2_with (go_at_call 32; refine HS.out.mono ?_; rintro e w1 ⟨g, rfl, _, _, h3⟩; have H3 := Lib.hid h3; clear h3)
    go_ret2
    exact ⟨rfl, H3.out⟩
/-- a round's beginning -/
structure RXorR (w1 : World) (n : Nat) (key : Nat → Nat) (N T : Nat) (p : Nat → Nat) (wr : World) (k : Nat) (v u : Value) : Prop where
  own : OwnB wr w1.heap.size v k (xorf n key N T p)
  pad : (k = 0 ∧ u = .slice none 0 0) ∨ ∃ st, u = .slice (some ⟨st, 0, none⟩) 16 16 ∧ 0 < k ∧ OwnB wr w1.heap.size (.slice (some ⟨st, 0, none⟩) 16 16) 16 (padk n key N ((T + k - 1) / 16)) ∧ Apart v (.slice (some ⟨st, 0, none⟩) 16 16)
  below : Below w1.heap.size w1 wr
/-- what the reference's Xor leaves -/
def RXorP (n : Nat) (key : Nat → Nat) (N T m : Nat) (p : Nat → Nat) (w : World) (e : Ending) (w' : World) : Prop :=
  ∃ A c, e = .returned (.tuple #[.slice A m c, .int .i64 0]) ∧ m ≤ c ∧ (A = none → m = 0 ∧ c = 0) ∧ SlB w' A m (xorf n key N T p) ∧ Below w.heap.size w w'
set_option maxRecDepth 100000 in
set_option maxHeartbeats 3200000 in
theorem rxor_any (A P : Option Addr) (len n cap m c N T : Nat) (key p : Nat → Nat) (w : World) (hn : n = 4 ∨ n = 8) (hl : 4 * n = len) (hc : len ≤ cap) (hA : SlB w A len key) (hP : SlB w P m p) (hN : N ≤ 9223372036854775807) (hT : T ≤ 1099511627776) (hm : m ≤ 65536) :
    Calls Tryz.prog 24 #[.slice A len cap, .int .i64 (N : Nat), .int .i64 (T : Nat), .slice P m c] w (RXorP n key N T m p w) := by
  have HS := Lib.hid (rnew_at A len n cap key w hl hn hc hA)
  have HY := Lib.hid (show By (4 * n) key from fun j hj => hA.byte (by omega))
  have HPY := Lib.hid (show By m p from fun j hj => hP.byte hj)
  have HP := Lib.hid hP
  have HN := Lib.hid hn
  have HNN := Lib.hid hN
  have hdN : decide ((N : Int) < 0) = false := by simp
  have hdT : decide ((T : Int) < 0) = false := by simp
  have hd : decide ((65536 : Int) < (m : Nat)) = false := by rw [decide_eq_false_iff_not]; omega
  have hd2 : decide ((1099511627776 : Int) < (T : Nat)) = false := by rw [decide_eq_false_iff_not]; omega
  have hTi : (T : Int) ≤ 1099511627776 := by omega
  have hT0 : (0 : Int) ≤ (T : Nat) := by omega
  have hmi : (m : Int) ≤ 65536 := by omega
  clear hA hP hn hl hN hT hm hc
  go_enter Tryz.func24, Tryz.ntmps24
  go_wp2_with (go_at_call 32; refine HS.out.mono ?_; rintro e w1 ⟨g, rfl, h1, h2, h3⟩; have H2 := Lib.hid h2; have H3 := Lib.hid h3; clear h1 h2 h3)
  have HP1 := Lib.hid (HP.out.keep H3.out)
  clear HS HP hdN hdT hd hd2
  go_loopw [12, 13, 14] (fun v12 v13 v14 wr => ∃ k : Nat, k ≤ m ∧ v14 = .int .i64 (k : Nat) ∧ RXorR w1 n key N T p wr k v12 v13) (fun _ _ v14 _ => m - (intOf v14).toNat)
  case atStart => exact ⟨0, Nat.zero_le _, rfl, OwnB.nil _ _ _, Or.inl ⟨rfl, rfl⟩, Below.refl _ _⟩
  case round =>
    obtain ⟨k, hk, rfl, hr⟩ := hrel
    have HR := Lib.hid hr
    clear hr
    by_cases hlt : k < m
    · obtain ⟨e, he, hei⟩ : ∃ e, T + k = e ∧ (T : Int) + (k : Nat) = (e : Nat) := ⟨T + k, rfl, by omega⟩
      obtain ⟨q, hq, hqi⟩ : ∃ q, e % 16 = q ∧ (e : Int) % 16 = (q : Nat) := ⟨e % 16, rfl, by omega⟩
      obtain ⟨E, hE, hEi⟩ : ∃ E, e / 16 = E ∧ (e : Int) / 16 = (E : Nat) := ⟨e / 16, rfl, by omega⟩
      have hq16 : q < 16 := by rw [← hq]; exact Nat.mod_lt _ (by decide)
      have hel : (e : Int) ≤ 1099511700000 := by omega
      have hEl : (E : Int) ≤ 1099511700000 := by omega
      have HE := Lib.hid he
      have HQ := Lib.hid hq
      have HEE := Lib.hid hE
      have HEM := Lib.hid (show E ≤ 9223372036854775807 by omega)
      have hwr : (IntKind.i64.wrap (e : Int)).tmod 16 = (q : Nat) := by rw [IntWalk.i64_in _ (by omega), Int.tmod_eq_emod_of_nonneg (by omega)]; exact hqi
      have hki : (k : Int) < (m : Nat) := by omega
      have hk0 : (0 : Int) ≤ (k : Nat) := by omega
      have hq0 : (0 : Int) ≤ (q : Nat) := by omega
      have hqi16 : (q : Int) < 16 := by omega
      obtain ⟨PB, o, hPe, hPl, hPc⟩ := HP1.out (by omega)
      have HPC := Lib.hid (hPc k hlt)
      have HPL := Lib.hid hPl
      clear hPc hPl HP1 he hq hE
      subst hPe
      by_cases hnew : k = 0 ∨ q = 0
      · have hb : (((k : Int) == 0) = true) ∨ (((k : Int) == 0) = false ∧ ((q : Int) == 0) = true) := by
          by_cases h : k = 0
          · exact Or.inl (by simp [h])
          · exact Or.inr ⟨by simp [h], by simp; omega⟩
        clear hnew
        rcases hb with hb1 | ⟨hb1, hb2⟩
        all_goals
          go_wp2_with fail
          refine (eight_any N wr HNN.out).mono ?_
          rintro e' w2 ⟨A2, c2, rfl, h1, h2⟩
          have HO2 := Lib.hid h1
          have HB2 := Lib.hid h2
          clear h1 h2
          go_wp2_with fail
          refine (eight_any E w2 HEM.out).mono ?_
          rintro e' w3 ⟨A3, c3, rfl, h1, h2⟩
          have HO3 := Lib.hid (HO2.out.keep h2)
          have HB3 := Lib.hid (HB2.out.trans (h2.mono HB2.out.size))
          obtain ⟨A3', c3', e3, hs3⟩ := OwnB.slice h1 (fun j _ => len8_lt E j)
          obtain ⟨A3'', c3'', e3', _, _, hn3⟩ := OwnB.cap_le h1
          cases e3
          cases e3'
          have HS3 := Lib.hid hs3
          have HN3 := Lib.hid hn3
          clear h1 h2 hs3 hn3
          go_wp2_with (refine wpList_appO rfl (.tmp 55) (.tmp 60) rfl wr.heap.size _ 8 (len8 N) rfl HO3.out A3 8 c3 (len8 E) rfl HS3.out HN3.out (by decide) HB3.out.size (fun j _ => len8_lt N j) (fun j _ => len8_lt E j) ?_; intro A4 c4 w4 h1 h2 h3 h4; have HS4 := Lib.hid (show SlB w4 A4 16 (cb N E) from h2); have HB4 := Lib.hid (HB3.out.trans h4); clear h1 h2 h3 h4)
          refine (renc_any g n key (cb N E) A4 c4 w4 HN.out HY.out (H2.out.keep (HR.out.below.trans (HB4.out.mono HR.out.below.size))) HS4.out).mono ?_
          rintro e' w5 ⟨st, rfl, h1, h2, h3⟩
          have HBW := Lib.hid (HB4.out.trans (h3.mono HB4.out.size))
          have HBel := Lib.hid (HR.out.below.trans (HBW.out.mono HR.out.below.size))
          have HOwn := Lib.hid (HR.out.own.keep HBW.out)
          have HPad := Lib.hid (show OwnB w5 w1.heap.size (.slice (some ⟨st, 0, none⟩) 16 16) 16 (padk n key N E) from RowB.own (base := w1.heap.size) h2 (Nat.le_trans HR.out.below.size (Nat.le_trans HB4.out.size h1)) (by unfold maxLen; decide))
          have HAp := Lib.hid (show Apart u12 (.slice (some ⟨st, 0, none⟩) 16 16) from fun b hb hb2 => by
            rw [ownBlock_at] at hb2
            injection hb2 with hb2
            have := (World.ownsRow.lt HR.out.own b hb).2
            have := HB4.out.size
            omega)
          clear h1 h2 h3 HO2 HB2 HO3 HB3 HS3 HN3 HS4 HB4 HBW
          have hcp := (HBel.out.cell (p := ⟨PB, o + k, none⟩) HPL.out).trans HPC.out.2
          have hcq := OwnB.at0 HPad.out (padk_by HN.out HY.out N E) hq16
          have hx8 := HPC.out.1
          have hy8 := padk_by HN.out HY.out N E q hq16
          have HXF := Lib.hid (show xorf n key N T p k = p k ^^^ padk n key N E q by unfold xorf; rw [HE.out, HEE.out, HQ.out])
          have HPE := Lib.hid (show padk n key N ((T + (k + 1) - 1) / 16) = padk n key N E by rw [show T + (k + 1) - 1 = e by have := HE.out; omega, HEE.out])
          generalize padk n key N E = pd at *
          generalize p k = x at *
          generalize pd q = y at *
          have b1 : bits BinOp.xor .u8 (x : Int) (y : Int) = ((x ^^^ y : Nat) : Int) := u8_xor_nat x y hx8 hy8
          have hz8 := xor_lt8 hx8 hy8
          generalize x ^^^ y = z at *
          have HOd := Lib.hid (show OwnB (w5.alloc (.cells #[.int .u8 (z : Nat)] 5)).drew w1.heap.size u12 k (xorf n key N T p) from HOwn.out.alloc _)
          have HPd := Lib.hid (show OwnB (w5.alloc (.cells #[.int .u8 (z : Nat)] 5)).drew w1.heap.size (.slice (some ⟨st, 0, none⟩) 16 16) 16 pd from HPad.out.alloc _)
          have HSd := Lib.hid (show SlB (w5.alloc (.cells #[.int .u8 (z : Nat)] 5)).drew (some ⟨w5.heap.size, 0, none⟩) 1 (fun _ => z) from one_sl w5 z hz8)
          have HBd := Lib.hid (HBel.out.alloc HBel.out.size (.cells #[.int .u8 (z : Nat)] 5)).drew
          clear HOwn HPad HBel
          go_wp2_with fail
          go_region_law ((refine step_appW (.tmp 65) (.tmp 78) rfl rfl rfl w1.heap.size _ k (xorf n key N T p) rfl HOd.out _ 1 1 (fun _ => z) rfl HSd.out (by omega) HBd.out.size _ 16 pd HPd.out HAp.out ?_); intro v6 w6 h1 h2 h3 h4; have HO6 := Lib.hid h1; have HP6 := Lib.hid h2; have HA6 := Lib.hid h3; have HB6 := Lib.hid (HBd.out.trans h4); clear h1 h2 h3 h4)
          all_goals
            go_wp2_with fail
            go_roundw
            case rel => exact ⟨k + 1, by omega, by go_num, HO6.out.congr fun j hj => by
                unfold catB
                by_cases h : j < k
                · rw [if_pos h]
                · rw [if_neg h, show j = k by omega, HXF.out], Or.inr ⟨st, rfl, Nat.succ_pos k, by rw [HPE.out]; exact HP6.out, HA6.out⟩, HB6.out⟩
            case measure => simp [intOf]; omega
      · have hb1 : ((k : Int) == 0) = false := by simp; omega
        have hb2 : ((q : Int) == 0) = false := by simp; omega
        have HPQ := Lib.hid (show ∃ st, u13 = .slice (some ⟨st, 0, none⟩) 16 16 ∧ OwnB wr w1.heap.size (.slice (some ⟨st, 0, none⟩) 16 16) 16 (padk n key N E) ∧ Apart u12 (.slice (some ⟨st, 0, none⟩) 16 16) from by
          rcases HR.out.pad with ⟨h, _⟩ | ⟨st, h1, h2, h3, h4⟩
          · exact absurd (Or.inl h) hnew
          · refine ⟨st, h1, ?_, h4⟩
            have : (T + k - 1) / 16 = E := by
              have := HE.out
              have := HQ.out
              have := HEE.out
              omega
            rw [← this]
            exact h3)
        obtain ⟨st, hu, HPad, HAp⟩ := HPQ.out
        subst hu
        have HPad := Lib.hid HPad
        have HAp := Lib.hid HAp
        have HOwn := Lib.hid HR.out.own
        have HBel := Lib.hid HR.out.below
        clear hnew HPQ
        have hcp := (HBel.out.cell (p := ⟨PB, o + k, none⟩) HPL.out).trans HPC.out.2
        have hcq := OwnB.at0 HPad.out (padk_by HN.out HY.out N E) hq16
        have hx8 := HPC.out.1
        have hy8 := padk_by HN.out HY.out N E q hq16
        have HXF := Lib.hid (show xorf n key N T p k = p k ^^^ padk n key N E q by unfold xorf; rw [HE.out, HEE.out, HQ.out])
        have HPE := Lib.hid (show padk n key N ((T + (k + 1) - 1) / 16) = padk n key N E by rw [show T + (k + 1) - 1 = e by have := HE.out; omega, HEE.out])
        generalize padk n key N E = pd at *
        generalize p k = x at *
        generalize pd q = y at *
        have b1 : bits BinOp.xor .u8 (x : Int) (y : Int) = ((x ^^^ y : Nat) : Int) := u8_xor_nat x y hx8 hy8
        have hz8 := xor_lt8 hx8 hy8
        generalize x ^^^ y = z at *
        have HOd := Lib.hid (show OwnB (wr.alloc (.cells #[.int .u8 (z : Nat)] 5)).drew w1.heap.size u12 k (xorf n key N T p) from HOwn.out.alloc _)
        have HPd := Lib.hid (show OwnB (wr.alloc (.cells #[.int .u8 (z : Nat)] 5)).drew w1.heap.size (.slice (some ⟨st, 0, none⟩) 16 16) 16 pd from HPad.out.alloc _)
        have HSd := Lib.hid (show SlB (wr.alloc (.cells #[.int .u8 (z : Nat)] 5)).drew (some ⟨wr.heap.size, 0, none⟩) 1 (fun _ => z) from one_sl wr z hz8)
        have HBd := Lib.hid (HBel.out.alloc HBel.out.size (.cells #[.int .u8 (z : Nat)] 5)).drew
        clear HOwn HPad HBel
        go_wp2_with fail
        go_region_law ((refine step_appW (.tmp 65) (.tmp 78) rfl rfl rfl w1.heap.size _ k (xorf n key N T p) rfl HOd.out _ 1 1 (fun _ => z) rfl HSd.out (by omega) HBd.out.size _ 16 pd HPd.out HAp.out ?_); intro v6 w6 h1 h2 h3 h4; have HO6 := Lib.hid h1; have HP6 := Lib.hid h2; have HA6 := Lib.hid h3; have HB6 := Lib.hid (HBd.out.trans h4); clear h1 h2 h3 h4)
        all_goals
          go_wp2_with fail
          go_roundw
          case rel => exact ⟨k + 1, by omega, by go_num, HO6.out.congr fun j hj => by
              unfold catB
              by_cases h : j < k
              · rw [if_pos h]
              · rw [if_neg h, show j = k by omega, HXF.out], Or.inr ⟨st, rfl, Nat.succ_pos k, by rw [HPE.out]; exact HP6.out, HA6.out⟩, HB6.out⟩
          case measure => simp [intOf]; omega
    · obtain rfl : k = m := by omega
      obtain ⟨A9, c9, e9, hs9⟩ := OwnB.slice HR.out.own (xorf_lt HN.out HY.out HPY.out)
      obtain ⟨A9', c9', e9', hc9, _, hn9⟩ := OwnB.cap_le HR.out.own
      subst e9
      cases e9'
      have HS9 := Lib.hid hs9
      have HBel := Lib.hid HR.out.below
      have HC9 := Lib.hid hc9
      have HN9 := Lib.hid hn9
      clear hs9 hc9 hn9
      go_wp2_with fail
      go_ret2
      exact ⟨A9, c9, rfl, HC9.out, HN9.out, HS9.out, H3.out.trans (HBel.out.mono H3.out.size)⟩
end Go.Proofs.YtgcdnhjjoidpmaaGreatDoor
/- The reference of layer 8: the tag, Seal, Size. -/
namespace Go.Proofs.YtgcdnhjjoidpmaaGreatDoor
open Go.RowKit
theorem numE_mono (f : Nat → Nat) (k : Nat) : ∀ m, k ≤ m → numE f k ≤ numE f m
  | 0, h => by obtain rfl : k = 0 := by omega
               exact Nat.le_refl _
  | m + 1, h => by
    rcases Nat.lt_or_ge k (m + 1) with h1 | h1
    · have := numE_mono f k m (by omega)
      show numE f k ≤ numE f m * 256 + f m
      omega
    · obtain rfl : k = m + 1 := by omega
      exact Nat.le_refl _
theorem SlB.some {w : World} {A : Option Addr} {n : Nat} {f : Nat → Nat} (h : SlB w A n f) (hn : 0 < n) : A ≠ none := by
  obtain ⟨B, o, rfl, _⟩ := h hn
  exact fun e => by cases e
set_option maxRecDepth 100000 in
set_option maxHeartbeats 800000 in
theorem rtagged_any (At Ab B : Option Addr) (nt ct na ca m cb : Nat) (tk about b : Nat → Nat) (w : World) (hnt : nt ≤ 100000000000) (hna : na ≤ 100000000000) (hm : m ≤ 100000000000) (hT : SlB w At nt tk) (hTn : At = none → nt = 0 ∧ ct = 0) (hA : SlB w Ab na about) (hAn : Ab = none → na = 0 ∧ ca = 0)
    (hB : SlB w B m b) (hBn : B = none → m = 0 ∧ cb = 0) :
    Calls Tryz.prog 26 #[.slice At nt ct, .slice Ab na ca, .slice B m cb] w fun e w' => ∃ A c, e = .returned (.slice A 16 c) ∧ 16 ≤ c ∧ SlB w' A 16 (btag nt tk na about m b) ∧ Below w.heap.size w w' := by
  have HE := Lib.hid (eight_any na w (by omega))
  have HT := Lib.hid hT
  have HTN := Lib.hid hTn
  have HA := Lib.hid hA
  have HAN := Lib.hid hAn
  have HB := Lib.hid hB
  have HBN := Lib.hid hBn
  have HNT := Lib.hid hnt
  have HNA := Lib.hid hna
  have HM := Lib.hid hm
  have HAY := Lib.hid (show ∀ j, j < na → about j < 256 from fun j hj => hA.byte hj)
  have HBY := Lib.hid (show ∀ j, j < m → b j < 256 from fun j hj => hB.byte hj)
  have hnai : (na : Int) ≤ 100000000000 := by omega
  clear hnt hna hm hT hTn hA hAn hB hBn
  go_enter Tryz.func26, Tryz.ntmps26
  go_wp2_with fail
  refine HE.out.mono ?_
  rintro e w1 ⟨A1, c1, rfl, h1, h2⟩
  have HO1 := Lib.hid h1
  have HB1 := Lib.hid h2
  clear h1 h2 HE
  go_wp2_with (first | (refine wpList_appO rfl (.tmp 11) (.tmp 12) rfl w.heap.size _ 8 (len8 na) rfl HO1.out Ab na ca about rfl (HA.out.keep HB1.out) HAN.out (by have := HNA.out; omega) HB1.out.size (fun j _ => len8_lt na j) HAY.out ?_; intro A2 c2 w2 h1 _ _ h4; have HO2 := Lib.hid h1; have HB2 := Lib.hid (HB1.out.trans h4); clear h1 h4) |
    (refine wpList_appO rfl (.tmp 14) (.tmp 15) rfl w.heap.size _ (8 + na) (catB 8 (len8 na) about) rfl HO2.out B m cb b rfl (HB.out.keep HB2.out) HBN.out (by have := HNA.out; have := HM.out; omega) HB2.out.size (catB_lt (fun j _ => len8_lt na j) HAY.out) HBY.out ?_; intro A3 c3 w3 h1 h2 h3 h4; have HS3 := Lib.hid h2; have HN3 := Lib.hid h3.2.2; have HB3 := Lib.hid (HB2.out.trans h4); clear h1 h2 h3 h4))
  refine (rmac_any At A3 nt ct (8 + na + m) c3 tk (authF na about b) w3 (by have := HNT.out; omega) (by have := HNA.out; have := HM.out; omega) (HT.out.keep HB3.out) HTN.out HS3.out HN3.out).mono ?_
  rintro e w4 ⟨⟨A4, c4, rfl, h1, h2⟩, h3⟩
  obtain ⟨_, _, e4, h4, _⟩ := OwnB.cap_le h2
  cases e4
  have hlo : ∀ w : World, (Instr.sliceAt 22 (.slice A4 32 c4) none (some (.int .i64 16)) none).run Tryz.prog w = .ok (.slice (loA A4 c4) 16 c4) w := fun w => run_lo w A4 32 c4 16 (by omega)
  have HS4 := Lib.hid (h1.loA c4 (k := 16) (by decide))
  have HC4 := Lib.hid (show 16 ≤ c4 by omega)
  have HB4 := Lib.hid (HB3.out.trans (h3.mono HB3.out.size))
  clear h1 h2 h3 h4 HO1 HO2 HS3
  go_wp2_with fail
  go_ret
  exact ⟨_, _, rfl, HC4.out, HS4.out, HB4.out⟩
/-- what the reference's Seal answers -/
def RSU (k : Nat) (f : Nat → Nat) (E : Nat) (w : World) (e : Ending) (w' : World) : Prop :=
  ∃ A c, e = .returned (.tuple #[.slice A k c, .int .i64 (E : Nat)]) ∧ SlB w' A k f ∧ Below w.heap.size w w'
set_option maxRecDepth 100000 in
theorem rseal_wrong (len cap nt ct na ca m cp : Nat) (N : Int) (Ae At Ab P : Option Addr) (key : Nat → Nat) (w : World) (hl : len ≤ 140737488351232) (hc : len ≤ cap) (hE : SlB w Ae len key) (h : wrong len N 0) :
    Calls Tryz.prog 10 #[.slice Ae len cap, .slice At nt ct, .int .i64 N, .slice Ab na ca, .slice P m cp] w (RSU 0 (fun _ => 0) 1 w) := by
  have HX := Lib.hid (rxor_arg Ae P len cap m cp key N 0 w hl hc hE h)
  clear hl hc hE h
  go_enter Tryz.func10, Tryz.ntmps10
  go_wp2_with fail
  refine HX.out.mono ?_
  rintro e w1 ⟨rfl, h1⟩
  have H1 := Lib.hid h1
  clear h1
  go_wp2_with fail
  go_ret2
  exact ⟨none, 0, rfl, SlB.none0 _ _, H1.out⟩
set_option maxRecDepth 100000 in
set_option maxHeartbeats 1600000 in
theorem rseal_any (len n cap nt ct na ca m cp N : Nat) (Ae At Ab P : Option Addr) (key tk about p : Nat → Nat) (w : World) (hn : n = 4 ∨ n = 8) (hl : 4 * n = len) (hc : len ≤ cap) (hE : SlB w Ae len key) (hP : SlB w P m p) (hN : N ≤ 9223372036854775807) (hm : m ≤ 65536) (hnt : nt ≤ 100000000000) (hna : na ≤ 100000000000)
    (hT : SlB w At nt tk) (hTn : At = none → nt = 0 ∧ ct = 0) (hA : SlB w Ab na about) (hAn : Ab = none → na = 0 ∧ ca = 0) :
    Calls Tryz.prog 10 #[.slice Ae len cap, .slice At nt ct, .int .i64 (N : Nat), .slice Ab na ca, .slice P m cp] w (RSU (24 + m) (sealF nt tk na about N m (xorf n key N 0 p)) 0 w) := by
  have HX := Lib.hid (rxor_any Ae P len n cap m cp N 0 key p w hn hl hc hE hP hN (by decide) hm)
  have HXY := Lib.hid (show By m (xorf n key N 0 p) from xorf_lt hn (fun j hj => hE.byte (by omega)) (fun j hj => hP.byte hj))
  unfold RXorP at HX
  obtain ⟨X, hX⟩ : ∃ X, xorf n key N 0 p = X := ⟨_, rfl⟩
  rw [hX] at HX HXY ⊢
  have HN := Lib.hid hN
  have HM := Lib.hid hm
  have HNT := Lib.hid hnt
  have HNA := Lib.hid hna
  have HT := Lib.hid hT
  have HTN := Lib.hid hTn
  have HA := Lib.hid hA
  have HAN := Lib.hid hAn
  clear hn hl hc hE hP hN hm hnt hna hT hTn hA hAn hX
  go_enter Tryz.func10, Tryz.ntmps10
  go_wp2_with fail
  refine HX.out.mono ?_
  rintro e w1 ⟨A1, c1, rfl, _, h1, h2, h3⟩
  have HC1 := Lib.hid h1
  have HX1 := Lib.hid h2
  have H1 := Lib.hid h3
  clear h1 h2 h3 HX
  go_wp2_with fail
  refine (eight_any N w1 HN.out).mono ?_
  rintro e w2 ⟨A2, c2, rfl, h1, h2⟩
  have HO2 := Lib.hid h1
  have HX2 := Lib.hid (HX1.out.keep h2)
  have HZ2 := Lib.hid h2.size
  have H2 := Lib.hid (H1.out.trans (h2.mono H1.out.size))
  clear h1 h2 HX1
  go_wp2_with (refine wpList_appO rfl (.tmp 26) (.tmp 27) rfl w1.heap.size _ 8 (len8 N) rfl HO2.out A1 m c1 X rfl HX2.out HC1.out (by have := HM.out; omega) HZ2.out (fun j _ => len8_lt N j) HXY.out ?_; intro A3 c3 w3 h1 h2 h3 h4; have HO3 := Lib.hid h1; have HS3 := Lib.hid h2; have HN3 := Lib.hid h3.2.2; have HZ3 := Lib.hid (Nat.le_trans HZ2.out h4.size); have H3 := Lib.hid (H2.out.trans (h4.mono H1.out.size)); clear h1 h2 h3 h4)
  refine (rtagged_any At Ab A3 nt ct na ca (8 + m) c3 tk about (headF N X) w3 HNT.out HNA.out (by have := HM.out; omega) (HT.out.keep H3.out) HTN.out (HA.out.keep H3.out) HAN.out HS3.out HN3.out).mono ?_
  rintro e w4 ⟨A4, c4, rfl, _, h2, h3⟩
  have HO4 := Lib.hid (HO3.out.keep h3)
  have HS4 := Lib.hid h2
  have HN4 := Lib.hid (show A4 = none → 16 = 0 ∧ c4 = 0 from fun e => absurd e (h2.some (by decide)))
  have HZ4 := Lib.hid (Nat.le_trans HZ3.out h3.size)
  have H4 := Lib.hid (H3.out.trans (h3.mono H3.out.size))
  clear h2 h3 HO2 HO3 HX2 HS3
  go_wp2_with (refine wpList_appO rfl (.tmp 29) (.tmp 33) rfl w1.heap.size _ (8 + m) (headF N X) rfl HO4.out A4 16 c4 (btag _ _ _ _ _ _) rfl HS4.out HN4.out (by have := HM.out; omega) HZ4.out (headF_by HXY.out) (fun j _ => btag_lt _ _ _ _ _ _ j) ?_; intro A5 c5 w5 h1 h2 _ h4; have HS5 := Lib.hid h2; have H5 := Lib.hid (H4.out.trans (h4.mono H1.out.size)); clear h1 h2 h4)
  go_ret2
  exact ⟨A5, c5, congrArg (fun k => Ending.returned (.tuple #[.slice A5 k c5, .int .i64 0])) (by omega), by have := HS5.out; rwa [show 8 + m + 16 = 24 + m by omega] at this, H5.out⟩
theorem rsize_any (n : Int) (w : World) (hn : -9223372036854775808 ≤ n ∧ n ≤ 9223372036854775807) :
    Calls Tryz.prog 14 #[.int .i64 n] w fun e w' => e = .returned (.int .i64 (sizeI n)) ∧ w = w' := by
  by_cases h1 : n < 0
  · have d1 : decide (n < 0) = true := decide_eq_true h1
    have HE := Lib.hid (show sizeI n = 0 from if_pos (Or.inl h1))
    clear h1 hn
    go_enter Tryz.func14, Tryz.ntmps14
    go_wp2_with fail
    go_ret
    exact ⟨by rw [HE.out]; rfl, rfl⟩
  · have d1 : decide (n < 0) = false := decide_eq_false h1
    by_cases h2 : 65536 < n
    · have d2 : decide (65536 < n) = true := decide_eq_true h2
      have HE := Lib.hid (show sizeI n = 0 from if_pos (Or.inr h2))
      clear h1 h2 hn
      go_enter Tryz.func14, Tryz.ntmps14
      go_wp2_with fail
      go_ret
      exact ⟨by rw [HE.out]; rfl, rfl⟩
    · have d2 : decide (65536 < n) = false := decide_eq_false h2
      have HE := Lib.hid (show sizeI n = 24 + n from if_neg (by omega))
      have h3 : 0 ≤ n := by omega
      have h4 : n ≤ 65536 := by omega
      clear h1 h2 hn
      go_enter Tryz.func14, Tryz.ntmps14
      go_wp2_with fail
      go_ret
      exact ⟨by rw [HE.out]; rfl, rfl⟩
end Go.Proofs.YtgcdnhjjoidpmaaGreatDoor
