/- 13 texts in one, in their order. -/
import Derived.Test.YthmlcmlpmolmoaaGreatDoorPk1
/- Contracts of package aes: what each use of a key needs. -/
namespace Go.Proofs.YthmlcmlpmolmoaaGreatDoor
open Go.RowKit

theorem gm2_dbl : ∀ a, a < 256 → gm 2 a = dbl a := by decide +kernel
/-- a table behind k of its entries -/
def tabk (f : Nat → Nat) (k j : Nat) : Nat := if j < k then f j else 0
def untab (k y : Nat) : Nat := if unbox y < k then unbox y else 0
theorem tabk_step (f : Nat → Nat) (k j : Nat) : (if j = k then f k else tabk f k j) = tabk f (k + 1) j := by
  unfold tabk
  by_cases e : j = k
  · subst e; rw [if_pos rfl, if_pos (Nat.lt_succ_self _)]
  · rw [if_neg e]
    by_cases h : j < k
    · rw [if_pos h, if_pos (by omega)]
    · rw [if_neg h, if_neg (by omega)]
theorem tabk_all (f : Nat → Nat) (j : Nat) (h : j < 256) : tabk f 256 j = f j := if_pos h
theorem untab_step {k : Nat} (hk : k < 256) (y : Nat) (hy : y < 256) : (if y = box k then k else untab k y) = untab (k + 1) y := by
  unfold untab
  by_cases e : y = box k
  · rw [if_pos e, e, unbox_box hk, if_pos (Nat.lt_succ_self _)]
  · have : unbox y ≠ k := fun h => e (by rw [← h, box_unbox hy])
    rw [if_neg e]
    by_cases h : unbox y < k
    · rw [if_pos h, if_pos (by omega)]
    · rw [if_neg h, if_neg (by omega)]
theorem untab_all (y : Nat) (h : y < 256) : untab 256 y = unbox y := if_pos (unbox_lt h)

set_option maxRecDepth 100000 in
set_option maxHeartbeats 1600000 in
theorem prepare_any (g n : Nat) (key : Nat → Nat) (w : World) (hn : n = 4 ∨ n = 8) (hkey : By (4 * n) key) (hk : KeyMem w g n 0 1 (sch n key 0) (fun _ => 0) (fun _ => 0) (fun _ => 0)) :
    Calls Tryz.prog 171 #[.pointer (some ⟨g, 0, none⟩)] w fun e w' => e = .returned (.tuple #[]) ∧ (KeyMem w' g n 0 1 (ks n key) box unbox dbl ∧ Chg g w w') := by
  have HK := Lib.hid hk
  have HN := Lib.hid hn
  have HY := Lib.hid hkey
  clear hk hn hkey
  go_enter Tryz.func171, Tryz.ntmps171
  go_wp2_with fail
  go_loopw [5] (fun v wr => ∃ k : Nat, k ≤ 256 ∧ v = .int .i64 k ∧ KeyMem wr g n 0 1 (sch n key 0) (tabk box k) (untab k) (tabk dbl k) ∧ Chg g w wr) (fun v _ => 256 - (intOf v).toNat)
  case atStart => exact ⟨0, by decide, rfl, HK.out.congr (fun _ _ => rfl) (fun j _ => (if_neg (Nat.not_lt_zero _)).symm) (fun j _ => (if_neg (Nat.not_lt_zero _)).symm) (fun j _ => (if_neg (Nat.not_lt_zero _)).symm), Chg.refl _ _⟩
  case round =>
    obtain ⟨k, hk, rfl, h1, h2⟩ := hrel
    have H1 := Lib.hid h1
    have H2 := Lib.hid h2
    clear h1 h2
    by_cases hlt : k < 256
    · have hbl := box_lt hlt
      have hdl := dbl_lt hlt
      have HBX := Lib.hid fun w => box_any k w hlt
      have HML := Lib.hid fun w => (show Calls Tryz.prog 202 #[.int .u8 2, .int .u8 (k : Nat)] w fun e w' => e = .returned (.int .u8 (dbl k : Nat)) ∧ w = w' by rw [← gm2_dbl k hlt]; exact mul_any 2 k w (by decide) hlt)
      have HM1 := Lib.hid (((H1.out.setBox hlt (k := 244 + k) rfl (box k) rfl).congr (fun _ _ => rfl) (fun j _ => tabk_step box k j) (fun _ _ => rfl) (fun _ _ => rfl)).drew)
      have HC1 := Lib.hid ((H2.out.setCell (a := ⟨g, 244 + k, none⟩) (Or.inl rfl) (.int .u8 (box k : Nat))).drew)
      have hc1 := H1.out.box.cell hlt rfl
      have hf1 := H1.out.box.frozen hlt rfl
      have HT1 := Lib.hid (show tabk box (k + 1) k = box k from if_pos (Nat.lt_succ_self k))
      have HU1 := Lib.hid fun y (hy : y < 256) => untab_step hlt y hy
      generalize hbx : box k = x at *
      clear hbx
      go_wp2_with fail
      go_region_with (go_at_call 201; refine (HBX.out _).mono ?_; rintro e w' ⟨rfl, rfl⟩)
      all_goals
        generalize (wr.setCell ⟨g, 244 + k, none⟩ (.int .u8 (x : Nat))).drew = W1 at *
        clear hc1 hf1
        have hc1 := HM1.out.box.cell hlt rfl
        rw [HT1.out] at hc1
        have hc2 := HM1.out.unbox.cell hbl rfl
        have hf2 := HM1.out.unbox.frozen hbl rfl
        have HM2 := Lib.hid (((HM1.out.setUnbox hbl (k := 500 + x) rfl k rfl).congr (fun _ _ => rfl) (fun _ _ => rfl) (fun j hj => HU1.out j hj) (fun _ _ => rfl)).drew)
        have HC2 := Lib.hid ((HC1.out.setCell (a := ⟨g, 500 + x, none⟩) (Or.inl rfl) (.int .u8 (k : Nat))).drew)
        go_wp2_with fail
        go_region
      all_goals
        generalize (W1.setCell ⟨g, 500 + x, none⟩ (.int .u8 (k : Nat))).drew = W2 at *
        clear hc1 hf2 hc2
        have hc3 := HM2.out.dbl.cell hlt rfl
        have hf3 := HM2.out.dbl.frozen hlt rfl
        have HM3 := Lib.hid (((HM2.out.setDbl hlt (k := 756 + k) rfl (dbl k) rfl).congr (fun _ _ => rfl) (fun _ _ => rfl) (fun _ _ => rfl) (fun j _ => tabk_step dbl k j)).drew)
        have HC3 := Lib.hid ((HC2.out.setCell (a := ⟨g, 756 + k, none⟩) (Or.inl rfl) (.int .u8 (dbl k : Nat))).drew)
        generalize hdx : dbl k = d at *
        clear hdx
        go_wp2_with fail
        go_region_with (go_at_call 202; refine (HML.out _).mono ?_; rintro e w' ⟨rfl, rfl⟩)
      all_goals
        generalize (W2.setCell ⟨g, 756 + k, none⟩ (.int .u8 (d : Nat))).drew = W3 at *
        clear hc3 hf3
        go_wp2_with fail
        go_roundw
        case rel => exact ⟨k + 1, by omega, by go_num, HM3.out, HC3.out⟩
        case measure => simp [intOf]; omega
    · obtain rfl : k = 256 := by omega
      have HM := Lib.hid (H1.out.congr (fun _ _ => rfl) (fun j hj => tabk_all box j hj) (fun j hj => untab_all j hj) (fun j hj => tabk_all dbl j hj))
      have hw := HM.out.words
      have hn4 : (4 : Int) ≤ (n : Nat) := by have := HN.out; omega
      have hn8 : ((n : Nat) : Int) ≤ 8 := by have := HN.out; omega
      have hn9 : n ≤ 8 := by omega
      clear H1
      rw [show ((256 : Nat) : Int) = 256 from rfl]
      go_wp2_with fail
      go_loopw [4] (fun v wx => ∃ k : Nat, k ≤ 3 * n + 28 ∧ v = .int .i64 ((n + k : Nat) : Int) ∧ KeyMem wx g n 0 1 (sch n key k) box unbox dbl ∧ Chg g w wx) (fun v _ => 60 - (intOf v).toNat)
      case atStart => exact ⟨0, Nat.zero_le _, rfl, HM.out, H2.out⟩
      case round =>
        obtain ⟨k, hk, rfl, h1, h2⟩ := hrel
        have H1 := Lib.hid h1
        have H3 := Lib.hid h2
        clear h1 h2
        have hw1 := H1.out.words
        by_cases hlt : k < 3 * n + 28
        · obtain ⟨i, hi⟩ : ∃ i, n + k = i := ⟨_, rfl⟩
          have hi2 : i < (n + 7) * 4 := by omega
          have hin : n ≤ i := by omega
          have hi60 : i < 60 := by omega
          have HMW := Lib.hid (make_any g n i 1 (sch n key k) unbox dbl _ HN.out hin hi60 (fun j _ => sch_by (by have := HN.out; omega) HY.out k j) H1.out)
          have HI := Lib.hid hi
          rw [hi]
          clear hi
          go_wp2_with (first | (go_at_call 173; refine (last_any g n _ hn9 hw1).mono ?_; rintro e w' ⟨rfl, rfl⟩) | (go_at_call 203; refine HMW.out.mono ?_; rintro e w' ⟨rfl, h1, h2⟩; have HM5 := Lib.hid h1; have HC5 := Lib.hid h2; clear h1 h2))
          go_roundw
          case rel => exact ⟨k + 1, by omega, by rw [← HI.out]; go_num, by
            have h := HM5.out
            rw [← HI.out] at h
            exact h, H3.out.trans HC5.out⟩
          case measure => simp [intOf]; omega
        · obtain rfl : k = 3 * n + 28 := by omega
          have hend : ¬ ((n + (3 * n + 28) : Nat) : Int) < ((n : Int) + 6 + 1) * 16 / 4 := by omega
          have HR := Lib.hid (show KeyMem wr g n 0 1 (ks n key) box unbox dbl from H1.out)
          generalize n + (3 * n + 28) = e at *
          clear H1 hk hlt
          go_wp2_with ((go_at_call 173; refine (last_any g n _ hn9 hw1).mono ?_; rintro e w' ⟨rfl, rfl⟩))
          go_end0
          exact ⟨rfl, HR.out, H3.out⟩
end Go.Proofs.YthmlcmlpmolmoaaGreatDoor
/- More of rows of bytes in the middle of a block. -/
namespace Go.Proofs.YthmlcmlpmolmoaaGreatDoor
open Go.RowKit
/-- p[:] of an array of bytes behind a pointer -/
theorem all_arr (t : TypeId) (n g o : Nat) (hu : Tryz.prog.underlying t = some (.array n 5)) (hn : 0 < n) (w : World) :
    (Instr.sliceAt t (.pointer (some ⟨g, o, none⟩)) none none none).run Tryz.prog w = .ok (.slice (some ⟨g, o, none⟩) n n) w := by
  have he : Tryz.prog.elem t = 5 := by simp [Program.elem, hu]
  have hl : Tryz.prog.arrayLen t = n := by simp [Program.arrayLen, hu]
  rw [run_sliceAt_array_all (ht := by rw [hl, he]; exact hu), he, sizeU8]
  show Result.ok (slicedAt ⟨g, o, none⟩ _ _ _ 1) w = _
  rw [hl]
  unfold slicedAt
  rw [if_neg (by omega), Go.WideShapes.add_plain, Nat.zero_mul, Nat.add_zero, Nat.sub_zero]
theorem upto_step (f h : Nat → Nat) (k x : Nat) (hx : h k = x) (j : Nat) : (if j = k then x else if j < k then h j else f j) = if j < k + 1 then h j else f j := by
  by_cases e : j = k
  · subst e; rw [if_pos rfl, if_pos (Nat.lt_succ_self _), hx]
  · rw [if_neg e]
    by_cases h : j < k
    · rw [if_pos h, if_pos (by omega)]
    · rw [if_neg h, if_neg (by omega)]
theorem arr_of_list {w : World} {g o n : Nat} {f : Nat → Nat} {L : List Value} {t : TypeId} (h : w.heap[g]? = some (.cells L.toArray t (0, 0))) (hL : ∀ j, j < n → L[o + j]? = (bytesL n f)[j]?) : Arr w g o n f := fun j hj => by
  refine ⟨?_, by simp [World.frozen?, h]⟩
  simp only [World.cell?, h]
  rw [List.getElem?_toArray, hL j hj, bytesL_at hj]
  rfl
theorem cell_off {w : World} {g k j : Nat} (hkj : k ≠ j) (v : Value) : (w.setCell ⟨g, k, none⟩ v).cell? ⟨g, j, none⟩ = w.cell? ⟨g, j, none⟩ :=
  World.cell?_setCell_other w ⟨g, k, none⟩ ⟨g, j, none⟩ v (fun e => hkj (congrArg Addr.off e))
end Go.Proofs.YthmlcmlpmolmoaaGreatDoor
/- Contracts of package aes: the first use of a key; the steps of a round. -/
namespace Go.Proofs.YthmlcmlpmolmoaaGreatDoor
open Go.RowKit

abbrev KeyReady (w : World) (g n : Nat) (key : Nat → Nat) : Prop := KeyMem w g n 1 0 (ks n key) box unbox dbl
/-- a key that was made, asked or not -/
def KeyAt (w : World) (g n : Nat) (key : Nat → Nat) : Prop := KeyMem w g n 0 0 (sch n key 0) (fun _ => 0) (fun _ => 0) (fun _ => 0) ∨ KeyReady w g n key
theorem KeyAt.of_block {w w' : World} {g n : Nat} {key : Nat → Nat} (h : KeyAt w g n key) (e : w'.heap[g]? = w.heap[g]?) : KeyAt w' g n key := h.imp (·.of_block e) (·.of_block e)
theorem KeyAt.lt {w : World} {g n : Nat} {key : Nat → Nat} (h : KeyAt w g n key) : g < w.heap.size := h.elim (·.lt) (·.lt)
theorem KeyAt.keep {w w' : World} {g n : Nat} {key : Nat → Nat} (h : KeyAt w g n key) (hb : Below w.heap.size w w') : KeyAt w' g n key := h.of_block (hb.block g h.lt)
theorem KeyAt.chg {w w' : World} {g n K : Nat} {key : Nat → Nat} (h : KeyAt w g n key) (hb : Chg K w w') (hK : g ≠ K) : KeyAt w' g n key := h.of_block (hb.block g h.lt hK)
theorem once_any (g n : Nat) (key : Nat → Nat) (w : World) (hn : n = 4 ∨ n = 8) (hkey : By (4 * n) key) (hk : KeyAt w g n key) :
    Calls Tryz.prog 78 #[.pointer (some ⟨g, 241, none⟩), .func (.func 171) #[.pointer (some ⟨g, 0, none⟩)] #[]] w fun e w' => e = .returned (.tuple #[]) ∧ KeyReady w' g n key ∧ Chg g w w' := by
  rcases hk with hk | hk
  · refine (do_first g 241 (.pointer (some ⟨g, 0, none⟩)) w hk.once (fun w1 => KeyMem w1 g n 0 1 (ks n key) box unbox dbl ∧ Chg g (w.setCell ⟨g, 242, none⟩ (.int .i32 1)) w1) (prepare_any g n key _ hn hkey (hk.setLock 1 rfl)) fun w1 h => h.1.once).mono ?_
    rintro e w' ⟨he, w1, ⟨h1, h2⟩, rfl⟩
    exact ⟨he, (h1.drew.setDone 1 rfl).setLock 0 rfl, ((((Chg.refl g w).setCell (a := ⟨g, 242, none⟩) (Or.inl rfl) _).trans h2).drew.setCell (a := ⟨g, 241, none⟩) (Or.inl rfl) _).setCell (a := ⟨g, 242, none⟩) (Or.inl rfl) _⟩
  · refine (do_done g 241 _ 0 w hk.once).mono ?_
    rintro e w' ⟨he, rfl⟩
    exact ⟨he, hk, Chg.refl _ _⟩

abbrev z16 : Array Value := #[.int .u8 0, .int .u8 0, .int .u8 0, .int .u8 0, .int .u8 0, .int .u8 0, .int .u8 0, .int .u8 0, .int .u8 0, .int .u8 0, .int .u8 0, .int .u8 0, .int .u8 0, .int .u8 0, .int .u8 0, .int .u8 0]
theorem made65 (w : World) : Arr (w.alloc (.cells #[.int .u8 0, .int .u8 0, .int .u8 0, .int .u8 0, .int .u8 0, .int .u8 0, .int .u8 0, .int .u8 0, .int .u8 0, .int .u8 0, .int .u8 0, .int .u8 0, .int .u8 0, .int .u8 0, .int .u8 0, .int .u8 0] 228)) w.heap.size 0 16 (fun _ => 0) := arr_made w _ _ 16 _ rfl
set_option maxHeartbeats 1600000 in
theorem add_any (g s r : Nat) (S f : Nat → Nat) (w : World) (hr : r ≤ 14) (hS : Arr w g 1 240 S) (hs : Arr w s 0 16 f) (hSb : By 240 S) (hf : By 16 f) :
    Calls Tryz.prog 172 #[.pointer (some ⟨g, 0, none⟩), .pointer (some ⟨s, 0, none⟩), .int .i64 (r : Nat)] w fun e w' => e = .returned (.tuple #[]) ∧ Arr w' s 0 16 (addk S r f) ∧ Chg s w w' := by
  have hsl := sl_arr 167 240 g 1 (16 * r) (16 * r + 16) Tryz.underlying167 (by omega) (by omega) (by omega) ((r : Int) * 16) (((r : Int) + 1) * 16) (by omega) (by omega)
  rw [show 16 * r + 16 - 16 * r = 16 by omega] at hsl
  have hpa := to_arr 228 16 5 Tryz.underlying228 (some ⟨g, 1 + 16 * r, none⟩) 16 (240 - 16 * r) (Nat.le_refl _)
  have HL := Lib.hid (hS.sub (a := 16 * r) (m := 16) (by omega) rfl)
  have HS := Lib.hid hs
  have HSB := Lib.hid hSb
  have HF := Lib.hid hf
  have HG := Lib.hid (hs.lt (by decide))
  clear hS hs hSb hf
  go_enter Tryz.func172, Tryz.ntmps172
  have HL0 := Lib.hid (HL.out.alloc (.cells z16 228))
  have HN0 := Lib.hid (made65 w)
  have HC0 := Lib.hid ((Chg.refl s w).alloc (.cells z16 228))
  have HS0 := Lib.hid (HS.out.alloc (.cells z16 228))
  go_wp2_with (first | (refine wpList_loadB rfl 228 (.tmp 18) rfl g (1 + 16 * r) 16 rfl _ HL.out _ Tryz.underlying228 rfl size65 ?_) | (refine wpList_storeB rfl 228 (.tmp 6) (.tmp 19) rfl w.heap.size 0 16 _ _ rfl rfl HN0.out size65 ?_; intro w2 h1 h2; have HR2 := Lib.hid h1; have HC2 := Lib.hid (HC0.out.thenNew h2 (Nat.le_refl _)); have HS2 := Lib.hid (HS0.out.chg h2 (Nat.ne_of_lt HG.out)); clear h1 h2) | (refine wpList_loadB rfl 228 (.tmp 6) rfl w.heap.size 0 16 rfl _ HR2.out _ Tryz.underlying228 rfl size65 ?_))
  clear HL0 HN0 HC0 HS0 HR2
  go_loopw [21] (fun v wr => ∃ k : Nat, k ≤ 16 ∧ v = .int .i64 k ∧ Arr wr s 0 16 (fun j => if j < k then addk S r f j else f j) ∧ Chg s w wr) (fun v _ => 16 - (intOf v).toNat)
  case atStart => exact ⟨0, by decide, rfl, HS2.out.congr fun j _ => (if_neg (Nat.not_lt_zero _)).symm, HC2.out⟩
  case round =>
    obtain ⟨k, hk, rfl, h1, h2⟩ := hrel
    have H1 := Lib.hid h1
    have H2 := Lib.hid h2
    clear h1 h2
    by_cases hlt : k < 16
    · obtain ⟨x, hx⟩ : ∃ x, S (16 * r + k) = x := ⟨_, rfl⟩
      have hix := index_arr 228 16 (fun j => S (16 * r + j)) k x Tryz.underlying228 hlt hx
      have hxl : x < 256 := by rw [← hx]; exact HSB.out _ (by omega)
      have hc := H1.out.cell hlt (Nat.zero_add k).symm
      have hf := H1.out.frozen hlt (Nat.zero_add k).symm
      rw [if_neg (Nat.lt_irrefl k)] at hc
      have hyl := HF.out k hlt
      have HX := Lib.hid (show addk S r f k = f k ^^^ x by unfold addk; rw [hx])
      have HM := Lib.hid (((H1.out.set hlt (Nat.zero_add k).symm (f k ^^^ x) rfl).congr fun j _ => upto_step f (addk S r f) k _ HX.out j).drew)
      have HC := Lib.hid ((H2.out.setCell (a := ⟨s, k, none⟩) (Or.inl rfl) (.int .u8 ((f k ^^^ x : Nat) : Int))).drew)
      clear hx
      generalize f k = y at *
      have hxy := x8 hyl hxl
      go_wp2_with fail
      go_region
      all_goals
        generalize (wr.setCell ⟨s, k, none⟩ (.int .u8 ((y ^^^ x : Nat) : Int))).drew = W at *
        clear hc hf
        go_wp2_with fail
        go_roundw
        case rel => exact ⟨k + 1, by omega, by go_num, HM.out, HC.out⟩
        case measure => simp [intOf]; omega
    · obtain rfl : k = 16 := by omega
      go_wp2_with fail
      go_end0
      exact ⟨rfl, H1.out.congr fun j hj => if_pos hj, H2.out⟩

set_option maxHeartbeats 1600000 in
theorem subst_any (g o s st : Nat) (T f : Nat → Nat) (w : World) (hst : st = 4 ∨ st = 12) (hT : Arr w g o 256 T) (hs : Arr w s 0 16 f) (hf : By 16 f) :
    Calls Tryz.prog 174 #[.pointer (some ⟨g, o, none⟩), .pointer (some ⟨s, 0, none⟩), .int .u64 (st : Nat)] w fun e w' => e = .returned (aggB 16 (subs T st f)) ∧ Below w.heap.size w w' := by
  have HT := Lib.hid ((hT.alloc (.cells z16 228)).alloc (.cells z16 228))
  have HS := Lib.hid ((hs.alloc (.cells z16 228)).alloc (.cells z16 228))
  have HF := Lib.hid hf
  have HG := Lib.hid (show s < w.heap.size ∧ g < w.heap.size from ⟨hs.lt (by decide), hT.lt (by decide)⟩)
  have hs1 : (w.alloc (.cells z16 228)).heap.size = w.heap.size + 1 := by simp
  have HO := Lib.hid ((made65 w).alloc (.cells z16 228))
  have hM := made65 (w.alloc (.cells z16 228))
  rw [hs1] at hM
  have HM := Lib.hid hM
  have HB := Lib.hid (((Below.refl w.heap.size w).alloc (Nat.le_refl _) (.cells z16 228)).alloc (by simp) (.cells z16 228))
  have HST := Lib.hid hst
  have hst2 : st < 256 := by omega
  clear hT hs hf hM hs1 hst
  go_enter Tryz.func174, Tryz.ntmps174
  go_wp2_with fail
  generalize hW : (w.alloc (.cells z16 228)).alloc (.cells z16 228) = W at *
  clear hW
  go_loopw [9] (fun v wr => ∃ k : Nat, k ≤ 16 ∧ v = .int .u64 k ∧ Arr wr (w.heap.size + 1) 0 16 (fun j => if j < k then subs T st f j else 0) ∧ Arr wr w.heap.size 0 16 (fun _ => 0) ∧ Arr wr g o 256 T ∧ Arr wr s 0 16 f ∧ Below w.heap.size w wr) (fun v _ => 16 - (intOf v).toNat)
  case atStart => exact ⟨0, by decide, rfl, HM.out.congr fun j _ => (if_neg (Nat.not_lt_zero _)).symm, HO.out, HT.out, HS.out, HB.out⟩
  case round =>
    obtain ⟨k, hk, rfl, h1, h2, h3, h4, h5⟩ := hrel
    have H1 := Lib.hid h1
    have H2 := Lib.hid h2
    have H3 := Lib.hid h3
    have H4 := Lib.hid h4
    have H5 := Lib.hid h5
    clear h1 h2 h3 h4 h5
    by_cases hlt : k < 16
    · obtain ⟨e, he⟩ : ∃ e, (k + st * (k % 4)) % 16 = e := ⟨_, rfl⟩
      have hel : e < 16 := by omega
      have hix : (IntKind.u64.wrap ((k : Int) + IntKind.u64.wrap ((st : Int) * ((k : Int) % 4)))).tmod 16 = (e : Nat) := by
        have hb : st * (k % 4) < 1024 := by rcases HST.out with h | h <;> subst h <;> omega
        obtain ⟨m, hm⟩ : ∃ m, st * (k % 4) = m := ⟨_, rfl⟩
        rw [hm] at hb he
        have h1 : (st : Int) * ((k : Int) % 4) = (m : Nat) := by rw [← hm]; simp
        have h2 : IntKind.u64.wrap ((m : Nat) : Int) = (m : Nat) := IntWalk.u64_in _ (by omega)
        rw [h1, h2, IntWalk.u64_in _ (by omega), Int.tmod_eq_emod_of_nonneg (by omega)]
        omega
      obtain ⟨x, hx⟩ : ∃ x, f e = x := ⟨_, rfl⟩
      have hxl : x < 256 := by rw [← hx]; exact HF.out e hel
      have hc1 := H4.out.cell hel (Nat.zero_add e).symm
      rw [hx] at hc1
      have hc2 := H3.out.cell hxl rfl
      have hc3 := H1.out.cell hlt (Nat.zero_add k).symm
      have hf3 := H1.out.frozen hlt (Nat.zero_add k).symm
      rw [if_neg (Nat.lt_irrefl k)] at hc3
      have HX := Lib.hid (show subs T st f k = T x by unfold subs; rw [he, hx])
      have HM1 := Lib.hid (((H1.out.set hlt (Nat.zero_add k).symm (T x) rfl).congr fun j _ => upto_step (fun _ => 0) (subs T st f) k _ HX.out j).drew)
      have HB1 := Lib.hid ((H5.out.setCell (p := ⟨w.heap.size + 1, k, none⟩) (Nat.le_succ _) (.int .u8 (T x : Nat))).drew)
      have HO1 := Lib.hid ((H2.out.setOther (a := ⟨w.heap.size + 1, k, none⟩) (Nat.ne_of_lt (Nat.lt_succ_self _)) (.int .u8 (T x : Nat))).drew)
      have HT1 := Lib.hid ((H3.out.setOther (a := ⟨w.heap.size + 1, k, none⟩) (Nat.ne_of_lt (Nat.lt_succ_of_lt HG.out.2)) (.int .u8 (T x : Nat))).drew)
      have HS1 := Lib.hid ((H4.out.setOther (a := ⟨w.heap.size + 1, k, none⟩) (Nat.ne_of_lt (Nat.lt_succ_of_lt HG.out.1)) (.int .u8 (T x : Nat))).drew)
      clear hx he
      generalize T x = y at *
      go_wp2_with fail
      go_region
      all_goals
        generalize (wr.setCell ⟨w.heap.size + 1, k, none⟩ (.int .u8 (y : Nat))).drew = W2 at *
        clear hc1 hc2 hc3 hf3 hix
        go_wp2_with fail
        go_roundw
        case rel => exact ⟨k + 1, by omega, by go_num, HM1.out, HO1.out, HT1.out, HS1.out, HB1.out⟩
        case measure => simp [intOf]; omega
    · obtain rfl : k = 16 := by omega
      have HR := Lib.hid (H1.out.congr (f := subs T st f) fun j hj => if_pos hj)
      go_wp2_with (first | (refine wpList_loadB rfl 228 (.tmp 7) rfl (w.heap.size + 1) 0 16 rfl _ HR.out _ Tryz.underlying228 rfl size65 ?_) | (refine wpList_storeB rfl 228 (.tmp 6) (.tmp 30) rfl w.heap.size 0 16 _ _ rfl rfl H2.out size65 ?_; intro w2 h1 h2; have HR2 := Lib.hid h1; have HC2 := Lib.hid h2; clear h1 h2))
      exact bodyPost_ret (results_cellB rfl _ _ w.heap.size 0 16 _ rfl HR2.out _ Tryz.underlying228 rfl size65) rfl ⟨rfl, H5.out.trans (HC2.out.below H5.out.size (Nat.le_refl _))⟩
end Go.Proofs.YthmlcmlpmolmoaaGreatDoor
/- Contracts of package aes: mixing. -/
namespace Go.Proofs.YthmlcmlpmolmoaaGreatDoor
open Go.RowKit

theorem mix_col (f : Nat → Nat) (q : Nat) : mixc f (4 * q) = mx (f (4 * q)) (f (4 * q + 1)) (f (4 * q + 2)) (f (4 * q + 3)) ∧ mixc f (4 * q + 1) = mx (f (4 * q + 1)) (f (4 * q + 2)) (f (4 * q + 3)) (f (4 * q)) ∧
    mixc f (4 * q + 2) = mx (f (4 * q + 2)) (f (4 * q + 3)) (f (4 * q)) (f (4 * q + 1)) ∧ mixc f (4 * q + 3) = mx (f (4 * q + 3)) (f (4 * q)) (f (4 * q + 1)) (f (4 * q + 2)) := by
  refine ⟨?_, ?_, ?_, ?_⟩
  · unfold mixc
    rw [show 4 * (4 * q / 4) + 4 * q % 4 = 4 * q by omega, show 4 * (4 * q / 4) + (4 * q + 1) % 4 = 4 * q + 1 by omega, show 4 * (4 * q / 4) + (4 * q + 2) % 4 = 4 * q + 2 by omega, show 4 * (4 * q / 4) + (4 * q + 3) % 4 = 4 * q + 3 by omega]
  · unfold mixc
    rw [show 4 * ((4 * q + 1) / 4) + (4 * q + 1) % 4 = 4 * q + 1 by omega, show 4 * ((4 * q + 1) / 4) + (4 * q + 1 + 1) % 4 = 4 * q + 2 by omega, show 4 * ((4 * q + 1) / 4) + (4 * q + 1 + 2) % 4 = 4 * q + 3 by omega, show 4 * ((4 * q + 1) / 4) + (4 * q + 1 + 3) % 4 = 4 * q by omega]
  · unfold mixc
    rw [show 4 * ((4 * q + 2) / 4) + (4 * q + 2) % 4 = 4 * q + 2 by omega, show 4 * ((4 * q + 2) / 4) + (4 * q + 2 + 1) % 4 = 4 * q + 3 by omega, show 4 * ((4 * q + 2) / 4) + (4 * q + 2 + 2) % 4 = 4 * q by omega, show 4 * ((4 * q + 2) / 4) + (4 * q + 2 + 3) % 4 = 4 * q + 1 by omega]
  · unfold mixc
    rw [show 4 * ((4 * q + 3) / 4) + (4 * q + 3) % 4 = 4 * q + 3 by omega, show 4 * ((4 * q + 3) / 4) + (4 * q + 3 + 1) % 4 = 4 * q by omega, show 4 * ((4 * q + 3) / 4) + (4 * q + 3 + 2) % 4 = 4 * q + 1 by omega, show 4 * ((4 * q + 3) / 4) + (4 * q + 3 + 3) % 4 = 4 * q + 2 by omega]

set_option maxRecDepth 100000 in
set_option maxHeartbeats 3200000 in
theorem mix_any (g s : Nat) (f : Nat → Nat) (w : World) (hD : Arr w g 756 256 dbl) (hs : Arr w s 0 16 f) (hf : By 16 f) (hne : g ≠ s) :
    Calls Tryz.prog 175 #[.pointer (some ⟨g, 0, none⟩), .pointer (some ⟨s, 0, none⟩)] w fun e w' => e = .returned (.tuple #[]) ∧ Arr w' s 0 16 (mixc f) ∧ Chg s w w' := by
  have HS := Lib.hid hs
  have HD := Lib.hid hD
  have HF := Lib.hid hf
  have HNE := Lib.hid hne
  clear hs hD hf hne
  go_enter Tryz.func175, Tryz.ntmps175
  go_wp2_with fail
  go_loopw [4] (fun v wr => ∃ q : Nat, q ≤ 4 ∧ v = .int .i64 ((4 * q : Nat) : Int) ∧ Arr wr s 0 16 (fun j => if j < 4 * q then mixc f j else f j) ∧ Chg s w wr) (fun v _ => 16 - (intOf v).toNat)
  case atStart => exact ⟨0, by decide, rfl, HS.out.congr fun j _ => (if_neg (Nat.not_lt_zero _)).symm, Chg.refl _ _⟩
  case round =>
    obtain ⟨q, hq, rfl, h1, h2⟩ := hrel
    have H1 := Lib.hid h1
    have H2 := Lib.hid h2
    have H3 := Lib.hid (HD.out.chg h2 HNE.out)
    clear h1 h2
    have HMC := Lib.hid (mix_col f q)
    obtain ⟨c, hc⟩ : ∃ c, 4 * q = c := ⟨_, rfl⟩
    rw [hc] at H1 HMC ⊢
    have HCQ := Lib.hid hc
    clear hc
    by_cases hlt : c < 16
    · have hc12 : c + 3 < 16 := by have := HCQ.out; omega
      have hsl := sl_arr 228 16 s 0 c (c + 4) Tryz.underlying228 (by omega) (by omega) (by omega) (c : Int) ((c : Int) + 4) rfl (by omega)
      rw [show c + 4 - c = 4 by omega, Nat.zero_add] at hsl
      have hpa := to_arr 267 4 5 Tryz.underlying267 (some ⟨s, c, none⟩) 4 (16 - c) (Nat.le_refl _)
      have hcl : ∀ i, i < 4 → wr.cell? ⟨s, c + i, none⟩ = some (.int .u8 (f (c + i) : Nat)) := fun i hi => by
        have := H1.out.cell (j := c + i) (k := c + i) (by omega) (Nat.zero_add _).symm
        rw [if_neg (by omega)] at this
        exact this
      have l0 : f (c) < 256 := HF.out _ (by omega)
      have hc0 : wr.cell? ⟨s, c, none⟩ = some (.int .u8 (f (c) : Nat)) := hcl 0 (by decide)
      have l1 : f (c + 1) < 256 := HF.out _ (by omega)
      have hc1 : wr.cell? ⟨s, c + 1, none⟩ = some (.int .u8 (f (c + 1) : Nat)) := hcl 1 (by decide)
      have l2 : f (c + 2) < 256 := HF.out _ (by omega)
      have hc2 : wr.cell? ⟨s, c + 2, none⟩ = some (.int .u8 (f (c + 2) : Nat)) := hcl 2 (by decide)
      have l3 : f (c + 3) < 256 := HF.out _ (by omega)
      have hc3 : wr.cell? ⟨s, c + 3, none⟩ = some (.int .u8 (f (c + 3) : Nat)) := hcl 3 (by decide)
      clear hcl
      generalize ha0 : f (c) = a0 at *
      generalize ha1 : f (c + 1) = a1 at *
      generalize ha2 : f (c + 2) = a2 at *
      generalize ha3 : f (c + 3) = a3 at *
      have HA := Lib.hid (show f c = a0 ∧ f (c + 1) = a1 ∧ f (c + 2) = a2 ∧ f (c + 3) = a3 from ⟨ha0, ha1, ha2, ha3⟩)
      clear ha0 ha1 ha2 ha3
      have p1 := x8 l0 l1
      have m1 := xor8 l0 l1
      have p2 := x8 m1 l2
      have m2 := xor8 m1 l2
      have p3 := x8 m2 l3
      have m3 := xor8 m2 l3
      have q1 := x8 l1 l2
      have n1 := xor8 l1 l2
      have q2 := x8 l2 l3
      have n2 := xor8 l2 l3
      have q3 := x8 l3 l0
      have n3 := xor8 l3 l0
      have d0 := dbl_lt m1
      have r0 := x8 m3 d0
      have u0 := xor8 m3 d0
      have v0 := x8 l0 u0
      have d1 := dbl_lt n1
      have r1 := x8 m3 d1
      have u1 := xor8 m3 d1
      have v1 := x8 l1 u1
      have d2 := dbl_lt n2
      have r2 := x8 m3 d2
      have u2 := xor8 m3 d2
      have v2 := x8 l2 u2
      have d3 := dbl_lt n3
      have r3 := x8 m3 d3
      have u3 := xor8 m3 d3
      have v3 := x8 l3 u3
      have HY0 := Lib.hid (show mixc f (c) = a0 ^^^ ((((a0 ^^^ a1) ^^^ a2) ^^^ a3) ^^^ dbl (a0 ^^^ a1)) by
        rw [HMC.out.1, ← mx_code a2 a3 l0 l1])
      have HY1 := Lib.hid (show mixc f (c + 1) = a1 ^^^ ((((a0 ^^^ a1) ^^^ a2) ^^^ a3) ^^^ dbl (a1 ^^^ a2)) by
        rw [HMC.out.2.1, ← mx_code a3 a0 l1 l2]
        congr 2
        ac_rfl)
      have HY2 := Lib.hid (show mixc f (c + 2) = a2 ^^^ ((((a0 ^^^ a1) ^^^ a2) ^^^ a3) ^^^ dbl (a2 ^^^ a3)) by
        rw [HMC.out.2.2.1, ← mx_code a0 a1 l2 l3]
        congr 2
        ac_rfl)
      have HY3 := Lib.hid (show mixc f (c + 3) = a3 ^^^ ((((a0 ^^^ a1) ^^^ a2) ^^^ a3) ^^^ dbl (a3 ^^^ a0)) by
        rw [HMC.out.2.2.2, ← mx_code a1 a2 l3 l0]
        congr 2
        ac_rfl)
      have HD0 := Lib.hid fun (W : World) (h : Arr W g 756 256 dbl) => h.cell (j := a0 ^^^ a1) m1 rfl
      have HD1 := Lib.hid fun (W : World) (h : Arr W g 756 256 dbl) => h.cell (j := a1 ^^^ a2) n1 rfl
      have HD2 := Lib.hid fun (W : World) (h : Arr W g 756 256 dbl) => h.cell (j := a2 ^^^ a3) n2 rfl
      have HD3 := Lib.hid fun (W : World) (h : Arr W g 756 256 dbl) => h.cell (j := a3 ^^^ a0) n3 rfl
      clear HMC
      generalize a0 ^^^ ((((a0 ^^^ a1) ^^^ a2) ^^^ a3) ^^^ dbl (a0 ^^^ a1)) = Y0 at *
      generalize ((((a0 ^^^ a1) ^^^ a2) ^^^ a3) ^^^ dbl (a0 ^^^ a1)) = E0 at *
      generalize dbl (a0 ^^^ a1) = D0 at *
      generalize a1 ^^^ ((((a0 ^^^ a1) ^^^ a2) ^^^ a3) ^^^ dbl (a1 ^^^ a2)) = Y1 at *
      generalize ((((a0 ^^^ a1) ^^^ a2) ^^^ a3) ^^^ dbl (a1 ^^^ a2)) = E1 at *
      generalize dbl (a1 ^^^ a2) = D1 at *
      generalize a2 ^^^ ((((a0 ^^^ a1) ^^^ a2) ^^^ a3) ^^^ dbl (a2 ^^^ a3)) = Y2 at *
      generalize ((((a0 ^^^ a1) ^^^ a2) ^^^ a3) ^^^ dbl (a2 ^^^ a3)) = E2 at *
      generalize dbl (a2 ^^^ a3) = D2 at *
      generalize a3 ^^^ ((((a0 ^^^ a1) ^^^ a2) ^^^ a3) ^^^ dbl (a3 ^^^ a0)) = Y3 at *
      generalize ((((a0 ^^^ a1) ^^^ a2) ^^^ a3) ^^^ dbl (a3 ^^^ a0)) = E3 at *
      generalize dbl (a3 ^^^ a0) = D3 at *
      generalize (((a0 ^^^ a1) ^^^ a2) ^^^ a3) = T at *
      generalize (a0 ^^^ a1) ^^^ a2 = T2 at *
      generalize a0 ^^^ a1 = X0 at *
      generalize a1 ^^^ a2 = X1 at *
      generalize a2 ^^^ a3 = X2 at *
      generalize a3 ^^^ a0 = X3 at *
      go_wp2_with fail
      go_quiet (fail)
      have H1q := Lib.hid (H1.out.drewN nq)
      have H2q := Lib.hid (H2.out.drewN nq)
      have H3q := Lib.hid (H3.out.drewN nq)
      generalize wr.drewN nq = W0 at *
      clear hc0 hc1 hc2 hc3 hsl hpa
      have hca := H1q.out.cell (j := c) (k := c) (by omega) (Nat.zero_add _).symm
      have hfa := H1q.out.frozen (j := c) (k := c) (by omega) (Nat.zero_add _).symm
      rw [if_neg (Nat.lt_irrefl _), HA.out.1] at hca
      have hda := HD0.out _ H3q.out
      have G1 := Lib.hid (((H1q.out.set (i := c) (k := c) (by omega) (Nat.zero_add _).symm Y0 rfl).congr fun j _ => upto_step f (mixc f) (c) _ HY0.out j).drew)
      have K1 := Lib.hid ((H2q.out.setCell (a := ⟨s, c, none⟩) (Or.inl rfl) (.int .u8 (Y0 : Nat))).drew)
      have M1 := Lib.hid ((H3q.out.setOther (a := ⟨s, c, none⟩) HNE.out (.int .u8 (Y0 : Nat))).drew)
      go_wp2_with fail
      go_region
      all_goals
        generalize (W0.setCell ⟨s, c, none⟩ (.int .u8 (Y0 : Nat))).drew = W1 at *
        clear hca hfa hda
        have hca := G1.out.cell (j := c + 1) (k := c + 1) (by omega) (Nat.zero_add _).symm
        have hfa := G1.out.frozen (j := c + 1) (k := c + 1) (by omega) (Nat.zero_add _).symm
        rw [if_neg (Nat.lt_irrefl _), HA.out.2.1] at hca
        have hda := HD1.out _ M1.out
        have G2 := Lib.hid (((G1.out.set (i := c + 1) (k := c + 1) (by omega) (Nat.zero_add _).symm Y1 rfl).congr fun j _ => upto_step f (mixc f) (c + 1) _ HY1.out j).drew)
        have K2 := Lib.hid ((K1.out.setCell (a := ⟨s, c + 1, none⟩) (Or.inl rfl) (.int .u8 (Y1 : Nat))).drew)
        have M2 := Lib.hid ((M1.out.setOther (a := ⟨s, c + 1, none⟩) HNE.out (.int .u8 (Y1 : Nat))).drew)
        go_wp2_with fail
        go_region
      all_goals
        generalize (W1.setCell ⟨s, c + 1, none⟩ (.int .u8 (Y1 : Nat))).drew = W2 at *
        clear hca hfa hda
        have hca := G2.out.cell (j := c + 2) (k := c + 2) (by omega) (Nat.zero_add _).symm
        have hfa := G2.out.frozen (j := c + 2) (k := c + 2) (by omega) (Nat.zero_add _).symm
        rw [if_neg (Nat.lt_irrefl _), HA.out.2.2.1] at hca
        have hda := HD2.out _ M2.out
        have G3 := Lib.hid (((G2.out.set (i := c + 2) (k := c + 2) (by omega) (Nat.zero_add _).symm Y2 rfl).congr fun j _ => upto_step f (mixc f) (c + 2) _ HY2.out j).drew)
        have K3 := Lib.hid ((K2.out.setCell (a := ⟨s, c + 2, none⟩) (Or.inl rfl) (.int .u8 (Y2 : Nat))).drew)
        have M3 := Lib.hid ((M2.out.setOther (a := ⟨s, c + 2, none⟩) HNE.out (.int .u8 (Y2 : Nat))).drew)
        go_wp2_with fail
        go_region
      all_goals
        generalize (W2.setCell ⟨s, c + 2, none⟩ (.int .u8 (Y2 : Nat))).drew = W3 at *
        clear hca hfa hda
        have hca := G3.out.cell (j := c + 3) (k := c + 3) (by omega) (Nat.zero_add _).symm
        have hfa := G3.out.frozen (j := c + 3) (k := c + 3) (by omega) (Nat.zero_add _).symm
        rw [if_neg (Nat.lt_irrefl _), HA.out.2.2.2] at hca
        have hda := HD3.out _ M3.out
        have G4 := Lib.hid (((G3.out.set (i := c + 3) (k := c + 3) (by omega) (Nat.zero_add _).symm Y3 rfl).congr fun j _ => upto_step f (mixc f) (c + 3) _ HY3.out j).drew)
        have K4 := Lib.hid ((K3.out.setCell (a := ⟨s, c + 3, none⟩) (Or.inl rfl) (.int .u8 (Y3 : Nat))).drew)
        have M4 := Lib.hid ((M3.out.setOther (a := ⟨s, c + 3, none⟩) HNE.out (.int .u8 (Y3 : Nat))).drew)
        go_wp2_with fail
        go_region
      all_goals
        generalize (W3.setCell ⟨s, c + 3, none⟩ (.int .u8 (Y3 : Nat))).drew = W4 at *
        clear hca hfa hda
        go_wp2_with fail
        go_roundw
        case rel => exact ⟨q + 1, by have := HCQ.out; omega, by have := HCQ.out; go_num, G4.out.congr fun j _ => by rw [show 4 * (q + 1) = c + 3 + 1 by have := HCQ.out; omega], K4.out⟩
        case measure => simp [intOf]; omega
    · have h16 : c = 16 := by have := HCQ.out; omega
      have HR := Lib.hid (H1.out.congr (f := mixc f) fun j hj => if_pos (by omega))
      clear h16
      go_wp2_with fail
      go_end0
      exact ⟨rfl, HR.out, H2.out⟩
end Go.Proofs.YthmlcmlpmolmoaaGreatDoor
/- Contracts of package aes: a block is encrypted. -/
namespace Go.Proofs.YthmlcmlpmolmoaaGreatDoor
open Go.RowKit

/-- what an encryption leaves: its result in new memory, the key ready -/
structure BlkP (g n : Nat) (key r : Nat → Nat) (w : World) (e : Ending) (w' : World) (st : Nat) : Prop where
  ret : e = .returned (.tuple #[.slice (some ⟨st, 0, none⟩) 16 16, .int .i64 0])
  new : w.heap.size ≤ st
  row : Arr w' st 0 16 r
  key : KeyReady w' g n key
  chg : Chg g w w'
theorem enc_short (g : Nat) (A : Option Addr) (len cap : Nat) (w : World) (hl : len ≠ 16) (_hl2 : len ≤ 140737488351232) :
    Calls Tryz.prog 145 #[.pointer (some ⟨g, 0, none⟩), .slice A len cap] w fun e w' => e = .returned (.tuple #[.slice none 0 0, .int .i64 1]) ∧ w = w' := by
  have hb : ((len : Int) != 16) = true := by simp; omega
  go_enter Tryz.func145, Tryz.ntmps145
  go_wp2_with fail
  go_ret2
  exact ⟨rfl, rfl⟩
set_option maxRecDepth 100000 in
set_option maxHeartbeats 1600000 in
theorem enc_any (g n : Nat) (key b : Nat → Nat) (A : Option Addr) (cap : Nat) (w : World) (hn : n = 4 ∨ n = 8) (hkey : By (4 * n) key) (hk : KeyAt w g n key) (hA : SlB w A 16 b) (hAg : ∀ B o, A = some ⟨B, o, none⟩ → B ≠ g) :
    Calls Tryz.prog 145 #[.pointer (some ⟨g, 0, none⟩), .slice A 16 cap] w fun e w' => ∃ st, BlkP g n key (enc n (ks n key) b) w e w' st := by
  obtain ⟨B, o, rfl, hB, hbs⟩ := hA (by decide)
  have HO := Lib.hid (once_any g n key w hn hkey hk)
  have HBY := Lib.hid fun j (hj : j < 16) => (hbs j hj).1
  have HBG := Lib.hid (hAg B o rfl)
  have HBS := Lib.hid (show w.rangeAt B o (bytesL 16 b) from fun j v hv => by
    obtain ⟨hj, rfl⟩ := bytesL_get _ _ j v hv
    exact (hbs j hj).2)
  have HBL := Lib.hid hB
  have HN := Lib.hid hn
  have HY := Lib.hid hkey
  have HG := Lib.hid hk.lt
  have hmf : ∀ (fn : Fn) (first cap : Array Value) (w : World), (Instr.makeFunc fn first cap).run Tryz.prog w = .ok (.func fn first cap) w := fun _ _ _ _ => rfl
  have hpa := to_arr 228 16 5 Tryz.underlying228 (some ⟨B, o, none⟩) 16 cap (Nat.le_refl _)
  clear hA hAg hn hkey hk hbs hB
  go_enter Tryz.func145, Tryz.ntmps145
  have HGB := Lib.hid (show By 16 b from fun j hj => HBY.out j hj)
  go_wp2_with (first | (go_at_call 78; refine HO.out.mono ?_; rintro e w1 ⟨rfl, h1, h2⟩; have HK1 := Lib.hid h1; have HC1 := Lib.hid h2; have HR1 := Lib.hid (show w1.rangeAt B o (bytesL 16 b) from fun j v hv => (h2.cell HBL.out HBG.out).trans (HBS.out j v hv)); have HM1 := Lib.hid (made65 w1); have HK2 := Lib.hid (HK1.out.alloc (.cells z16 228)); have HC2 := Lib.hid (HC1.out.alloc (.cells z16 228)); clear h1 h2) | (refine wpList_loadR rfl 228 (.tmp 18) rfl B o 16 rfl _ HR1.out _ Tryz.underlying228 rfl size65 ?_) | (refine wpList_storeB rfl 228 (.tmp 6) (.tmp 19) rfl w1.heap.size 0 16 _ _ rfl rfl HM1.out size65 ?_; intro w2 h1 h2; have HS2 := Lib.hid h1; have HX2 := Lib.hid h2; clear h1 h2))
  have HSL := Lib.hid (show w.heap.size ≤ w1.heap.size from HC1.out.size)
  have HSG := Lib.hid (show g ≠ w1.heap.size from Nat.ne_of_lt HK1.out.lt)
  generalize hst : w1.heap.size = st at *
  have HK3 := Lib.hid (HK2.out.chg HX2.out HSG.out)
  have HC3 := Lib.hid (HC2.out.thenNew HX2.out HSL.out)
  have HSB := Lib.hid fun j (_ : j < 240) => ks_by (by have := HN.out; omega) HY.out j
  have HA1 := Lib.hid (add_any g st 0 (ks n key) b w2 (by decide) HK3.out.sch HS2.out (fun j hj => HSB.out j hj) HGB.out)
  clear HX2 HS2 HM1 HK2 HC2 HC1 HK1 HR1 hst
  go_wp2_with (go_at_call 172; refine HA1.out.mono ?_; rintro e w3 ⟨rfl, h1, h2⟩; have HS4 := Lib.hid h1; have HK4 := Lib.hid (HK3.out.chg h2 HSG.out); have HC4 := Lib.hid (HC3.out.thenNew h2 HSL.out); clear h1 h2)
  clear HA1 HK3 HC3
  go_loopw [7] (fun v wr => ∃ r : Nat, r ≤ n + 6 ∧ v = .int .i64 ((r + 1 : Nat) : Int) ∧ Arr wr st 0 16 (est n (ks n key) b r) ∧ KeyReady wr g n key ∧ Chg g w wr) (fun v _ => 30 - (intOf v).toNat)
  case atStart => exact ⟨0, by omega, rfl, HS4.out, HK4.out, HC4.out⟩
  case round =>
    obtain ⟨r, hr, rfl, h1, h2, h3⟩ := hrel
    have hn8 : n ≤ 8 := by have := HN.out; omega
    have hw := h2.words
    have hby := est_by (S := ks n key) (fun j hj => ks_by (by have := HN.out; omega) HY.out j) HGB.out r hr
    have H1 := Lib.hid h1
    have H2 := Lib.hid h2
    have H3 := Lib.hid h3
    have HBY2 := Lib.hid hby
    clear h1 h2 h3 hby
    obtain ⟨q, hq⟩ : ∃ q, r + 1 = q := ⟨_, rfl⟩
    rw [hq]
    by_cases hlt : r < n + 6
    · have hql : (q : Int) ≤ ((n + 6 : Nat) : Int) := by omega
      have HSU := Lib.hid (subst_any g 244 st 4 box (est n (ks n key) b r) wr (Or.inl rfl) H2.out.box H1.out HBY2.out)
      have HSY := Lib.hid (subs_by box_by 4 HBY2.out)
      have HQ := Lib.hid hq
      clear hq
      have HRK := Lib.hid (show By 240 (ks n key) from fun j hj => HSB.out j hj)
      by_cases hmx : q < n + 6
      · have hmi : decide ((q : Int) < (n : Int) + 6) = true := by rw [decide_eq_true_eq]; omega
        have HE := Lib.hid (show addk (ks n key) q (mixc (subs box 4 (est n (ks n key) b r))) = est n (ks n key) b q by rw [← HQ.out]; show _ = addk _ _ (if r + 1 < n + 6 then _ else _); rw [if_pos (by have := HQ.out; omega)])
        go_wp2_with (first | (go_at_call 173; (first | (with_reducible refine (last_any g n _ hn8 hw).mono ?_) | (with_reducible refine (last_any g n _ hn8 hw5).mono ?_)); rintro e w' ⟨rfl, rfl⟩) | (go_at_call 174; refine HSU.out.mono ?_; rintro e w4 ⟨rfl, h1⟩; have H4 := Lib.hid (H2.out.keep h1); have H5 := Lib.hid (H1.out.keep h1); have H6 := Lib.hid (H3.out.thenBelow h1); clear h1) | (refine wpList_storeB rfl 228 (.tmp 6) (.tmp 31) rfl st 0 16 _ _ rfl rfl H5.out size65 ?_; intro w5 h1 h2; have HS5 := Lib.hid h1; have HK5 := Lib.hid (H4.out.chg h2 HSG.out); have HC5 := Lib.hid (H6.out.thenNew h2 HSL.out); have hw5 := HK5.out.words; clear h1 h2) | (go_at_call 175; refine (mix_any g st _ _ HK5.out.dbl HS5.out HSY.out HSG.out).mono ?_; rintro e w6 ⟨rfl, h1, h2⟩; have HS6 := Lib.hid h1; have HK6 := Lib.hid (HK5.out.chg h2 HSG.out); have HC6 := Lib.hid (HC5.out.thenNew h2 HSL.out); have HSY6 := Lib.hid (mixc_by HSY.out); clear h1 h2) | (go_at_call 172; refine (add_any g st q (ks n key) _ _ (by have := HQ.out; omega) HK6.out.sch HS6.out HRK.out HSY6.out).mono ?_; rintro e w7 ⟨rfl, h1, h2⟩; have HS7 := Lib.hid h1; have HK7 := Lib.hid (HK6.out.chg h2 HSG.out); have HC7 := Lib.hid (HC6.out.thenNew h2 HSL.out); clear h1 h2))
        go_roundw
        case rel => exact ⟨q, by omega, by go_num, HE.out ▸ HS7.out, HK7.out, HC7.out⟩
        case measure => simp [intOf]; omega
      · have hmi : decide ((q : Int) < (n : Int) + 6) = false := by rw [decide_eq_false_iff_not]; omega
        have HE := Lib.hid (show addk (ks n key) q (subs box 4 (est n (ks n key) b r)) = est n (ks n key) b q by rw [← HQ.out]; show _ = addk _ _ (if r + 1 < n + 6 then _ else _); rw [if_neg (by have := HQ.out; omega)])
        go_wp2_with (first | (go_at_call 173; (first | (with_reducible refine (last_any g n _ hn8 hw).mono ?_) | (with_reducible refine (last_any g n _ hn8 hw5).mono ?_)); rintro e w' ⟨rfl, rfl⟩) | (go_at_call 174; refine HSU.out.mono ?_; rintro e w4 ⟨rfl, h1⟩; have H4 := Lib.hid (H2.out.keep h1); have H5 := Lib.hid (H1.out.keep h1); have H6 := Lib.hid (H3.out.thenBelow h1); clear h1) | (refine wpList_storeB rfl 228 (.tmp 6) (.tmp 31) rfl st 0 16 _ _ rfl rfl H5.out size65 ?_; intro w5 h1 h2; have HS5 := Lib.hid h1; have HK5 := Lib.hid (H4.out.chg h2 HSG.out); have HC5 := Lib.hid (H6.out.thenNew h2 HSL.out); have hw5 := HK5.out.words; clear h1 h2) | (go_at_call 172; refine (add_any g st q (ks n key) _ _ (by have := HQ.out; omega) HK5.out.sch HS5.out HRK.out HSY.out).mono ?_; rintro e w7 ⟨rfl, h1, h2⟩; have HS7 := Lib.hid h1; have HK7 := Lib.hid (HK5.out.chg h2 HSG.out); have HC7 := Lib.hid (HC5.out.thenNew h2 HSL.out); clear h1 h2))
        go_roundw
        case rel => exact ⟨q, by omega, by go_num, HE.out ▸ HS7.out, HK7.out, HC7.out⟩
        case measure => simp [intOf]; omega
    · have hql : ¬ (q : Int) ≤ ((n + 6 : Nat) : Int) := by omega
      have HE := Lib.hid (show Arr wr st 0 16 (enc n (ks n key) b) from by
        have h := H1.out
        obtain rfl : r = n + 6 := by omega
        exact h)
      clear hq H1 HBY2
      have hsa : ∀ W : World, (Instr.sliceAt 228 (.pointer (some ⟨st, 0, none⟩)) none none none).run Tryz.prog W = .ok (.slice (some ⟨st, 0, none⟩) 16 16) W := all_arr 228 16 st 0 Tryz.underlying228 (by decide)
      go_wp2_with (go_at_call 173; refine (last_any g n _ hn8 hw).mono ?_; rintro e w' ⟨rfl, rfl⟩)
      go_ret2
      exact ⟨st, rfl, HSL.out, HE.out, H2.out, H3.out⟩

end Go.Proofs.YthmlcmlpmolmoaaGreatDoor
/- Contracts of package aes: a key is made; its round keys. -/
namespace Go.Proofs.YthmlcmlpmolmoaaGreatDoor
open Go.RowKit

theorem new_short (A : Option Addr) (len cap : Nat) (w : World) (hl : len ≠ 16) (hl2 : len ≠ 32) (_hl3 : len ≤ 140737488351232) :
    Calls Tryz.prog 62 #[.slice A len cap] w fun e w' => e = .returned (.tuple #[.pointer none, .int .i64 1]) ∧ w = w' := by
  have hb : ((len : Int) != 16) = true := by simp; omega
  have hb2 : ((len : Int) != 32) = true := by simp; omega
  go_enter Tryz.func62, Tryz.ntmps62
  go_wp2_with fail
  go_ret2
  exact ⟨rfl, rfl⟩

/-- a key's block, whole -/
def keyCells (n : Nat) (d m x : Int) (S B U D : Nat → Nat) : List Value := .int .i64 (n : Nat) :: (bytesL 240 S ++ (.int .u32 d :: .int .i32 m :: .int .u32 x :: (bytesL 256 B ++ (bytesL 256 U ++ bytesL 256 D))))
theorem keyMem_of {w : World} {g n : Nat} {d m x : Int} {S B U D : Nat → Nat} {t : TypeId} (h : w.heap[g]? = some (.cells (keyCells n d m x S B U D).toArray t (0, 0))) : KeyMem w g n d m S B U D := by
  have hz : ∀ (o : Nat), w.frozen? ⟨g, o, none⟩ = false := fun o => by simp [World.frozen?, h]
  have hc : ∀ (o : Nat) v, (keyCells n d m x S B U D)[o]? = some v → w.cell? ⟨g, o, none⟩ = some v := fun o v hv => by
    simp only [World.cell?, h]
    rw [List.getElem?_toArray, hv]
    rfl
  refine ⟨hc 0 _ rfl, arr_of_list h fun j hj => ?_, ⟨hc 241 _ ?_, hc 242 _ ?_, hz _, hz _⟩, arr_of_list h fun j hj => ?_, arr_of_list h fun j hj => ?_, arr_of_list h fun j hj => ?_⟩
  · unfold keyCells
    rw [Nat.add_comm, List.getElem?_cons_succ, List.getElem?_append_left (by rw [bytesL_length]; exact hj)]
  · unfold keyCells
    rw [List.getElem?_cons_succ, List.getElem?_append_right (by rw [bytesL_length]; decide), bytesL_length]; rfl
  · unfold keyCells
    rw [List.getElem?_cons_succ, List.getElem?_append_right (by rw [bytesL_length]; decide), bytesL_length]; rfl
  · unfold keyCells
    rw [show 244 + j = (243 + j) + 1 by omega, List.getElem?_cons_succ, List.getElem?_append_right (by rw [bytesL_length]; omega), bytesL_length, show 243 + j - 240 = j + 1 + 1 + 1 by omega,
      List.getElem?_cons_succ, List.getElem?_cons_succ, List.getElem?_cons_succ, List.getElem?_append_left (by rw [bytesL_length]; exact hj)]
  · unfold keyCells
    rw [show 500 + j = (499 + j) + 1 by omega, List.getElem?_cons_succ, List.getElem?_append_right (by rw [bytesL_length]; omega), bytesL_length, show 499 + j - 240 = (j + 256) + 1 + 1 + 1 by omega,
      List.getElem?_cons_succ, List.getElem?_cons_succ, List.getElem?_cons_succ, List.getElem?_append_right (by rw [bytesL_length]; omega), bytesL_length, Nat.add_sub_cancel, List.getElem?_append_left (by rw [bytesL_length]; exact hj)]
  · unfold keyCells
    rw [show 756 + j = (755 + j) + 1 by omega, List.getElem?_cons_succ, List.getElem?_append_right (by rw [bytesL_length]; omega), bytesL_length, show 755 + j - 240 = (j + 512) + 1 + 1 + 1 by omega,
      List.getElem?_cons_succ, List.getElem?_cons_succ, List.getElem?_cons_succ, List.getElem?_append_right (by rw [bytesL_length]; omega), bytesL_length, show j + 512 - 256 = j + 256 by omega, List.getElem?_append_right (by rw [bytesL_length]; omega), bytesL_length, Nat.add_sub_cancel]
set_option maxRecDepth 100000 in
theorem zeroKey : Tryz.zeroCells170 = (keyCells 0 0 0 0 (fun _ => 0) (fun _ => 0) (fun _ => 0) (fun _ => 0)).toArray := by kernel_rfl
theorem key_made (n l : Nat) (key : Nat → Nat) (hl : l ≤ 240) : splice (Tryz.zeroCells170.setIfInBounds 0 (.int .i64 (n : Nat))).toList 1 (bytesL l key) = keyCells n 0 0 0 (fun x => if x < l then key x else 0) (fun _ => 0) (fun _ => 0) (fun _ => 0) := by
  have e : (Tryz.zeroCells170.setIfInBounds 0 (.int .i64 (n : Nat))).toList = keyCells n 0 0 0 (fun _ => 0) (fun _ => 0) (fun _ => 0) (fun _ => 0) := by
    rw [zeroKey, List.setIfInBounds_toArray]; rfl
  have e2 : bytesL 240 (fun x => if x < l then key x else 0) = bytesL l key ++ (bytesL 240 (fun _ => 0)).drop l := by
    apply List.ext_getElem?
    intro j
    by_cases hj : j < l
    · rw [List.getElem?_append_left (by rw [bytesL_length]; exact hj), bytesL_at hj, bytesL_at (by omega)]
      show some (Value.int .u8 ((if j < l then key j else 0 : Nat) : Int)) = _
      rw [if_pos hj]
    · rw [List.getElem?_append_right (by rw [bytesL_length]; omega), bytesL_length, List.getElem?_drop, show l + (j - l) = j by omega]
      by_cases h2 : j < 240
      · rw [bytesL_at h2, bytesL_at h2]
        show some (Value.int .u8 ((if j < l then key j else 0 : Nat) : Int)) = _
        rw [if_neg hj]
      · rw [List.getElem?_eq_none (by rw [bytesL_length]; omega), List.getElem?_eq_none (by rw [bytesL_length]; omega)]
  rw [e]
  unfold splice keyCells
  rw [bytesL_length, Nat.add_comm 1 l, List.drop_succ_cons, List.drop_append_of_le_length (by rw [bytesL_length]; exact hl), e2]
  simp

set_option maxRecDepth 100000 in
set_option maxHeartbeats 800000 in
theorem new_any (A : Option Addr) (n cap : Nat) (key : Nat → Nat) (w : World) (hn : n = 4 ∨ n = 8) (hA : SlB w A (4 * n) key) :
    Calls Tryz.prog 62 #[.slice A (4 * n) cap] w fun e w' => ∃ g, e = .returned (.tuple #[.pointer (some ⟨g, 0, none⟩), .int .i64 0]) ∧ w.heap.size ≤ g ∧ KeyAt w' g n key ∧ Below w.heap.size w w' := by
  have HA := Lib.hid (hA.keep ((Below.refl _ _).alloc (Nat.le_refl _) (.cells (Tryz.zeroCells170.setIfInBounds 0 (.int .i64 (n : Nat))) 170)))
  have HB := Lib.hid ((Below.refl w.heap.size w).alloc (Nat.le_refl _) (.cells (Tryz.zeroCells170.setIfInBounds 0 (.int .i64 (n : Nat))) 170))
  have HG := Lib.hid (show (w.alloc (.cells (Tryz.zeroCells170.setIfInBounds 0 (.int .i64 (n : Nat))) 170)).heap[w.heap.size]? = some (.cells (Tryz.zeroCells170.setIfInBounds 0 (.int .i64 (n : Nat))).toList.toArray 170 (0, 0)) by rw [heap_alloc_new, Array.toArray_toList])
  obtain ⟨l, hl⟩ : ∃ l, 4 * n = l := ⟨_, rfl⟩
  have HLE := Lib.hid hl
  rw [hl] at hA HA ⊢
  have hb : (((l : Int) != 16) = true ∧ ((l : Int) != 32) = false) ∨ ((l : Int) != 16) = false := by
    rcases hn with rfl | rfl
    · right; simp; omega
    · left; constructor <;> simp <;> omega
  have hw : wrap64 ((l : Int) / 4) = (n : Nat) := by unfold wrap64; omega
  have hlen : (bytesL l key).length = Nat.min l 240 := by rw [bytesL_length]; show l = min l 240; omega
  have HL := Lib.hid hlen
  have HP := Lib.hid (copy_parts (k := l) (dp := some ⟨w.heap.size, 1, none⟩) (g := w.heap.size) (off := 1) HA.out (Nat.le_refl _) (fun _ => rfl))
  have HF := Lib.hid (show 1 + (bytesL l key).length ≤ (Tryz.zeroCells170.setIfInBounds 0 (.int .i64 (n : Nat))).toList.length by
    rw [zeroKey, bytesL_length]
    simp [keyCells, bytesL_length]
    omega)
  have HK := Lib.hid (key_made n l key (by omega))
  have HN := Lib.hid hn
  clear hA hn hl hlen
  go_enter Tryz.func62, Tryz.ntmps62
  rcases hb with ⟨hb1, hb2⟩ | hb1
  all_goals
    go_wp2_with ((refine wpList_copy_splice rfl (.tmp 21) (.tmp 22) 22 22 rfl 5 Tryz.underlying22 sizeOf8 (some ⟨w.heap.size, 1, none⟩) A 240 240 l cap rfl rfl w.heap.size 1 _ 170 HG.out (bytesL l key) HL.out HP.out HF.out (bytes_one l key) w.heap.size w HB.out (Nat.le_refl _) ?_); intro w2 hr hb2; rw [HK.out] at hr; have HR := Lib.hid hr; have HB2 := Lib.hid hb2; clear hr hb2)
    go_ret2
    exact ⟨w.heap.size, rfl, Nat.le_refl _, Or.inl ((keyMem_of HR.out.out).congr (fun j _ => by show (if j < l then key j else 0) = (if j < 4 * n then key j else 0); rw [HLE.out]) (fun _ _ => rfl) (fun _ _ => rfl) (fun _ _ => rfl)), HB2.out⟩
end Go.Proofs.YthmlcmlpmolmoaaGreatDoor
/- Contracts of the reference's field. -/
namespace Go.Proofs.YthmlcmlpmolmoaaGreatDoor
open Go.RowKit

/-- the product of polynomials, not yet divided -/
def clm (a b : Nat) : Nat → Nat
  | 0 => 0
  | k + 1 => if b / 2 ^ k % 2 = 1 then clm a b k ^^^ (a <<< k) else clm a b k
/-- divided from the top -/
def rdk : Nat → Nat → Nat
  | 0, p => p
  | k + 1, p => rdk k (if p / 2 ^ (k + 8) % 2 = 1 then p ^^^ (283 <<< k) else p)
theorem bit_xor (a b k : Nat) : (a ^^^ b) / 2 ^ k % 2 = (a / 2 ^ k + b / 2 ^ k) % 2 := by
  rw [← Nat.shiftRight_eq_div_pow, Nat.shiftRight_xor_distrib, gx_par, Nat.shiftRight_eq_div_pow, Nat.shiftRight_eq_div_pow]
theorem clm_lin1 (a b c : Nat) : ∀ k, clm (a ^^^ b) c k = clm a c k ^^^ clm b c k
  | 0 => (Nat.xor_self 0).symm
  | k + 1 => by
    simp only [clm]
    rw [clm_lin1 a b c k, Nat.shiftLeft_xor_distrib]
    split
    · exact x4 _ _ _ _
    · rfl
theorem lin_if (p q a : Nat) (x y z : Nat) (h : z % 2 = (x + y) % 2) : (if z % 2 = 1 then (p ^^^ q) ^^^ a else p ^^^ q) = (if x % 2 = 1 then p ^^^ a else p) ^^^ (if y % 2 = 1 then q ^^^ a else q) := by
  rcases Nat.mod_two_eq_zero_or_one x with h1 | h1 <;> rcases Nat.mod_two_eq_zero_or_one y with h2 | h2
  · rw [if_neg (by omega), if_neg (by omega), if_neg (by omega)]
  · rw [if_pos (by omega), if_neg (by omega), if_pos (by omega), Nat.xor_assoc]
  · rw [if_pos (by omega), if_pos (by omega), if_neg (by omega), Nat.xor_assoc, Nat.xor_assoc, Nat.xor_comm q]
  · rw [if_neg (by omega), if_pos (by omega), if_pos (by omega), x4, Nat.xor_self, Nat.xor_zero]
theorem clm_lin2 (a b c : Nat) : ∀ k, clm a (b ^^^ c) k = clm a b k ^^^ clm a c k
  | 0 => (Nat.xor_self 0).symm
  | k + 1 => by
    simp only [clm]
    rw [clm_lin2 a b c k]
    exact lin_if _ _ _ _ _ _ (bit_xor b c k)
theorem rdk_lin : ∀ (k p q : Nat), rdk k (p ^^^ q) = rdk k p ^^^ rdk k q
  | 0, _, _ => rfl
  | k + 1, p, q => by
    simp only [rdk]
    rw [← rdk_lin k, lin_if _ _ _ _ _ _ (bit_xor p q (k + 8))]
theorem clm_zero1 (b : Nat) : ∀ k, clm 0 b k = 0
  | 0 => rfl
  | k + 1 => by
    simp only [clm]
    rw [clm_zero1 b k, Nat.zero_shiftLeft]
    split <;> rfl
theorem clm_zero2 (a : Nat) : ∀ k, clm a 0 k = 0
  | 0 => rfl
  | k + 1 => by
    simp only [clm]
    rw [clm_zero2 a k, Nat.zero_div, if_neg (by decide)]
theorem clm_gm {a b : Nat} (ha : a < 256) (hb : b < 256) : rdk 7 (clm a b 8) = gm a b := by
  have z : rdk 7 0 = 0 := by decide
  exact bilin (fun a b => rdk 7 (clm a b 8)) gm (fun a => by rw [clm_zero2, gm_zero2, z]) (fun b => by rw [clm_zero1, gm_zero1, z])
    (fun a b c _ _ _ => by rw [clm_lin1, rdk_lin]) (fun a b c ha hb _ => gm_xor1 a b c ha hb) (fun a b c _ _ _ => by rw [clm_lin2, rdk_lin]) (fun a b c _ _ _ => gm_xor2 a b c)
    (by decide +kernel) a ha b hb
theorem shl_lt {a k : Nat} (ha : a < 256) (hk : k < 8) : a <<< k < 32768 := by
  rw [Nat.shiftLeft_eq]
  calc a * 2 ^ k ≤ a * 128 := Nat.mul_le_mul_left a (Nat.pow_le_pow_right (by decide) (show k ≤ 7 by omega) : 2 ^ k ≤ 2 ^ 7)
    _ < 32768 := by omega
theorem clm_lt {a : Nat} (b : Nat) (ha : a < 256) : ∀ k, k ≤ 8 → clm a b k < 32768
  | 0, _ => (by decide : 0 < 32768)
  | k + 1, hk => by
    simp only [clm]
    have ih := clm_lt b ha k (by omega)
    split
    · exact Nat.xor_lt_two_pow (n := 15) ih (shl_lt ha (by omega))
    · exact ih
theorem bit_test {x k : Nat} {c : Bool} (h : decide (x / 2 ^ k % 2 = 1) = c) : ((((x : Nat) : Int) / 2 ^ k).tmod 2 == 1) = c := by
  have e : ((x : Nat) : Int) / 2 ^ k = ((x / 2 ^ k : Nat) : Int) := by simp
  rw [e, ← h, Int.tmod_eq_emod_of_nonneg (Int.natCast_nonneg _)]
  generalize x / 2 ^ k = y
  by_cases hy : y % 2 = 1
  · rw [decide_eq_true hy, beq_iff_eq]; omega
  · rw [decide_eq_false hy, beq_eq_false_iff_ne]; omega
theorem shl_wrap {a k : Nat} (h : a <<< k < 32768) : wrap64 ((a : Int) * 2 ^ k) = ((a <<< k : Nat) : Int) := by
  have e : (a : Int) * 2 ^ k = ((a <<< k : Nat) : Int) := by rw [Nat.shiftLeft_eq]; simp
  rw [e]
  unfold wrap64
  generalize a <<< k = y at *
  omega

set_option maxHeartbeats 800000 in
theorem rmul_any (a b : Nat) (w : World) (ha : a < 256) (hb : b < 256) :
    Calls Tryz.prog 189 #[.int .u8 a, .int .u8 b] w fun e w' => e = .returned (.int .u8 (gm a b : Nat)) ∧ w = w' := by
  go_enter Tryz.func189, Tryz.ntmps189
  go_wp2_with fail
  go_loop [5, 6] (fun p i => ∃ (k p' : Nat), k ≤ 8 ∧ p' = clm a b k ∧ p = .int .i64 p' ∧ i = .int .i64 k) (fun _ i => 8 - (intOf i).toNat)
  case atStart => exact ⟨0, 0, by decide, rfl, rfl, rfl⟩
  case round =>
    obtain ⟨k, p', hk, hp, rfl, rfl⟩ := hrel
    have hp' := clm_lt b ha k hk
    rw [← hp] at hp'
    by_cases h0 : k < 8
    · have hs := shl_lt ha h0
      by_cases hbit : b / 2 ^ k % 2 = 1
      · have HP := Lib.hid (show p' ^^^ (a <<< k) = clm a b (k + 1) by rw [hp]; simp only [clm, if_pos hbit])
        have ht := bit_test (decide_eq_true hbit)
        have hx : bits BinOp.xor .i64 (p' : Int) (wrap64 ((a : Int) * 2 ^ k)) = ((p' ^^^ (a <<< k) : Nat) : Int) := by
          rw [show wrap64 ((a : Int) * 2 ^ k) = ((a <<< k : Nat) : Int) from shl_wrap hs]
          exact i64_xor_nat _ _ (by omega) (by omega)
        clear hp
        go_wp2_with fail
        go_round
        case rel => exact ⟨k + 1, _, by omega, HP.out, by rw [← hx], by go_num⟩
        case measure => simp [intOf]; omega
      · have HP := Lib.hid (show p' = clm a b (k + 1) by rw [hp]; simp only [clm, if_neg hbit])
        have ht := bit_test (decide_eq_false hbit)
        clear hp
        go_wp2_with fail
        go_round
        case rel => exact ⟨k + 1, _, by omega, HP.out, rfl, by go_num⟩
        case measure => simp [intOf]; omega
    · obtain rfl : k = 8 := by omega
      have HG := Lib.hid (show rdk 7 p' = gm a b by rw [hp]; exact clm_gm ha hb)
      have hgl := gm_lt b ha
      clear hp
      go_wp2_with fail
      go_loop [5, 7] (fun p i => ∃ (k p' : Nat), k ≤ 7 ∧ p' < 32768 ∧ rdk k p' = gm a b ∧ p = .int .i64 p' ∧ i = .int .i64 ((k : Int) + 7)) (fun _ i => (intOf i).toNat)
      case atStart => exact ⟨7, p', by decide, hp', HG.out, rfl, rfl⟩
      case round =>
        obtain ⟨k, p', hk, hp', hg, rfl, rfl⟩ := hrel
        have HG := Lib.hid hg
        clear hg
        by_cases h0 : 0 < k
        · obtain ⟨j, rfl⟩ : ∃ j, k = j + 1 := ⟨k - 1, by omega⟩
          have hs : 283 <<< j < 32768 := by
            have : ∀ j, j < 7 → 283 <<< j < 32768 := by decide
            exact this j (by omega)
          by_cases hbit : p' / 2 ^ (j + 8) % 2 = 1
          · have HP := Lib.hid (show rdk j (p' ^^^ (283 <<< j)) = gm a b by rw [← HG.out]; simp only [rdk, if_pos hbit])
            have ht := bit_test (decide_eq_true hbit)
            have hx : bits BinOp.xor .i64 (p' : Int) (wrap64 (283 * 2 ^ j)) = ((p' ^^^ (283 <<< j) : Nat) : Int) := by
              rw [show wrap64 (283 * 2 ^ j) = ((283 <<< j : Nat) : Int) from shl_wrap hs]
              exact i64_xor_nat _ _ (by omega) (by omega)
            have hpl : p' ^^^ (283 <<< j) < 32768 := Nat.xor_lt_two_pow (n := 15) hp' hs
            go_wp2_with fail
            go_round
            case rel => exact ⟨j, _, by omega, hpl, HP.out, by rw [← hx], by go_num⟩
            case measure => simp [intOf]; omega
          · have HP := Lib.hid (show rdk j p' = gm a b by rw [← HG.out]; simp only [rdk, if_neg hbit])
            have ht := bit_test (decide_eq_false hbit)
            go_wp2_with fail
            go_round
            case rel => exact ⟨j, _, by omega, hp', HP.out, rfl, by go_num⟩
            case measure => simp [intOf]; omega
        · obtain rfl : k = 0 := by omega
          have HG2 := Lib.hid (show p' = gm a b from HG.out)
          have hpl : p' < 256 := by rw [HG2.out]; exact hgl
          clear h0 HG hgl
          go_wp2_with fail
          go_ret
          exact ⟨ret_u8 HG2.out, rfl⟩
end Go.Proofs.YthmlcmlpmolmoaaGreatDoor
/- Contracts of the reference's field: powers, inverses, byte maps. -/
namespace Go.Proofs.YthmlcmlpmolmoaaGreatDoor
open Go.RowKit

theorem rpow_any (a : Nat) (n : Int) (w : World) (ha : a < 256) (hn : n ≤ 9223372036854775807) :
    Calls Tryz.prog 190 #[.int .u8 a, .int .i64 n] w fun e w' => e = .returned (.int .u8 (gpow a n.toNat : Nat)) ∧ w = w' := by
  by_cases h0 : n ≤ 0
  · have HE := Lib.hid (show 1 = gpow a n.toNat by rw [show n.toNat = 0 by omega]; rfl)
    go_enter Tryz.func190, Tryz.ntmps190
    go_wp2_with fail
    go_ret
    exact ⟨ret_u8 HE.out, rfl⟩
  · obtain ⟨m, rfl⟩ := Int.eq_ofNat_of_zero_le (show 0 ≤ n by omega)
    rw [Int.toNat_natCast]
    by_cases ha0 : a = 0
    · subst ha0
      have HE := Lib.hid (show 0 = gpow 0 m from (gpow_zero (by omega)).symm)
      go_enter Tryz.func190, Tryz.ntmps190
      go_wp2_with fail
      go_ret
      exact ⟨ret_u8 HE.out, rfl⟩
    · have HE := Lib.hid (gpow_mod ha ha0 m)
      obtain ⟨r, hr⟩ : ∃ r, m % 255 = r := ⟨_, rfl⟩
      have HR := Lib.hid hr
      have hm : ((m : Int) % 255) = (r : Int) := by omega
      have hrl : r < 255 := by omega
      clear hr
      have hz : ((a : Int) == 0) = false := by rw [beq_eq_false_iff_ne]; omega
      go_enter Tryz.func190, Tryz.ntmps190
      go_wp2_with fail
      go_loop [5, 6] (fun p i => ∃ (k p' : Nat), k ≤ r ∧ p' = gpow a k ∧ p = .int .u8 p' ∧ i = .int .i64 k) (fun _ i => r - (intOf i).toNat)
      case atStart => exact ⟨0, 1, Nat.zero_le _, rfl, rfl, rfl⟩
      case round =>
        obtain ⟨k, p', hk, hp, rfl, rfl⟩ := hrel
        have hp' := gpow_lt ha k
        rw [← hp] at hp'
        by_cases hlt : k < r
        · have HP := Lib.hid (show gm p' a = gpow a (k + 1) by rw [hp]; rfl)
          clear hp
          go_wp2_with (go_at_call 189; refine (rmul_any _ _ _ (by assumption) (by assumption)).mono ?_; rintro e w' ⟨rfl, rfl⟩)
          go_round
          case rel => exact ⟨k + 1, _, by omega, HP.out, rfl, by go_num⟩
          case measure => simp [intOf]; omega
        · obtain rfl : k = r := by omega
          have HP := Lib.hid (show p' = gpow a m by rw [hp, ← HE.out, HR.out])
          clear hp
          go_wp2_with fail
          go_ret
          exact ⟨ret_u8 HP.out, rfl⟩

/-- turned left, bit by bit -/
def rlf (a n : Nat) : Nat → Nat
  | 0 => 0
  | k + 1 => if a / 2 ^ k % 2 = 1 then rlf a n k ||| (1 <<< ((k + n) % 8)) else rlf a n k
theorem rlf_lt (a n : Nat) : ∀ k, rlf a n k < 256
  | 0 => (by decide : 0 < 256)
  | k + 1 => by
    simp only [rlf]
    split
    · refine Nat.or_lt_two_pow (n := 8) (rlf_lt a n k) ?_
      have : ∀ x, x < 8 → 1 <<< x < 2 ^ 8 := by decide
      exact this _ (Nat.mod_lt _ (by decide))
    · exact rlf_lt a n k
theorem rlf_rotl {a n : Nat} (ha : a < 256) (hn : n < 8) : rlf a n 8 = rotl a n := by
  have : ∀ n, n < 8 → ∀ a, a < 256 → rlf a n 8 = rotl a n := by decide +kernel
  exact this n hn a ha

theorem rleft_any (a n : Nat) (t : Int) (w : World) (ha : a < 256) (hn : n < 8) (ht : t = (n : Int)) :
    Calls Tryz.prog 188 #[.int .u8 a, .int .i64 t] w fun e w' => e = .returned (.int .u8 (rotl a n : Nat)) ∧ w = w' := by
  subst ht
  go_enter Tryz.func188, Tryz.ntmps188
  go_wp2_with fail
  go_loop [5, 6] (fun p i => ∃ (k p' : Nat), k ≤ 8 ∧ p' = rlf a n k ∧ p = .int .i64 p' ∧ i = .int .i64 k) (fun _ i => 8 - (intOf i).toNat)
  case atStart => exact ⟨0, 0, by decide, rfl, rfl, rfl⟩
  case round =>
    obtain ⟨k, p', hk, hp, rfl, rfl⟩ := hrel
    have hp' := rlf_lt a n k
    rw [← hp] at hp'
    by_cases h0 : k < 8
    · by_cases hbit : a / 2 ^ k % 2 = 1
      · have HP := Lib.hid (show p' ||| (1 <<< ((k + n) % 8)) = rlf a n (k + 1) by rw [hp]; simp only [rlf, if_pos hbit])
        have ht := bit_test (decide_eq_true hbit)
        have hs : 1 <<< ((k + n) % 8) < 32768 := by
          have : ∀ x, x < 8 → 1 <<< x < 32768 := by decide
          exact this _ (Nat.mod_lt _ (by decide))
        have hx : bits BinOp.or .i64 (p' : Int) (wrap64 (2 ^ ((k + n) % 8))) = ((p' ||| (1 <<< ((k + n) % 8)) : Nat) : Int) := by
          have e := shl_wrap hs
          rw [Int.natCast_one, Int.one_mul] at e
          rw [e]
          exact i64_or_nat _ _ (by omega) (by omega)
        clear hp
        go_wp2_with fail
        go_round
        case rel => exact ⟨k + 1, _, by omega, HP.out, by rw [← hx], by go_num⟩
        case measure => simp [intOf]; omega
      · have HP := Lib.hid (show p' = rlf a n (k + 1) by rw [hp]; simp only [rlf, if_neg hbit])
        have ht := bit_test (decide_eq_false hbit)
        clear hp
        go_wp2_with fail
        go_round
        case rel => exact ⟨k + 1, _, by omega, HP.out, rfl, by go_num⟩
        case measure => simp [intOf]; omega
    · obtain rfl : k = 8 := by omega
      have HG := Lib.hid (show p' = rotl a n by rw [hp]; exact rlf_rotl ha hn)
      clear hp
      go_wp2_with fail
      go_ret
      exact ⟨ret_u8 HG.out, rfl⟩
end Go.Proofs.YthmlcmlpmolmoaaGreatDoor
/- Contracts of the reference's aes: the steps of a round. -/
namespace Go.Proofs.YthmlcmlpmolmoaaGreatDoor
open Go.RowKit

theorem mk16 (W : World) : (Instr.makeSlice 22 (.int .i64 16) (.int .i64 16)).run Tryz.prog W = .ok (.slice (some ⟨W.heap.size, 0, none⟩) 16 16) (W.alloc (.cells (madeCells #[.int .u8 0] 16) 5)) := mk8 16 (by decide) W
theorem upto_row (h : Nat → Nat) (k x : Nat) (hx : h k = x) (j : Nat) : (if j = k then x else if j < k then h j else 0) = if j < k + 1 then h j else 0 := by
  by_cases e : j = k
  · subst e; rw [if_pos rfl, if_pos (Nat.lt_succ_self _), hx]
  · rw [if_neg e]
    by_cases h : j < k
    · rw [if_pos h, if_pos (by omega)]
    · rw [if_neg h, if_neg (by omega)]
/-- a row of n bytes in new memory -/
def NewRow (n : Nat) (f : Nat → Nat) (w : World) (e : Ending) (w' : World) : Prop := e = .returned (.slice (some ⟨w.heap.size, 0, none⟩) n n) ∧ RowB w' w.heap.size n f ∧ Below w.heap.size w w'

set_option maxHeartbeats 800000 in
theorem rlay_any4 (A1 A2 : Option Addr) (c1 c2 : Nat) (a b : Nat → Nat) (w : World) (h1 : SlB w A1 16 a) (h2 : SlB w A2 16 b) :
    Calls Tryz.prog 191 #[.slice A1 16 c1, .slice A2 16 c2] w (NewRow 16 (fun i => a i ^^^ b i) w) := by
  obtain ⟨B1, o1, rfl, l1, e1⟩ := h1 (by decide)
  obtain ⟨B2, o2, rfl, l2, e2⟩ := h2 (by decide)
  have E1 := Lib.hid e1
  have E2 := Lib.hid e2
  have L1 := Lib.hid l1
  have L2 := Lib.hid l2
  have hmk := mk16
  clear h1 h2 e1 e2 l1 l2
  go_enter Tryz.func191, Tryz.ntmps191
  go_wp2_with fail
  clear hmk
  go_loopw [6] (fun v wr => ∃ k : Nat, k ≤ 16 ∧ v = .int .i64 k ∧ RowB wr w.heap.size 16 (fun j => if j < k then a j ^^^ b j else 0) ∧ Below w.heap.size w wr) (fun v _ => 16 - (intOf v).toNat)
  case atStart => exact ⟨0, by decide, rfl, (rowB_made w 16).congr fun j _ => (if_neg (Nat.not_lt_zero _)).symm, (Below.refl _ _).alloc (Nat.le_refl _) _⟩
  case round =>
    obtain ⟨k, hk, rfl, h1, h2⟩ := hrel
    have H1 := Lib.hid h1
    have H2 := Lib.hid h2
    clear h1 h2
    by_cases hlt : k < 16
    · have hx := (E1.out k hlt).1
      have hy := (E2.out k hlt).1
      have hc1 := (H2.out.cell (p := ⟨B1, o1 + k, none⟩) L1.out).trans (E1.out k hlt).2
      have hc2 := (H2.out.cell (p := ⟨B2, o2 + k, none⟩) L2.out).trans (E2.out k hlt).2
      have hc3 := H1.out.cell hlt
      have hf3 := H1.out.frozen k
      rw [if_neg (Nat.lt_irrefl k)] at hc3
      have HR := Lib.hid (((H1.out.set k (a k ^^^ b k) _ rfl).congr fun j _ => upto_row (fun j => a j ^^^ b j) k _ rfl j).drew)
      have HB := Lib.hid ((H2.out.setCell (p := ⟨w.heap.size, k, none⟩) (Nat.le_refl _) (.int .u8 ((a k ^^^ b k : Nat) : Int))).drew)
      have hxy : bits BinOp.xor .u8 ((a k : Nat) : Int) ((b k : Nat) : Int) = ((a k ^^^ b k : Nat) : Int) := u8_xor_nat _ _ hx hy
      generalize a k = x at *
      generalize b k = y at *
      go_wp2_with fail
      go_region
      all_goals
        generalize (wr.setCell ⟨w.heap.size, k, none⟩ (.int .u8 ((x ^^^ y : Nat) : Int))).drew = W at *
        clear hc1 hc2 hc3 hf3
        go_wp2_with fail
        go_roundw
        case rel => exact ⟨k + 1, by omega, by go_num, HR.out, HB.out⟩
        case measure => simp [intOf]; omega
    · obtain rfl : k = 16 := by omega
      go_wp2_with fail
      go_ret
      exact ⟨rfl, H1.out.congr fun j hj => if_pos hj, H2.out⟩
set_option maxHeartbeats 800000 in
theorem rswap_any (A1 A2 : Option Addr) (c1 c2 : Nat) (a T : Nat → Nat) (w : World) (h1 : SlB w A1 16 a) (h2 : SlB w A2 256 T) :
    Calls Tryz.prog 193 #[.slice A1 16 c1, .slice A2 256 c2] w (NewRow 16 (fun i => T (a i)) w) := by
  obtain ⟨B1, o1, rfl, l1, e1⟩ := h1 (by decide)
  obtain ⟨B2, o2, rfl, l2, e2⟩ := h2 (by decide)
  have E1 := Lib.hid e1
  have E2 := Lib.hid e2
  have L1 := Lib.hid l1
  have L2 := Lib.hid l2
  have hmk := mk16
  clear h1 h2 e1 e2 l1 l2
  go_enter Tryz.func193, Tryz.ntmps193
  go_wp2_with fail
  clear hmk
  go_loopw [6] (fun v wr => ∃ k : Nat, k ≤ 16 ∧ v = .int .i64 k ∧ RowB wr w.heap.size 16 (fun j => if j < k then T (a j) else 0) ∧ Below w.heap.size w wr) (fun v _ => 16 - (intOf v).toNat)
  case atStart => exact ⟨0, by decide, rfl, (rowB_made w 16).congr fun j _ => (if_neg (Nat.not_lt_zero _)).symm, (Below.refl _ _).alloc (Nat.le_refl _) _⟩
  case round =>
    obtain ⟨k, hk, rfl, h1, h2⟩ := hrel
    have H1 := Lib.hid h1
    have H2 := Lib.hid h2
    clear h1 h2
    by_cases hlt : k < 16
    · have hx := (E1.out k hlt).1
      have hc1 := (H2.out.cell (p := ⟨B1, o1 + k, none⟩) L1.out).trans (E1.out k hlt).2
      have hc2 := (H2.out.cell (p := ⟨B2, o2 + a k, none⟩) L2.out).trans (E2.out (a k) hx).2
      have hc3 := H1.out.cell hlt
      have hf3 := H1.out.frozen k
      rw [if_neg (Nat.lt_irrefl k)] at hc3
      have HR := Lib.hid ((H1.out.set k (T (a k)) _ rfl).congr fun j _ => upto_row (fun j => T (a j)) k _ rfl j)
      have HB := Lib.hid (H2.out.setCell (p := ⟨w.heap.size, k, none⟩) (Nat.le_refl _) (.int .u8 ((T (a k) : Nat) : Int)))
      generalize T (a k) = y at *
      generalize a k = x at *
      go_wp2_with fail
      go_roundw
      case rel => exact ⟨k + 1, by omega, by go_num, HR.out, HB.out⟩
      case measure => simp [intOf]; omega
    · obtain rfl : k = 16 := by omega
      go_wp2_with fail
      go_ret
      exact ⟨rfl, H1.out.congr fun j hj => if_pos hj, H2.out⟩
end Go.Proofs.YthmlcmlpmolmoaaGreatDoor
/- Contracts of the reference's aes: shifting, products, mixing. -/
namespace Go.Proofs.YthmlcmlpmolmoaaGreatDoor
open Go.RowKit

set_option maxHeartbeats 1600000 in
theorem rshift_any (A1 : Option Addr) (c1 t : Nat) (ti : Int) (a : Nat → Nat) (w : World) (ht : (t = 1 ∧ ti = 1) ∨ (t = 3 ∧ ti = 3)) (h1 : SlB w A1 16 a) :
    Calls Tryz.prog 192 #[.slice A1 16 c1, .int .i64 ti] w (NewRow 16 (fun i => a ((i + 4 * t * (i % 4)) % 16)) w) := by
  obtain ⟨B1, o1, rfl, l1, e1⟩ := h1 (by decide)
  have E1 := Lib.hid e1
  have L1 := Lib.hid l1
  have hmk := mk16
  clear h1 e1 l1
  obtain ⟨F, hF⟩ : ∃ F : Nat → Nat, F = fun i => a ((i + 4 * t * (i % 4)) % 16) := ⟨_, rfl⟩
  have HFE := Lib.hid hF
  clear hF
  rcases ht with ⟨rfl, rfl⟩ | ⟨rfl, rfl⟩
  all_goals
    go_enter Tryz.func192, Tryz.ntmps192
    go_wp2_with fail
    clear hmk
    go_loopw [6] (fun v wr => ∃ q : Nat, q ≤ 4 ∧ v = .int .i64 q ∧ RowB wr w.heap.size 16 (fun j => if j < 4 * q then F j else 0) ∧ Below w.heap.size w wr) (fun v _ => 4 - (intOf v).toNat)
    case atStart => exact ⟨0, by decide, rfl, (rowB_made w 16).congr fun j _ => (if_neg (Nat.not_lt_zero _)).symm, (Below.refl _ _).alloc (Nat.le_refl _) _⟩
    case round =>
      obtain ⟨q, hq, rfl, h1, h2⟩ := hrel
      have H1 := Lib.hid h1
      have H2 := Lib.hid h2
      clear h1 h2
      by_cases hlt : q < 4
      · go_wp2_with fail
        go_loopw [7] (fun v wx => ∃ r : Nat, r ≤ 4 ∧ v = .int .i64 r ∧ RowB wx w.heap.size 16 (fun j => if j < 4 * q + r then F j else 0) ∧ Below w.heap.size w wx) (fun v _ => 4 - (intOf v).toNat)
        case atStart => exact ⟨0, by decide, rfl, H1.out, H2.out⟩
        case round =>
          obtain ⟨r, hr, rfl, h1, h2⟩ := hrel
          have H3 := Lib.hid h1
          have H4 := Lib.hid h2
          clear h1 h2
          by_cases hlr : r < 4
          · first
              | (have hc1 := (H4.out.cell (p := ⟨B1, o1 + (4 * q + r + 4 * r) % 16, none⟩) L1.out).trans (E1.out ((4 * q + r + 4 * r) % 16) (Nat.mod_lt _ (by decide))).2
                 have HF0 := Lib.hid (show F (4 * q + r) = a ((4 * q + r + 4 * r) % 16) by rw [HFE.out]; show a _ = a _; congr 1; omega))
              | (have hc1 := (H4.out.cell (p := ⟨B1, o1 + (4 * q + r + 4 * r * 3) % 16, none⟩) L1.out).trans (E1.out ((4 * q + r + 4 * r * 3) % 16) (Nat.mod_lt _ (by decide))).2
                 have HF0 := Lib.hid (show F (4 * q + r) = a ((4 * q + r + 4 * r * 3) % 16) by rw [HFE.out]; show a _ = a _; congr 1; omega))
            have h16 : 4 * q + r < 16 := by omega
            have hc3 := H3.out.cell h16
            have hf3 := H3.out.frozen (4 * q + r)
            rw [if_neg (Nat.lt_irrefl _)] at hc3
            have HR := Lib.hid ((H3.out.set (4 * q + r) (F (4 * q + r)) _ rfl).congr fun j _ => upto_row F (4 * q + r) _ rfl j)
            have HB := Lib.hid (H4.out.setCell (p := ⟨w.heap.size, 4 * q + r, none⟩) (Nat.le_refl _) (.int .u8 ((F (4 * q + r) : Nat) : Int)))
            rw [← HF0.out] at hc1
            generalize F (4 * q + r) = y at *
            go_wp2_with fail
            go_roundw
            case rel => exact ⟨r + 1, by omega, by go_num, HR.out, HB.out⟩
            case measure => simp [intOf]; omega
          · obtain rfl : r = 4 := by omega
            go_wp2_with fail
            go_roundw
            case rel => exact ⟨q + 1, by omega, by go_num, H3.out.congr fun j _ => by rw [show 4 * (q + 1) = 4 * q + 4 by omega], H4.out⟩
            case measure => simp [intOf]; omega
      · obtain rfl : q = 4 := by omega
        go_wp2_with fail
        go_ret
        exact ⟨rfl, H1.out.congr fun j hj => by rw [if_pos (show j < 4 * 4 from hj), HFE.out], H2.out⟩

/-- twice a byte, as the reference has it -/
theorem dbl_ref : ∀ a, a < 256 → 128 ≤ a → 2 * a ^^^ 283 = dbl a := by decide +kernel
set_option maxHeartbeats 800000 in
theorem rtimes_any (f b : Nat) (w : World) (hf : f < 256) (hb : b < 256) :
    Calls Tryz.prog 217 #[.int .i64 (f : Nat), .int .u8 (b : Nat)] w fun e w' => e = .returned (.int .u8 (gm f b : Nat)) ∧ w = w' := by
  rw [gm_comm hf hb]
  go_enter Tryz.func217, Tryz.ntmps217
  go_wp2_with fail
  go_loop [0, 5, 6] (fun y p x => ∃ k a' b' p' : Nat, k ≤ 8 ∧ b' < 2 ^ k ∧ a' < 256 ∧ p' < 256 ∧ gmk k a' b' p' = gm b f ∧ x = .int .i64 a' ∧ y = .int .i64 b' ∧ p = .int .u8 p') (fun y _ _ => (intOf y).toNat)
  case atStart => exact ⟨8, b, f, 0, Nat.le_refl _, hf, hb, by decide, rfl, rfl, rfl, rfl⟩
  case round =>
    obtain ⟨k, a', b', p', hk, hb', ha', hp', hg, rfl, rfl, rfl⟩ := hrel
    have HG := Lib.hid hg
    clear hg
    by_cases h0 : 0 < b'
    · have hb256 : b' < 256 := Nat.lt_of_lt_of_le hb' (Nat.le_trans (Nat.pow_le_pow_right (by decide) hk) (by decide))
      have hxl := xor8 hp' ha'
      have hx : bits BinOp.xor .u8 (p' : Int) (a' : Int) = ((p' ^^^ a' : Nat) : Int) := u8_xor_nat p' a' hp' ha'
      obtain ⟨k, rfl⟩ : ∃ j, k = j + 1 := by
        cases k with
        | zero => exact absurd hb' (by simp; omega)
        | succ j => exact ⟨j, rfl⟩
      have hb2 : b' / 2 < 2 ^ k := by rw [Nat.pow_succ] at hb'; omega
      have HB := Lib.hid hb2
      clear hb2 hb'
      have hd : (a' < 128 ∧ dbl a' = 2 * a') ∨ (128 ≤ a' ∧ bits BinOp.xor .i64 (2 * (a' : Int)) 283 = ((dbl a' : Nat) : Int)) := by
        by_cases h : a' < 128
        · left; exact ⟨h, if_pos h⟩
        · right
          refine ⟨by omega, ?_⟩
          rw [← dbl_ref a' ha' (by omega)]
          have := i64_xor_nat (2 * a') 283 (by omega) (by decide)
          simpa using this
      have hdl := dbl_lt ha'
      by_cases hodd : b' % 2 = 1
      · have HG2 := Lib.hid (show gmk k (dbl a') (b' / 2) (p' ^^^ a') = gm b f by rw [← HG.out]; simp only [gmk, if_pos hodd])
        rcases hd with ⟨h, hd⟩ | ⟨h, hd⟩
        · have HD := Lib.hid hd
          clear hd hdl
          go_wp2_with fail
          go_round
          case rel => exact ⟨k, dbl a', b' / 2, p' ^^^ a', by omega, HB.out, dbl_lt ha', hxl, HG2.out, by rw [HD.out]; go_num, by go_num, rfl⟩
          case measure => simp [intOf]; omega
        · generalize dbl a' = d at *
          go_wp2_with fail
          go_round
          case rel => exact ⟨k, d, b' / 2, p' ^^^ a', by omega, HB.out, hdl, hxl, HG2.out, rfl, by go_num, rfl⟩
          case measure => simp [intOf]; omega
      · have HG2 := Lib.hid (show gmk k (dbl a') (b' / 2) p' = gm b f by rw [← HG.out]; simp only [gmk, if_neg hodd])
        have hev : ((b' : Int) % 2 == 1) = false := by rw [beq_eq_false_iff_ne]; omega
        rcases hd with ⟨h, hd⟩ | ⟨h, hd⟩
        · have HD := Lib.hid hd
          clear hd hdl
          go_wp2_with fail
          go_round
          case rel => exact ⟨k, dbl a', b' / 2, p', by omega, HB.out, dbl_lt ha', hp', HG2.out, by rw [HD.out]; go_num, by go_num, rfl⟩
          case measure => simp [intOf]; omega
        · generalize dbl a' = d at *
          go_wp2_with fail
          go_round
          case rel => exact ⟨k, d, b' / 2, p', by omega, HB.out, hdl, hp', HG2.out, rfl, by go_num, rfl⟩
          case measure => simp [intOf]; omega
    · obtain rfl : b' = 0 := by omega
      rw [gmk_done] at HG
      clear hb' h0
      go_wp2_with fail
      go_ret
      exact ⟨ret_u8 HG.out, rfl⟩
end Go.Proofs.YthmlcmlpmolmoaaGreatDoor
/- Contracts of the reference's aes: mixing, the map back. -/
namespace Go.Proofs.YthmlcmlpmolmoaaGreatDoor
open Go.RowKit

def psum4 (F s : Nat → Nat) (i : Nat) : Nat → Nat
  | 0 => 0
  | k + 1 => psum4 F s i k ^^^ gm (F k) (s (4 * (i / 4) + (i + k) % 4))
theorem psum_lt {F s : Nat → Nat} (hF : By 4 F) (hs : By 16 s) {i : Nat} (hi : i < 16) : ∀ k, k ≤ 4 → psum4 F s i k < 256
  | 0, _ => (by decide : 0 < 256)
  | k + 1, hk => xor8 (psum_lt hF hs hi k (by omega)) (gm_lt _ (hF k (by omega)))
def fac (a b c d : Nat) (k : Nat) : Nat := if k = 0 then a else if k = 1 then b else if k = 2 then c else d
theorem psum_imix (s : Nat → Nat) (i : Nat) : psum4 (fac 14 11 13 9) s i 4 = imixc s i := by
  show (((0 ^^^ gm 14 (s (4 * (i / 4) + (i + 0) % 4))) ^^^ gm 11 (s (4 * (i / 4) + (i + 1) % 4))) ^^^ gm 13 (s (4 * (i / 4) + (i + 2) % 4))) ^^^ gm 9 (s (4 * (i / 4) + (i + 3) % 4)) = _
  rw [Nat.zero_xor, Nat.add_zero]
  unfold imixc imx
  ac_rfl
theorem psum_mix {s : Nat → Nat} (hs : By 16 s) {i : Nat} (hi : i < 16) : psum4 (fac 2 3 1 1) s i 4 = mixc s i := by
  show (((0 ^^^ gm 2 (s (4 * (i / 4) + (i + 0) % 4))) ^^^ gm 3 (s (4 * (i / 4) + (i + 1) % 4))) ^^^ gm 1 (s (4 * (i / 4) + (i + 2) % 4))) ^^^ gm 1 (s (4 * (i / 4) + (i + 3) % 4)) = _
  have h2 : ∀ a, a < 256 → gm 2 a = dbl a := by decide +kernel
  have h3 : ∀ a, a < 256 → gm 3 a = dbl a ^^^ a := by decide +kernel
  rw [Nat.zero_xor, Nat.add_zero, h2 _ (hs _ (by omega)), h3 _ (hs _ (by omega)), one_gm (hs _ (by omega)), one_gm (hs _ (by omega))]
  unfold mixc mx
  ac_rfl

set_option maxHeartbeats 1600000 in
theorem rmix_any (A1 : Option Addr) (c1 c2 B2 o2 : Nat) (a F : Nat → Nat) (w : World) (h1 : SlB w A1 16 a) (hB2 : B2 < w.heap.size) (hF : ∀ k, k < 4 → F k < 256 ∧ w.cell? ⟨B2, o2 + k, none⟩ = some (.int .i64 (F k : Nat))) :
    Calls Tryz.prog 194 #[.slice A1 16 c1, .slice (some ⟨B2, o2, none⟩) 4 c2] w (NewRow 16 (fun i => psum4 F a i 4) w) := by
  obtain ⟨B1, o1, rfl, l1, e1⟩ := h1 (by decide)
  have E1 := Lib.hid e1
  have L1 := Lib.hid l1
  have E2 := Lib.hid hF
  have L2 := Lib.hid hB2
  have HBY := Lib.hid (show By 16 a from fun j hj => (e1 j hj).1)
  have HBF := Lib.hid (show By 4 F from fun j hj => (hF j hj).1)
  have hmk := mk16
  clear h1 e1 l1 hF hB2
  go_enter Tryz.func194, Tryz.ntmps194
  go_wp2_with fail
  clear hmk
  go_loopw [6] (fun v wr => ∃ q : Nat, q ≤ 4 ∧ v = .int .i64 q ∧ RowB wr w.heap.size 16 (fun j => if j < 4 * q then psum4 F a j 4 else 0) ∧ Below w.heap.size w wr) (fun v _ => 4 - (intOf v).toNat)
  case atStart => exact ⟨0, by decide, rfl, (rowB_made w 16).congr fun j _ => (if_neg (Nat.not_lt_zero _)).symm, (Below.refl _ _).alloc (Nat.le_refl _) _⟩
  case round =>
    obtain ⟨q, hq, rfl, h1, h2⟩ := hrel
    have H1 := Lib.hid h1
    have H2 := Lib.hid h2
    clear h1 h2
    by_cases hlt : q < 4
    · go_wp2_with fail
      go_loopw [7] (fun v wx => ∃ r : Nat, r ≤ 4 ∧ v = .int .i64 r ∧ RowB wx w.heap.size 16 (fun j => if j < 4 * q + r then psum4 F a j 4 else 0) ∧ Below w.heap.size w wx) (fun v _ => 4 - (intOf v).toNat)
      case atStart => exact ⟨0, by decide, rfl, H1.out, H2.out⟩
      case round =>
        obtain ⟨r, hr, rfl, h1, h2⟩ := hrel
        have H3 := Lib.hid h1
        have H4 := Lib.hid h2
        clear h1 h2
        by_cases hlr : r < 4
        · go_wp2_with fail
          go_loopw [8, 9] (fun x v wy => ∃ k : Nat, k ≤ 4 ∧ v = .int .i64 k ∧ x = .int .u8 (psum4 F a (4 * q + r) k : Nat) ∧ RowB wy w.heap.size 16 (fun j => if j < 4 * q + r then psum4 F a j 4 else 0) ∧ Below w.heap.size w wy) (fun _ v _ => 4 - (intOf v).toNat)
          case atStart => exact ⟨0, by decide, rfl, rfl, H3.out, H4.out⟩
          case round =>
            obtain ⟨k, hk, rfl, rfl, h1, h2⟩ := hrel
            have H5 := Lib.hid h1
            have H6 := Lib.hid h2
            clear h1 h2
            have h16 : 4 * q + r < 16 := by omega
            have hpl := psum_lt HBF.out HBY.out h16 k hk
            by_cases hlk : k < 4
            · obtain ⟨e, he⟩ : ∃ e, 4 * q + (r + k) % 4 = e := ⟨_, rfl⟩
              have hel : e < 16 := by omega
              have hc1 := (H6.out.cell (p := ⟨B1, o1 + e, none⟩) L1.out).trans (E1.out e hel).2
              have hc2 := (H6.out.cell (p := ⟨B2, o2 + k, none⟩) L2.out).trans (E2.out k hlk).2
              have hal := HBY.out e hel
              have hfl := HBF.out k hlk
              have HN := Lib.hid (show psum4 F a (4 * q + r) k ^^^ gm (F k) (a e) = psum4 F a (4 * q + r) (k + 1) by
                show _ = psum4 F a (4 * q + r) k ^^^ gm (F k) (a (4 * ((4 * q + r) / 4) + (4 * q + r + k) % 4))
                congr 3
                omega)
              obtain ⟨u, hu⟩ : ∃ u, 4 * q = u := ⟨_, rfl⟩
              obtain ⟨s, hs⟩ : ∃ s, r + k = s := ⟨_, rfl⟩
              obtain ⟨x, hx⟩ : ∃ x, s % 4 = x := ⟨_, rfl⟩
              have v1 : IntKind.i64.wrap (4 * (q : Int)) = (u : Nat) := by rw [IntWalk.i64_in _ (by omega)]; omega
              have v2 : IntKind.i64.wrap ((r : Int) + (k : Nat)) = (s : Nat) := by rw [IntWalk.i64_in _ (by omega)]; omega
              have v3 : ((s : Nat) : Int) % 4 = (x : Nat) := by omega
              have v3' : ((s : Nat) : Int).tmod 4 = (x : Nat) := by rw [Int.tmod_eq_emod_of_nonneg (by omega)]; omega
              have v4 : IntKind.i64.wrap (((u : Nat) : Int) + (x : Nat)) = (e : Nat) := by rw [IntWalk.i64_in _ (by omega)]; omega
              have he1 : (0 : Int) ≤ (e : Nat) := by omega
              have he2 : ((e : Nat) : Int) < 16 := by omega
              have hk2 : ((k : Nat) : Int) < 4 := by omega
              have HT := Lib.hid fun w => rtimes_any (F k) (a e) w hfl hal
              have hgl := gm_lt (a e) hfl
              have HIX := Lib.hid (show 4 * q + r < 16 ∧ r + k = s from ⟨h16, hs⟩)
              clear hu hs hx he
              generalize psum4 F a (4 * q + r) k = p at *
              generalize hgm : gm (F k) (a e) = z at *
              generalize F k = f0 at *
              generalize a e = a0 at *
              have hpz : bits BinOp.xor .u8 (p : Int) (z : Int) = ((p ^^^ z : Nat) : Int) := u8_xor_nat _ _ hpl hgl
              clear hgm
              go_wp2_with fail
              go_quiet ((go_at_call 217; exact Calls.quiet_of_same (same_flip (HT.out _))))
              have H7 := Lib.hid (H5.out.drewN nq)
              have H8 := Lib.hid (drawn H6.out nq)
              generalize wr.drewN nq = W at *
              clear hc1 hc2 v1 v2 v3 v3' v4
              go_wp2_with fail
              go_roundw
              case rel => exact ⟨k + 1, by omega, by go_num, by rw [HN.out], H7.out, H8.out⟩
              case measure => simp [intOf]; omega
            · obtain rfl : k = 4 := by omega
              have hc3 := H5.out.cell h16
              have hf3 := H5.out.frozen (4 * q + r)
              rw [if_neg (Nat.lt_irrefl _)] at hc3
              have HR := Lib.hid ((H5.out.set (4 * q + r) (psum4 F a (4 * q + r) 4) _ rfl).congr fun j _ => upto_row (fun j => psum4 F a j 4) (4 * q + r) _ rfl j)
              have HB := Lib.hid (H6.out.setCell (p := ⟨w.heap.size, 4 * q + r, none⟩) (Nat.le_refl _) (.int .u8 ((psum4 F a (4 * q + r) 4 : Nat) : Int)))
              generalize psum4 F a (4 * q + r) 4 = y at *
              go_wp2_with fail
              go_roundw
              case rel => exact ⟨r + 1, by omega, by go_num, HR.out, HB.out⟩
              case measure => simp [intOf]; omega
        · obtain rfl : r = 4 := by omega
          go_wp2_with fail
          go_roundw
          case rel => exact ⟨q + 1, by omega, by go_num, H3.out.congr fun j _ => by rw [show 4 * (q + 1) = 4 * q + 4 by omega], H4.out⟩
          case measure => simp [intOf]; omega
    · obtain rfl : q = 4 := by omega
      go_wp2_with fail
      go_ret
      exact ⟨rfl, H1.out.congr fun j hj => if_pos (show j < 4 * 4 from hj), H2.out⟩
end Go.Proofs.YthmlcmlpmolmoaaGreatDoor
/- Each byte but 0 is one power of 3: nothing here hangs on the program. -/
namespace Go.Proofs.YthmlcmlpmolmoaaGreatDoor

/-- how many of the first n powers of 3 a byte is -/
def times3 (a : Nat) : Nat → Nat
  | 0 => 0
  | k + 1 => times3 a k + if gpow 3 k = a then 1 else 0
def pows : Nat → Nat → List Nat
  | 0, _ => []
  | n + 1, x => x :: pows n (gm x 3)
def cnt (a : Nat) : List Nat → Nat
  | [] => 0
  | x :: r => (if x = a then 1 else 0) + cnt a r
theorem cnt_pows (a : Nat) : ∀ n k, times3 a (k + n) = times3 a k + cnt a (pows n (gpow 3 k))
  | 0, _ => rfl
  | n + 1, k => by
    have h := cnt_pows a n (k + 1)
    rw [show k + 1 + n = k + (n + 1) by omega] at h
    rw [h]
    simp only [times3, pows, cnt, gpow]
    omega
def allpows : List Nat := [1, 3, 5, 15, 17, 51, 85, 255, 26, 46, 114, 150, 161, 248, 19, 53, 95, 225, 56, 72, 216, 115, 149, 164, 247, 2, 6, 10, 30, 34, 102, 170, 229, 52, 92, 228, 55, 89, 235, 38, 106, 190, 217, 112, 144, 171, 230, 49, 83, 245, 4, 12, 20, 60, 68, 204, 79, 209, 104, 184, 211, 110, 178, 205, 76, 212, 103, 169, 224, 59, 77, 215, 98, 166, 241, 8, 24, 40, 120, 136, 131, 158, 185, 208, 107, 189, 220, 127, 129, 152, 179, 206, 73, 219, 118, 154, 181, 196, 87, 249, 16, 48, 80, 240, 11, 29, 39, 105, 187, 214, 97, 163, 254, 25, 43, 125, 135, 146, 173, 236, 47, 113, 147, 174, 233, 32, 96, 160, 251, 22, 58, 78, 210, 109, 183, 194, 93, 231, 50, 86, 250, 21, 63, 65, 195, 94, 226, 61, 71, 201, 64, 192, 91, 237, 44, 116, 156, 191, 218, 117, 159, 186, 213, 100, 172, 239, 42, 126, 130, 157, 188, 223, 122, 142, 137, 128, 155, 182, 193, 88, 232, 35, 101, 175, 234, 37, 111, 177, 200, 67, 197, 84, 252, 31, 33, 99, 165, 244, 7, 9, 27, 45, 119, 153, 176, 203, 70, 202, 69, 207, 74, 222, 121, 139, 134, 145, 168, 227, 62, 66, 198, 81, 243, 14, 18, 54, 90, 238, 41, 123, 141, 140, 143, 138, 133, 148, 167, 242, 13, 23, 57, 75, 221, 124, 132, 151, 162, 253, 28, 36, 108, 180, 199, 82, 246]
set_option maxRecDepth 100000 in
theorem pows_lit : pows 255 1 = allpows := by decide +kernel
theorem times3_all {a : Nat} (h : a < 256) : times3 a 255 = if a = 0 then 0 else 1 := by
  have key : ∀ a, a < 256 → cnt a allpows = if a = 0 then 0 else 1 := by decide +kernel
  have e := cnt_pows a 255 0
  rw [Nat.zero_add, show gpow 3 0 = 1 from rfl, pows_lit, key a h] at e
  rw [e, show times3 a 0 = 0 from rfl, Nat.zero_add]
theorem times3_le (a : Nat) : ∀ k, times3 a k ≤ k
  | 0 => Nat.le_refl 0
  | k + 1 => by
    have := times3_le a k
    simp only [times3]
    split <;> omega
end Go.Proofs.YthmlcmlpmolmoaaGreatDoor
/- Contracts of the reference's aes: the maps of all bytes. -/
namespace Go.Proofs.YthmlcmlpmolmoaaGreatDoor
open Go.RowKit

theorem mk256 (W : World) : (Instr.makeSlice 22 (.int .i64 256) (.int .i64 256)).run Tryz.prog W = .ok (.slice (some ⟨W.heap.size, 0, none⟩) 256 256) (W.alloc (.cells (madeCells #[.int .u8 0] 256) 5)) := mk8 256 (by decide) W
set_option maxRecDepth 100000 in
set_option maxHeartbeats 800000 in
theorem rback_any (A1 : Option Addr) (c1 : Nat) (w : World) (h1 : SlB w A1 256 box) :
    Calls Tryz.prog 155 #[.slice A1 256 c1] w (NewRow 256 unbox w) := by
  obtain ⟨B1, o1, rfl, l1, e1⟩ := h1 (by decide)
  have E1 := Lib.hid e1
  have L1 := Lib.hid l1
  have hmk := mk256
  clear h1 e1 l1
  go_enter Tryz.func155, Tryz.ntmps155
  go_wp2_with fail
  clear hmk
  go_loopw [4] (fun v wr => ∃ k : Nat, k ≤ 256 ∧ v = .int .i64 k ∧ RowB wr w.heap.size 256 (untab k) ∧ Below w.heap.size w wr) (fun v _ => 256 - (intOf v).toNat)
  case atStart => exact ⟨0, by decide, rfl, (rowB_made w 256).congr fun j _ => (if_neg (Nat.not_lt_zero _)).symm, (Below.refl _ _).alloc (Nat.le_refl _) _⟩
  case round =>
    obtain ⟨k, hk, rfl, h1, h2⟩ := hrel
    have H1 := Lib.hid h1
    have H2 := Lib.hid h2
    clear h1 h2
    by_cases hlt : k < 256
    · have hbl := box_lt hlt
      have hc1 := (H2.out.cell (p := ⟨B1, o1 + k, none⟩) L1.out).trans (E1.out k hlt).2
      have hc3 := H1.out.cell hbl
      have hf3 := H1.out.frozen (box k)
      have HR := Lib.hid ((H1.out.set (box k) k (.int .u8 (k : Nat)) rfl).congr fun j hj => untab_step hlt j hj)
      have HB := Lib.hid (H2.out.setCell (p := ⟨w.heap.size, box k, none⟩) (Nat.le_refl _) (.int .u8 (k : Nat)))
      generalize box k = x at *
      go_wp2_with fail
      go_roundw
      case rel => exact ⟨k + 1, by omega, by go_num, HR.out, HB.out⟩
      case measure => simp [intOf]; omega
    · obtain rfl : k = 256 := by omega
      go_wp2_with fail
      go_ret
      exact ⟨rfl, H1.out.congr fun j hj => untab_all j hj, H2.out⟩

theorem inv_pow : ∀ k, gm (gpow 3 k) (gpow 246 k) = 1
  | 0 => by decide
  | k + 1 => by
    have h3 : (3 : Nat) < 256 := by decide
    have h6 : (246 : Nat) < 256 := by decide
    have hp := gpow_lt h3 k
    have hq := gpow_lt h6 k
    show gm (gm (gpow 3 k) 3) (gm (gpow 246 k) 246) = 1
    rw [gm_comm hq h6, gm_assoc hp h3 (gm_lt _ h6), ← gm_assoc h3 h6 hq, show gm 3 246 = 1 by decide, one_gm hq, inv_pow k]
theorem box_pow (k : Nat) : gbox (gpow 246 k) = box (gpow 3 k) := by
  unfold box
  rw [← ginv_only (gpow_lt (by decide) k) (gpow_lt (by decide) k) (inv_pow k)]
theorem pow3_ne (k : Nat) : gpow 3 k ≠ 0 := fun e => by
  have := inv_pow k
  rw [e, gm_zero1] at this
  exact absurd this (by decide)
/-- the map behind k powers of 3 -/
def bxs (k y : Nat) : Nat := if y = 0 then 99 else if times3 y k = 0 then 0 else box y
theorem bxs_step (k y : Nat) : (if y = gpow 3 k then box (gpow 3 k) else bxs k y) = bxs (k + 1) y := by
  unfold bxs
  by_cases e : y = gpow 3 k
  · have h0 : y ≠ 0 := by rw [e]; exact pow3_ne k
    rw [if_pos e, if_neg h0, if_neg (by simp only [times3]; rw [if_pos e.symm]; omega), e]
  · have t : times3 y (k + 1) = times3 y k := by
      show times3 y k + (if gpow 3 k = y then 1 else 0) = _
      rw [if_neg (fun h => e h.symm), Nat.add_zero]
    rw [if_neg e, t]
theorem bxs_all {y : Nat} (h : y < 256) : bxs 255 y = box y := by
  unfold bxs
  rw [times3_all h]
  by_cases e : y = 0
  · subst e
    rw [if_pos rfl]
    unfold box
    rw [ginv_zero]; rfl
  · rw [if_neg e, if_neg e, if_neg (by decide)]

set_option maxRecDepth 100000 in
set_option maxHeartbeats 1600000 in
theorem rboxes_any (w : World) : Calls Tryz.prog 153 #[] w (NewRow 256 box w) := by
  have hmk := mk256
  have hc0 : (w.alloc (.cells (madeCells #[.int .u8 0] 256) 5)).cell? ⟨w.heap.size, 0, none⟩ = some (.int .u8 0) := (rowB_made w 256).cell (by decide)
  have hf0 : (w.alloc (.cells (madeCells #[.int .u8 0] 256) 5)).frozen? ⟨w.heap.size, 0, none⟩ = false := (rowB_made w 256).frozen 0
  have HR0 := Lib.hid (((rowB_made w 256).set 0 99 (.int .u8 99) rfl).congr (f := bxs 0) fun j _ => by
    unfold bxs
    by_cases e : j = 0
    · rw [if_pos e, if_pos e]
    · rw [if_neg e, if_neg e]; rfl)
  have HB0 := Lib.hid (((Below.refl w.heap.size w).alloc (Nat.le_refl _) (.cells (madeCells #[.int .u8 0] 256) 5)).setCell (p := ⟨w.heap.size, 0, none⟩) (Nat.le_refl _) (.int .u8 99))
  have hse : (w.alloc (.cells (madeCells #[.int .u8 0] 256) 5)).setCell ⟨w.heap.size, 0, none⟩ (.int .u8 99) = w.alloc (.cells ((madeCells #[.int .u8 0] 256).setIfInBounds 0 (.int .u8 99)) 5) := World.setCell_alloc_at _ _ _ _ _ (hn := rfl)
  rw [hse] at HR0 HB0
  clear hse
  go_enter Tryz.func153, Tryz.ntmps153
  go_wp2_with fail
  generalize hW : w.alloc (.cells ((madeCells #[.int .u8 0] 256).setIfInBounds 0 (.int .u8 99)) 5) = W at *
  clear hmk hc0 hf0 hW
  go_loopw [2, 3, 4] (fun x i v wr => ∃ k : Nat, k ≤ 255 ∧ v = .int .i64 k ∧ x = .int .u8 (gpow 3 k : Nat) ∧ i = .int .u8 (gpow 246 k : Nat) ∧ RowB wr w.heap.size 256 (bxs k) ∧ Below w.heap.size w wr) (fun _ _ v _ => 255 - (intOf v).toNat)
  case atStart => exact ⟨0, by decide, rfl, rfl, rfl, HR0.out, HB0.out⟩
  case round =>
    obtain ⟨k, hk, rfl, rfl, rfl, h1, h2⟩ := hrel
    have H1 := Lib.hid h1
    have H2 := Lib.hid h2
    clear h1 h2
    by_cases hlt : k < 255
    · have hxl := gpow_lt (a := 3) (by decide) k
      have hil := gpow_lt (a := 246) (by decide) k
      have HBX := Lib.hid (show gpow 246 k ^^^ rotl (gpow 246 k) 1 ^^^ rotl (gpow 246 k) 2 ^^^ rotl (gpow 246 k) 3 ^^^ rotl (gpow 246 k) 4 ^^^ 99 = box (gpow 3 k) from box_pow k)
      have hc3 := H1.out.cell hxl
      have hf3 := H1.out.frozen (gpow 3 k)
      have HR := Lib.hid ((H1.out.set (gpow 3 k) (box (gpow 3 k)) _ rfl).congr fun j _ => bxs_step k j)
      have HB := Lib.hid (H2.out.setCell (p := ⟨w.heap.size, gpow 3 k, none⟩) (Nat.le_refl _) (.int .u8 ((box (gpow 3 k) : Nat) : Int)))
      rw [← HBX.out] at HR HB
      have HX3 := Lib.hid fun w => (show Calls Tryz.prog 189 #[.int .u8 (gpow 3 k : Nat), .int .u8 3] w fun e w' => e = .returned (.int .u8 (gm (gpow 3 k) 3 : Nat)) ∧ w = w' from rmul_any (gpow 3 k) 3 w hxl (by decide))
      have HI6 := Lib.hid fun w => (show Calls Tryz.prog 189 #[.int .u8 (gpow 246 k : Nat), .int .u8 246] w fun e w' => e = .returned (.int .u8 (gm (gpow 246 k) 246 : Nat)) ∧ w = w' from rmul_any (gpow 246 k) 246 w hil (by decide))
      have HE := Lib.hid (show gm (gpow 3 k) 3 = gpow 3 (k + 1) ∧ gm (gpow 246 k) 246 = gpow 246 (k + 1) from ⟨rfl, rfl⟩)
      generalize bxs k (gpow 3 k) = old at *
      generalize gpow 3 k = x at *
      generalize gpow 246 k = i at *
      have l1 := rotl_lt (n := 1) hil (by decide)
      have l2 := rotl_lt (n := 2) hil (by decide)
      have l3 := rotl_lt (n := 3) hil (by decide)
      have l4 := rotl_lt (n := 4) hil (by decide)
      have e1 := x8 hil l1
      have k1 := xor8 hil l1
      have e2 := x8 k1 l2
      have k2 := xor8 k1 l2
      have e3 := x8 k2 l3
      have k3 := xor8 k2 l3
      have e4 := x8 k3 l4
      have k4 := xor8 k3 l4
      have e5 : bits BinOp.xor .u8 ((i ^^^ rotl i 1 ^^^ rotl i 2 ^^^ rotl i 3 ^^^ rotl i 4 : Nat) : Int) 99 = ((i ^^^ rotl i 1 ^^^ rotl i 2 ^^^ rotl i 3 ^^^ rotl i 4 ^^^ 99 : Nat) : Int) := x8 k4 (show 99 < 256 by decide)
      go_wp2_with (first | (go_at_call 188; (first | (with_reducible refine (rleft_any i 1 1 _ hil (by decide) (by decide)).mono ?_) | (with_reducible refine (rleft_any i 2 2 _ hil (by decide) (by decide)).mono ?_) | (with_reducible refine (rleft_any i 3 3 _ hil (by decide) (by decide)).mono ?_) | (with_reducible refine (rleft_any i 4 4 _ hil (by decide) (by decide)).mono ?_)); rintro e w' ⟨rfl, rfl⟩) | (go_at_call 189; (first | (with_reducible refine (HX3.out _).mono ?_) | (with_reducible refine (HI6.out _).mono ?_)); rintro e w' ⟨rfl, rfl⟩))
      go_roundw
      case rel => exact ⟨k + 1, by omega, by go_num, by rw [HE.out.1], by rw [HE.out.2], HR.out, HB.out⟩
      case measure => simp [intOf]; omega
    · obtain rfl : k = 255 := by omega
      go_wp2_with fail
      go_ret
      exact ⟨rfl, H1.out.congr fun j hj => bxs_all hj, H2.out⟩
end Go.Proofs.YthmlcmlpmolmoaaGreatDoor
