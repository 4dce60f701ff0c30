/- 13 texts in one, in their order. -/
import Derived.Test.YtgcdnhjjoidpmaaGreatDoorPk1
/- Contracts of package aes: what each use of a key needs. -/
namespace Go.Proofs.YtgcdnhjjoidpmaaGreatDoor
open Go.RowKit

theorem gm2_dbl : ∀ a, a < 256 → gm 2 a = dbl a := by decide +kernel
/-- a table behind k of its entries -/
def tabk (f : Nat → Nat) (k j : Nat) : Nat := if j < k then f j else 0
def untab (k y : Nat) : Nat := if unbox y < k then unbox y else 0
theorem tabk_step (f : Nat → Nat) (k j : Nat) : (if j = k then f k else tabk f k j) = tabk f (k + 1) j := by
  unfold tabk
  by_cases e : j = k
  · subst e; rw [if_pos rfl, if_pos (Nat.lt_succ_self _)]
  · rw [if_neg e]
    by_cases h : j < k
    · rw [if_pos h, if_pos (by omega)]
    · rw [if_neg h, if_neg (by omega)]
theorem tabk_all (f : Nat → Nat) (j : Nat) (h : j < 256) : tabk f 256 j = f j := if_pos h
theorem untab_step {k : Nat} (hk : k < 256) (y : Nat) (hy : y < 256) : (if y = box k then k else untab k y) = untab (k + 1) y := by
  unfold untab
  by_cases e : y = box k
  · rw [if_pos e, e, unbox_box hk, if_pos (Nat.lt_succ_self _)]
  · have : unbox y ≠ k := fun h => e (by rw [← h, box_unbox hy])
    rw [if_neg e]
    by_cases h : unbox y < k
    · rw [if_pos h, if_pos (by omega)]
    · rw [if_neg h, if_neg (by omega)]
theorem untab_all (y : Nat) (h : y < 256) : untab 256 y = unbox y := if_pos (unbox_lt h)

set_option maxRecDepth 100000 in
set_option maxHeartbeats 1600000 in
theorem prepare_any (g n : Nat) (key : Nat → Nat) (w : World) (hn : n = 4 ∨ n = 8) (hkey : By (4 * n) key) (hk : KeyMem w g n 0 1 (sch n key 0) (fun _ => 0) (fun _ => 0) (fun _ => 0)) :
    Calls Tryz.prog 81 #[.pointer (some ⟨g, 0, none⟩)] w fun e w' => e = .returned (.tuple #[]) ∧ (KeyMem w' g n 0 1 (ks n key) box unbox dbl ∧ Chg g w w') := by
  have HK := Lib.hid hk
  have HN := Lib.hid hn
  have HY := Lib.hid hkey
  clear hk hn hkey
  go_enter Tryz.func81, Tryz.ntmps81
  go_wp2_with fail
  go_loopw [5] (fun v wr => ∃ k : Nat, k ≤ 256 ∧ v = .int .i64 k ∧ KeyMem wr g n 0 1 (sch n key 0) (tabk box k) (untab k) (tabk dbl k) ∧ Chg g w wr) (fun v _ => 256 - (intOf v).toNat)
  case atStart => exact ⟨0, by decide, rfl, HK.out.congr (fun _ _ => rfl) (fun j _ => (if_neg (Nat.not_lt_zero _)).symm) (fun j _ => (if_neg (Nat.not_lt_zero _)).symm) (fun j _ => (if_neg (Nat.not_lt_zero _)).symm), Chg.refl _ _⟩
  case round =>
    obtain ⟨k, hk, rfl, h1, h2⟩ := hrel
    have H1 := Lib.hid h1
    have H2 := Lib.hid h2
    clear h1 h2
    by_cases hlt : k < 256
    · have hbl := box_lt hlt
      have hdl := dbl_lt hlt
      have HBX := Lib.hid fun w => box_any k w hlt
      have HML := Lib.hid fun w => (show Calls Tryz.prog 94 #[.int .u8 2, .int .u8 (k : Nat)] w fun e w' => e = .returned (.int .u8 (dbl k : Nat)) ∧ w = w' by rw [← gm2_dbl k hlt]; exact mul_any 2 k w (by decide) hlt)
      have HM1 := Lib.hid (((H1.out.setBox hlt (k := 244 + k) rfl (box k) rfl).congr (fun _ _ => rfl) (fun j _ => tabk_step box k j) (fun _ _ => rfl) (fun _ _ => rfl)).drew)
      have HC1 := Lib.hid ((H2.out.setCell (a := ⟨g, 244 + k, none⟩) (Or.inl rfl) (.int .u8 (box k : Nat))).drew)
      have hc1 := H1.out.box.cell hlt rfl
      have hf1 := H1.out.box.frozen hlt rfl
      have HT1 := Lib.hid (show tabk box (k + 1) k = box k from if_pos (Nat.lt_succ_self k))
      have HU1 := Lib.hid fun y (hy : y < 256) => untab_step hlt y hy
      generalize hbx : box k = x at *
      clear hbx
      go_wp2_with fail
      go_region_with (go_at_call 93; refine (HBX.out _).mono ?_; rintro e w' ⟨rfl, rfl⟩)
      all_goals
        generalize (wr.setCell ⟨g, 244 + k, none⟩ (.int .u8 (x : Nat))).drew = W1 at *
        clear hc1 hf1
        have hc1 := HM1.out.box.cell hlt rfl
        rw [HT1.out] at hc1
        have hc2 := HM1.out.unbox.cell hbl rfl
        have hf2 := HM1.out.unbox.frozen hbl rfl
        have HM2 := Lib.hid (((HM1.out.setUnbox hbl (k := 500 + x) rfl k rfl).congr (fun _ _ => rfl) (fun _ _ => rfl) (fun j hj => HU1.out j hj) (fun _ _ => rfl)).drew)
        have HC2 := Lib.hid ((HC1.out.setCell (a := ⟨g, 500 + x, none⟩) (Or.inl rfl) (.int .u8 (k : Nat))).drew)
        go_wp2_with fail
        go_region
      all_goals
        generalize (W1.setCell ⟨g, 500 + x, none⟩ (.int .u8 (k : Nat))).drew = W2 at *
        clear hc1 hf2 hc2
        have hc3 := HM2.out.dbl.cell hlt rfl
        have hf3 := HM2.out.dbl.frozen hlt rfl
        have HM3 := Lib.hid (((HM2.out.setDbl hlt (k := 756 + k) rfl (dbl k) rfl).congr (fun _ _ => rfl) (fun _ _ => rfl) (fun _ _ => rfl) (fun j _ => tabk_step dbl k j)).drew)
        have HC3 := Lib.hid ((HC2.out.setCell (a := ⟨g, 756 + k, none⟩) (Or.inl rfl) (.int .u8 (dbl k : Nat))).drew)
        generalize hdx : dbl k = d at *
        clear hdx
        go_wp2_with fail
        go_region_with (go_at_call 94; refine (HML.out _).mono ?_; rintro e w' ⟨rfl, rfl⟩)
      all_goals
        generalize (W2.setCell ⟨g, 756 + k, none⟩ (.int .u8 (d : Nat))).drew = W3 at *
        clear hc3 hf3
        go_wp2_with fail
        go_roundw
        case rel => exact ⟨k + 1, by omega, by go_num, HM3.out, HC3.out⟩
        case measure => simp [intOf]; omega
    · obtain rfl : k = 256 := by omega
      have HM := Lib.hid (H1.out.congr (fun _ _ => rfl) (fun j hj => tabk_all box j hj) (fun j hj => untab_all j hj) (fun j hj => tabk_all dbl j hj))
      have hw := HM.out.words
      have hn4 : (4 : Int) ≤ (n : Nat) := by have := HN.out; omega
      have hn8 : ((n : Nat) : Int) ≤ 8 := by have := HN.out; omega
      have hn9 : n ≤ 8 := by omega
      clear H1
      rw [show ((256 : Nat) : Int) = 256 from rfl]
      go_wp2_with fail
      go_loopw [4] (fun v wx => ∃ k : Nat, k ≤ 3 * n + 28 ∧ v = .int .i64 ((n + k : Nat) : Int) ∧ KeyMem wx g n 0 1 (sch n key k) box unbox dbl ∧ Chg g w wx) (fun v _ => 60 - (intOf v).toNat)
      case atStart => exact ⟨0, Nat.zero_le _, rfl, HM.out, H2.out⟩
      case round =>
        obtain ⟨k, hk, rfl, h1, h2⟩ := hrel
        have H1 := Lib.hid h1
        have H3 := Lib.hid h2
        clear h1 h2
        have hw1 := H1.out.words
        by_cases hlt : k < 3 * n + 28
        · obtain ⟨i, hi⟩ : ∃ i, n + k = i := ⟨_, rfl⟩
          have hi2 : i < (n + 7) * 4 := by omega
          have hin : n ≤ i := by omega
          have hi60 : i < 60 := by omega
          have HMW := Lib.hid (make_any g n i 1 (sch n key k) unbox dbl _ HN.out hin hi60 (fun j _ => sch_by (by have := HN.out; omega) HY.out k j) H1.out)
          have HI := Lib.hid hi
          rw [hi]
          clear hi
          go_wp2_with (first | (go_at_call 83; refine (last_any g n _ hn9 hw1).mono ?_; rintro e w' ⟨rfl, rfl⟩) | (go_at_call 95; refine HMW.out.mono ?_; rintro e w' ⟨rfl, h1, h2⟩; have HM5 := Lib.hid h1; have HC5 := Lib.hid h2; clear h1 h2))
          go_roundw
          case rel => exact ⟨k + 1, by omega, by rw [← HI.out]; go_num, by
            have h := HM5.out
            rw [← HI.out] at h
            exact h, H3.out.trans HC5.out⟩
          case measure => simp [intOf]; omega
        · obtain rfl : k = 3 * n + 28 := by omega
          have hend : ¬ ((n + (3 * n + 28) : Nat) : Int) < ((n : Int) + 6 + 1) * 16 / 4 := by omega
          have HR := Lib.hid (show KeyMem wr g n 0 1 (ks n key) box unbox dbl from H1.out)
          generalize n + (3 * n + 28) = e at *
          clear H1 hk hlt
          go_wp2_with ((go_at_call 83; refine (last_any g n _ hn9 hw1).mono ?_; rintro e w' ⟨rfl, rfl⟩))
          go_end0
          exact ⟨rfl, HR.out, H3.out⟩
end Go.Proofs.YtgcdnhjjoidpmaaGreatDoor
/- Contracts of package aes: the first use of a key; the steps of a round. -/
namespace Go.Proofs.YtgcdnhjjoidpmaaGreatDoor
open Go.RowKit

abbrev KeyReady (w : World) (g n : Nat) (key : Nat → Nat) : Prop := KeyMem w g n 1 0 (ks n key) box unbox dbl
/-- a key that was made, asked or not -/
def KeyAt (w : World) (g n : Nat) (key : Nat → Nat) : Prop := KeyMem w g n 0 0 (sch n key 0) (fun _ => 0) (fun _ => 0) (fun _ => 0) ∨ KeyReady w g n key
theorem KeyAt.of_block {w w' : World} {g n : Nat} {key : Nat → Nat} (h : KeyAt w g n key) (e : w'.heap[g]? = w.heap[g]?) : KeyAt w' g n key := h.imp (·.of_block e) (·.of_block e)
theorem KeyAt.lt {w : World} {g n : Nat} {key : Nat → Nat} (h : KeyAt w g n key) : g < w.heap.size := h.elim (·.lt) (·.lt)
theorem KeyAt.keep {w w' : World} {g n : Nat} {key : Nat → Nat} (h : KeyAt w g n key) (hb : Below w.heap.size w w') : KeyAt w' g n key := h.of_block (hb.block g h.lt)
theorem KeyAt.chg {w w' : World} {g n K : Nat} {key : Nat → Nat} (h : KeyAt w g n key) (hb : Chg K w w') (hK : g ≠ K) : KeyAt w' g n key := h.of_block (hb.block g h.lt hK)
theorem once_any (g n : Nat) (key : Nat → Nat) (w : World) (hn : n = 4 ∨ n = 8) (hkey : By (4 * n) key) (hk : KeyAt w g n key) :
    Calls Tryz.prog 62 #[.pointer (some ⟨g, 241, none⟩), .func (.func 81) #[.pointer (some ⟨g, 0, none⟩)] #[]] w fun e w' => e = .returned (.tuple #[]) ∧ KeyReady w' g n key ∧ Chg g w w' := by
  rcases hk with hk | hk
  · refine (do_first g 241 (.pointer (some ⟨g, 0, none⟩)) w hk.once (fun w1 => KeyMem w1 g n 0 1 (ks n key) box unbox dbl ∧ Chg g (w.setCell ⟨g, 242, none⟩ (.int .i32 1)) w1) (prepare_any g n key _ hn hkey (hk.setLock 1 rfl)) fun w1 h => h.1.once).mono ?_
    rintro e w' ⟨he, w1, ⟨h1, h2⟩, rfl⟩
    exact ⟨he, (h1.drew.setDone 1 rfl).setLock 0 rfl, ((((Chg.refl g w).setCell (a := ⟨g, 242, none⟩) (Or.inl rfl) _).trans h2).drew.setCell (a := ⟨g, 241, none⟩) (Or.inl rfl) _).setCell (a := ⟨g, 242, none⟩) (Or.inl rfl) _⟩
  · refine (do_done g 241 _ 0 w hk.once).mono ?_
    rintro e w' ⟨he, rfl⟩
    exact ⟨he, hk, Chg.refl _ _⟩

abbrev z16 : Array Value := #[.int .u8 0, .int .u8 0, .int .u8 0, .int .u8 0, .int .u8 0, .int .u8 0, .int .u8 0, .int .u8 0, .int .u8 0, .int .u8 0, .int .u8 0, .int .u8 0, .int .u8 0, .int .u8 0, .int .u8 0, .int .u8 0]
theorem made65 (w : World) : Arr (w.alloc (.cells #[.int .u8 0, .int .u8 0, .int .u8 0, .int .u8 0, .int .u8 0, .int .u8 0, .int .u8 0, .int .u8 0, .int .u8 0, .int .u8 0, .int .u8 0, .int .u8 0, .int .u8 0, .int .u8 0, .int .u8 0, .int .u8 0] 130)) w.heap.size 0 16 (fun _ => 0) := arr_made w _ _ 16 _ rfl
set_option maxHeartbeats 1600000 in
theorem add_any (g s r : Nat) (S f : Nat → Nat) (w : World) (hr : r ≤ 14) (hS : Arr w g 1 240 S) (hs : Arr w s 0 16 f) (hSb : By 240 S) (hf : By 16 f) :
    Calls Tryz.prog 82 #[.pointer (some ⟨g, 0, none⟩), .pointer (some ⟨s, 0, none⟩), .int .i64 (r : Nat)] w fun e w' => e = .returned (.tuple #[]) ∧ Arr w' s 0 16 (addk S r f) ∧ Chg s w w' := by
  have hsl := sl_arr 126 240 g 1 (16 * r) (16 * r + 16) Tryz.underlying126 (by omega) (by omega) (by omega) ((r : Int) * 16) (((r : Int) + 1) * 16) (by omega) (by omega)
  rw [show 16 * r + 16 - 16 * r = 16 by omega] at hsl
  have hpa := to_arr 130 16 5 Tryz.underlying130 (some ⟨g, 1 + 16 * r, none⟩) 16 (240 - 16 * r) (Nat.le_refl _)
  have HL := Lib.hid (hS.sub (a := 16 * r) (m := 16) (by omega) rfl)
  have HS := Lib.hid hs
  have HSB := Lib.hid hSb
  have HF := Lib.hid hf
  have HG := Lib.hid (hs.lt (by decide))
  clear hS hs hSb hf
  go_enter Tryz.func82, Tryz.ntmps82
  have HL0 := Lib.hid (HL.out.alloc (.cells z16 130))
  have HN0 := Lib.hid (made65 w)
  have HC0 := Lib.hid ((Chg.refl s w).alloc (.cells z16 130))
  have HS0 := Lib.hid (HS.out.alloc (.cells z16 130))
  go_wp2_with (first | (refine wpList_loadB rfl 130 (.tmp 18) rfl g (1 + 16 * r) 16 rfl _ HL.out _ Tryz.underlying130 rfl size65 ?_) | (refine wpList_storeB rfl 130 (.tmp 6) (.tmp 19) rfl w.heap.size 0 16 _ _ rfl rfl HN0.out size65 ?_; intro w2 h1 h2; have HR2 := Lib.hid h1; have HC2 := Lib.hid (HC0.out.thenNew h2 (Nat.le_refl _)); have HS2 := Lib.hid (HS0.out.chg h2 (Nat.ne_of_lt HG.out)); clear h1 h2) | (refine wpList_loadB rfl 130 (.tmp 6) rfl w.heap.size 0 16 rfl _ HR2.out _ Tryz.underlying130 rfl size65 ?_))
  clear HL0 HN0 HC0 HS0 HR2
  go_loopw [21] (fun v wr => ∃ k : Nat, k ≤ 16 ∧ v = .int .i64 k ∧ Arr wr s 0 16 (fun j => if j < k then addk S r f j else f j) ∧ Chg s w wr) (fun v _ => 16 - (intOf v).toNat)
  case atStart => exact ⟨0, by decide, rfl, HS2.out.congr fun j _ => (if_neg (Nat.not_lt_zero _)).symm, HC2.out⟩
  case round =>
    obtain ⟨k, hk, rfl, h1, h2⟩ := hrel
    have H1 := Lib.hid h1
    have H2 := Lib.hid h2
    clear h1 h2
    by_cases hlt : k < 16
    · obtain ⟨x, hx⟩ : ∃ x, S (16 * r + k) = x := ⟨_, rfl⟩
      have hix := index_arr 130 16 (fun j => S (16 * r + j)) k x Tryz.underlying130 hlt hx
      have hxl : x < 256 := by rw [← hx]; exact HSB.out _ (by omega)
      have hc := H1.out.cell hlt (Nat.zero_add k).symm
      have hf := H1.out.frozen hlt (Nat.zero_add k).symm
      rw [if_neg (Nat.lt_irrefl k)] at hc
      have hyl := HF.out k hlt
      have HX := Lib.hid (show addk S r f k = f k ^^^ x by unfold addk; rw [hx])
      have HM := Lib.hid (((H1.out.set hlt (Nat.zero_add k).symm (f k ^^^ x) rfl).congr fun j _ => upto_step f (addk S r f) k _ HX.out j).drew)
      have HC := Lib.hid ((H2.out.setCell (a := ⟨s, k, none⟩) (Or.inl rfl) (.int .u8 ((f k ^^^ x : Nat) : Int))).drew)
      clear hx
      generalize f k = y at *
      have hxy := x8 hyl hxl
      go_wp2_with fail
      go_region
      all_goals
        generalize (wr.setCell ⟨s, k, none⟩ (.int .u8 ((y ^^^ x : Nat) : Int))).drew = W at *
        clear hc hf
        go_wp2_with fail
        go_roundw
        case rel => exact ⟨k + 1, by omega, by go_num, HM.out, HC.out⟩
        case measure => simp [intOf]; omega
    · obtain rfl : k = 16 := by omega
      go_wp2_with fail
      go_end0
      exact ⟨rfl, H1.out.congr fun j hj => if_pos hj, H2.out⟩

set_option maxHeartbeats 1600000 in
theorem subst_any (g o s st : Nat) (T f : Nat → Nat) (w : World) (hst : st = 4 ∨ st = 12) (hT : Arr w g o 256 T) (hs : Arr w s 0 16 f) (hf : By 16 f) :
    Calls Tryz.prog 84 #[.pointer (some ⟨g, o, none⟩), .pointer (some ⟨s, 0, none⟩), .int .u64 (st : Nat)] w fun e w' => e = .returned (aggB 16 (subs T st f)) ∧ Below w.heap.size w w' := by
  have HT := Lib.hid ((hT.alloc (.cells z16 130)).alloc (.cells z16 130))
  have HS := Lib.hid ((hs.alloc (.cells z16 130)).alloc (.cells z16 130))
  have HF := Lib.hid hf
  have HG := Lib.hid (show s < w.heap.size ∧ g < w.heap.size from ⟨hs.lt (by decide), hT.lt (by decide)⟩)
  have hs1 : (w.alloc (.cells z16 130)).heap.size = w.heap.size + 1 := by simp
  have HO := Lib.hid ((made65 w).alloc (.cells z16 130))
  have hM := made65 (w.alloc (.cells z16 130))
  rw [hs1] at hM
  have HM := Lib.hid hM
  have HB := Lib.hid (((Below.refl w.heap.size w).alloc (Nat.le_refl _) (.cells z16 130)).alloc (by simp) (.cells z16 130))
  have HST := Lib.hid hst
  have hst2 : st < 256 := by omega
  clear hT hs hf hM hs1 hst
  go_enter Tryz.func84, Tryz.ntmps84
  go_wp2_with fail
  generalize hW : (w.alloc (.cells z16 130)).alloc (.cells z16 130) = W at *
  clear hW
  go_loopw [9] (fun v wr => ∃ k : Nat, k ≤ 16 ∧ v = .int .u64 k ∧ Arr wr (w.heap.size + 1) 0 16 (fun j => if j < k then subs T st f j else 0) ∧ Arr wr w.heap.size 0 16 (fun _ => 0) ∧ Arr wr g o 256 T ∧ Arr wr s 0 16 f ∧ Below w.heap.size w wr) (fun v _ => 16 - (intOf v).toNat)
  case atStart => exact ⟨0, by decide, rfl, HM.out.congr fun j _ => (if_neg (Nat.not_lt_zero _)).symm, HO.out, HT.out, HS.out, HB.out⟩
  case round =>
    obtain ⟨k, hk, rfl, h1, h2, h3, h4, h5⟩ := hrel
    have H1 := Lib.hid h1
    have H2 := Lib.hid h2
    have H3 := Lib.hid h3
    have H4 := Lib.hid h4
    have H5 := Lib.hid h5
    clear h1 h2 h3 h4 h5
    by_cases hlt : k < 16
    · obtain ⟨e, he⟩ : ∃ e, (k + st * (k % 4)) % 16 = e := ⟨_, rfl⟩
      have hel : e < 16 := by omega
      have hix : (IntKind.u64.wrap ((k : Int) + IntKind.u64.wrap ((st : Int) * ((k : Int) % 4)))).tmod 16 = (e : Nat) := by
        have hb : st * (k % 4) < 1024 := by rcases HST.out with h | h <;> subst h <;> omega
        obtain ⟨m, hm⟩ : ∃ m, st * (k % 4) = m := ⟨_, rfl⟩
        rw [hm] at hb he
        have h1 : (st : Int) * ((k : Int) % 4) = (m : Nat) := by rw [← hm]; simp
        have h2 : IntKind.u64.wrap ((m : Nat) : Int) = (m : Nat) := IntWalk.u64_in _ (by omega)
        rw [h1, h2, IntWalk.u64_in _ (by omega), Int.tmod_eq_emod_of_nonneg (by omega)]
        omega
      obtain ⟨x, hx⟩ : ∃ x, f e = x := ⟨_, rfl⟩
      have hxl : x < 256 := by rw [← hx]; exact HF.out e hel
      have hc1 := H4.out.cell hel (Nat.zero_add e).symm
      rw [hx] at hc1
      have hc2 := H3.out.cell hxl rfl
      have hc3 := H1.out.cell hlt (Nat.zero_add k).symm
      have hf3 := H1.out.frozen hlt (Nat.zero_add k).symm
      rw [if_neg (Nat.lt_irrefl k)] at hc3
      have HX := Lib.hid (show subs T st f k = T x by unfold subs; rw [he, hx])
      have HM1 := Lib.hid (((H1.out.set hlt (Nat.zero_add k).symm (T x) rfl).congr fun j _ => upto_step (fun _ => 0) (subs T st f) k _ HX.out j).drew)
      have HB1 := Lib.hid ((H5.out.setCell (p := ⟨w.heap.size + 1, k, none⟩) (Nat.le_succ _) (.int .u8 (T x : Nat))).drew)
      have HO1 := Lib.hid ((H2.out.setOther (a := ⟨w.heap.size + 1, k, none⟩) (Nat.ne_of_lt (Nat.lt_succ_self _)) (.int .u8 (T x : Nat))).drew)
      have HT1 := Lib.hid ((H3.out.setOther (a := ⟨w.heap.size + 1, k, none⟩) (Nat.ne_of_lt (Nat.lt_succ_of_lt HG.out.2)) (.int .u8 (T x : Nat))).drew)
      have HS1 := Lib.hid ((H4.out.setOther (a := ⟨w.heap.size + 1, k, none⟩) (Nat.ne_of_lt (Nat.lt_succ_of_lt HG.out.1)) (.int .u8 (T x : Nat))).drew)
      clear hx he
      generalize T x = y at *
      go_wp2_with fail
      go_region
      all_goals
        generalize (wr.setCell ⟨w.heap.size + 1, k, none⟩ (.int .u8 (y : Nat))).drew = W2 at *
        clear hc1 hc2 hc3 hf3 hix
        go_wp2_with fail
        go_roundw
        case rel => exact ⟨k + 1, by omega, by go_num, HM1.out, HO1.out, HT1.out, HS1.out, HB1.out⟩
        case measure => simp [intOf]; omega
    · obtain rfl : k = 16 := by omega
      have HR := Lib.hid (H1.out.congr (f := subs T st f) fun j hj => if_pos hj)
      go_wp2_with (first | (refine wpList_loadB rfl 130 (.tmp 7) rfl (w.heap.size + 1) 0 16 rfl _ HR.out _ Tryz.underlying130 rfl size65 ?_) | (refine wpList_storeB rfl 130 (.tmp 6) (.tmp 30) rfl w.heap.size 0 16 _ _ rfl rfl H2.out size65 ?_; intro w2 h1 h2; have HR2 := Lib.hid h1; have HC2 := Lib.hid h2; clear h1 h2))
      exact bodyPost_ret (results_cellB rfl _ _ w.heap.size 0 16 _ rfl HR2.out _ Tryz.underlying130 rfl size65) rfl ⟨rfl, H5.out.trans (HC2.out.below H5.out.size (Nat.le_refl _))⟩
end Go.Proofs.YtgcdnhjjoidpmaaGreatDoor
/- Contracts of package aes: mixing. -/
namespace Go.Proofs.YtgcdnhjjoidpmaaGreatDoor
open Go.RowKit

theorem mix_col (f : Nat → Nat) (q : Nat) : mixc f (4 * q) = mx (f (4 * q)) (f (4 * q + 1)) (f (4 * q + 2)) (f (4 * q + 3)) ∧ mixc f (4 * q + 1) = mx (f (4 * q + 1)) (f (4 * q + 2)) (f (4 * q + 3)) (f (4 * q)) ∧
    mixc f (4 * q + 2) = mx (f (4 * q + 2)) (f (4 * q + 3)) (f (4 * q)) (f (4 * q + 1)) ∧ mixc f (4 * q + 3) = mx (f (4 * q + 3)) (f (4 * q)) (f (4 * q + 1)) (f (4 * q + 2)) := by
  refine ⟨?_, ?_, ?_, ?_⟩
  · unfold mixc
    rw [show 4 * (4 * q / 4) + 4 * q % 4 = 4 * q by omega, show 4 * (4 * q / 4) + (4 * q + 1) % 4 = 4 * q + 1 by omega, show 4 * (4 * q / 4) + (4 * q + 2) % 4 = 4 * q + 2 by omega, show 4 * (4 * q / 4) + (4 * q + 3) % 4 = 4 * q + 3 by omega]
  · unfold mixc
    rw [show 4 * ((4 * q + 1) / 4) + (4 * q + 1) % 4 = 4 * q + 1 by omega, show 4 * ((4 * q + 1) / 4) + (4 * q + 1 + 1) % 4 = 4 * q + 2 by omega, show 4 * ((4 * q + 1) / 4) + (4 * q + 1 + 2) % 4 = 4 * q + 3 by omega, show 4 * ((4 * q + 1) / 4) + (4 * q + 1 + 3) % 4 = 4 * q by omega]
  · unfold mixc
    rw [show 4 * ((4 * q + 2) / 4) + (4 * q + 2) % 4 = 4 * q + 2 by omega, show 4 * ((4 * q + 2) / 4) + (4 * q + 2 + 1) % 4 = 4 * q + 3 by omega, show 4 * ((4 * q + 2) / 4) + (4 * q + 2 + 2) % 4 = 4 * q by omega, show 4 * ((4 * q + 2) / 4) + (4 * q + 2 + 3) % 4 = 4 * q + 1 by omega]
  · unfold mixc
    rw [show 4 * ((4 * q + 3) / 4) + (4 * q + 3) % 4 = 4 * q + 3 by omega, show 4 * ((4 * q + 3) / 4) + (4 * q + 3 + 1) % 4 = 4 * q by omega, show 4 * ((4 * q + 3) / 4) + (4 * q + 3 + 2) % 4 = 4 * q + 1 by omega, show 4 * ((4 * q + 3) / 4) + (4 * q + 3 + 3) % 4 = 4 * q + 2 by omega]

set_option maxRecDepth 100000 in
set_option maxHeartbeats 3200000 in
theorem mix_any (g s : Nat) (f : Nat → Nat) (w : World) (hD : Arr w g 756 256 dbl) (hs : Arr w s 0 16 f) (hf : By 16 f) (hne : g ≠ s) :
    Calls Tryz.prog 85 #[.pointer (some ⟨g, 0, none⟩), .pointer (some ⟨s, 0, none⟩)] w fun e w' => e = .returned (.tuple #[]) ∧ Arr w' s 0 16 (mixc f) ∧ Chg s w w' := by
  have HS := Lib.hid hs
  have HD := Lib.hid hD
  have HF := Lib.hid hf
  have HNE := Lib.hid hne
  clear hs hD hf hne
  go_enter Tryz.func85, Tryz.ntmps85
  go_wp2_with fail
  go_loopw [4] (fun v wr => ∃ q : Nat, q ≤ 4 ∧ v = .int .i64 ((4 * q : Nat) : Int) ∧ Arr wr s 0 16 (fun j => if j < 4 * q then mixc f j else f j) ∧ Chg s w wr) (fun v _ => 16 - (intOf v).toNat)
  case atStart => exact ⟨0, by decide, rfl, HS.out.congr fun j _ => (if_neg (Nat.not_lt_zero _)).symm, Chg.refl _ _⟩
  case round =>
    obtain ⟨q, hq, rfl, h1, h2⟩ := hrel
    have H1 := Lib.hid h1
    have H2 := Lib.hid h2
    have H3 := Lib.hid (HD.out.chg h2 HNE.out)
    clear h1 h2
    have HMC := Lib.hid (mix_col f q)
    obtain ⟨c, hc⟩ : ∃ c, 4 * q = c := ⟨_, rfl⟩
    rw [hc] at H1 HMC ⊢
    have HCQ := Lib.hid hc
    clear hc
    by_cases hlt : c < 16
    · have hc12 : c + 3 < 16 := by have := HCQ.out; omega
      have hsl := sl_arr 130 16 s 0 c (c + 4) Tryz.underlying130 (by omega) (by omega) (by omega) (c : Int) ((c : Int) + 4) rfl (by omega)
      rw [show c + 4 - c = 4 by omega, Nat.zero_add] at hsl
      have hpa := to_arr 153 4 5 Tryz.underlying153 (some ⟨s, c, none⟩) 4 (16 - c) (Nat.le_refl _)
      have hcl : ∀ i, i < 4 → wr.cell? ⟨s, c + i, none⟩ = some (.int .u8 (f (c + i) : Nat)) := fun i hi => by
        have := H1.out.cell (j := c + i) (k := c + i) (by omega) (Nat.zero_add _).symm
        rw [if_neg (by omega)] at this
        exact this
      have l0 : f (c) < 256 := HF.out _ (by omega)
      have hc0 : wr.cell? ⟨s, c, none⟩ = some (.int .u8 (f (c) : Nat)) := hcl 0 (by decide)
      have l1 : f (c + 1) < 256 := HF.out _ (by omega)
      have hc1 : wr.cell? ⟨s, c + 1, none⟩ = some (.int .u8 (f (c + 1) : Nat)) := hcl 1 (by decide)
      have l2 : f (c + 2) < 256 := HF.out _ (by omega)
      have hc2 : wr.cell? ⟨s, c + 2, none⟩ = some (.int .u8 (f (c + 2) : Nat)) := hcl 2 (by decide)
      have l3 : f (c + 3) < 256 := HF.out _ (by omega)
      have hc3 : wr.cell? ⟨s, c + 3, none⟩ = some (.int .u8 (f (c + 3) : Nat)) := hcl 3 (by decide)
      clear hcl
      generalize ha0 : f (c) = a0 at *
      generalize ha1 : f (c + 1) = a1 at *
      generalize ha2 : f (c + 2) = a2 at *
      generalize ha3 : f (c + 3) = a3 at *
      have HA := Lib.hid (show f c = a0 ∧ f (c + 1) = a1 ∧ f (c + 2) = a2 ∧ f (c + 3) = a3 from ⟨ha0, ha1, ha2, ha3⟩)
      clear ha0 ha1 ha2 ha3
      have p1 := x8 l0 l1
      have m1 := xor8 l0 l1
      have p2 := x8 m1 l2
      have m2 := xor8 m1 l2
      have p3 := x8 m2 l3
      have m3 := xor8 m2 l3
      have q1 := x8 l1 l2
      have n1 := xor8 l1 l2
      have q2 := x8 l2 l3
      have n2 := xor8 l2 l3
      have q3 := x8 l3 l0
      have n3 := xor8 l3 l0
      have d0 := dbl_lt m1
      have r0 := x8 m3 d0
      have u0 := xor8 m3 d0
      have v0 := x8 l0 u0
      have d1 := dbl_lt n1
      have r1 := x8 m3 d1
      have u1 := xor8 m3 d1
      have v1 := x8 l1 u1
      have d2 := dbl_lt n2
      have r2 := x8 m3 d2
      have u2 := xor8 m3 d2
      have v2 := x8 l2 u2
      have d3 := dbl_lt n3
      have r3 := x8 m3 d3
      have u3 := xor8 m3 d3
      have v3 := x8 l3 u3
      have HY0 := Lib.hid (show mixc f (c) = a0 ^^^ ((((a0 ^^^ a1) ^^^ a2) ^^^ a3) ^^^ dbl (a0 ^^^ a1)) by
        rw [HMC.out.1, ← mx_code a2 a3 l0 l1])
      have HY1 := Lib.hid (show mixc f (c + 1) = a1 ^^^ ((((a0 ^^^ a1) ^^^ a2) ^^^ a3) ^^^ dbl (a1 ^^^ a2)) by
        rw [HMC.out.2.1, ← mx_code a3 a0 l1 l2]
        congr 2
        ac_rfl)
      have HY2 := Lib.hid (show mixc f (c + 2) = a2 ^^^ ((((a0 ^^^ a1) ^^^ a2) ^^^ a3) ^^^ dbl (a2 ^^^ a3)) by
        rw [HMC.out.2.2.1, ← mx_code a0 a1 l2 l3]
        congr 2
        ac_rfl)
      have HY3 := Lib.hid (show mixc f (c + 3) = a3 ^^^ ((((a0 ^^^ a1) ^^^ a2) ^^^ a3) ^^^ dbl (a3 ^^^ a0)) by
        rw [HMC.out.2.2.2, ← mx_code a1 a2 l3 l0]
        congr 2
        ac_rfl)
      have HD0 := Lib.hid fun (W : World) (h : Arr W g 756 256 dbl) => h.cell (j := a0 ^^^ a1) m1 rfl
      have HD1 := Lib.hid fun (W : World) (h : Arr W g 756 256 dbl) => h.cell (j := a1 ^^^ a2) n1 rfl
      have HD2 := Lib.hid fun (W : World) (h : Arr W g 756 256 dbl) => h.cell (j := a2 ^^^ a3) n2 rfl
      have HD3 := Lib.hid fun (W : World) (h : Arr W g 756 256 dbl) => h.cell (j := a3 ^^^ a0) n3 rfl
      clear HMC
      generalize a0 ^^^ ((((a0 ^^^ a1) ^^^ a2) ^^^ a3) ^^^ dbl (a0 ^^^ a1)) = Y0 at *
      generalize ((((a0 ^^^ a1) ^^^ a2) ^^^ a3) ^^^ dbl (a0 ^^^ a1)) = E0 at *
      generalize dbl (a0 ^^^ a1) = D0 at *
      generalize a1 ^^^ ((((a0 ^^^ a1) ^^^ a2) ^^^ a3) ^^^ dbl (a1 ^^^ a2)) = Y1 at *
      generalize ((((a0 ^^^ a1) ^^^ a2) ^^^ a3) ^^^ dbl (a1 ^^^ a2)) = E1 at *
      generalize dbl (a1 ^^^ a2) = D1 at *
      generalize a2 ^^^ ((((a0 ^^^ a1) ^^^ a2) ^^^ a3) ^^^ dbl (a2 ^^^ a3)) = Y2 at *
      generalize ((((a0 ^^^ a1) ^^^ a2) ^^^ a3) ^^^ dbl (a2 ^^^ a3)) = E2 at *
      generalize dbl (a2 ^^^ a3) = D2 at *
      generalize a3 ^^^ ((((a0 ^^^ a1) ^^^ a2) ^^^ a3) ^^^ dbl (a3 ^^^ a0)) = Y3 at *
      generalize ((((a0 ^^^ a1) ^^^ a2) ^^^ a3) ^^^ dbl (a3 ^^^ a0)) = E3 at *
      generalize dbl (a3 ^^^ a0) = D3 at *
      generalize (((a0 ^^^ a1) ^^^ a2) ^^^ a3) = T at *
      generalize (a0 ^^^ a1) ^^^ a2 = T2 at *
      generalize a0 ^^^ a1 = X0 at *
      generalize a1 ^^^ a2 = X1 at *
      generalize a2 ^^^ a3 = X2 at *
      generalize a3 ^^^ a0 = X3 at *
      go_wp2_with fail
      go_quiet (fail)
      have H1q := Lib.hid (H1.out.drewN nq)
      have H2q := Lib.hid (H2.out.drewN nq)
      have H3q := Lib.hid (H3.out.drewN nq)
      generalize wr.drewN nq = W0 at *
      clear hc0 hc1 hc2 hc3 hsl hpa
      have hca := H1q.out.cell (j := c) (k := c) (by omega) (Nat.zero_add _).symm
      have hfa := H1q.out.frozen (j := c) (k := c) (by omega) (Nat.zero_add _).symm
      rw [if_neg (Nat.lt_irrefl _), HA.out.1] at hca
      have hda := HD0.out _ H3q.out
      have G1 := Lib.hid (((H1q.out.set (i := c) (k := c) (by omega) (Nat.zero_add _).symm Y0 rfl).congr fun j _ => upto_step f (mixc f) (c) _ HY0.out j).drew)
      have K1 := Lib.hid ((H2q.out.setCell (a := ⟨s, c, none⟩) (Or.inl rfl) (.int .u8 (Y0 : Nat))).drew)
      have M1 := Lib.hid ((H3q.out.setOther (a := ⟨s, c, none⟩) HNE.out (.int .u8 (Y0 : Nat))).drew)
      go_wp2_with fail
      go_region
      all_goals
        generalize (W0.setCell ⟨s, c, none⟩ (.int .u8 (Y0 : Nat))).drew = W1 at *
        clear hca hfa hda
        have hca := G1.out.cell (j := c + 1) (k := c + 1) (by omega) (Nat.zero_add _).symm
        have hfa := G1.out.frozen (j := c + 1) (k := c + 1) (by omega) (Nat.zero_add _).symm
        rw [if_neg (Nat.lt_irrefl _), HA.out.2.1] at hca
        have hda := HD1.out _ M1.out
        have G2 := Lib.hid (((G1.out.set (i := c + 1) (k := c + 1) (by omega) (Nat.zero_add _).symm Y1 rfl).congr fun j _ => upto_step f (mixc f) (c + 1) _ HY1.out j).drew)
        have K2 := Lib.hid ((K1.out.setCell (a := ⟨s, c + 1, none⟩) (Or.inl rfl) (.int .u8 (Y1 : Nat))).drew)
        have M2 := Lib.hid ((M1.out.setOther (a := ⟨s, c + 1, none⟩) HNE.out (.int .u8 (Y1 : Nat))).drew)
        go_wp2_with fail
        go_region
      all_goals
        generalize (W1.setCell ⟨s, c + 1, none⟩ (.int .u8 (Y1 : Nat))).drew = W2 at *
        clear hca hfa hda
        have hca := G2.out.cell (j := c + 2) (k := c + 2) (by omega) (Nat.zero_add _).symm
        have hfa := G2.out.frozen (j := c + 2) (k := c + 2) (by omega) (Nat.zero_add _).symm
        rw [if_neg (Nat.lt_irrefl _), HA.out.2.2.1] at hca
        have hda := HD2.out _ M2.out
        have G3 := Lib.hid (((G2.out.set (i := c + 2) (k := c + 2) (by omega) (Nat.zero_add _).symm Y2 rfl).congr fun j _ => upto_step f (mixc f) (c + 2) _ HY2.out j).drew)
        have K3 := Lib.hid ((K2.out.setCell (a := ⟨s, c + 2, none⟩) (Or.inl rfl) (.int .u8 (Y2 : Nat))).drew)
        have M3 := Lib.hid ((M2.out.setOther (a := ⟨s, c + 2, none⟩) HNE.out (.int .u8 (Y2 : Nat))).drew)
        go_wp2_with fail
        go_region
      all_goals
        generalize (W2.setCell ⟨s, c + 2, none⟩ (.int .u8 (Y2 : Nat))).drew = W3 at *
        clear hca hfa hda
        have hca := G3.out.cell (j := c + 3) (k := c + 3) (by omega) (Nat.zero_add _).symm
        have hfa := G3.out.frozen (j := c + 3) (k := c + 3) (by omega) (Nat.zero_add _).symm
        rw [if_neg (Nat.lt_irrefl _), HA.out.2.2.2] at hca
        have hda := HD3.out _ M3.out
        have G4 := Lib.hid (((G3.out.set (i := c + 3) (k := c + 3) (by omega) (Nat.zero_add _).symm Y3 rfl).congr fun j _ => upto_step f (mixc f) (c + 3) _ HY3.out j).drew)
        have K4 := Lib.hid ((K3.out.setCell (a := ⟨s, c + 3, none⟩) (Or.inl rfl) (.int .u8 (Y3 : Nat))).drew)
        have M4 := Lib.hid ((M3.out.setOther (a := ⟨s, c + 3, none⟩) HNE.out (.int .u8 (Y3 : Nat))).drew)
        go_wp2_with fail
        go_region
      all_goals
        generalize (W3.setCell ⟨s, c + 3, none⟩ (.int .u8 (Y3 : Nat))).drew = W4 at *
        clear hca hfa hda
        go_wp2_with fail
        go_roundw
        case rel => exact ⟨q + 1, by have := HCQ.out; omega, by have := HCQ.out; go_num, G4.out.congr fun j _ => by rw [show 4 * (q + 1) = c + 3 + 1 by have := HCQ.out; omega], K4.out⟩
        case measure => simp [intOf]; omega
    · have h16 : c = 16 := by have := HCQ.out; omega
      have HR := Lib.hid (H1.out.congr (f := mixc f) fun j hj => if_pos (by omega))
      clear h16
      go_wp2_with fail
      go_end0
      exact ⟨rfl, HR.out, H2.out⟩
end Go.Proofs.YtgcdnhjjoidpmaaGreatDoor
/- Contracts of package aes: a block is encrypted. -/
namespace Go.Proofs.YtgcdnhjjoidpmaaGreatDoor
open Go.RowKit

/-- what an encryption leaves: its result in new memory, the key ready -/
structure BlkP (g n : Nat) (key r : Nat → Nat) (w : World) (e : Ending) (w' : World) (st : Nat) : Prop where
  ret : e = .returned (.tuple #[.slice (some ⟨st, 0, none⟩) 16 16, .int .i64 0])
  new : w.heap.size ≤ st
  row : Arr w' st 0 16 r
  key : KeyReady w' g n key
  chg : Chg g w w'
theorem enc_short (g : Nat) (A : Option Addr) (len cap : Nat) (w : World) (hl : len ≠ 16) (_hl2 : len ≤ 140737488351232) :
    Calls Tryz.prog 67 #[.pointer (some ⟨g, 0, none⟩), .slice A len cap] w fun e w' => e = .returned (.tuple #[.slice none 0 0, .int .i64 1]) ∧ w = w' := by
  have hb : ((len : Int) != 16) = true := by simp; omega
  go_enter Tryz.func67, Tryz.ntmps67
  go_wp2_with fail
  go_ret2
  exact ⟨rfl, rfl⟩
set_option maxRecDepth 100000 in
set_option maxHeartbeats 1600000 in
theorem enc_any (g n : Nat) (key b : Nat → Nat) (A : Option Addr) (cap : Nat) (w : World) (hn : n = 4 ∨ n = 8) (hkey : By (4 * n) key) (hk : KeyAt w g n key) (hA : SlB w A 16 b) (hAg : ∀ B o, A = some ⟨B, o, none⟩ → B ≠ g) :
    Calls Tryz.prog 67 #[.pointer (some ⟨g, 0, none⟩), .slice A 16 cap] w fun e w' => ∃ st, BlkP g n key (enc n (ks n key) b) w e w' st := by
  obtain ⟨B, o, rfl, hB, hbs⟩ := hA (by decide)
  have HO := Lib.hid (once_any g n key w hn hkey hk)
  have HBY := Lib.hid fun j (hj : j < 16) => (hbs j hj).1
  have HBG := Lib.hid (hAg B o rfl)
  have HBS := Lib.hid (show w.rangeAt B o (bytesL 16 b) from fun j v hv => by
    obtain ⟨hj, rfl⟩ := bytesL_get _ _ j v hv
    exact (hbs j hj).2)
  have HBL := Lib.hid hB
  have HN := Lib.hid hn
  have HY := Lib.hid hkey
  have HG := Lib.hid hk.lt
  have hmf : ∀ (fn : Fn) (first cap : Array Value) (w : World), (Instr.makeFunc fn first cap).run Tryz.prog w = .ok (.func fn first cap) w := fun _ _ _ _ => rfl
  have hpa := to_arr 130 16 5 Tryz.underlying130 (some ⟨B, o, none⟩) 16 cap (Nat.le_refl _)
  clear hA hAg hn hkey hk hbs hB
  go_enter Tryz.func67, Tryz.ntmps67
  have HGB := Lib.hid (show By 16 b from fun j hj => HBY.out j hj)
  go_wp2_with (first | (go_at_call 62; refine HO.out.mono ?_; rintro e w1 ⟨rfl, h1, h2⟩; have HK1 := Lib.hid h1; have HC1 := Lib.hid h2; have HR1 := Lib.hid (show w1.rangeAt B o (bytesL 16 b) from fun j v hv => (h2.cell HBL.out HBG.out).trans (HBS.out j v hv)); have HM1 := Lib.hid (made65 w1); have HK2 := Lib.hid (HK1.out.alloc (.cells z16 130)); have HC2 := Lib.hid (HC1.out.alloc (.cells z16 130)); clear h1 h2) | (refine wpList_loadR rfl 130 (.tmp 18) rfl B o 16 rfl _ HR1.out _ Tryz.underlying130 rfl size65 ?_) | (refine wpList_storeB rfl 130 (.tmp 6) (.tmp 19) rfl w1.heap.size 0 16 _ _ rfl rfl HM1.out size65 ?_; intro w2 h1 h2; have HS2 := Lib.hid h1; have HX2 := Lib.hid h2; clear h1 h2))
  have HSL := Lib.hid (show w.heap.size ≤ w1.heap.size from HC1.out.size)
  have HSG := Lib.hid (show g ≠ w1.heap.size from Nat.ne_of_lt HK1.out.lt)
  generalize hst : w1.heap.size = st at *
  have HK3 := Lib.hid (HK2.out.chg HX2.out HSG.out)
  have HC3 := Lib.hid (HC2.out.thenNew HX2.out HSL.out)
  have HSB := Lib.hid fun j (_ : j < 240) => ks_by (by have := HN.out; omega) HY.out j
  have HA1 := Lib.hid (add_any g st 0 (ks n key) b w2 (by decide) HK3.out.sch HS2.out (fun j hj => HSB.out j hj) HGB.out)
  clear HX2 HS2 HM1 HK2 HC2 HC1 HK1 HR1 hst
  go_wp2_with (go_at_call 82; refine HA1.out.mono ?_; rintro e w3 ⟨rfl, h1, h2⟩; have HS4 := Lib.hid h1; have HK4 := Lib.hid (HK3.out.chg h2 HSG.out); have HC4 := Lib.hid (HC3.out.thenNew h2 HSL.out); clear h1 h2)
  clear HA1 HK3 HC3
  go_loopw [7] (fun v wr => ∃ r : Nat, r ≤ n + 6 ∧ v = .int .i64 ((r + 1 : Nat) : Int) ∧ Arr wr st 0 16 (est n (ks n key) b r) ∧ KeyReady wr g n key ∧ Chg g w wr) (fun v _ => 30 - (intOf v).toNat)
  case atStart => exact ⟨0, by omega, rfl, HS4.out, HK4.out, HC4.out⟩
  case round =>
    obtain ⟨r, hr, rfl, h1, h2, h3⟩ := hrel
    have hn8 : n ≤ 8 := by have := HN.out; omega
    have hw := h2.words
    have hby := est_by (S := ks n key) (fun j hj => ks_by (by have := HN.out; omega) HY.out j) HGB.out r hr
    have H1 := Lib.hid h1
    have H2 := Lib.hid h2
    have H3 := Lib.hid h3
    have HBY2 := Lib.hid hby
    clear h1 h2 h3 hby
    obtain ⟨q, hq⟩ : ∃ q, r + 1 = q := ⟨_, rfl⟩
    rw [hq]
    by_cases hlt : r < n + 6
    · have hql : (q : Int) ≤ ((n + 6 : Nat) : Int) := by omega
      have HSU := Lib.hid (subst_any g 244 st 4 box (est n (ks n key) b r) wr (Or.inl rfl) H2.out.box H1.out HBY2.out)
      have HSY := Lib.hid (subs_by box_by 4 HBY2.out)
      have HQ := Lib.hid hq
      clear hq
      have HRK := Lib.hid (show By 240 (ks n key) from fun j hj => HSB.out j hj)
      by_cases hmx : q < n + 6
      · have hmi : decide ((q : Int) < (n : Int) + 6) = true := by rw [decide_eq_true_eq]; omega
        have HE := Lib.hid (show addk (ks n key) q (mixc (subs box 4 (est n (ks n key) b r))) = est n (ks n key) b q by rw [← HQ.out]; show _ = addk _ _ (if r + 1 < n + 6 then _ else _); rw [if_pos (by have := HQ.out; omega)])
        go_wp2_with (first | (go_at_call 83; (first | (with_reducible refine (last_any g n _ hn8 hw).mono ?_) | (with_reducible refine (last_any g n _ hn8 hw5).mono ?_)); rintro e w' ⟨rfl, rfl⟩) | (go_at_call 84; refine HSU.out.mono ?_; rintro e w4 ⟨rfl, h1⟩; have H4 := Lib.hid (H2.out.keep h1); have H5 := Lib.hid (H1.out.keep h1); have H6 := Lib.hid (H3.out.thenBelow h1); clear h1) | (refine wpList_storeB rfl 130 (.tmp 6) (.tmp 31) rfl st 0 16 _ _ rfl rfl H5.out size65 ?_; intro w5 h1 h2; have HS5 := Lib.hid h1; have HK5 := Lib.hid (H4.out.chg h2 HSG.out); have HC5 := Lib.hid (H6.out.thenNew h2 HSL.out); have hw5 := HK5.out.words; clear h1 h2) | (go_at_call 85; refine (mix_any g st _ _ HK5.out.dbl HS5.out HSY.out HSG.out).mono ?_; rintro e w6 ⟨rfl, h1, h2⟩; have HS6 := Lib.hid h1; have HK6 := Lib.hid (HK5.out.chg h2 HSG.out); have HC6 := Lib.hid (HC5.out.thenNew h2 HSL.out); have HSY6 := Lib.hid (mixc_by HSY.out); clear h1 h2) | (go_at_call 82; refine (add_any g st q (ks n key) _ _ (by have := HQ.out; omega) HK6.out.sch HS6.out HRK.out HSY6.out).mono ?_; rintro e w7 ⟨rfl, h1, h2⟩; have HS7 := Lib.hid h1; have HK7 := Lib.hid (HK6.out.chg h2 HSG.out); have HC7 := Lib.hid (HC6.out.thenNew h2 HSL.out); clear h1 h2))
        go_roundw
        case rel => exact ⟨q, by omega, by go_num, HE.out ▸ HS7.out, HK7.out, HC7.out⟩
        case measure => simp [intOf]; omega
      · have hmi : decide ((q : Int) < (n : Int) + 6) = false := by rw [decide_eq_false_iff_not]; omega
        have HE := Lib.hid (show addk (ks n key) q (subs box 4 (est n (ks n key) b r)) = est n (ks n key) b q by rw [← HQ.out]; show _ = addk _ _ (if r + 1 < n + 6 then _ else _); rw [if_neg (by have := HQ.out; omega)])
        go_wp2_with (first | (go_at_call 83; (first | (with_reducible refine (last_any g n _ hn8 hw).mono ?_) | (with_reducible refine (last_any g n _ hn8 hw5).mono ?_)); rintro e w' ⟨rfl, rfl⟩) | (go_at_call 84; refine HSU.out.mono ?_; rintro e w4 ⟨rfl, h1⟩; have H4 := Lib.hid (H2.out.keep h1); have H5 := Lib.hid (H1.out.keep h1); have H6 := Lib.hid (H3.out.thenBelow h1); clear h1) | (refine wpList_storeB rfl 130 (.tmp 6) (.tmp 31) rfl st 0 16 _ _ rfl rfl H5.out size65 ?_; intro w5 h1 h2; have HS5 := Lib.hid h1; have HK5 := Lib.hid (H4.out.chg h2 HSG.out); have HC5 := Lib.hid (H6.out.thenNew h2 HSL.out); have hw5 := HK5.out.words; clear h1 h2) | (go_at_call 82; refine (add_any g st q (ks n key) _ _ (by have := HQ.out; omega) HK5.out.sch HS5.out HRK.out HSY.out).mono ?_; rintro e w7 ⟨rfl, h1, h2⟩; have HS7 := Lib.hid h1; have HK7 := Lib.hid (HK5.out.chg h2 HSG.out); have HC7 := Lib.hid (HC5.out.thenNew h2 HSL.out); clear h1 h2))
        go_roundw
        case rel => exact ⟨q, by omega, by go_num, HE.out ▸ HS7.out, HK7.out, HC7.out⟩
        case measure => simp [intOf]; omega
    · have hql : ¬ (q : Int) ≤ ((n + 6 : Nat) : Int) := by omega
      have HE := Lib.hid (show Arr wr st 0 16 (enc n (ks n key) b) from by
        have h := H1.out
        obtain rfl : r = n + 6 := by omega
        exact h)
      clear hq H1 HBY2
      have hsa : ∀ W : World, (Instr.sliceAt 130 (.pointer (some ⟨st, 0, none⟩)) none none none).run Tryz.prog W = .ok (.slice (some ⟨st, 0, none⟩) 16 16) W := all_arr 130 16 st 0 Tryz.underlying130 (by decide)
      go_wp2_with (go_at_call 83; refine (last_any g n _ hn8 hw).mono ?_; rintro e w' ⟨rfl, rfl⟩)
      go_ret2
      exact ⟨st, rfl, HSL.out, HE.out, H2.out, H3.out⟩

end Go.Proofs.YtgcdnhjjoidpmaaGreatDoor
/- Contracts of package aes: a key is made; its round keys. -/
namespace Go.Proofs.YtgcdnhjjoidpmaaGreatDoor
open Go.RowKit

theorem new_short (A : Option Addr) (len cap : Nat) (w : World) (hl : len ≠ 16) (hl2 : len ≠ 32) (_hl3 : len ≤ 140737488351232) :
    Calls Tryz.prog 64 #[.slice A len cap] w fun e w' => e = .returned (.tuple #[.pointer none, .int .i64 1]) ∧ w = w' := by
  have hb : ((len : Int) != 16) = true := by simp; omega
  have hb2 : ((len : Int) != 32) = true := by simp; omega
  go_enter Tryz.func64, Tryz.ntmps64
  go_wp2_with fail
  go_ret2
  exact ⟨rfl, rfl⟩

/-- a key's block, whole -/
def keyCells (n : Nat) (d m x : Int) (S B U D : Nat → Nat) : List Value := .int .i64 (n : Nat) :: (bytesL 240 S ++ (.int .u32 d :: .int .i32 m :: .int .u32 x :: (bytesL 256 B ++ (bytesL 256 U ++ bytesL 256 D))))
theorem keyMem_of {w : World} {g n : Nat} {d m x : Int} {S B U D : Nat → Nat} {t : TypeId} (h : w.heap[g]? = some (.cells (keyCells n d m x S B U D).toArray t (0, 0))) : KeyMem w g n d m S B U D := by
  have hz : ∀ (o : Nat), w.frozen? ⟨g, o, none⟩ = false := fun o => by simp [World.frozen?, h]
  have hc : ∀ (o : Nat) v, (keyCells n d m x S B U D)[o]? = some v → w.cell? ⟨g, o, none⟩ = some v := fun o v hv => by
    simp only [World.cell?, h]
    rw [List.getElem?_toArray, hv]
    rfl
  refine ⟨hc 0 _ rfl, arr_of_list h fun j hj => ?_, ⟨hc 241 _ ?_, hc 242 _ ?_, hz _, hz _⟩, arr_of_list h fun j hj => ?_, arr_of_list h fun j hj => ?_, arr_of_list h fun j hj => ?_⟩
  · unfold keyCells
    rw [Nat.add_comm, List.getElem?_cons_succ, List.getElem?_append_left (by rw [bytesL_length]; exact hj)]
  · unfold keyCells
    rw [List.getElem?_cons_succ, List.getElem?_append_right (by rw [bytesL_length]; decide), bytesL_length]; rfl
  · unfold keyCells
    rw [List.getElem?_cons_succ, List.getElem?_append_right (by rw [bytesL_length]; decide), bytesL_length]; rfl
  · unfold keyCells
    rw [show 244 + j = (243 + j) + 1 by omega, List.getElem?_cons_succ, List.getElem?_append_right (by rw [bytesL_length]; omega), bytesL_length, show 243 + j - 240 = j + 1 + 1 + 1 by omega,
      List.getElem?_cons_succ, List.getElem?_cons_succ, List.getElem?_cons_succ, List.getElem?_append_left (by rw [bytesL_length]; exact hj)]
  · unfold keyCells
    rw [show 500 + j = (499 + j) + 1 by omega, List.getElem?_cons_succ, List.getElem?_append_right (by rw [bytesL_length]; omega), bytesL_length, show 499 + j - 240 = (j + 256) + 1 + 1 + 1 by omega,
      List.getElem?_cons_succ, List.getElem?_cons_succ, List.getElem?_cons_succ, List.getElem?_append_right (by rw [bytesL_length]; omega), bytesL_length, Nat.add_sub_cancel, List.getElem?_append_left (by rw [bytesL_length]; exact hj)]
  · unfold keyCells
    rw [show 756 + j = (755 + j) + 1 by omega, List.getElem?_cons_succ, List.getElem?_append_right (by rw [bytesL_length]; omega), bytesL_length, show 755 + j - 240 = (j + 512) + 1 + 1 + 1 by omega,
      List.getElem?_cons_succ, List.getElem?_cons_succ, List.getElem?_cons_succ, List.getElem?_append_right (by rw [bytesL_length]; omega), bytesL_length, show j + 512 - 256 = j + 256 by omega, List.getElem?_append_right (by rw [bytesL_length]; omega), bytesL_length, Nat.add_sub_cancel]
set_option maxRecDepth 100000 in
theorem zeroKey : Tryz.zeroCells129 = (keyCells 0 0 0 0 (fun _ => 0) (fun _ => 0) (fun _ => 0) (fun _ => 0)).toArray := by kernel_rfl
theorem key_made (n l : Nat) (key : Nat → Nat) (hl : l ≤ 240) : splice (Tryz.zeroCells129.setIfInBounds 0 (.int .i64 (n : Nat))).toList 1 (bytesL l key) = keyCells n 0 0 0 (fun x => if x < l then key x else 0) (fun _ => 0) (fun _ => 0) (fun _ => 0) := by
  have e : (Tryz.zeroCells129.setIfInBounds 0 (.int .i64 (n : Nat))).toList = keyCells n 0 0 0 (fun _ => 0) (fun _ => 0) (fun _ => 0) (fun _ => 0) := by
    rw [zeroKey, List.setIfInBounds_toArray]; rfl
  have e2 : bytesL 240 (fun x => if x < l then key x else 0) = bytesL l key ++ (bytesL 240 (fun _ => 0)).drop l := by
    apply List.ext_getElem?
    intro j
    by_cases hj : j < l
    · rw [List.getElem?_append_left (by rw [bytesL_length]; exact hj), bytesL_at hj, bytesL_at (by omega)]
      show some (Value.int .u8 ((if j < l then key j else 0 : Nat) : Int)) = _
      rw [if_pos hj]
    · rw [List.getElem?_append_right (by rw [bytesL_length]; omega), bytesL_length, List.getElem?_drop, show l + (j - l) = j by omega]
      by_cases h2 : j < 240
      · rw [bytesL_at h2, bytesL_at h2]
        show some (Value.int .u8 ((if j < l then key j else 0 : Nat) : Int)) = _
        rw [if_neg hj]
      · rw [List.getElem?_eq_none (by rw [bytesL_length]; omega), List.getElem?_eq_none (by rw [bytesL_length]; omega)]
  rw [e]
  unfold splice keyCells
  rw [bytesL_length, Nat.add_comm 1 l, List.drop_succ_cons, List.drop_append_of_le_length (by rw [bytesL_length]; exact hl), e2]
  simp

set_option maxRecDepth 100000 in
set_option maxHeartbeats 800000 in
theorem new_any (A : Option Addr) (n cap : Nat) (key : Nat → Nat) (w : World) (hn : n = 4 ∨ n = 8) (hA : SlB w A (4 * n) key) :
    Calls Tryz.prog 64 #[.slice A (4 * n) cap] w fun e w' => ∃ g, e = .returned (.tuple #[.pointer (some ⟨g, 0, none⟩), .int .i64 0]) ∧ w.heap.size ≤ g ∧ KeyAt w' g n key ∧ Below w.heap.size w w' := by
  have HA := Lib.hid (hA.keep ((Below.refl _ _).alloc (Nat.le_refl _) (.cells (Tryz.zeroCells129.setIfInBounds 0 (.int .i64 (n : Nat))) 129)))
  have HB := Lib.hid ((Below.refl w.heap.size w).alloc (Nat.le_refl _) (.cells (Tryz.zeroCells129.setIfInBounds 0 (.int .i64 (n : Nat))) 129))
  have HG := Lib.hid (show (w.alloc (.cells (Tryz.zeroCells129.setIfInBounds 0 (.int .i64 (n : Nat))) 129)).heap[w.heap.size]? = some (.cells (Tryz.zeroCells129.setIfInBounds 0 (.int .i64 (n : Nat))).toList.toArray 129 (0, 0)) by rw [heap_alloc_new, Array.toArray_toList])
  obtain ⟨l, hl⟩ : ∃ l, 4 * n = l := ⟨_, rfl⟩
  have HLE := Lib.hid hl
  rw [hl] at hA HA ⊢
  have hb : (((l : Int) != 16) = true ∧ ((l : Int) != 32) = false) ∨ ((l : Int) != 16) = false := by
    rcases hn with rfl | rfl
    · right; simp; omega
    · left; constructor <;> simp <;> omega
  have hw : wrap64 ((l : Int) / 4) = (n : Nat) := by unfold wrap64; omega
  have hlen : (bytesL l key).length = Nat.min l 240 := by rw [bytesL_length]; show l = min l 240; omega
  have HL := Lib.hid hlen
  have HP := Lib.hid (copy_parts (k := l) (dp := some ⟨w.heap.size, 1, none⟩) (g := w.heap.size) (off := 1) HA.out (Nat.le_refl _) (fun _ => rfl))
  have HF := Lib.hid (show 1 + (bytesL l key).length ≤ (Tryz.zeroCells129.setIfInBounds 0 (.int .i64 (n : Nat))).toList.length by
    rw [zeroKey, bytesL_length]
    simp [keyCells, bytesL_length]
    omega)
  have HK := Lib.hid (key_made n l key (by omega))
  have HN := Lib.hid hn
  clear hA hn hl hlen
  go_enter Tryz.func64, Tryz.ntmps64
  rcases hb with ⟨hb1, hb2⟩ | hb1
  all_goals
    go_wp2_with ((refine wpList_copy_splice rfl (.tmp 21) (.tmp 22) 22 22 rfl 5 Tryz.underlying22 sizeOf8 (some ⟨w.heap.size, 1, none⟩) A 240 240 l cap rfl rfl w.heap.size 1 _ 129 HG.out (bytesL l key) HL.out HP.out HF.out (bytes_one l key) w.heap.size w HB.out (Nat.le_refl _) ?_); intro w2 hr hb2; rw [HK.out] at hr; have HR := Lib.hid hr; have HB2 := Lib.hid hb2; clear hr hb2)
    go_ret2
    exact ⟨w.heap.size, rfl, Nat.le_refl _, Or.inl ((keyMem_of HR.out.out).congr (fun j _ => by show (if j < l then key j else 0) = (if j < 4 * n then key j else 0); rw [HLE.out]) (fun _ _ => rfl) (fun _ _ => rfl) (fun _ _ => rfl)), HB2.out⟩
end Go.Proofs.YtgcdnhjjoidpmaaGreatDoor
/- Worlds that are alike but for some blocks. -/
namespace Go.Proofs.YtgcdnhjjoidpmaaGreatDoor
open Go.RowKit
/-- w' is w but for the blocks of S and what is new -/
structure ChgS (S : Nat → Prop) (w w' : World) : Prop where
  os : w'.os = w.os
  tape : w'.tape = w.tape
  output : w'.output = w.output
  size : w.heap.size ≤ w'.heap.size
  block : ∀ k, k < w.heap.size → ¬ S k → w'.heap[k]? = w.heap[k]?
namespace ChgS
variable {S : Nat → Prop} {w w' : World}
theorem refl (S : Nat → Prop) (w : World) : ChgS S w w := ⟨rfl, rfl, rfl, Nat.le_refl _, fun _ _ _ => rfl⟩
theorem drewN (h : ChgS S w w') (n : Nat) : ChgS S w (w'.drewN n) := ⟨h.os, h.tape, h.output, h.size, h.block⟩
theorem setCell (h : ChgS S w w') {a : Addr} (ha : S a.block) (v : Value) : ChgS S w (w'.setCell a v) := by
  refine ⟨h.os, h.tape, h.output, ?_, fun k hk hn => (Below.heap_setCell w' a v k (fun e => hn (e ▸ ha))).trans (h.block k hk hn)⟩
  have := h.size
  simpa [World.setCell] using this
theorem below {B : Nat} (h : ChgS S w w') (hB : B ≤ w.heap.size) (hS : ∀ k, S k → B ≤ k) : Below B w w' := ⟨h.os, h.tape, h.output, h.size, fun k hk => h.block k (by omega) (fun e => by have := hS k e; omega)⟩
end ChgS
end Go.Proofs.YtgcdnhjjoidpmaaGreatDoor
/- Worlds that are alike but for some blocks: more. -/
namespace Go.Proofs.YtgcdnhjjoidpmaaGreatDoor
open Go.RowKit
namespace ChgS
variable {S : Nat → Prop} {w w' w'' : World}
theorem trans (h : ChgS S w w') (h' : ChgS S w' w'') : ChgS S w w'' :=
  ⟨h'.os.trans h.os, h'.tape.trans h.tape, h'.output.trans h.output, Nat.le_trans h.size h'.size, fun k hk hn => (h'.block k (Nat.lt_of_lt_of_le hk h.size) hn).trans (h.block k hk hn)⟩
theorem of_below (h : Below w.heap.size w w') : ChgS S w w' := ⟨h.os, h.tape, h.output, h.size, fun k hk _ => h.block k hk⟩
theorem of_chg {K : Nat} (h : Chg K w w') (hK : S K) : ChgS S w w' := ⟨h.os, h.tape, h.output, h.size, fun k hk hn => h.block k hk (fun e => hn (e ▸ hK))⟩
theorem cell (h : ChgS S w w') {g o : Nat} (hg : g < w.heap.size) (hK : ¬ S g) : w'.cell? ⟨g, o, none⟩ = w.cell? ⟨g, o, none⟩ := World.cell?_of_block (h.block g hg hK)
theorem of_drew (h : ChgS S w.drew w') : ChgS S w w' := ⟨h.os, h.tape, h.output, h.size, h.block⟩
end ChgS
/-- bytes that lie outside the blocks of S -/
def OffS (S : Nat → Prop) (A : Option Addr) (n : Nat) : Prop := 0 < n → ∀ B o, A = some ⟨B, o, none⟩ → ¬ S B
theorem SlB.chgS {S : Nat → Prop} {w w' : World} {A : Option Addr} {n : Nat} {f : Nat → Nat} (h : SlB w A n f) (hc : ChgS S w w') (hO : OffS S A n) : SlB w' A n f := fun hn => by
  obtain ⟨B, o, hA, hB, h⟩ := h hn
  exact ⟨B, o, hA, Nat.lt_of_lt_of_le hB hc.size, fun j hj => ⟨(h j hj).1, (hc.cell hB (hO hn B o hA)).trans (h j hj).2⟩⟩
theorem SlB.offS {S : Nat → Prop} {w : World} {A : Option Addr} {n : Nat} {f : Nat → Nat} (h : SlB w A n f) (hS : ∀ k, S k → w.heap.size ≤ k) : OffS S A n := fun hn B o e => by
  obtain ⟨B', o', e', hB, _⟩ := h hn
  rw [e] at e'
  injection e' with e'
  injection e' with e1 _ _
  intro hk
  have := hS B hk
  omega
theorem Arr.chgS {S : Nat → Prop} {w w' : World} {g o n : Nat} {f : Nat → Nat} (h : Arr w g o n f) (hc : ChgS S w w') (hg : ¬ S g) : Arr w' g o n f := fun j hj => (h.of_block (hc.block g (h.lt (by omega)) hg)) j hj
end Go.Proofs.YtgcdnhjjoidpmaaGreatDoor
/- Contracts of package stream: the keystream, block by block. -/
namespace Go.Proofs.YtgcdnhjjoidpmaaGreatDoor
open Go.RowKit
/-- what the pad's block holds -/
def padk (n : Nat) (key : Nat → Nat) (N B : Nat) : Nat → Nat := enc n (ks n key) (cb N B)
theorem padk_by {n : Nat} {key : Nat → Nat} (hn : n = 4 ∨ n = 8) (hkey : By (4 * n) key) (N B : Nat) : By 16 (padk n key N B) := enc_by (fun j _ => ks_by (by omega) hkey j) (cb_by N B)
/-- a reader of the keystream: what it has captured -/
structure Str (w : World) (g n : Nat) (key : Nat → Nat) (N : Nat) (B : Int) (sK sN sB : Nat) : Prop where
  key : KeyAt w g n key
  cK : w.cell? ⟨sK, 0, none⟩ = some (.pointer (some ⟨g, 0, none⟩))
  cN : w.cell? ⟨sN, 0, none⟩ = some (.int .i64 (N : Nat))
  cB : w.cell? ⟨sB, 0, none⟩ = some (.int .i64 B)
  fB : w.frozen? ⟨sB, 0, none⟩ = false
  gK : g < sK
  gN : sK < sN
  gB : sN < sB
/-- the blocks that a reader changes -/
abbrev twoOf (g s k : Nat) : Prop := k = g ∨ k = s
theorem Str.keep {w w' : World} {g n : Nat} {key : Nat → Nat} {N : Nat} {B : Int} {sK sN sB : Nat} (h : Str w g n key N B sK sN sB) (hb : Below w.heap.size w w') : Str w' g n key N B sK sN sB :=
  have lt : sB < w.heap.size := block_lt h.cB
  have := h.gN
  have := h.gB
  ⟨h.key.keep hb, (hb.cell (p := ⟨sK, 0, none⟩) (by show sK < _; omega)).trans h.cK, (hb.cell (p := ⟨sN, 0, none⟩) (by show sN < _; omega)).trans h.cN, (hb.cell (p := ⟨sB, 0, none⟩) lt).trans h.cB, (World.frozen?_of_block (hb.block sB lt)).trans h.fB, h.gK, h.gN, h.gB⟩
theorem Str.drew {w : World} {g n : Nat} {key : Nat → Nat} {N : Nat} {B : Int} {sK sN sB : Nat} (h : Str w g n key N B sK sN sB) : Str w.drew g n key N B sK sN sB := ⟨h.key.of_block rfl, h.cK, h.cN, h.cB, h.fB, h.gK, h.gN, h.gB⟩
theorem Str.step {w : World} {g n : Nat} {key : Nat → Nat} {N : Nat} {B : Int} {sK sN sB : Nat} (h : Str w g n key N B sK sN sB) (v : Int) : Str (w.setCell ⟨sB, 0, none⟩ (.int .i64 v)) g n key N v sK sN sB :=
  have := h.gK
  have := h.gN
  have := h.gB
  have o (k : Nat) (hk : k ≠ sB) : (w.setCell ⟨sB, 0, none⟩ (.int .i64 v)).cell? ⟨k, 0, none⟩ = w.cell? ⟨k, 0, none⟩ := World.cell?_setCell_other w ⟨sB, 0, none⟩ ⟨k, 0, none⟩ _ (fun e => hk (congrArg Addr.block e).symm)
  ⟨h.key.of_block (Below.heap_setCell w ⟨sB, 0, none⟩ _ g (by show g ≠ sB; omega)), (o sK (by omega)).trans h.cK, (o sN (by omega)).trans h.cN, World.cell?_setCell_same w ⟨sB, 0, none⟩ _ h.cB, by rw [World.frozen?_setCell]; exact h.fB, h.gK, h.gN, h.gB⟩
theorem Str.enc {w w' : World} {g n : Nat} {key : Nat → Nat} {N : Nat} {B : Int} {sK sN sB : Nat} (h : Str w g n key N B sK sN sB) (hc : Chg g w w') (hk : KeyReady w' g n key) : Str w' g n key N B sK sN sB :=
  have lt : sB < w.heap.size := block_lt h.cB
  have := h.gK
  have := h.gN
  have := h.gB
  ⟨Or.inr hk, (hc.cell (by omega) (by omega)).trans h.cK, (hc.cell (by omega) (by omega)).trans h.cN, (hc.cell lt (by omega)).trans h.cB, (hc.frozen lt (by omega)).trans h.fB, h.gK, h.gN, h.gB⟩
/-- what a reader leaves -/
structure NextP (g n : Nat) (key : Nat → Nat) (N B : Nat) (sK sN sB : Nat) (w : World) (e : Ending) (w' : World) (st : Nat) : Prop where
  ret : e = .returned (.slice (some ⟨st, 0, none⟩) 16 16)
  new : w.heap.size ≤ st
  row : Arr w' st 0 16 (padk n key N B)
  str : ∃ B', (B < 9223372036854775807 → B' = ((B + 1 : Nat) : Int)) ∧ Str w' g n key N B' sK sN sB
  chg : ChgS (twoOf g sB) w w'
set_option maxRecDepth 100000 in
set_option maxHeartbeats 1600000 in
theorem next_any (g n : Nat) (key : Nat → Nat) (N B : Nat) (sK sN sB : Nat) (w : World) (hn : n = 4 ∨ n = 8) (hkey : By (4 * n) key) (hN : N ≤ 9223372036854775807) (hB : B ≤ 9223372036854775807) (h : Str w g n key N B sK sN sB) :
    Calls Tryz.prog 65 #[.pointer (some ⟨sN, 0, none⟩), .pointer (some ⟨sB, 0, none⟩), .pointer (some ⟨sK, 0, none⟩)] w fun e w' => ∃ st, NextP g n key N B sK sN sB w e w' st := by
  have H := Lib.hid h
  have HJ := Lib.hid (join_any N B w hN hB)
  have HN := Lib.hid hn
  have HY := Lib.hid hkey
  have h1 := h.cN
  have h2 := h.cB
  have hBi : (B : Int) ≤ 9223372036854775807 := by omega
  have hB0 : (0 : Int) ≤ (B : Int) := by omega
  clear h hn hkey
  go_enter Tryz.func65, Tryz.ntmps65
  go_wp2_with (first | (go_at_call 66; refine HJ.out.mono ?_; rintro e w1 ⟨rfl, h1⟩; have H1 := Lib.hid h1; have HM1 := Lib.hid (made16 w1); clear h1) | (refine wpList_storeB rfl 113 (.tmp 4) (.tmp 9) rfl w1.heap.size 0 16 _ _ rfl rfl HM1.out size16 ?_; intro w2 h3 h4; have HS2 := Lib.hid h3; have HB2 := Lib.hid ((H1.out.alloc H1.out.size _).trans (h4.below (Nat.le_trans H1.out.size (by simp)) H1.out.size)); have HR2 := Lib.hid (H.out.keep HB2.out); have c2 := HR2.out.cB; have f2 := HR2.out.fB; have HST := Lib.hid H1.out.size; clear h1 h2 h3 h4))
  have HB3 := Lib.hid (((ChgS.of_below (S := twoOf g sB) HB2.out).setCell (a := ⟨sB, 0, none⟩) (Or.inr rfl) (.int .i64 (wrap64 ((B : Int) + 1)))).drewN 1)
  have HR3 := Lib.hid (HR2.out.step (wrap64 ((B : Int) + 1)))
  have HSB := Lib.hid (show sB < w.heap.size from block_lt H.out.cB)
  have HA3 := Lib.hid (HS2.out.setOther (a := ⟨sB, 0, none⟩) (show w1.heap.size ≠ sB by have := HSB.out; have := HST.out; omega) (.int .i64 (wrap64 ((B : Int) + 1))))
  have HWR := Lib.hid (show B < 9223372036854775807 → wrap64 ((B : Int) + 1) = ((B + 1 : Nat) : Int) from fun h => by unfold wrap64; omega)
  generalize wrap64 ((B : Int) + 1) = bn at *
  generalize w2.setCell ⟨sB, 0, none⟩ (.int .i64 bn) = w3 at *
  generalize w1.heap.size = st1 at *
  have c3 := HR3.out.cK
  have hsa : ∀ W : World, (Instr.sliceAt 113 (.pointer (some ⟨st1, 0, none⟩)) none none none).run Tryz.prog W = .ok (.slice (some ⟨st1, 0, none⟩) 16 16) W := all_arr 113 16 st1 0 Tryz.underlying113 (by decide)
  have HGS := Lib.hid (show st1 ≠ g by have := HSB.out; have := HST.out; have := H.out.gK; have := H.out.gN; have := H.out.gB; omega)
  have HE := Lib.hid (enc_any g n key (cb N B) (some ⟨st1, 0, none⟩) 16 w3.drew HN.out HY.out (HR3.out.key.of_block rfl) (HA3.out.drew.slB (cb_by N B)) (fun B o hA => by have := HGS.out; injection hA with hA; injection hA with hA; omega))
  clear HJ HM1 c2 f2 hBi hB0 hN hB
  go_region_with (go_at_call 67; refine HE.out.mono ?_; rintro e w4 ⟨st, hb⟩; obtain ⟨rfl, h1, h2, h3, h4⟩ := hb; have H1' := Lib.hid h1; have H2' := Lib.hid h2; have H3' := Lib.hid (HR3.out.drew.enc h4 h3); have H4' := Lib.hid (HB3.out.trans (ChgS.of_chg h4 (Or.inl rfl))); clear h1 h2 h3 h4)
  all_goals
    go_wp2_with fail
    go_ret
    exact ⟨st, rfl, Nat.le_trans HB3.out.size H1'.out, H2'.out, ⟨bn, HWR.out, H3'.out⟩, H4'.out⟩
/-- the reader is made -/
theorem stream_any (g n : Nat) (key : Nat → Nat) (N B : Nat) (w : World) (hk : KeyAt w g n key) :
    Calls Tryz.prog 45 #[.pointer (some ⟨g, 0, none⟩), .int .i64 (N : Nat), .int .i64 (B : Nat)] w fun e w' => ∃ sK sN sB, e = .returned (.func (.func 65) #[] #[.pointer (some ⟨sN, 0, none⟩), .pointer (some ⟨sB, 0, none⟩), .pointer (some ⟨sK, 0, none⟩)]) ∧ w.heap.size ≤ sK ∧ Str w' g n key N B sK sN sB ∧ Below w.heap.size w w' := by
  have hmf : ∀ (fn : Fn) (first cap : Array Value) (w : World), (Instr.makeFunc fn first cap).run Tryz.prog w = .ok (.func fn first cap) w := fun _ _ _ _ => rfl
  have HK := Lib.hid hk
  clear hk
  go_enter Tryz.func45, Tryz.ntmps45
  go_wp2_with fail
  go_ret
  have h1 : (w.alloc (.cells #[.pointer (some ⟨g, 0, none⟩)] 90)).cell? ⟨w.heap.size, 0, none⟩ = some (.pointer (some ⟨g, 0, none⟩)) := (World.cell?_alloc_at _ _ _ _ rfl).trans rfl
  have e1 : (w.alloc (.cells #[.pointer (some ⟨g, 0, none⟩)] 90)).heap.size = w.heap.size + 1 := by simp
  have b1 := alloc_below w (.cells #[.pointer (some ⟨g, 0, none⟩)] 90)
  generalize w.alloc (.cells #[.pointer (some ⟨g, 0, none⟩)] 90) = w1 at *
  have h2 : (w1.alloc (.cells #[.int .i64 (N : Nat)] 3)).cell? ⟨w.heap.size + 1, 0, none⟩ = some (.int .i64 (N : Nat)) := by rw [← e1]; exact (World.cell?_alloc_at _ _ _ _ rfl).trans rfl
  have e2 : (w1.alloc (.cells #[.int .i64 (N : Nat)] 3)).heap.size = w.heap.size + 1 + 1 := by rw [← e1]; simp
  have b2 := alloc_below w1 (.cells #[.int .i64 (N : Nat)] 3)
  generalize w1.alloc (.cells #[.int .i64 (N : Nat)] 3) = w2 at *
  have h3 : (w2.alloc (.cells #[.int .i64 (B : Nat)] 3)).cell? ⟨w.heap.size + 1 + 1, 0, none⟩ = some (.int .i64 (B : Nat)) := by rw [← e2]; exact (World.cell?_alloc_at _ _ _ _ rfl).trans rfl
  have f3 : (w2.alloc (.cells #[.int .i64 (B : Nat)] 3)).frozen? ⟨w.heap.size + 1 + 1, 0, none⟩ = false := by rw [← e2]; exact World.frozen?_alloc_at _ _ _ _ rfl
  have b3 := alloc_below w2 (.cells #[.int .i64 (B : Nat)] 3)
  generalize w2.alloc (.cells #[.int .i64 (B : Nat)] 3) = w3 at *
  have b12 : Below w.heap.size w w2 := b1.trans (b2.mono (by omega))
  have b13 : Below w.heap.size w w3 := b12.trans (b3.mono (by omega))
  have hlt := HK.out.lt
  exact ⟨w.heap.size, w.heap.size + 1, w.heap.size + 1 + 1, rfl, Nat.le_refl _, ⟨HK.out.keep b13, ((b3.cell (p := ⟨w.heap.size, 0, none⟩) (by show w.heap.size < _; omega)).trans (b2.cell (p := ⟨w.heap.size, 0, none⟩) (by show w.heap.size < _; omega))).trans h1, (b3.cell (p := ⟨w.heap.size + 1, 0, none⟩) (by show w.heap.size + 1 < _; omega)).trans h2, h3, f3, hlt, Nat.lt_succ_self _, Nat.lt_succ_self _⟩, b13⟩
end Go.Proofs.YtgcdnhjjoidpmaaGreatDoor
/- Contracts of package stream: the key, a pad. -/
namespace Go.Proofs.YtgcdnhjjoidpmaaGreatDoor
open Go.RowKit
/-- what is refused at once -/
def wrong (len : Nat) (N T : Int) : Prop := (len ≠ 16 ∧ len ≠ 32) ∨ N < 0 ∨ T < 0
theorem right_of {len : Nat} {N T : Int} (h : ¬ wrong len N T) : ∃ n N' T' : Nat, (n = 4 ∨ n = 8) ∧ 4 * n = len ∧ N = (N' : Nat) ∧ T = (T' : Nat) := by
  unfold wrong at h
  by_cases h16 : len = 16
  · exact ⟨4, N.toNat, T.toNat, Or.inl rfl, by omega, by omega, by omega⟩
  · exact ⟨8, N.toNat, T.toNat, Or.inr rfl, by omega, by omega, by omega⟩
set_option maxRecDepth 100000 in
theorem keyfor_arg (A : Option Addr) (len cap : Nat) (N T : Int) (w : World) (hl : len ≤ 140737488351232) (h : wrong len N T) :
    Calls Tryz.prog 44 #[.slice A len cap, .int .i64 N, .int .i64 T] w fun e w' => e = .returned (.tuple #[.pointer none, .int .i64 1]) ∧ w = w' := by
  by_cases hN : N < 0
  · have hd : decide (N < 0) = true := by simpa using hN
    clear h hN
    go_enter Tryz.func44, Tryz.ntmps44
    go_wp2_with fail
    go_ret2
    exact ⟨rfl, rfl⟩
  · have hd : decide (N < 0) = false := by simpa using hN
    by_cases hT : T < 0
    · have hd2 : decide (T < 0) = true := by simpa using hT
      clear h hN hT
      go_enter Tryz.func44, Tryz.ntmps44
      go_wp2_with fail
      go_ret2
      exact ⟨rfl, rfl⟩
    · have hd2 : decide (T < 0) = false := by simpa using hT
      have hs : len ≠ 16 ∧ len ≠ 32 := by unfold wrong at h; omega
      have HS := Lib.hid (new_short A len cap w hs.1 hs.2 hl)
      clear h hN hT hs
      go_enter Tryz.func44, Tryz.ntmps44
      go_wp2_with (go_at_call 64; refine HS.out.mono ?_; rintro e w1 ⟨rfl, rfl⟩)
      go_ret2
      exact ⟨rfl, rfl⟩
set_option maxRecDepth 100000 in
theorem keyfor_any (A : Option Addr) (len n cap N T : Nat) (key : Nat → Nat) (w : World) (hn : n = 4 ∨ n = 8) (hl : 4 * n = len) (hA : SlB w A len key) :
    Calls Tryz.prog 44 #[.slice A len cap, .int .i64 (N : Nat), .int .i64 (T : Nat)] w fun e w' => ∃ g, e = .returned (.tuple #[.pointer (some ⟨g, 0, none⟩), .int .i64 0]) ∧ w.heap.size ≤ g ∧ KeyAt w' g n key ∧ Below w.heap.size w w' := by
  subst hl
  have HS := Lib.hid (new_any A n cap key w hn hA)
  have hd : decide ((N : Int) < 0) = false := by simp
  have hd2 : decide ((T : Int) < 0) = false := by simp
  clear hA
  go_enter Tryz.func44, Tryz.ntmps44
  go_wp2_with (go_at_call 64; refine HS.out.mono ?_; rintro e w1 ⟨g, rfl, h1, h2, h3⟩; have H1 := Lib.hid h1; have H2 := Lib.hid h2; have H3 := Lib.hid h3; clear h1 h2 h3)
  go_ret2
  exact ⟨g, rfl, H1.out, H2.out, H3.out⟩
end Go.Proofs.YtgcdnhjjoidpmaaGreatDoor
/- Contracts of package stream: Xor. -/
namespace Go.Proofs.YtgcdnhjjoidpmaaGreatDoor
open Go.RowKit
/-- bytes under a key, from a place on -/
def xorf (n : Nat) (key : Nat → Nat) (N T : Nat) (p : Nat → Nat) (j : Nat) : Nat := p j ^^^ padk n key N ((T + j) / 16) ((T + j) % 16)
theorem xorf_lt {n m N T : Nat} {key p : Nat → Nat} (hn : n = 4 ∨ n = 8) (hkey : By (4 * n) key) (hp : By m p) : By m (xorf n key N T p) := fun j hj => xor_lt8 (hp j hj) (padk_by hn hkey N _ _ (Nat.mod_lt _ (by decide)))
def xo (n : Nat) (key : Nat → Nat) (N T : Nat) (p : Nat → Nat) (k j : Nat) : Nat := if j < k then xorf n key N T p j else 0
/-- which block comes next -/
def nxb (T k : Nat) : Nat := if k = 0 then T / 16 else (T + k - 1) / 16 + 1
/-- a round's beginning -/
structure XorR (w0 : World) (g n : Nat) (key : Nat → Nat) (N T m : Nat) (p : Nat → Nat) (out sK sN sB : Nat) (wr : World) (k : Nat) (v : Value) : Prop where
  row : RowB wr out m (xo n key N T p k)
  str : ∃ B', B' = (nxb T k : Int) ∧ Str wr g n key N B' sK sN sB
  pad : (k = 0 ∧ v = .slice none 0 0) ∨ ∃ st, v = .slice (some ⟨st, 0, none⟩) 16 16 ∧ 0 < k ∧ out < st ∧ Arr wr st 0 16 (padk n key N ((T + k - 1) / 16))
  below : Below w0.heap.size w0 wr
theorem Str.setOut {w : World} {g n : Nat} {key : Nat → Nat} {N : Nat} {B : Int} {sK sN sB o k : Nat} (h : Str w g n key N B sK sN sB) (ho : sB < o) (v : Value) : Str (w.setCell ⟨o, k, none⟩ v) g n key N B sK sN sB :=
  have := h.gK
  have := h.gN
  have := h.gB
  have e (j : Nat) (hj : j < o) : (w.setCell ⟨o, k, none⟩ v).heap[j]? = w.heap[j]? := Below.heap_setCell w ⟨o, k, none⟩ v j (by show j ≠ o; omega)
  ⟨h.key.of_block (e g (by omega)), (World.cell?_of_block (e sK (by omega))).trans h.cK, (World.cell?_of_block (e sN (by omega))).trans h.cN, (World.cell?_of_block (e sB (by omega))).trans h.cB, (World.frozen?_of_block (e sB (by omega))).trans h.fB, h.gK, h.gN, h.gB⟩
/-- a round's end -/
theorem XorR.after {w0 wq : World} {g n N T m out sK sN sB k st x : Nat} {key p : Nat → Nat} (hrow : RowB wq out m (xo n key N T p k)) (hpad : Arr wq st 0 16 (padk n key N ((T + k) / 16))) (hstr : ∃ B', B' = (((T + k) / 16 + 1 : Nat) : Int) ∧ Str wq g n key N B' sK sN sB)
    (hb : Below w0.heap.size w0 wq) (ho : sB < out) (hw : w0.heap.size ≤ out) (hs : out < st) (hx : xorf n key N T p k = x) : XorR w0 g n key N T m p out sK sN sB ((wq.setCell ⟨out, k, none⟩ (.int .u8 (x : Nat))).drew) (k + 1) (.slice (some ⟨st, 0, none⟩) 16 16) := by
  refine ⟨((hrow.set k x _ rfl).congr fun j _ => ?_).drew, ?_, Or.inr ⟨st, rfl, Nat.succ_pos k, hs, ?_⟩, (hb.setCell (p := ⟨out, k, none⟩) hw _).drew⟩
  · unfold xo
    by_cases e : j = k
    · subst e; rw [if_pos rfl, if_pos (Nat.lt_succ_self _), hx]
    · rw [if_neg e]
      by_cases h : j < k
      · rw [if_pos h, if_pos (by omega)]
      · rw [if_neg h, if_neg (by omega)]
  · obtain ⟨B', rfl, h⟩ := hstr
    refine ⟨_, ?_, (h.setOut ho _).drew⟩
    unfold nxb
    rw [if_neg (Nat.succ_ne_zero k), show T + (k + 1) - 1 = T + k by omega]
  · rw [show T + (k + 1) - 1 = T + k by omega]
    exact (hpad.setOther (a := ⟨out, k, none⟩) (Nat.ne_of_gt hs) _).drew
set_option maxRecDepth 100000 in
theorem xor_arg (A P : Option Addr) (len cap m c : Nat) (N T : Int) (w : World) (hl : len ≤ 140737488351232) (h : wrong len N T) :
    Calls Tryz.prog 31 #[.slice A len cap, .int .i64 N, .int .i64 T, .slice P m c] w fun e w' => e = .returned (.tuple #[.slice none 0 0, .int .i64 1]) ∧ w = w' := by
  have HS := Lib.hid (keyfor_arg A len cap N T w hl h)
  clear h
  go_enter Tryz.func31, Tryz.ntmps31
  go_wp2_with (go_at_call 44; refine HS.out.mono ?_; rintro e w1 ⟨rfl, rfl⟩)
  go_ret2
  exact ⟨rfl, rfl⟩
set_option maxRecDepth 100000 in
theorem xor_long (A P : Option Addr) (len n cap m c N T : Nat) (key : Nat → Nat) (w : World) (hn : n = 4 ∨ n = 8) (hl : 4 * n = len) (hA : SlB w A len key) (hT : T ≤ 9223372036854775807) (hm : m ≤ 140737488351232) (h : 65536 < m ∨ 1099511627776 < T) :
    Calls Tryz.prog 31 #[.slice A len cap, .int .i64 (N : Nat), .int .i64 (T : Nat), .slice P m c] w fun e w' => e = .returned (.tuple #[.slice none 0 0, .int .i64 2]) ∧ Below w.heap.size w w' := by
  have HS := Lib.hid (keyfor_any A len n cap N T key w hn hl hA)
  clear hA hn hl
  by_cases h1 : 65536 < m
  · have hd : decide ((65536 : Int) < (m : Nat)) = true := by rw [decide_eq_true_eq]; omega
    clear h h1
    go_enter Tryz.func31, Tryz.ntmps31
    go_wp2_with (go_at_call 44; refine HS.out.mono ?_; rintro e w1 ⟨g, rfl, h1, h2, h3⟩; have H3 := Lib.hid h3; clear h1 h2 h3)
    go_ret2
    exact ⟨rfl, H3.out⟩
  · have hd : decide ((65536 : Int) < (m : Nat)) = false := by rw [decide_eq_false_iff_not]; omega
    have hd2 : decide ((1099511627776 : Int) < (T : Nat)) = true := by rw [decide_eq_true_eq]; omega
    clear h h1
    go_enter Tryz.func31, Tryz.ntmps31
    go_wp2_with (go_at_call 44; refine HS.out.mono ?_; rintro e w1 ⟨g, rfl, h1, h2, h3⟩; have H3 := Lib.hid h3; clear h1 h2 h3)
    go_ret2
    exact ⟨rfl, H3.out⟩
/-- what Xor leaves -/
def XorP (n : Nat) (key : Nat → Nat) (N T m : Nat) (p : Nat → Nat) (w : World) (e : Ending) (w' : World) : Prop :=
  ∃ st, e = .returned (.tuple #[.slice (some ⟨st, 0, none⟩) m m, .int .i64 0]) ∧ w.heap.size ≤ st ∧ RowB w' st m (xorf n key N T p) ∧ Below w.heap.size w w'
set_option maxRecDepth 100000 in
set_option maxHeartbeats 3200000 in
theorem xor_any (A P : Option Addr) (len n cap m c N T : Nat) (key p : Nat → Nat) (w : World) (hn : n = 4 ∨ n = 8) (hl : 4 * n = len) (hA : SlB w A len key) (hP : SlB w P m p) (hN : N ≤ 9223372036854775807) (hT : T ≤ 1099511627776) (hm : m ≤ 65536) :
    Calls Tryz.prog 31 #[.slice A len cap, .int .i64 (N : Nat), .int .i64 (T : Nat), .slice P m c] w (XorP n key N T m p w) := by
  have hmk : ∀ W : World, (Instr.makeSlice 22 (.int .i64 (m : Int)) (.int .i64 (m : Int))).run Tryz.prog W = .ok (.slice (some ⟨W.heap.size, 0, none⟩) m m) (W.alloc (.cells (madeCells #[.int .u8 0] m) 5)) := fun W => by
    obtain ⟨i, hi, hz, hsz, hb⟩ := info_parts info8
    have := run_make (P := Tryz.prog) W 22 5 i (.int .u8 0) Tryz.underlying22 hi hz .i64 .i64 (m : Int) (m : Int) (by omega) (by omega) (by rw [hb]; omega) (by omega)
    rw [this, hsz, Int.toNat_natCast, Nat.mul_one]
    rfl
  have HS := Lib.hid (keyfor_any A len n cap N T key w hn hl hA)
  have HY := Lib.hid (show By (4 * n) key from fun j hj => hA.byte (by omega))
  have HPY := Lib.hid (show By m p from fun j hj => hP.byte hj)
  have HP := Lib.hid hP
  have HN := Lib.hid hn
  have HNN := Lib.hid hN
  have HTT := Lib.hid hT
  have hd : decide ((65536 : Int) < (m : Nat)) = false := by rw [decide_eq_false_iff_not]; omega
  have hd2 : decide ((1099511627776 : Int) < (T : Nat)) = false := by rw [decide_eq_false_iff_not]; omega
  obtain ⟨b, hb⟩ : ∃ b, T / 16 = b := ⟨_, rfl⟩
  have hTi : (T : Int) ≤ 1099511627776 := by omega
  have hT0 : (0 : Int) ≤ (T : Nat) := by omega
  have hbi : (T : Int) / 16 = (b : Nat) := by omega
  have hmi : (m : Int) ≤ 65536 := by omega
  have HBB := Lib.hid (show b ≤ 9223372036854775807 by omega)
  have HB0 := Lib.hid hb
  clear hA hP hn hl hN hT hm hb
  go_enter Tryz.func31, Tryz.ntmps31
  go_wp2_with (first | (go_at_call 44; refine HS.out.mono ?_; rintro e w1 ⟨g, rfl, h1, h2, h3⟩; have H1 := Lib.hid h1; have H2 := Lib.hid h2; have H3 := Lib.hid h3; clear h1 h2 h3) | (go_at_call 45; refine (stream_any g n key N b w1 H2.out).mono ?_; rintro e w2 ⟨sK, sN, sB, rfl, h1, h2, h3⟩; have H4 := Lib.hid h1; have H5 := Lib.hid h2; have H6 := Lib.hid (H3.out.trans (h3.mono H3.out.size)); clear h1 h2 h3))
  have HOG := Lib.hid (show sB < w2.heap.size from block_lt H5.out.cB)
  have HXR := Lib.hid (show XorR w g n key N T m p w2.heap.size sK sN sB (w2.alloc (.cells (madeCells #[.int .u8 0] m) 5)) 0 (.slice none 0 0) from
    ⟨(rowB_made w2 m).congr fun j _ => (if_neg (Nat.not_lt_zero j)).symm, ⟨(b : Int), by unfold nxb; rw [if_pos rfl, HB0.out], H5.out.keep (alloc_below _ _)⟩, Or.inl ⟨rfl, rfl⟩, H6.out.alloc H6.out.size _⟩)
  have HOW := Lib.hid H6.out.size
  have HGG := Lib.hid H5.out.gK
  have HGN := Lib.hid H5.out.gN
  have HGB := Lib.hid H5.out.gB
  generalize w2.alloc (.cells (madeCells #[.int .u8 0] m) 5) = W at *
  generalize w2.heap.size = out at *
  clear hmk HS hd hd2 hbi HBB HB0 H2 H3 H4 H5 H6
  go_loopw [14, 44] (fun v14 v44 wr => ∃ k : Nat, k ≤ m ∧ v44 = .int .i64 (k : Nat) ∧ XorR w g n key N T m p out sK sN sB wr k v14) (fun _ v44 _ => m - (intOf v44).toNat)
  case atStart => exact ⟨0, Nat.zero_le _, rfl, HXR.out⟩
  case round =>
    obtain ⟨k, hk, rfl, hr⟩ := hrel
    have HR := Lib.hid hr
    clear hr HXR
    by_cases hlt : k < m
    · obtain ⟨e, he, hei⟩ : ∃ e, T + k = e ∧ (T : Int) + (k : Nat) = (e : Nat) := ⟨T + k, rfl, by omega⟩
      obtain ⟨q, hq, hqi⟩ : ∃ q, e % 16 = q ∧ (e : Int) % 16 = (q : Nat) := ⟨e % 16, rfl, by omega⟩
      have hq16 : q < 16 := by rw [← hq]; exact Nat.mod_lt _ (by decide)
      have hel : (e : Int) ≤ 1099511700000 := by omega
      have HE := Lib.hid he
      have HQ := Lib.hid hq
      have hki : (k : Int) < (m : Nat) := by omega
      have hk0 : (0 : Int) ≤ (k : Nat) := by omega
      have hq0 : (0 : Int) ≤ (q : Nat) := by omega
      have hqi16 : (q : Int) < 16 := by omega
      obtain ⟨PB, o, hPe, hPl, hPc⟩ := HP.out (by omega)
      have HPC := Lib.hid (hPc k hlt)
      have HPL := Lib.hid hPl
      clear hPc hPl HP he hq
      subst hPe
      obtain ⟨E, hE⟩ : ∃ E, e / 16 = E := ⟨_, rfl⟩
      have HEE := Lib.hid hE
      have HEM := Lib.hid (show E ≤ 9223372036854775807 by omega)
      have HEL := Lib.hid (show E < 9223372036854775807 by omega)
      clear hE
      by_cases hnew : k = 0 ∨ q = 0
      · have HSTR := Lib.hid (show Str wr g n key N (E : Nat) sK sN sB from by
          obtain ⟨B', h1, h2⟩ := HR.out.str
          have : nxb T k = E := by
            have := HE.out
            have := HQ.out
            have := HEE.out
            unfold nxb
            split <;> omega
          rw [this] at h1
          rw [← h1]
          exact h2)
        have HNX := Lib.hid (next_any g n key N E sK sN sB wr HN.out HY.out HNN.out HEM.out HSTR.out)
        have hb : (((k : Int) == 0) = true) ∨ (((k : Int) == 0) = false ∧ ((q : Int) == 0) = true) := by
          by_cases h : k = 0
          · exact Or.inl (by simp [h])
          · exact Or.inr ⟨by simp [h], by simp; omega⟩
        clear hnew
        rcases hb with hb1 | ⟨hb1, hb2⟩
        all_goals
          go_wp2_with (go_at_call 65; refine HNX.out.mono ?_; rintro e' w4 ⟨st, hx⟩; obtain ⟨rfl, h1, h2, h3, h4⟩ := hx; have H7 := Lib.hid h1; have HPad := Lib.hid h2; have HStr4 := Lib.hid h3; have H9 := Lib.hid h4; clear h1 h2 h3 h4)
          have HRow := Lib.hid (HR.out.row.of_block (H9.out.block out HR.out.row.lt (fun h => by have := HOG.out; have := HGG.out; have := HGN.out; have := HGB.out; rcases h with h | h <;> omega)))
          have HBel := Lib.hid (HR.out.below.trans (H9.out.below HR.out.below.size (fun j h => by have := H1.out; have := HGG.out; have := HGN.out; have := HGB.out; rcases h with h | h <;> omega)))
          have Hst := Lib.hid (Nat.lt_of_lt_of_le HR.out.row.lt H7.out)
          have HStr5 := Lib.hid (show ∃ B', B' = ((E + 1 : Nat) : Int) ∧ Str w4 g n key N B' sK sN sB from by
            obtain ⟨B', h1, h2⟩ := HStr4.out
            exact ⟨B', h1 HEL.out, h2⟩)
          clear HSTR HNX HStr4 H7 H9
          have hco := HRow.out.cell (i := k) hlt
          rw [show xo n key N T p k k = 0 from if_neg (Nat.lt_irrefl k)] at hco
          have hfo := HRow.out.frozen k
          have hcp := (HBel.out.cell (p := ⟨PB, o + k, none⟩) HPL.out).trans HPC.out.2
          have hcq := HPad.out.cell (j := q) hq16 (Nat.zero_add q).symm
          have hx8 := HPC.out.1
          have hy8 := padk_by HN.out HY.out N E q hq16
          have HXF := Lib.hid (show xorf n key N T p k = p k ^^^ padk n key N E q by unfold xorf; rw [HE.out, HEE.out, HQ.out])
          have HPad2 := Lib.hid (show Arr w4 st 0 16 (padk n key N ((T + k) / 16)) by rw [HE.out, HEE.out]; exact HPad.out)
          have HStr6 := Lib.hid (show ∃ B', B' = (((T + k) / 16 + 1 : Nat) : Int) ∧ Str w4 g n key N B' sK sN sB by rw [HE.out, HEE.out]; exact HStr5.out)
          have HAF := Lib.hid (XorR.after HRow.out HPad2.out HStr6.out HBel.out HOG.out HOW.out Hst.out HXF.out)
          generalize p k = x at *
          generalize padk n key N E q = y at *
          have b1 : bits BinOp.xor .u8 (x : Int) (y : Int) = ((x ^^^ y : Nat) : Int) := u8_xor_nat x y hx8 hy8
          clear HPad HStr5 HRow HXF HPad2 HStr6
          generalize x ^^^ y = z at *
          go_region
          all_goals
            generalize (w4.setCell ⟨out, k, none⟩ (.int .u8 (z : Nat))).drew = W1 at *
            clear hco hfo hcp hcq
            go_wp2_with fail
            go_roundw
            case rel => exact ⟨k + 1, by omega, by go_num, HAF.out⟩
            case measure => simp [intOf]; omega
      · have hb1 : ((k : Int) == 0) = false := by simp; omega
        have hb2 : ((q : Int) == 0) = false := by simp; omega
        have HPQ := Lib.hid (show ∃ st, u14 = .slice (some ⟨st, 0, none⟩) 16 16 ∧ out < st ∧ Arr wr st 0 16 (padk n key N E) from by
          rcases HR.out.pad with ⟨h, _⟩ | ⟨st, h1, h2, h3, h4⟩
          · exact absurd (Or.inl h) hnew
          · refine ⟨st, h1, h3, ?_⟩
            have : (T + k - 1) / 16 = E := by
              have := HE.out
              have := HQ.out
              have := HEE.out
              omega
            rw [← this]
            exact h4)
        have HSTR := Lib.hid (show ∃ B', B' = ((E + 1 : Nat) : Int) ∧ Str wr g n key N B' sK sN sB from by
          obtain ⟨B', h1, h2⟩ := HR.out.str
          have : nxb T k = E + 1 := by
            have := HE.out
            have := HQ.out
            have := HEE.out
            unfold nxb
            split <;> omega
          rw [this] at h1
          exact ⟨B', h1, h2⟩)
        obtain ⟨st, hu, Hst, HPad⟩ := HPQ.out
        subst hu
        have HPad := Lib.hid HPad
        have HStr5 := HSTR
        have HRow := Lib.hid HR.out.row
        have HBel := Lib.hid HR.out.below
        have Hst := Lib.hid Hst
        clear hnew HPQ HSTR
        have hco := HRow.out.cell (i := k) hlt
        rw [show xo n key N T p k k = 0 from if_neg (Nat.lt_irrefl k)] at hco
        have hfo := HRow.out.frozen k
        have hcp := (HBel.out.cell (p := ⟨PB, o + k, none⟩) HPL.out).trans HPC.out.2
        have hcq := HPad.out.cell (j := q) hq16 (Nat.zero_add q).symm
        have hx8 := HPC.out.1
        have hy8 := padk_by HN.out HY.out N E q hq16
        have HXF := Lib.hid (show xorf n key N T p k = p k ^^^ padk n key N E q by unfold xorf; rw [HE.out, HEE.out, HQ.out])
        have HPad2 := Lib.hid (show Arr wr st 0 16 (padk n key N ((T + k) / 16)) by rw [HE.out, HEE.out]; exact HPad.out)
        have HStr6 := Lib.hid (show ∃ B', B' = (((T + k) / 16 + 1 : Nat) : Int) ∧ Str wr g n key N B' sK sN sB by rw [HE.out, HEE.out]; exact HStr5.out)
        have HAF := Lib.hid (XorR.after HRow.out HPad2.out HStr6.out HBel.out HOG.out HOW.out Hst.out HXF.out)
        generalize p k = x at *
        generalize padk n key N E q = y at *
        have b1 : bits BinOp.xor .u8 (x : Int) (y : Int) = ((x ^^^ y : Nat) : Int) := u8_xor_nat x y hx8 hy8
        clear HPad HStr5 HRow HXF HPad2 HStr6
        generalize x ^^^ y = z at *
        go_wp2_with fail
        go_region
        all_goals
          generalize (wr.setCell ⟨out, k, none⟩ (.int .u8 (z : Nat))).drew = W1 at *
          clear hco hfo hcp hcq
          go_wp2_with fail
          go_roundw
          case rel => exact ⟨k + 1, by omega, by go_num, HAF.out⟩
          case measure => simp [intOf]; omega
    · obtain rfl : k = m := by omega
      have HF := Lib.hid (HR.out.row.congr (f := xorf n key N T p) fun j hj => if_pos hj)
      have HBel := Lib.hid HR.out.below
      go_wp2_with fail
      go_ret2
      exact ⟨out, rfl, HOW.out, HF.out, HBel.out⟩
end Go.Proofs.YtgcdnhjjoidpmaaGreatDoor
/- AES reckoned in numbers: for small cases, by the kernel. Nothing here hangs on the program. -/
namespace Go.Proofs.YtgcdnhjjoidpmaaGreatDoor

/-- byte j of a number -/
def nb (N j : Nat) : Nat := N / 256 ^ j % 256
theorem nb_lt (N j : Nat) : nb N j < 256 := Nat.mod_lt _ (by decide)
/-- bytes, as a number -/
def npack : Nat → (Nat → Nat) → Nat
  | 0, _ => 0
  | m + 1, f => npack m f + f m * 256 ^ m
theorem npack_lt {f : Nat → Nat} : ∀ m, By m f → npack m f < 256 ^ m
  | 0, _ => Nat.zero_lt_one
  | m + 1, h => by
    have ih := npack_lt m (fun j hj => h j (by omega))
    have h1 : f m * 256 ^ m ≤ 255 * 256 ^ m := Nat.mul_le_mul_right _ (by have := h m (Nat.lt_succ_self m); omega)
    have e : 256 ^ (m + 1) = 256 * 256 ^ m := by rw [Nat.pow_succ, Nat.mul_comm]
    show npack m f + f m * 256 ^ m < _
    rw [e]
    omega
theorem nb_lo {A B m j : Nat} (hj : j < m) : nb (A + B * 256 ^ m) j = nb A j := by
  unfold nb
  have e : B * 256 ^ m = B * 256 ^ (m - j - 1) * 256 * 256 ^ j := by
    rw [Nat.mul_assoc, Nat.mul_assoc, ← Nat.pow_succ', ← Nat.pow_add]
    congr 2
    omega
  rw [e, Nat.add_mul_div_right _ _ (Nat.pow_pos (by decide)), Nat.add_mul_mod_self_right]
theorem nb_hi {A B m j : Nat} (hA : A < 256 ^ m) : nb (A + B * 256 ^ m) (m + j) = nb B j := by
  unfold nb
  rw [Nat.pow_add, ← Nat.div_div_eq_div_mul, Nat.add_mul_div_right _ _ (Nat.pow_pos (by decide)), Nat.div_eq_of_lt hA, Nat.zero_add]
theorem nb_npack {f : Nat → Nat} : ∀ m, By m f → ∀ j, j < m → nb (npack m f) j = f j
  | 0, _, _, hj => absurd hj (Nat.not_lt_zero _)
  | m + 1, h, j, hj => by
    show nb (npack m f + f m * 256 ^ m) j = f j
    by_cases e : j < m
    · rw [nb_lo e]
      exact nb_npack m (fun i hi => h i (by omega)) j e
    · obtain rfl : j = m := by omega
      have := nb_hi (B := f j) (j := 0) (npack_lt j (fun i hi => h i (by omega)))
      rw [Nat.add_zero] at this
      rw [this]
      unfold nb
      rw [Nat.pow_zero, Nat.div_one, Nat.mod_eq_of_lt (h j (Nat.lt_succ_self j))]
/-- a number, reckoned before it is used -/
def force (x : Nat) (k : Nat → Nat) : Nat :=
  match x with
  | 0 => k 0
  | m + 1 => k (m + 1)
theorem force_eq (x : Nat) (k : Nat → Nat) : force x k = k x := by cases x <;> rfl
/-- the box of each byte -/
def sbN : Nat := 2869618975290639062594974519597816386035077209210385677284518162336985023502962151465775969507961862820568736543004676439868535775640188584098917533413284844376797297285941524888791401501466624530423689326528054213168201056672989590893583853414110162539122864583953358348775951166211353578440977400428507475679327181038682772945817200201960445064847785221508011893952350688324234443749897213621340677040612747745615276448919507935121141307752692835344166708617454322778699219895865633266409040561742768581056182730443599545881830075941537620590442514083341749674612746994879540562701631131184186066652929592955206755
def sbx (a : Nat) : Nat := nb sbN a
set_option maxRecDepth 100000 in
theorem sbx_box {a : Nat} (h : a < 256) : box a = sbx a := by
  have key : ∀ a, a < 256 → gbox (gfast a) = sbx a := by decide +kernel
  unfold box
  rw [ginv_fast h]
  exact key a h
def wN (n S i j : Nat) : Nat :=
  nb S (4 * (i - n) + j) ^^^ (if i % n = 0 then sbx (nb S (4 * (i - 1) + (j + 1) % 4)) ^^^ (if j = 0 then gpow 2 (i / n - 1) else 0)
    else if n = 8 ∧ i % 8 = 4 then sbx (nb S (4 * (i - 1) + j)) else nb S (4 * (i - 1) + j))
theorem wN_nxt (n S i j : Nat) : wN n S i j = nxt n (nb S) i j := by
  unfold wN nxt kt
  rw [sbx_box (nb_lt _ _), sbx_box (nb_lt _ _)]
def sGo (n : Nat) : Nat → Nat → Nat → Nat
  | 0, _, S => S
  | f + 1, i, S => force (S + npack 4 (wN n S i) * 256 ^ (4 * i)) fun S' => sGo n f (i + 1) S'
theorem sGo_ok {n : Nat} {key : Nat → Nat} (hn : 0 < n) : ∀ f i S, n ≤ i → i + f ≤ 4 * (n + 7) → S < 256 ^ (4 * i) → (∀ x, x < 4 * i → nb S x = ks n key x) → ∀ x, x < 4 * (i + f) → nb (sGo n f i S) x = ks n key x
  | 0, _, _, _, _, _, h, x, hx => h x hx
  | f + 1, i, S, hi, hf, hS, h, x, hx => by
    show nb (force _ _) x = _
    rw [force_eq]
    have hw : By 4 (wN n S i) := fun j hj => by
      rw [wN_nxt]
      exact nxt_by hn hi hj (fun y _ => nb_lt S y)
    have hlt : S + npack 4 (wN n S i) * 256 ^ (4 * i) < 256 ^ (4 * (i + 1)) := by
      have h1 := npack_lt 4 hw
      have h2 : npack 4 (wN n S i) * 256 ^ (4 * i) ≤ (256 ^ 4 - 1) * 256 ^ (4 * i) := Nat.mul_le_mul_right _ (by omega)
      have e : 256 ^ (4 * (i + 1)) = 256 ^ 4 * 256 ^ (4 * i) := by rw [← Nat.pow_add, show 4 + 4 * i = 4 * (i + 1) by omega]
      rw [e]
      have e2 : 256 ^ 4 * 256 ^ (4 * i) = (256 ^ 4 - 1) * 256 ^ (4 * i) + 256 ^ (4 * i) := by
        conv => lhs; rw [show (256 ^ 4 : Nat) = (256 ^ 4 - 1) + 1 by decide, Nat.add_mul, Nat.one_mul]
      omega
    refine sGo_ok hn f (i + 1) _ (by omega) (by omega) hlt (fun y hy => ?_) x (by omega)
    by_cases e : y < 4 * i
    · rw [nb_lo e]
      exact h y e
    · obtain ⟨j, rfl⟩ : ∃ j, y = 4 * i + j := ⟨y - 4 * i, by omega⟩
      have hj : j < 4 := by omega
      rw [nb_hi hS, nb_npack 4 hw j hj, wN_nxt, ks_next hn hi (by omega) hj]
      exact nxt_congr hn hi hj h
def ksN (n K : Nat) : Nat := sGo n (3 * n + 28) n K
theorem ksN_ok {n : Nat} {key : Nat → Nat} (hn : 0 < n) (hkey : By (4 * n) key) {x : Nat} (hx : x < 16 * (n + 7)) : nb (ksN n (npack (4 * n) key)) x = ks n key x :=
  sGo_ok hn (3 * n + 28) n _ (Nat.le_refl n) (by omega) (npack_lt _ hkey) (fun y hy => by rw [nb_npack _ hkey y hy, ks_key hy]) x (by omega)
def rN (n S r s : Nat) : Nat := npack 16 fun i => (if r < n + 6 then mixc (subs sbx 4 (nb s)) i else subs sbx 4 (nb s) i) ^^^ nb S (16 * r + i)
def eGo (n S : Nat) : Nat → Nat → Nat → Nat
  | 0, _, s => s
  | f + 1, r, s => force (rN n S r s) fun s' => eGo n S f (r + 1) s'
theorem subs_box (s : Nat) : subs sbx 4 (nb s) = subs box 4 (nb s) := funext fun _ => (sbx_box (nb_lt _ _)).symm
theorem rN_by (n S r s : Nat) : By 16 fun i => (if r < n + 6 then mixc (subs sbx 4 (nb s)) i else subs sbx 4 (nb s) i) ^^^ nb S (16 * r + i) := fun i hi => by
  have h1 : By 16 (subs sbx 4 (nb s)) := fun _ _ => nb_lt _ _
  refine xor8 ?_ (nb_lt _ _)
  split
  · exact mixc_by h1 i hi
  · exact h1 i hi
theorem eGo_ok {n S : Nat} {T b : Nat → Nat} (hS : ∀ x, x < 16 * (n + 7) → nb S x = T x) : ∀ f r s, r + f = n + 6 → (∀ i, i < 16 → nb s i = est n T b r i) → ∀ i, i < 16 → nb (eGo n S f (r + 1) s) i = est n T b (n + 6) i
  | 0, r, s, hr, h, i, hi => by
    obtain rfl : r = n + 6 := by omega
    exact h i hi
  | f + 1, r, s, hr, h, i, hi => by
    show nb (force _ _) i = _
    rw [force_eq]
    refine eGo_ok hS f (r + 1) _ (by omega) (fun j hj => ?_) i hi
    rw [show rN n S (r + 1) s = npack 16 _ from rfl, nb_npack 16 (rN_by n S (r + 1) s) j hj, subs_box, hS _ (by omega)]
    have hs : Eq16 (subs box 4 (nb s)) (subs box 4 (est n T b r)) := subs_congr box 4 h
    show _ = (if r + 1 < n + 6 then mixc (subs box 4 (est n T b r)) else subs box 4 (est n T b r)) j ^^^ T (16 * (r + 1) + j)
    by_cases e : r + 1 < n + 6
    · rw [if_pos e, if_pos e, mixc_congr hs j hj]
    · rw [if_neg e, if_neg e, hs j hj]
def encN (n K b : Nat) : Nat := force (ksN n K) fun S => force (npack 16 fun i => nb b i ^^^ nb S i) fun s => eGo n S (n + 6) 1 s
/-- a block encrypted, in numbers -/
theorem encN_ok {n : Nat} {key b : Nat → Nat} (hn : 0 < n) (hkey : By (4 * n) key) (hb : By 16 b) {i : Nat} (hi : i < 16) : enc n (ks n key) b i = nb (encN n (npack (4 * n) key) (npack 16 b)) i := by
  unfold encN
  rw [force_eq, force_eq]
  refine (eGo_ok (T := ks n key) (b := b) (fun x hx => ksN_ok hn hkey hx) (n + 6) 0 _ (by omega) (fun j hj => ?_) i hi).symm
  rw [nb_npack 16 (fun j _ => xor8 (nb_lt _ _) (nb_lt _ _)) j hj, nb_npack 16 hb j hj, ksN_ok hn hkey (by omega)]
  show _ = b j ^^^ ks n key (16 * 0 + j)
  rw [Nat.mul_zero, Nat.zero_add]
end Go.Proofs.YtgcdnhjjoidpmaaGreatDoor
/- Counter mode, reckoned in small cases. -/
namespace Go.Proofs.YtgcdnhjjoidpmaaGreatDoor
open Go.RowKit
def abcF (j : Nat) : Nat := [97, 98, 99].getD j 0
theorem abc_by : By 3 abcF := (by decide : ∀ j, j < 3 → abcF j < 256)
theorem zero_by (n : Nat) : By n (fun _ => 0) := fun _ _ => Nat.zero_lt_succ _
theorem padk_num {n N B : Nat} {key : Nat → Nat} (hn : 0 < n) (hkey : By (4 * n) key) {i : Nat} (hi : i < 16) : padk n key N B i = nb (encN n (npack (4 * n) key) (npack 16 (cb N B))) i := encN_ok hn hkey (cb_by N B) hi
theorem xor_num {n N T m : Nat} {key p : Nat → Nat} (hn : 0 < n) (hkey : By (4 * n) key) (hm : T + m ≤ 16) {j : Nat} (hj : j < m) : xorf n key N T p j = p j ^^^ nb (encN n (npack (4 * n) key) (npack 16 (cb N 0))) (T + j) := by
  unfold xorf
  rw [show (T + j) / 16 = 0 by omega, show (T + j) % 16 = T + j by omega, padk_num hn hkey (by omega)]
/-- done twice it is undone -/
theorem xorf_twice {n N T m : Nat} {key p : Nat → Nat} (j : Nat) (_hj : j < m) : xorf n key N T (xorf n key N T p) j = p j := by
  unfold xorf
  rw [Nat.xor_assoc, Nat.xor_self, Nat.xor_zero]
end Go.Proofs.YtgcdnhjjoidpmaaGreatDoor
/- sync.Once's slow road with a method, by that method's contract. -/
namespace Go.Proofs.YtgcdnhjjoidpmaaGreatDoor
open Go.MuLone

set_option maxRecDepth 100000 in
set_option maxHeartbeats 1600000 in
theorem slow_mac (b off : Nat) (rv : Value) (w : World) (h : OnceAt w b off 0 0) (R : World → Prop)
    (hF : Calls Tryz.prog 63 #[rv] (w.setCell ⟨b, off + 1, none⟩ (.int .i32 1)) fun e w' => e = .returned (.tuple #[]) ∧ R w') (hR : ∀ w', R w' → OnceAt w' b off 0 1) :
    Calls Tryz.prog 80 #[.pointer (some ⟨b, off, none⟩), .func (.func 63) #[rv] #[]] w fun e w' => e = .returned (.tuple #[]) ∧
      ∃ w1, R w1 ∧ w' = (w1.drew.setCell ⟨b, off, none⟩ (.int .u32 1)).setCell ⟨b, off + 1, none⟩ (.int .i32 0) := by
  have hl := run_call_load (P := Tryz.prog) Tryz.func89 (by kernel_rfl) (by kernel_rfl) (by kernel_rfl) .u32 (by kernel_rfl) (w := w.setCell ⟨b, off + 1, none⟩ (.int .i32 1)) (a := ⟨b, off, none⟩) (x := 0) ((World.cell?_setCell_other _ ⟨b, off + 1, none⟩ ⟨b, off, none⟩ _ (by simp)).trans h.done)
  have hnot : ∀ (x : Bool) (w : World), (Op.unary .not (.bool x)).run Tryz.prog w = .ok (.bool (!x)) w := fun _ _ => rfl
  have HR := Lib.hid hR
  have HF := Lib.hid hF
  have H := Lib.hid h
  clear hR hF h
  go_enter_defers Tryz.func80, Tryz.ntmps80
  go_wp2_with (first | (go_at_call 90; refine (lock_free muLib ⟨b, off + 1, none⟩ _ H.out.lock H.out.flock).mono ?_; rintro e w' ⟨rfl, rfl⟩) | (go_at_call 79; go_in) | (go_at_call 63; refine HF.out.mono ?_; rintro e w' ⟨rfl, hw⟩; have HW := Lib.hid hw; clear hw))
  have h1 := HR.out _ HW.out
  -- the door: two deferred calls, the last laid first
  refine leaves_cons (f := 92) (args := #[.pointer (some ⟨b, off, none⟩), .bool true]) (by simp) (by simp [go_sem]) ?_
  refine (store_deferred ⟨b, off, none⟩ (.int .u32 0) .returning _ h1.done h1.fdone).mono ?_
  rintro e u' w'' ⟨rfl, rfl, rfl⟩
  refine leaves_cons (f := 91) (args := #[.pointer (some ⟨b, off + 1, none⟩)]) (by simp [settle]) (by simp [go_sem]) ?_
  refine (unlock_deferred muLib ⟨b, off + 1, none⟩ _ _ ?_ (by simp [h1.flock])).mono ?_
  · refine (World.cell?_setCell_other _ ⟨b, off, none⟩ ⟨b, off + 1, none⟩ _ (by simp)).trans ?_
    rw [World.cell?_drew]
    exact h1.lock
  rintro e u' w'' ⟨rfl, rfl, rfl⟩
  exact ⟨_, results_none rfl _ _ _, rfl, w', HW.out, rfl⟩

/-- '(*sync.Once).Do', not yet done, the lock free -/
theorem do_first_mac (b off : Nat) (rv : Value) (w : World) (h : OnceAt w b off 0 0) (R : World → Prop)
    (hF : Calls Tryz.prog 63 #[rv] (w.setCell ⟨b, off + 1, none⟩ (.int .i32 1)) fun e w' => e = .returned (.tuple #[]) ∧ R w') (hR : ∀ w', R w' → OnceAt w' b off 0 1) :
    Calls Tryz.prog 62 #[.pointer (some ⟨b, off, none⟩), .func (.func 63) #[rv] #[]] w fun e w' => e = .returned (.tuple #[]) ∧
      ∃ w1, R w1 ∧ w' = (w1.drew.setCell ⟨b, off, none⟩ (.int .u32 1)).setCell ⟨b, off + 1, none⟩ (.int .i32 0) := by
  have hl := run_call_load (P := Tryz.prog) Tryz.func89 (by kernel_rfl) (by kernel_rfl) (by kernel_rfl) .u32 (by kernel_rfl) h.done
  have hnot : ∀ (x : Bool) (w : World), (Op.unary .not (.bool x)).run Tryz.prog w = .ok (.bool (!x)) w := fun _ _ => rfl
  have HS := Lib.hid (slow_mac b off rv w h R hF hR)
  clear hR hF h
  go_enter Tryz.func62, Tryz.ntmps62
  go_wp2_with (first | (go_at_call 80; refine HS.out.mono ?_; rintro e w' ⟨rfl, hw⟩; have HW := Lib.hid hw; clear hw) | (go_at_call 79; go_in))
  go_end0
  exact ⟨rfl, HW.out⟩
end Go.Proofs.YtgcdnhjjoidpmaaGreatDoor
