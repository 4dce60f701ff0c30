/- Package pan: Cut, read. -/
import Derived.Test.YtgpgleojkldndaaDoorPanB
import Derived.Test.YtgpgleojkldndaaDoorWtsK
import Derived.Lib.Builder
namespace Go.Proofs.YtgpgleojkldndaaDoor
open Go.RowKit

/-- the tables -/
structure PT (w : World) : Prop where
  wts : Wts w
  p10 : P10 w

theorem PT.keep {w w' : World} (h : PT w) (hb : Below w.heap.size w w') : PT w' := ⟨h.wts.keep hb, h.p10.keep hb⟩

theorem no_list {s : ByteArray} (h : 0 < s.size) : ¬ s.toList = [] := by
  have := toList_of_size h
  intro h; rw [h] at this; exact absurd this (by decide)

set_option maxHeartbeats 1600000 in
theorem cut11_any (s : ByteArray) (w : World) (hs : s.size ≤ maxLen) (hw : PT w) :
    Calls Tryd.prog 10 #[.string s] w fun e w' => e = .returned (.tuple #[.string (pB s), .string (pM s), .string (pL s), .int .i64 (cutE s)]) ∧ Below w.heap.size w w' := by
  have HW := Lib.hid hw
  clear hw
  cases hz : shp s with
  | true =>
    have HE := Lib.hid (show cutE s = 0 by unfold cutE; rw [hz]; rfl)
    have hC : cutV s = .agg #[.string (pB s), .string (pM s), .string (pL s)] := rfl
    have e1 := no_list (s := pB s) (by rw [pB_size hz]; decide)
    have hB := pB_le s
    have hM := pM_le s
    have hL := pL_le s
    clear hz
    go_enter Tryd.func10, Tryd.ntmps10
    go_wp2_with fail
    refine (cut_any s _ hs HW.out.wts).mono ?_
    rintro e w1 ⟨rfl, hb1⟩
    rw [hC]
    have HB1 := Lib.hid hb1
    clear hb1 hC
    generalize hpa : pB s = a at *
    generalize hpb : pM s = b at *
    generalize hpc : pL s = c at *
    have HP := Lib.hid (show pB s = a ∧ pM s = b ∧ pL s = c from ⟨hpa, hpb, hpc⟩)
    clear hpa hpb hpc
    have cA := fun W => clone_regrown W a (by omega)
    have cB := fun W => clone_regrown W b (by omega)
    have cC := fun W => clone_regrown W c (by omega)
    have hw1 : (w1.alloc (.cells #[.string a, .string b, .string c] 36)).cell? ⟨w1.heap.size, 0, none⟩ = some (.string a) := (World.cell?_alloc_at _ _ _ _ rfl).trans rfl
    have hw2 : (w1.alloc (.cells #[.string a, .string b, .string c] 36)).cell? ⟨w1.heap.size, 1, none⟩ = some (.string b) := (World.cell?_alloc_at _ _ _ _ rfl).trans rfl
    have hw3 : (w1.alloc (.cells #[.string a, .string b, .string c] 36)).cell? ⟨w1.heap.size, 2, none⟩ = some (.string c) := (World.cell?_alloc_at _ _ _ _ rfl).trans rfl
    have k1 := cell_regrown hw1
    have k2 := cell_regrown hw2
    have k3 := cell_regrown hw3
    have HB2 := Lib.hid (HB1.out.alloc HB1.out.size (.cells #[.string a, .string b, .string c] 36))
    clear hw1 hw2 hw3
    go_wp2_with fail
    generalize w1.alloc (.cells #[.string a, .string b, .string c] 36) = W at *
    have cA := cA W
    have cB := cB W
    have cC := cC W
    refine wp_region_quiet_below (by kernel_rfl) (by kernel_rfl) ?_
    repeat (quiet_step (first | (with_reducible exact cA _ _) | (with_reducible exact cB _ _) | (with_reducible exact cC _ _)))
    refine wpQuiet_nil ?_
    intro _ hw'
    obtain ⟨⟨dq, osq⟩, hw''⟩ := hw'
    subst hw''
    have HB3 := Lib.hid (HB2.out.trans ((below_regrown W dq osq).mono HB2.out.size))
    generalize Go.Sort.grow (redrawn W dq) osq = W2 at *
    go_wp2_with fail
    exact bodyPost_ret (v := .tuple #[.string a, .string b, .string c, .int .i64 0]) (by simp [results, Tryd.results10, go_sem]) rfl ⟨by rw [HE.out, HP.out.1, HP.out.2.1, HP.out.2.2], HB3.out⟩
  | false =>
    have HE := Lib.hid (show cutE s = 10 by unfold cutE; rw [hz]; rfl)
    have hC : cutV s = .agg #[.string ⟨#[]⟩, .string ⟨#[]⟩, .string ⟨#[]⟩] := by unfold cutV; rw [pB_no hz, pM_no hz, pL_no hz]
    have HV := Lib.hid (show pB s = ⟨#[]⟩ ∧ pM s = ⟨#[]⟩ ∧ pL s = ⟨#[]⟩ from ⟨pB_no hz, pM_no hz, pL_no hz⟩)
    clear hz
    go_enter Tryd.func10, Tryd.ntmps10
    go_wp2_with fail
    refine (cut_any s _ hs HW.out.wts).mono ?_
    rintro e w1 ⟨rfl, hb1⟩
    rw [hC]
    have HB1 := Lib.hid hb1
    clear hb1 hC
    go_wp2_with fail
    exact bodyPost_ret (v := .tuple #[.string ⟨#[]⟩, .string ⟨#[]⟩, .string ⟨#[]⟩, .int .i64 10]) (by simp [results, Tryd.results10, go_sem]) rfl ⟨by rw [HE.out, HV.out.1, HV.out.2.1, HV.out.2.2], HB1.out.alloc HB1.out.size _⟩

/-- what read hands back -/
def rdA (t : ByteArray) : ByteArray := if isTk t then pB (tkA t) else ⟨#[]⟩
def rdB (t : ByteArray) : ByteArray := if isTk t then pM (tkA t) else ⟨#[]⟩
def rdC (t : ByteArray) : ByteArray := if isTk t then pL (tkA t) else ⟨#[]⟩
def rdV (t : ByteArray) : Value := .agg #[.string (rdA t), .string (rdB t), .string (rdC t), .int .i64 (splN t)]

theorem tkA_le (t : ByteArray) : (tkA t).size ≤ t.size := by
  unfold tkA ahd; rw [ByteArray.size_extract]; omega
theorem bhd_le (t : ByteArray) (c : UInt8) : (bhd t c).size ≤ t.size := by
  unfold bhd; rw [ByteArray.size_extract]; omega

set_option maxHeartbeats 3200000 in
theorem read_any (t : ByteArray) (w : World) (hs : t.size ≤ maxLen) (hw : PT w) :
    Calls Tryd.prog 26 #[.string t] w fun e w' => e = .returned (rdV t) ∧ Below w.heap.size w w' := by
  have HW := Lib.hid hw
  clear hw
  have HS := Lib.hid (show (tkA t).size ≤ maxLen from Nat.le_trans (tkA_le t) hs)
  have HS2 := Lib.hid (show (bhd t 46).size ≤ maxLen from Nat.le_trans (bhd_le t 46) hs)
  obtain ⟨v, hv0⟩ : ∃ v, tkN t = v := ⟨_, rfl⟩
  cases hz : shp (tkA t) with
  | false =>
    have hn : isTk t = false := by unfold isTk; rw [hz]; rfl
    have HV := Lib.hid (show rdV t = .agg #[.string ⟨#[]⟩, .string ⟨#[]⟩, .string ⟨#[]⟩, .int .i64 0] by
      unfold rdV rdA rdB rdC splN; rw [hn]; rfl)
    have hC : cutV (tkA t) = .agg #[.string ⟨#[]⟩, .string ⟨#[]⟩, .string ⟨#[]⟩] := by unfold cutV; rw [pB_no hz, pM_no hz, pL_no hz]
    clear hz hn
    go_enter Tryd.func26, Tryd.ntmps26
    go_wp2_with fail
    refine (scut_any t 46 _ hs).mono ?_
    rintro e w1 ⟨rfl, n1, hw1⟩
    have HB1 := Lib.hid (show Below w.heap.size w w1 from hw1 ▸ drawn ((Below.refl w.heap.size w).alloc (Nat.le_refl _) (.cells #[.string ⟨#[]⟩, .string ⟨#[]⟩, .string ⟨#[]⟩, .int .i64 0] 40)) n1)
    have HK1 := Lib.hid (show w1.heap[w.heap.size]? = some (.cells #[.string ⟨#[]⟩, .string ⟨#[]⟩, .string ⟨#[]⟩, .int .i64 0] 40 (0, 0)) by
      rw [hw1]; show (w.heap.push _)[w.heap.size]? = _; simp)
    clear hw1
    go_wp2_with fail
    refine (cut_any (tkA t) _ HS.out (HW.out.keep HB1.out).wts).mono ?_
    rintro e w2 ⟨rfl, hb2⟩
    rw [hC]
    go_wp2_with fail
    refine (number11_any (bhd t 46) _ HS2.out).mono ?_
    rintro e w3 ⟨rfl, n3, hw3⟩
    have hlt : w.heap.size < w1.heap.size := by
      rcases Nat.lt_or_ge w.heap.size w1.heap.size with h | h
      · exact h
      · have := HK1.out; rw [Array.getElem?_eq_none h] at this; cases this
    have HB3 := Lib.hid (show Below w1.heap.size w1 w3 from hw3 ▸ drawn hb2 n3)
    have hk3 : w3.heap[w.heap.size]? = some (.cells #[.string ⟨#[]⟩, .string ⟨#[]⟩, .string ⟨#[]⟩, .int .i64 0] 40 (0, 0)) := (HB3.out.block _ hlt).trans HK1.out
    have hk4 := (Below.heap_alloc w3 (.cells #[.string ⟨#[]⟩, .string ⟨#[]⟩, .string ⟨#[]⟩] 36) w.heap.size (Nat.lt_of_lt_of_le hlt HB3.out.size)).trans hk3
    have c0 := Lib.cell_of_heap hk4 0
    have c1 := Lib.cell_of_heap hk4 1
    have c2 := Lib.cell_of_heap hk4 2
    have c3 := Lib.cell_of_heap hk4 3
    have f0 := Lib.frozen_of_heap hk4 0
    have f1 := Lib.frozen_of_heap hk4 1
    have f2 := Lib.frozen_of_heap hk4 2
    have f3 := Lib.frozen_of_heap hk4 3
    have HB4 := Lib.hid ((HB1.out.trans (HB3.out.mono HB1.out.size)).alloc (Nat.le_trans HB1.out.size HB3.out.size) (.cells #[.string ⟨#[]⟩, .string ⟨#[]⟩, .string ⟨#[]⟩] 36))
    have hv : verN (bhd t 46) = v := hv0
    rw [hv]
    clear hb2 hk3 hk4 hw3 hv hv0 hC
    go_wp2_with fail
    exact bodyPost_ret (v := .agg #[.string ⟨#[]⟩, .string ⟨#[]⟩, .string ⟨#[]⟩, .int .i64 0]) (by simp [results, Tryd.results26, go_sem, c0, c1, c2, c3]) rfl ⟨by rw [HV.out], (((HB4.out.setCell (Nat.le_refl _) _).setCell (Nat.le_refl _) _).setCell (Nat.le_refl _) _).setCell (Nat.le_refl _) _⟩
  | true =>
    have e1 := no_list (s := pB (tkA t)) (by rw [pB_size hz]; decide)
    obtain ⟨a, ha⟩ : ∃ a, pB (tkA t) = a := ⟨_, rfl⟩
    obtain ⟨b, hb⟩ : ∃ b, pM (tkA t) = b := ⟨_, rfl⟩
    obtain ⟨c, hc⟩ : ∃ c, pL (tkA t) = c := ⟨_, rfl⟩
    have hC : cutV (tkA t) = .agg #[.string a, .string b, .string c] := by unfold cutV; rw [ha, hb, hc]
    rw [ha] at e1
    by_cases hv : 1 ≤ v ∧ v ≤ 255
    · have hn : isTk t = true := by unfold isTk; rw [hz, hv0, decide_eq_true hv.1, decide_eq_true hv.2]; rfl
      have HV := Lib.hid (show rdV t = .agg #[.string a, .string b, .string c, .int .i64 v] by
        unfold rdV rdA rdB rdC splN; rw [hn, ha, hb, hc, hv0]; rfl)
      have HN := Lib.hid (show (decide (v < 1) || decide (255 < v)) = false by rw [decide_eq_false (by omega), decide_eq_false (by omega)]; rfl)
      clear hz hn ha hb hc hv
      go_enter Tryd.func26, Tryd.ntmps26
      go_wp2_with fail
      refine (scut_any t 46 _ hs).mono ?_
      rintro e w1 ⟨rfl, n1, hw1⟩
      have HB1 := Lib.hid (show Below w.heap.size w w1 from hw1 ▸ drawn ((Below.refl w.heap.size w).alloc (Nat.le_refl _) (.cells #[.string ⟨#[]⟩, .string ⟨#[]⟩, .string ⟨#[]⟩, .int .i64 0] 40)) n1)
      have HK1 := Lib.hid (show w1.heap[w.heap.size]? = some (.cells #[.string ⟨#[]⟩, .string ⟨#[]⟩, .string ⟨#[]⟩, .int .i64 0] 40 (0, 0)) by
        rw [hw1]; show (w.heap.push _)[w.heap.size]? = _; simp)
      clear hw1
      go_wp2_with fail
      refine (cut_any (tkA t) _ HS.out (HW.out.keep HB1.out).wts).mono ?_
      rintro e w2 ⟨rfl, hb2⟩
      rw [hC]
      go_wp2_with fail
      refine (number11_any (bhd t 46) _ HS2.out).mono ?_
      rintro e w3 ⟨rfl, n3, hw3⟩
      have hlt : w.heap.size < w1.heap.size := by
        rcases Nat.lt_or_ge w.heap.size w1.heap.size with h | h
        · exact h
        · have := HK1.out; rw [Array.getElem?_eq_none h] at this; cases this
      have HB3 := Lib.hid (show Below w1.heap.size w1 w3 from hw3 ▸ drawn hb2 n3)
      have hk3 : w3.heap[w.heap.size]? = some (.cells #[.string ⟨#[]⟩, .string ⟨#[]⟩, .string ⟨#[]⟩, .int .i64 0] 40 (0, 0)) := (HB3.out.block _ hlt).trans HK1.out
      have hk4 := (Below.heap_alloc w3 (.cells #[.string a, .string b, .string c] 36) w.heap.size (Nat.lt_of_lt_of_le hlt HB3.out.size)).trans hk3
      have c0 := Lib.cell_of_heap hk4 0
      have c1 := Lib.cell_of_heap hk4 1
      have c2 := Lib.cell_of_heap hk4 2
      have c3 := Lib.cell_of_heap hk4 3
      have f0 := Lib.frozen_of_heap hk4 0
      have f1 := Lib.frozen_of_heap hk4 1
      have f2 := Lib.frozen_of_heap hk4 2
      have f3 := Lib.frozen_of_heap hk4 3
      have HB4 := Lib.hid ((HB1.out.trans (HB3.out.mono HB1.out.size)).alloc (Nat.le_trans HB1.out.size HB3.out.size) (.cells #[.string a, .string b, .string c] 36))
      have hv : verN (bhd t 46) = v := hv0
      rw [hv]
      clear hb2 hk3 hk4 hw3 hv hv0 hC
      go_wp2_with (go_at_call 30; refine (wrong_any v _).mono ?_; rintro e w5 ⟨rfl, rfl⟩; rw [HN.out])
      exact bodyPost_ret (v := .agg #[.string a, .string b, .string c, .int .i64 v]) (by simp [results, Tryd.results26, go_sem, c0, c1, c2, c3]) rfl ⟨by rw [HV.out], (((HB4.out.setCell (Nat.le_refl _) _).setCell (Nat.le_refl _) _).setCell (Nat.le_refl _) _).setCell (Nat.le_refl _) _⟩
    · have hn : isTk t = false := by
        unfold isTk; rw [hz, hv0]
        rcases (show ¬ 1 ≤ v ∨ ¬ v ≤ 255 by omega) with h | h
        · rw [decide_eq_false h]; rfl
        · rw [decide_eq_false h, Bool.and_false]; rfl
      have HV := Lib.hid (show rdV t = .agg #[.string ⟨#[]⟩, .string ⟨#[]⟩, .string ⟨#[]⟩, .int .i64 0] by
        unfold rdV rdA rdB rdC splN; rw [hn]; rfl)
      have HN := Lib.hid (show (decide (v < 1) || decide (255 < v)) = true by
        rcases (show v < 1 ∨ 255 < v by omega) with h | h
        · rw [decide_eq_true h]; rfl
        · rw [decide_eq_true h, Bool.or_true])
      clear hz hn ha hb hc hv
      go_enter Tryd.func26, Tryd.ntmps26
      go_wp2_with fail
      refine (scut_any t 46 _ hs).mono ?_
      rintro e w1 ⟨rfl, n1, hw1⟩
      have HB1 := Lib.hid (show Below w.heap.size w w1 from hw1 ▸ drawn ((Below.refl w.heap.size w).alloc (Nat.le_refl _) (.cells #[.string ⟨#[]⟩, .string ⟨#[]⟩, .string ⟨#[]⟩, .int .i64 0] 40)) n1)
      have HK1 := Lib.hid (show w1.heap[w.heap.size]? = some (.cells #[.string ⟨#[]⟩, .string ⟨#[]⟩, .string ⟨#[]⟩, .int .i64 0] 40 (0, 0)) by
        rw [hw1]; show (w.heap.push _)[w.heap.size]? = _; simp)
      clear hw1
      go_wp2_with fail
      refine (cut_any (tkA t) _ HS.out (HW.out.keep HB1.out).wts).mono ?_
      rintro e w2 ⟨rfl, hb2⟩
      rw [hC]
      go_wp2_with fail
      refine (number11_any (bhd t 46) _ HS2.out).mono ?_
      rintro e w3 ⟨rfl, n3, hw3⟩
      have hlt : w.heap.size < w1.heap.size := by
        rcases Nat.lt_or_ge w.heap.size w1.heap.size with h | h
        · exact h
        · have := HK1.out; rw [Array.getElem?_eq_none h] at this; cases this
      have HB3 := Lib.hid (show Below w1.heap.size w1 w3 from hw3 ▸ drawn hb2 n3)
      have hk3 : w3.heap[w.heap.size]? = some (.cells #[.string ⟨#[]⟩, .string ⟨#[]⟩, .string ⟨#[]⟩, .int .i64 0] 40 (0, 0)) := (HB3.out.block _ hlt).trans HK1.out
      have hk4 := (Below.heap_alloc w3 (.cells #[.string a, .string b, .string c] 36) w.heap.size (Nat.lt_of_lt_of_le hlt HB3.out.size)).trans hk3
      have c0 := Lib.cell_of_heap hk4 0
      have c1 := Lib.cell_of_heap hk4 1
      have c2 := Lib.cell_of_heap hk4 2
      have c3 := Lib.cell_of_heap hk4 3
      have f0 := Lib.frozen_of_heap hk4 0
      have f1 := Lib.frozen_of_heap hk4 1
      have f2 := Lib.frozen_of_heap hk4 2
      have f3 := Lib.frozen_of_heap hk4 3
      have HB4 := Lib.hid ((HB1.out.trans (HB3.out.mono HB1.out.size)).alloc (Nat.le_trans HB1.out.size HB3.out.size) (.cells #[.string a, .string b, .string c] 36))
      have hv : verN (bhd t 46) = v := hv0
      rw [hv]
      clear hb2 hk3 hk4 hw3 hv hv0 hC
      go_wp2_with (go_at_call 30; refine (wrong_any v _).mono ?_; rintro e w5 ⟨rfl, rfl⟩; rw [HN.out])
      exact bodyPost_ret (v := .agg #[.string ⟨#[]⟩, .string ⟨#[]⟩, .string ⟨#[]⟩, .int .i64 0]) (by simp [results, Tryd.results26, go_sem, c0, c1, c2, c3]) rfl ⟨by rw [HV.out], (((HB4.out.setCell (Nat.le_refl _) _).setCell (Nat.le_refl _) _).setCell (Nat.le_refl _) _).setCell (Nat.le_refl _) _⟩
end Go.Proofs.YtgpgleojkldndaaDoor
