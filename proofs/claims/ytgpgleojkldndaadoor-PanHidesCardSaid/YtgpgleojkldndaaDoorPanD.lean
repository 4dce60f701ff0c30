/- Package pan: Mask, Token, Split. -/
import Derived.Test.YtgpgleojkldndaaDoorPanC
namespace Go.Proofs.YtgpgleojkldndaaDoor
open Go.RowKit

theorem mask3_regrown (W : World) (a b c : ByteArray) (ha : a.size ≤ 1000) (hb : b.size ≤ 1000) (hc : c.size ≤ 1000) (d : Nat) (os : Array Obj) :
    Calls Tryd.prog 25 #[.agg #[.string a, .string b, .string c]] (Go.Sort.grow (redrawn W d) os) fun e w'' => e = .returned (.string (mk3 a b c)) ∧ ∃ p : Regrown, w'' = Go.Sort.grow (redrawn W p.d) p.os :=
  Calls.regrown_of (mask3_any a b c _ ha hb hc)

theorem whole_regrown (W : World) (a b c : ByteArray) (ha : a.size ≤ 1000) (hb : b.size ≤ 1000) (hc : c.size ≤ 1000) (d : Nat) (os : Array Obj) :
    Calls Tryd.prog 32 #[.agg #[.string a, .string b, .string c]] (Go.Sort.grow (redrawn W d) os) fun e w'' => e = .returned (.string (a ++ b ++ c)) ∧ ∃ p : Regrown, w'' = Go.Sort.grow (redrawn W p.d) p.os :=
  Calls.regrown_of (whole_any a b c _ ha hb hc)

theorem join_regrown (W : World) (s : ByteArray) (v : Int) (hs : s.size ≤ 1000) (h0 : -9223372036854775808 ≤ v) (h1 : v ≤ 9223372036854775807) (hp : P10 W) (d : Nat) (os : Array Obj) :
    Calls Tryd.prog 27 #[.string s, .int .i64 v] (Go.Sort.grow (redrawn W d) os) fun e w'' => e = .returned (.string (tkS s v)) ∧ ∃ p : Regrown, w'' = Go.Sort.grow (redrawn W p.d) p.os :=
  Calls.regrown_of (join11_any s v _ hs h0 h1 (hp.keep (below_regrown W d os)))

theorem cutV_no {s : ByteArray} (hz : shp s = false) : cutV s = .agg #[.string ⟨#[]⟩, .string ⟨#[]⟩, .string ⟨#[]⟩] := by unfold cutV; rw [pB_no hz, pM_no hz, pL_no hz]

set_option maxHeartbeats 3200000 in
theorem mask_any (s : ByteArray) (w : World) (hs : s.size ≤ maxLen) (hw : PT w) :
    Calls Tryd.prog 14 #[.string s] w fun e w' => e = .returned (.string (maskS s)) ∧ Below w.heap.size w w' := by
  have HW := Lib.hid hw
  clear hw
  cases hz : shp s with
  | true =>
    have HM := Lib.hid (show maskS s = mk3 (pB s) (pM s) (pL s) by unfold maskS; rw [hz]; rfl)
    have hC : cutV s = .agg #[.string (pB s), .string (pM s), .string (pL s)] := rfl
    have e1 := no_list (s := pB s) (by rw [pB_size hz]; decide)
    have hB := pB_le s
    have hM := pM_le s
    have hL := pL_le s
    clear hz
    go_enter Tryd.func14, Tryd.ntmps14
    go_wp2_with fail
    refine (cut_any s _ hs HW.out.wts).mono ?_
    rintro e w1 ⟨rfl, hb1⟩
    rw [hC]
    have HB1 := Lib.hid hb1
    clear hb1 hC
    generalize pB s = a at *
    generalize pM s = b at *
    generalize pL s = c at *
    have HB2 := Lib.hid (HB1.out.alloc HB1.out.size (.cells #[.string a, .string b, .string c] 36))
    go_wp2_with fail
    refine (mask3_any a b c _ (by omega) (by omega) (by omega)).mono ?_
    rintro e w2 ⟨rfl, hb2⟩
    have HB3 := Lib.hid (HB2.out.trans (hb2.mono HB2.out.size))
    go_wp2_with fail
    go_ret
    exact ⟨by rw [HM.out]; rfl, HB3.out⟩
  | false =>
    have hC := cutV_no hz
    cases hn : isTk s with
    | true =>
      obtain ⟨hz1, hv1, hv2⟩ := isTk_parts hn
      have HM := Lib.hid (show maskS s = tkS (mk3 (pB (tkA s)) (pM (tkA s)) (pL (tkA s))) (tkN s) by unfold maskS; rw [hz, hn]; rfl)
      have hR : rdV s = .agg #[.string (pB (tkA s)), .string (pM (tkA s)), .string (pL (tkA s)), .int .i64 (tkN s)] := by
        unfold rdV rdA rdB rdC splN; rw [hn]; rfl
      have e1 := no_list (s := pB (tkA s)) (by rw [pB_size hz1]; decide)
      have hB := pB_le (tkA s)
      have hM := pM_le (tkA s)
      have hL := pL_le (tkA s)
      have hS := mk3_size (tkA s)
      clear hz hn hz1
      go_enter Tryd.func14, Tryd.ntmps14
      go_wp2_with fail
      refine (cut_any s _ hs HW.out.wts).mono ?_
      rintro e w1 ⟨rfl, hb1⟩
      rw [hC]
      have HB1 := Lib.hid hb1
      have HB2 := Lib.hid (HB1.out.alloc HB1.out.size (.cells #[.string ⟨#[]⟩, .string ⟨#[]⟩, .string ⟨#[]⟩] 36))
      clear hb1 hC
      go_wp2_with fail
      refine (read_any s _ hs (HW.out.keep HB2.out)).mono ?_
      rintro e w2 ⟨rfl, hb2⟩
      rw [hR]
      have HB3 := Lib.hid (HB2.out.trans (hb2.mono HB2.out.size))
      clear hb2 hR
      generalize pB (tkA s) = a at *
      generalize pM (tkA s) = b at *
      generalize pL (tkA s) = c at *
      generalize tkN s = v at *
      have HB4 := Lib.hid (HB3.out.alloc HB3.out.size (.cells #[.string a, .string b, .string c, .int .i64 v] 40))
      have hw1 : (w2.alloc (.cells #[.string a, .string b, .string c, .int .i64 v] 40)).cell? ⟨w2.heap.size, 0, none⟩ = some (.string a) := (World.cell?_alloc_at _ _ _ _ rfl).trans rfl
      have hw2 : (w2.alloc (.cells #[.string a, .string b, .string c, .int .i64 v] 40)).cell? ⟨w2.heap.size, 1, none⟩ = some (.string b) := (World.cell?_alloc_at _ _ _ _ rfl).trans rfl
      have hw3 : (w2.alloc (.cells #[.string a, .string b, .string c, .int .i64 v] 40)).cell? ⟨w2.heap.size, 2, none⟩ = some (.string c) := (World.cell?_alloc_at _ _ _ _ rfl).trans rfl
      have hw4 : (w2.alloc (.cells #[.string a, .string b, .string c, .int .i64 v] 40)).cell? ⟨w2.heap.size, 3, none⟩ = some (.int .i64 v) := (World.cell?_alloc_at _ _ _ _ rfl).trans rfl
      have k1 := cell_regrown hw1
      have k2 := cell_regrown hw2
      have k3 := cell_regrown hw3
      have k4 := cell_regrown hw4
      clear hw1 hw2 hw3 hw4
      go_wp2_with fail
      generalize w2.alloc (.cells #[.string a, .string b, .string c, .int .i64 v] 40) = W at *
      have cM := mask3_regrown W a b c (by omega) (by omega) (by omega)
      have cJ := join_regrown W (mk3 a b c) v (by omega) (by omega) (by omega) (HW.out.keep HB4.out).p10
      generalize mk3 a b c = m at *
      refine wp_region_quiet_below (by kernel_rfl) (by kernel_rfl) ?_
      repeat (quiet_step (first | (with_reducible exact cM _ _) | (with_reducible exact cJ _ _)))
      refine wpQuiet_nil ?_
      intro _ hw'
      obtain ⟨⟨dq, osq⟩, hw''⟩ := hw'
      subst hw''
      have HB5 := Lib.hid (HB4.out.trans ((below_regrown W dq osq).mono HB4.out.size))
      generalize Go.Sort.grow (redrawn W dq) osq = W2 at *
      go_wp2_with fail
      go_ret
      exact ⟨by rw [HM.out]; rfl, HB5.out⟩
    | false =>
      have HM := Lib.hid (show maskS s = stars (min s.size 32) by unfold maskS; rw [hz, hn]; rfl)
      have hR : rdV s = .agg #[.string ⟨#[]⟩, .string ⟨#[]⟩, .string ⟨#[]⟩, .int .i64 0] := by
        unfold rdV rdA rdB rdC splN; rw [hn]; rfl
      clear hz hn
      obtain ⟨m, hm, hm2⟩ : ∃ m : Nat, min (s.size : Int) 32 = m ∧ min s.size 32 = m := ⟨min s.size 32, by omega, rfl⟩
      have hm32 : m ≤ 32 := by omega
      have HM2 := Lib.hid hm2
      have HM3 := Lib.hid hm
      clear hm2 hm
      go_enter Tryd.func14, Tryd.ntmps14
      go_wp2_with fail
      refine (cut_any s _ hs HW.out.wts).mono ?_
      rintro e w1 ⟨rfl, hb1⟩
      rw [hC]
      have HB1 := Lib.hid hb1
      have HB2 := Lib.hid (HB1.out.alloc HB1.out.size (.cells #[.string ⟨#[]⟩, .string ⟨#[]⟩, .string ⟨#[]⟩] 36))
      clear hb1 hC
      go_wp2_with fail
      refine (read_any s _ hs (HW.out.keep HB2.out)).mono ?_
      rintro e w2 ⟨rfl, hb2⟩
      rw [hR]
      have HB3 := Lib.hid (HB2.out.trans (hb2.mono HB2.out.size))
      have HB4 := Lib.hid (HB3.out.alloc HB3.out.size (.cells #[.string ⟨#[]⟩, .string ⟨#[]⟩, .string ⟨#[]⟩, .int .i64 0] 40))
      clear hb2 hR
      go_wp2_with fail
      rw [HM3.out]
      refine (stars_any m _ (by omega)).mono ?_
      rintro e w3 ⟨rfl, hb3⟩
      have HB5 := Lib.hid (HB4.out.trans (hb3.mono HB4.out.size))
      go_wp2_with fail
      go_ret
      exact ⟨by rw [HM.out, HM2.out]; rfl, HB5.out⟩

set_option maxHeartbeats 1600000 in
theorem token_any (s : ByteArray) (v : Int) (w : World) (hs : s.size ≤ maxLen) (hw : PT w) :
    Calls Tryd.prog 16 #[.string s, .int .i64 v] w fun e w' => e = .returned (.tuple #[.string (tokV s v), .int .i64 (tokE s v)]) ∧ Below w.heap.size w w' := by
  have HW := Lib.hid hw
  clear hw
  cases hz : shp s with
  | false =>
    have hC := cutV_no hz
    have HE := Lib.hid (show tokE s v = 10 by unfold tokE; rw [hz]; rfl)
    have HV := Lib.hid (show tokV s v = ⟨#[]⟩ by unfold tokV; rw [HE.out]; rfl)
    clear hz
    go_enter Tryd.func16, Tryd.ntmps16
    go_wp2_with fail
    refine (cut_any s _ hs HW.out.wts).mono ?_
    rintro e w1 ⟨rfl, hb1⟩
    rw [hC]
    go_wp2_with fail
    go_ret2
    exact ⟨by rw [HE.out, HV.out]; rfl, hb1⟩
  | true =>
    have e1 := no_list (s := pB s) (by rw [pB_size hz]; decide)
    have hl : s.size ≤ 1000 := by have := (shp_parts hz).2.2; omega
    have hC : cutV s = .agg #[.string (pB s), .string (pM s), .string (pL s)] := rfl
    by_cases hv : 1 ≤ v ∧ v ≤ 255
    · have HE := Lib.hid (show tokE s v = 0 by unfold tokE; rw [hz, if_pos rfl, if_neg (by omega)])
      have HV := Lib.hid (show tokV s v = tkS s v by unfold tokV; rw [if_pos HE.out])
      have HN := Lib.hid (show (decide (v < 1) || decide (255 < v)) = false by rw [decide_eq_false (by omega), decide_eq_false (by omega)]; rfl)
      have HI := Lib.hid hv
      clear hz hv
      go_enter Tryd.func16, Tryd.ntmps16
      go_wp2_with fail
      refine (cut_any s _ hs HW.out.wts).mono ?_
      rintro e w1 ⟨rfl, hb1⟩
      rw [hC]
      have HB1 := Lib.hid hb1
      clear hb1 hC
      generalize pB s = a at *
      generalize pM s = b at *
      generalize pL s = c at *
      go_wp2_with (go_at_call 30; refine (wrong_any v _).mono ?_; rintro e w5 ⟨rfl, rfl⟩; rw [HN.out])
      refine (join11_any s v _ hl (by have := HI.out; omega) (by have := HI.out; omega) (HW.out.keep HB1.out).p10).mono ?_
      rintro e w2 ⟨rfl, hb2⟩
      go_wp2_with fail
      go_ret2
      exact ⟨by rw [HE.out, HV.out]; rfl, HB1.out.trans (hb2.mono HB1.out.size)⟩
    · have HE := Lib.hid (show tokE s v = 1 by unfold tokE; rw [hz, if_pos rfl, if_pos (by omega)])
      have HV := Lib.hid (show tokV s v = ⟨#[]⟩ by unfold tokV; rw [HE.out]; rfl)
      have HN := Lib.hid (show (decide (v < 1) || decide (255 < v)) = true by
        rcases (show v < 1 ∨ 255 < v by omega) with h | h
        · rw [decide_eq_true h]; rfl
        · rw [decide_eq_true h, Bool.or_true])
      clear hz hv
      go_enter Tryd.func16, Tryd.ntmps16
      go_wp2_with fail
      refine (cut_any s _ hs HW.out.wts).mono ?_
      rintro e w1 ⟨rfl, hb1⟩
      rw [hC]
      have HB1 := Lib.hid hb1
      clear hb1 hC
      generalize pB s = a at *
      generalize pM s = b at *
      generalize pL s = c at *
      go_wp2_with (go_at_call 30; refine (wrong_any v _).mono ?_; rintro e w5 ⟨rfl, rfl⟩; rw [HN.out])
      go_ret2
      exact ⟨by rw [HE.out, HV.out]; rfl, HB1.out⟩

set_option maxHeartbeats 1600000 in
theorem split_any (t : ByteArray) (w : World) (hs : t.size ≤ maxLen) (hw : PT w) :
    Calls Tryd.prog 18 #[.string t] w fun e w' => e = .returned (.tuple #[.string (splV t), .int .i64 (splN t), .int .i64 (splE t)]) ∧ Below w.heap.size w w' := by
  have HW := Lib.hid hw
  clear hw
  cases hn : isTk t with
  | false =>
    have hR : rdV t = .agg #[.string ⟨#[]⟩, .string ⟨#[]⟩, .string ⟨#[]⟩, .int .i64 0] := by
      unfold rdV rdA rdB rdC splN; rw [hn]; rfl
    have HE := Lib.hid (show splE t = 11 ∧ splV t = ⟨#[]⟩ ∧ splN t = 0 by unfold splE splV splN; rw [hn]; exact ⟨rfl, rfl, rfl⟩)
    clear hn
    go_enter Tryd.func18, Tryd.ntmps18
    go_wp2_with fail
    refine (read_any t _ hs HW.out).mono ?_
    rintro e w1 ⟨rfl, hb1⟩
    rw [hR]
    have HB1 := Lib.hid hb1
    clear hb1
    go_wp2_with fail
    go_ret3
    exact ⟨by rw [HE.out.1, HE.out.2.1, HE.out.2.2]; rfl, HB1.out.alloc HB1.out.size _⟩
  | true =>
    obtain ⟨hz1, hv1, hv2⟩ := isTk_parts hn
    have hR : rdV t = .agg #[.string (pB (tkA t)), .string (pM (tkA t)), .string (pL (tkA t)), .int .i64 (tkN t)] := by
      unfold rdV rdA rdB rdC splN; rw [hn]; rfl
    have HE := Lib.hid (show splE t = 0 ∧ splV t = pB (tkA t) ++ pM (tkA t) ++ pL (tkA t) ∧ splN t = tkN t by
      unfold splE splV splN; rw [hn, whole_eq hz1]; exact ⟨rfl, rfl, rfl⟩)
    have e1 := no_list (s := pB (tkA t)) (by rw [pB_size hz1]; decide)
    have hB := pB_le (tkA t)
    have hM := pM_le (tkA t)
    have hL := pL_le (tkA t)
    clear hn hz1
    go_enter Tryd.func18, Tryd.ntmps18
    go_wp2_with fail
    refine (read_any t _ hs HW.out).mono ?_
    rintro e w2 ⟨rfl, hb1⟩
    rw [hR]
    have HB3 := Lib.hid hb1
    clear hb1 hR
    generalize pB (tkA t) = a at *
    generalize pM (tkA t) = b at *
    generalize pL (tkA t) = c at *
    generalize tkN t = v at *
    have HB4 := Lib.hid (HB3.out.alloc HB3.out.size (.cells #[.string a, .string b, .string c, .int .i64 v] 40))
    have hw1 : (w2.alloc (.cells #[.string a, .string b, .string c, .int .i64 v] 40)).cell? ⟨w2.heap.size, 0, none⟩ = some (.string a) := (World.cell?_alloc_at _ _ _ _ rfl).trans rfl
    have hw2 : (w2.alloc (.cells #[.string a, .string b, .string c, .int .i64 v] 40)).cell? ⟨w2.heap.size, 1, none⟩ = some (.string b) := (World.cell?_alloc_at _ _ _ _ rfl).trans rfl
    have hw3 : (w2.alloc (.cells #[.string a, .string b, .string c, .int .i64 v] 40)).cell? ⟨w2.heap.size, 2, none⟩ = some (.string c) := (World.cell?_alloc_at _ _ _ _ rfl).trans rfl
    have hw4 : (w2.alloc (.cells #[.string a, .string b, .string c, .int .i64 v] 40)).cell? ⟨w2.heap.size, 3, none⟩ = some (.int .i64 v) := (World.cell?_alloc_at _ _ _ _ rfl).trans rfl
    have k1 := cell_regrown hw1
    have k2 := cell_regrown hw2
    have k3 := cell_regrown hw3
    have k4 := cell_regrown hw4
    clear hw1 hw2 hw3 hw4
    go_wp2_with fail
    generalize w2.alloc (.cells #[.string a, .string b, .string c, .int .i64 v] 40) = W at *
    have cW := whole_regrown W a b c (by omega) (by omega) (by omega)
    refine wp_region_quiet_below (by kernel_rfl) (by kernel_rfl) ?_
    repeat (quiet_step (with_reducible exact cW _ _))
    refine wpQuiet_nil ?_
    intro _ hw'
    obtain ⟨⟨dq, osq⟩, hw''⟩ := hw'
    subst hw''
    have HB5 := Lib.hid (HB4.out.trans ((below_regrown W dq osq).mono HB4.out.size))
    generalize Go.Sort.grow (redrawn W dq) osq = W2 at *
    go_wp2_with fail
    go_ret3
    exact ⟨by rw [HE.out.1, HE.out.2.1, HE.out.2.2]; rfl, HB5.out⟩
end Go.Proofs.YtgpgleojkldndaaDoor
