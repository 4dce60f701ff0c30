/- The reference of layer 11: Mask. -/
import Derived.Test.YtgpgleojkldndaaDoorRef11C
namespace Go.Proofs.YtgpgleojkldndaaDoor
open Go.RowKit

set_option maxHeartbeats 1600000 in
theorem rmask_shp (s : ByteArray) (w : World) (hs : s.size ≤ maxLen) (hz : shp s = true) :
    Calls Tryd.prog 15 #[.string s] w fun e w' => e = .returned (.string (mk3 (pB s) (pM s) (pL s))) ∧ Below w.heap.size w w' := by
  have HE := Lib.hid (show cutE s = 0 by unfold cutE; rw [hz]; rfl)
  have hB := pB_le s
  have hM := pM_le s
  have hL := pL_le s
  have HM := Lib.hid (show mk3 (pB s) (pM s) (pL s) = pB s ++ stars (pM s).size ++ pL s from rfl)
  have hst := stars_size (pM s).size
  clear hz
  go_enter Tryd.func15, Tryd.ntmps15
  go_wp2_with fail
  refine (rcut11_any s _ hs).mono ?_
  rintro e w1 ⟨rfl, hb⟩
  have HB1 := Lib.hid hb
  clear hb
  rw [HE.out]
  generalize hpa : pB s = a at *
  generalize hpb : pM s = b at *
  generalize hpc : pL s = c at *
  have HP := Lib.hid (show pB s = a ∧ pM s = b ∧ pL s = c from ⟨hpa, hpb, hpc⟩)
  clear hpa hpb hpc
  go_wp2_with fail
  refine (rstars_any b.size _ (by omega)).mono ?_
  rintro e w2 ⟨rfl, rfl⟩
  generalize stars b.size = st at *
  have hz1 : (a ++ st).size ≤ 100 := by rw [ByteArray.size_append]; omega
  go_wp2_with fail
  go_ret
  exact ⟨by rw [HP.out.1, HP.out.2.1, HP.out.2.2, HM.out]; rfl, HB1.out⟩

theorem tk_rest {t : ByteArray} (h : isTk t = true) : t.extract (tkA t).size t.size = ⟨#[46]⟩ ++ itoaB (tkN t) := by
  have hj := tk_join h
  have hl : t.data.toList.length = t.size := Array.length_toList
  have hl2 : (tkA t).data.toList.length = (tkA t).size := Array.length_toList
  apply ba_ext
  have e : t.data.toList = (tkA t).data.toList ++ (⟨#[46]⟩ ++ itoaB (tkN t) : ByteArray).data.toList := by
    conv => lhs; rw [← hj]
    unfold tkS
    rw [app_list, app_list, app_list, List.append_assoc]
  rw [ext_list, List.take_of_length_le (by rw [List.length_drop]; omega)]
  conv => lhs; rw [e]
  rw [List.drop_left' hl2]

theorem mask_split (a b c : ByteArray) (v : Int) : tkS (mk3 a b c) v = mk3 a b c ++ (⟨#[46]⟩ ++ itoaB v) := by
  unfold tkS
  apply ba_ext
  rw [app_list, app_list, app_list, app_list, List.append_assoc]

set_option maxHeartbeats 1600000 in
theorem rmask_any (s : ByteArray) (w : World) (hs : s.size ≤ maxLen) :
    Calls Tryd.prog 15 #[.string s] w fun e w' => e = .returned (.string (maskS s)) ∧ Below w.heap.size w w' := by
  cases hz : shp s with
  | true => exact (rmask_shp s w hs hz).mono fun e w' ⟨he, hb⟩ => ⟨by rw [he]; unfold maskS; rw [hz]; rfl, hb⟩
  | false =>
    have HE := Lib.hid (show cutE s = 10 by unfold cutE; rw [hz]; rfl)
    cases hn : isTk s with
    | true =>
      obtain ⟨hz1, hv1, hv2⟩ := isTk_parts hn
      have hr := tk_rest hn
      have hS := mk3_size (tkA s)
      have HM := Lib.hid (show maskS s = mk3 (pB (tkA s)) (pM (tkA s)) (pL (tkA s)) ++ s.extract (tkA s).size s.size by
        rw [hr, ← mask_split]; unfold maskS; rw [hz, hn]; rfl)
      have HSP := Lib.hid (show splE s = 0 ∧ splV s = tkA s ∧ splN s = tkN s by unfold splE splV splN; rw [hn]; exact ⟨rfl, rfl, rfl⟩)
      have HZ1 := Lib.hid hz1
      have hle := tkA_le s
      have hzr : (s.extract (tkA s).size s.size).size ≤ 30 := by
        rw [hr, ByteArray.size_append]
        have := itoaB_size (tkN s) (by omega) (by omega)
        show 1 + (itoaB (tkN s)).size ≤ 30
        omega
      clear hz hn hz1 hr
      have hs' := hs
      unfold maxLen at hs'
      go_enter Tryd.func15, Tryd.ntmps15
      go_wp2_with fail
      refine (rcut11_any s _ hs).mono ?_
      rintro e w1 ⟨rfl, hb⟩
      have HB1 := Lib.hid hb
      clear hb
      rw [HE.out]
      generalize pB s = a' at *
      generalize pM s = b' at *
      generalize pL s = c' at *
      go_wp2_with fail
      refine (rsplit_any s _ hs).mono ?_
      rintro e w2 ⟨rfl, hb⟩
      have HB2 := Lib.hid (HB1.out.trans (hb.mono HB1.out.size))
      clear hb
      rw [HSP.out.1, HSP.out.2.1, HSP.out.2.2]
      have cM := fun d os => Calls.regrown_of (w := w2) (d := d) (os := os) (rmask_shp (tkA s) (Go.Sort.grow (redrawn w2 d) os) (Nat.le_trans hle hs) HZ1.out)
      generalize mk3 (pB (tkA s)) (pM (tkA s)) (pL (tkA s)) = m at *
      generalize tkN s = v at *
      generalize tkA s = u at *
      have hz4 : s.size - u.size ≤ 30 := by
        rw [ByteArray.size_extract] at hzr; omega
      have hz5 : ¬ 9223372036854775807 < m.size + (s.size - u.size) := by omega
      have hz6 : ¬ 9223372036854775807 < m.size + (s.extract u.size s.size).size := by omega
      go_wp2_with fail
      refine wp_region_quiet_below (by kernel_rfl) (by kernel_rfl) ?_
      repeat (quiet_step (with_reducible exact cM _ _))
      refine wpQuiet_nil ?_
      intro _ hw'
      obtain ⟨⟨dq, osq⟩, hw''⟩ := hw'
      subst hw''
      have HB5 := Lib.hid (HB2.out.trans ((below_regrown w2 dq osq).mono HB2.out.size))
      generalize Go.Sort.grow (redrawn w2 dq) osq = W2 at *
      go_wp2_with fail
      go_ret
      exact ⟨by rw [HM.out]; rfl, HB5.out⟩
    | false =>
      have HM := Lib.hid (show maskS s = stars (min s.size 32) by unfold maskS; rw [hz, hn]; rfl)
      have HSP := Lib.hid (show splE s = 11 ∧ splV s = ⟨#[]⟩ ∧ splN s = 0 by unfold splE splV splN; rw [hn]; exact ⟨rfl, rfl, rfl⟩)
      clear hz hn
      obtain ⟨m, hm, hm2⟩ : ∃ m : Nat, min (s.size : Int) 32 = m ∧ min s.size 32 = m := ⟨min s.size 32, by omega, rfl⟩
      have hm32 : m ≤ 32 := by omega
      have HM2 := Lib.hid hm2
      have HM3 := Lib.hid hm
      clear hm2 hm
      go_enter Tryd.func15, Tryd.ntmps15
      go_wp2_with fail
      refine (rcut11_any s _ hs).mono ?_
      rintro e w1 ⟨rfl, hb⟩
      have HB1 := Lib.hid hb
      clear hb
      rw [HE.out]
      generalize pB s = a' at *
      generalize pM s = b' at *
      generalize pL s = c' at *
      go_wp2_with fail
      refine (rsplit_any s _ hs).mono ?_
      rintro e w2 ⟨rfl, hb⟩
      have HB2 := Lib.hid (HB1.out.trans (hb.mono HB1.out.size))
      clear hb
      rw [HSP.out.1, HSP.out.2.1, HSP.out.2.2]
      go_wp2_with fail
      rw [HM3.out]
      refine (rstars_any m _ (by omega)).mono ?_
      rintro e w3 ⟨rfl, rfl⟩
      go_wp2_with fail
      go_ret
      exact ⟨by rw [HM.out, HM2.out]; rfl, HB2.out⟩
end Go.Proofs.YtgpgleojkldndaaDoor
