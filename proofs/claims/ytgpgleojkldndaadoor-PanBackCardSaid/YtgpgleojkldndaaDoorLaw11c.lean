/- PanBack. -/
import Derived.Test.YtgpgleojkldndaaDoorLaw11a
namespace Go.Proofs.YtgpgleojkldndaaDoor
open Go.RowKit

set_option maxHeartbeats 3200000 in
theorem back11_any (s : ByteArray) (v : Int) (t : ByteArray) (w : World) (hs : s.size ≤ maxLen) (ht : t.size ≤ maxLen) (hw : PT w) :
    Calls Tryd.prog 5 #[.string s, .int .i64 v, .string t] w fun e w' => e = .returned (.bool true) ∧ Below w.heap.size w w' := by
  have HW := Lib.hid hw
  clear hw
  have HS := Lib.hid hs
  have HT := Lib.hid ht
  -- what comes of the token
  have h1 : (tokE s v = 0 ∧ shp s = true ∧ 1 ≤ v ∧ v ≤ 255) ∨ (tokE s v == 0) = false := by
    by_cases h : tokE s v = 0
    · refine Or.inl ⟨h, ?_⟩
      cases hz : shp s with
      | false => unfold tokE at h; rw [hz, if_neg (by decide)] at h; exact absurd h (by decide)
      | true =>
        refine ⟨rfl, ?_⟩
        unfold tokE at h
        rw [hz, if_pos rfl] at h
        split at h
        · omega
        · omega
    · exact Or.inr (by simpa using h)
  have h2 : (isTk t = true ∧ tokE (tkA t) (tkN t) = 0 ∧ tokV (tkA t) (tkN t) = t) ∨ isTk t = false := by
    cases hn : isTk t with
    | false => exact Or.inr rfl
    | true =>
      obtain ⟨g1, g2, g3⟩ := isTk_parts hn
      have e4 : tokE (tkA t) (tkN t) = 0 := by unfold tokE; rw [g1, if_pos rfl, if_neg (by omega)]
      exact Or.inl ⟨rfl, e4, by unfold tokV; rw [if_pos e4, tk_join hn]⟩
  clear hs ht
  rcases h1 with ⟨he, hz, hv1, hv2⟩ | he
  · have HE := Lib.hid he
    have HV := Lib.hid (show tokV s v = tkS s v by unfold tokV; rw [if_pos he])
    have HP := Lib.hid (show splE (tkS s v) = 0 ∧ splV (tkS s v) = s ∧ splN (tkS s v) = v by
      obtain ⟨e1, e2, e3⟩ := tk_of hz hv1 hv2
      unfold splE splV splN
      rw [e3, e1, e2]; exact ⟨rfl, rfl, rfl⟩)
    have HZ := Lib.hid (show (tkS s v).size ≤ maxLen by
      have h3 := (shp_parts hz).2.2
      have h4 := itoaB_size v (by omega) (by omega)
      unfold tkS maxLen
      rw [ByteArray.size_append, ByteArray.size_append]
      show s.size + 1 + _ ≤ _
      omega)
    clear he hz hv1 hv2
    rcases h2 with ⟨hn, g1, g2⟩ | hn
    · have HQ := Lib.hid (show splE t = 0 ∧ splV t = tkA t ∧ splN t = tkN t by unfold splE splV splN; rw [hn]; exact ⟨rfl, rfl, rfl⟩)
      have HG := Lib.hid (show tokE (tkA t) (tkN t) = 0 ∧ tokV (tkA t) (tkN t) = t from ⟨g1, g2⟩)
      have HZ2 := Lib.hid (Nat.le_trans (tkA_le t) HT.out)
      clear hn g1 g2
      go_enter Tryd.func5, Tryd.ntmps5
      go_wp2_with fail
      refine (small11_any _ HW.out).mono ?_
      rintro e w1 ⟨rfl, hb1⟩
      have HB1 := Lib.hid hb1
      clear hb1
      go_wp2_with fail
      refine (token_any s v _ HS.out (HW.out.keep HB1.out)).mono ?_
      rintro e w2 ⟨rfl, hb2⟩
      have HB2 := Lib.hid (HB1.out.trans (hb2.mono HB1.out.size))
      clear hb2
      rw [HE.out, HV.out]
      generalize tkS s v = tk at *
      go_wp2_with fail
      refine (split_any tk _ HZ.out (HW.out.keep HB2.out)).mono ?_
      rintro e w3 ⟨rfl, hb3⟩
      have HB3 := Lib.hid (HB2.out.trans (hb3.mono HB2.out.size))
      clear hb3
      rw [HP.out.1, HP.out.2.1, HP.out.2.2]
      go_wp2_with fail
      refine (split_any t _ HT.out (HW.out.keep HB3.out)).mono ?_
      rintro e w4 ⟨rfl, hb4⟩
      have HB4 := Lib.hid (HB3.out.trans (hb4.mono HB3.out.size))
      clear hb4
      rw [HQ.out.1, HQ.out.2.1, HQ.out.2.2]
      go_wp2_with fail
      refine (token_any (tkA t) (tkN t) _ HZ2.out (HW.out.keep HB4.out)).mono ?_
      rintro e w5 ⟨rfl, hb5⟩
      have HB5 := Lib.hid (HB4.out.trans (hb5.mono HB4.out.size))
      clear hb5
      rw [HG.out.1, HG.out.2]
      go_wp2_with fail
      go_ret
      exact ⟨rfl, HB5.out⟩
    · have HQ := Lib.hid (show splE t = 11 ∧ splV t = ⟨#[]⟩ ∧ splN t = 0 by unfold splE splV splN; rw [hn]; exact ⟨rfl, rfl, rfl⟩)
      clear hn
      go_enter Tryd.func5, Tryd.ntmps5
      go_wp2_with fail
      refine (small11_any _ HW.out).mono ?_
      rintro e w1 ⟨rfl, hb1⟩
      have HB1 := Lib.hid hb1
      clear hb1
      go_wp2_with fail
      refine (token_any s v _ HS.out (HW.out.keep HB1.out)).mono ?_
      rintro e w2 ⟨rfl, hb2⟩
      have HB2 := Lib.hid (HB1.out.trans (hb2.mono HB1.out.size))
      clear hb2
      rw [HE.out, HV.out]
      generalize tkS s v = tk at *
      go_wp2_with fail
      refine (split_any tk _ HZ.out (HW.out.keep HB2.out)).mono ?_
      rintro e w3 ⟨rfl, hb3⟩
      have HB3 := Lib.hid (HB2.out.trans (hb3.mono HB2.out.size))
      clear hb3
      rw [HP.out.1, HP.out.2.1, HP.out.2.2]
      go_wp2_with fail
      refine (split_any t _ HT.out (HW.out.keep HB3.out)).mono ?_
      rintro e w4 ⟨rfl, hb4⟩
      have HB4 := Lib.hid (HB3.out.trans (hb4.mono HB3.out.size))
      clear hb4
      rw [HQ.out.1, HQ.out.2.1, HQ.out.2.2]
      go_wp2_with fail
      go_ret
      exact ⟨rfl, HB4.out⟩
  · have HE := Lib.hid he
    clear he
    rcases h2 with ⟨hn, g1, g2⟩ | hn
    · have HQ := Lib.hid (show splE t = 0 ∧ splV t = tkA t ∧ splN t = tkN t by unfold splE splV splN; rw [hn]; exact ⟨rfl, rfl, rfl⟩)
      have HG := Lib.hid (show tokE (tkA t) (tkN t) = 0 ∧ tokV (tkA t) (tkN t) = t from ⟨g1, g2⟩)
      have HZ2 := Lib.hid (Nat.le_trans (tkA_le t) HT.out)
      clear hn g1 g2
      go_enter Tryd.func5, Tryd.ntmps5
      go_wp2_with fail
      refine (small11_any _ HW.out).mono ?_
      rintro e w1 ⟨rfl, hb1⟩
      have HB1 := Lib.hid hb1
      clear hb1
      go_wp2_with fail
      refine (token_any s v _ HS.out (HW.out.keep HB1.out)).mono ?_
      rintro e w2 ⟨rfl, hb2⟩
      have HB2 := Lib.hid (HB1.out.trans (hb2.mono HB1.out.size))
      clear hb2
      have he2 := HE.out
      generalize tokE s v = x at *
      generalize tokV s v = y at *
      have HB3 := HB2
      go_wp2_with fail
      refine (split_any t _ HT.out (HW.out.keep HB3.out)).mono ?_
      rintro e w4 ⟨rfl, hb4⟩
      have HB4 := Lib.hid (HB3.out.trans (hb4.mono HB3.out.size))
      clear hb4
      rw [HQ.out.1, HQ.out.2.1, HQ.out.2.2]
      go_wp2_with fail
      refine (token_any (tkA t) (tkN t) _ HZ2.out (HW.out.keep HB4.out)).mono ?_
      rintro e w5 ⟨rfl, hb5⟩
      have HB5 := Lib.hid (HB4.out.trans (hb5.mono HB4.out.size))
      clear hb5
      rw [HG.out.1, HG.out.2]
      go_wp2_with fail
      go_ret
      exact ⟨rfl, HB5.out⟩
    · have HQ := Lib.hid (show splE t = 11 ∧ splV t = ⟨#[]⟩ ∧ splN t = 0 by unfold splE splV splN; rw [hn]; exact ⟨rfl, rfl, rfl⟩)
      clear hn
      go_enter Tryd.func5, Tryd.ntmps5
      go_wp2_with fail
      refine (small11_any _ HW.out).mono ?_
      rintro e w1 ⟨rfl, hb1⟩
      have HB1 := Lib.hid hb1
      clear hb1
      go_wp2_with fail
      refine (token_any s v _ HS.out (HW.out.keep HB1.out)).mono ?_
      rintro e w2 ⟨rfl, hb2⟩
      have HB2 := Lib.hid (HB1.out.trans (hb2.mono HB1.out.size))
      clear hb2
      have he2 := HE.out
      generalize tokE s v = x at *
      generalize tokV s v = y at *
      have HB3 := HB2
      go_wp2_with fail
      refine (split_any t _ HT.out (HW.out.keep HB3.out)).mono ?_
      rintro e w4 ⟨rfl, hb4⟩
      have HB4 := Lib.hid (HB3.out.trans (hb4.mono HB3.out.size))
      clear hb4
      rw [HQ.out.1, HQ.out.2.1, HQ.out.2.2]
      go_wp2_with fail
      go_ret
      exact ⟨rfl, HB4.out⟩
end Go.Proofs.YtgpgleojkldndaaDoor
