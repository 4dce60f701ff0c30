/- The reference of layer 11: Token, Split, Mask. -/
import Derived.Test.YtgpgleojkldndaaDoorRef11B
import Derived.Test.YtgpgleojkldndaaDoorPanC
namespace Go.Proofs.YtgpgleojkldndaaDoor
open Go.RowKit

set_option maxHeartbeats 1600000 in
theorem rtoken_any (s : ByteArray) (v : Int) (w : World) (hs : s.size ≤ maxLen) :
    Calls Tryd.prog 17 #[.string s, .int .i64 v] w fun e w' => e = .returned (.tuple #[.string (tokV s v), .int .i64 (tokE s v)]) ∧ Below w.heap.size w w' := by
  cases hz : shp s with
  | false =>
    have HE := Lib.hid (show tokE s v = 10 by unfold tokE; rw [hz]; rfl)
    have HV := Lib.hid (show tokV s v = ⟨#[]⟩ by unfold tokV; rw [HE.out]; rfl)
    have HZ := Lib.hid hz
    clear hz
    go_enter Tryd.func17, Tryd.ntmps17
    go_wp2_with (go_at_call 22; refine (rshaped_any s _ hs).mono ?_; rintro e w1 ⟨rfl, hb⟩; rw [HZ.out])
    go_ret2
    exact ⟨by rw [HE.out, HV.out]; rfl, hb⟩
  | true =>
    have hl : s.size ≤ 1000 := by have := (shp_parts hz).2.2; omega
    have HZ := Lib.hid hz
    clear hs
    by_cases hv : 1 ≤ v ∧ v ≤ 255
    · have HE := Lib.hid (show tokE s v = 0 by unfold tokE; rw [hz, if_pos rfl, if_neg (by omega)])
      have HV := Lib.hid (show tokV s v = s ++ ⟨#[46]⟩ ++ itoaB v by unfold tokV; rw [if_pos HE.out]; rfl)
      have h1 : decide (v < 1) = false := by simp; omega
      have h2 : decide (255 < v) = false := by simp; omega
      have hi := itoaB_size v (by omega) (by omega)
      have hz1 : (s ++ (⟨#[46]⟩ : ByteArray)).size ≤ 1001 := by rw [ByteArray.size_append]; show s.size + 1 ≤ 1001; omega
      have HI := Lib.hid hv
      clear hz hv
      go_enter Tryd.func17, Tryd.ntmps17
      go_wp2_with fail
      refine (rshaped_any s _ (by unfold maxLen; omega)).mono ?_
      rintro e w1 ⟨rfl, hb⟩
      rw [HZ.out]
      have HB1 := Lib.hid hb
      clear hb
      go_wp2_with fail
      refine (rtext11_any (by have := HI.out; omega) (by have := HI.out; omega) _).mono ?_
      rintro e w2 ⟨rfl, hb2⟩
      have HB2 := Lib.hid (HB1.out.trans (hb2.mono HB1.out.size))
      clear hb2
      generalize itoaB v = tv at *
      go_wp2_with fail
      go_ret2
      exact ⟨by rw [HE.out, HV.out]; rfl, HB2.out⟩
    · have HE := Lib.hid (show tokE s v = 1 by unfold tokE; rw [hz, if_pos rfl, if_pos (by omega)])
      have HV := Lib.hid (show tokV s v = ⟨#[]⟩ by unfold tokV; rw [HE.out]; rfl)
      clear hz
      rcases (show v < 1 ∨ (¬ v < 1 ∧ 255 < v) by omega) with h1 | ⟨h1, h2⟩
      all_goals
        go_enter Tryd.func17, Tryd.ntmps17
        go_wp2_with (go_at_call 22; refine (rshaped_any s _ (by unfold maxLen; omega)).mono ?_; rintro e w1 ⟨rfl, hb⟩; rw [HZ.out])
        go_ret2
        exact ⟨by rw [HE.out, HV.out]; rfl, hb⟩

/-- what the reference's Split finds -/
theorem split_yes {t : ByteArray} (h : isTk t = true) : dnE (bhd t 46) = 0 ∧ dnV (bhd t 46) = tkN t ∧ tokE (tkA t) (tkN t) = 0 ∧ tokV (tkA t) (tkN t) = t := by
  obtain ⟨h1, h2, h3⟩ := isTk_parts h
  obtain ⟨e1, e2, e3⟩ := ver_text h2
  have e4 : tokE (tkA t) (tkN t) = 0 := by unfold tokE; rw [h1, if_pos rfl, if_neg (by omega)]
  exact ⟨e1, e2, e4, by unfold tokV; rw [if_pos e4, tk_join h]⟩

theorem split_no {t : ByteArray} (h : isTk t = false) : dnE (bhd t 46) ≠ 0 ∨ (dnE (bhd t 46) = 0 ∧ tokE (tkA t) (dnV (bhd t 46)) ≠ 0) ∨
    (dnE (bhd t 46) = 0 ∧ tokE (tkA t) (dnV (bhd t 46)) = 0 ∧ tokV (tkA t) (dnV (bhd t 46)) ≠ t) := by
  by_cases h1 : dnE (bhd t 46) = 0
  · by_cases h2 : tokE (tkA t) (dnV (bhd t 46)) = 0
    · refine Or.inr (Or.inr ⟨h1, h2, fun h3 => ?_⟩)
      have hz : shp (tkA t) = true := by
        cases hz : shp (tkA t) with
        | true => rfl
        | false => unfold tokE at h2; rw [hz, if_neg (by decide)] at h2; exact absurd h2 (by decide)
      have hv : 1 ≤ dnV (bhd t 46) ∧ dnV (bhd t 46) ≤ 255 := by
        unfold tokE at h2
        rw [hz, if_pos rfl] at h2
        split at h2
        · omega
        · omega
      unfold tokV at h3
      rw [if_pos h2] at h3
      have := (tk_of hz hv.1 hv.2).2.2
      rw [h3, h] at this
      exact absurd this (by decide)
    · exact Or.inr (Or.inl ⟨h1, h2⟩)
  · exact Or.inl h1

theorem same_list {a b : ByteArray} (h : a ≠ b) : (a.toList == b.toList) = false := by
  rw [beq_eq_false_iff_ne, ByteArray.toList_eq, ByteArray.toList_eq]
  exact fun he => h (ba_ext he)

set_option maxRecDepth 100000 in
set_option maxHeartbeats 3200000 in
theorem rsplit_any (t : ByteArray) (w : World) (hs : t.size ≤ maxLen) :
    Calls Tryd.prog 19 #[.string t] w fun e w' => e = .returned (.tuple #[.string (splV t), .int .i64 (splN t), .int .i64 (splE t)]) ∧ Below w.heap.size w w' := by
  have HS := Lib.hid hs
  unfold maxLen at hs
  go_enter Tryd.func19, Tryd.ntmps19
  go_wp2_with fail
  go_loopw [5] (fun i wr => ∃ k : Nat, k ≤ t.size ∧ i = .int .i64 k ∧ (∀ j (hj : j < t.size), j < k → t[j] ≠ 46) ∧ wr = w) (fun i _ => t.size - (intOf i).toNat)
  case atStart => exact ⟨0, Nat.zero_le _, rfl, fun j _ hj => absurd hj (by omega), rfl⟩
  case round =>
    obtain ⟨k, hk, rfl, hn, hw⟩ := hrel
    have HN := Lib.hid hn
    have HWE := Lib.hid hw
    clear hn hw
    by_cases hlt : k < t.size
    · by_cases hd : t[k] = 46
      · obtain ⟨f1, f2⟩ := fst_at hlt hd (fun j hj => HN.out j (Nat.lt_trans hj hlt) hj)
        have hd' : ((t[k].toNat : Int) != 46) = false := by rw [hd]; rfl
        obtain ⟨q, hq, hq2⟩ : ∃ q : Nat, (k : Int) + 1 = q ∧ q = k + 1 := ⟨k + 1, by omega, rfl⟩
        have hqs : q ≤ t.size := by omega
        have HA := Lib.hid (show t.extract 0 k = tkA t by unfold tkA ahd; rw [f2])
        have HB := Lib.hid (show t.extract q t.size = bhd t 46 by unfold bhd; rw [f2, hq2])
        have HZ1 := Lib.hid (Nat.le_trans (tkA_le t) HS.out)
        have HZ2 := Lib.hid (Nat.le_trans (bhd_le t 46) HS.out)
        clear hd f1 f2 hq2
        cases hn : isTk t with
        | true =>
          obtain ⟨e1, e2, e3, e4⟩ := split_yes hn
          have HE := Lib.hid (show splE t = 0 ∧ splV t = tkA t ∧ splN t = tkN t by unfold splE splV splN; rw [hn]; exact ⟨rfl, rfl, rfl⟩)
          have HF := Lib.hid (show dnE (bhd t 46) = 0 ∧ dnV (bhd t 46) = tkN t ∧ tokE (tkA t) (tkN t) = 0 ∧ tokV (tkA t) (tkN t) = t from ⟨e1, e2, e3, e4⟩)
          clear e1 e2 e3 e4 hn
          go_wp2_with fail
          rw [HB.out]
          refine (rnumber_any (bhd t 46) _ HZ2.out).mono ?_
          rintro e w1 ⟨rfl, n1, rfl⟩
          rw [HF.out.1, HF.out.2.1]
          go_wp2_with fail
          rw [HA.out]
          refine (rtoken_any (tkA t) _ _ HZ1.out).mono ?_
          rintro e w2 ⟨rfl, hb⟩
          have HB2 := Lib.hid (show Below w.heap.size w w2 by
            rw [HWE.out] at hb
            exact (drawn (Below.refl w.heap.size w) n1).trans hb)
          clear hb
          rw [HF.out.2.2.1, HF.out.2.2.2]
          go_wp2_with fail
          go_ret3
          exact ⟨by rw [HE.out.1, HE.out.2.1, HE.out.2.2, ← HA.out]; rfl, HB2.out⟩
        | false =>
          have HE := Lib.hid (show splE t = 11 ∧ splV t = ⟨#[]⟩ ∧ splN t = 0 by unfold splE splV splN; rw [hn]; exact ⟨rfl, rfl, rfl⟩)
          rcases split_no hn with h1 | ⟨h1, h2⟩ | ⟨h1, h2, h3⟩
          · have h1' : (dnE (bhd t 46) == 0) = false := by simpa using h1
            clear h1 hn
            go_wp2_with fail
            rw [HB.out]
            refine (rnumber_any (bhd t 46) _ HZ2.out).mono ?_
            rintro e w1 ⟨rfl, n1, rfl⟩
            generalize dnE (bhd t 46) = x at *
            generalize dnV (bhd t 46) = y at *
            go_wp2_with fail
            rw [HA.out]
            refine (rtoken_any (tkA t) _ _ HZ1.out).mono ?_
            rintro e w2 ⟨rfl, hb⟩
            have HB2 := Lib.hid (show Below w.heap.size w w2 by
              rw [HWE.out] at hb
              exact (drawn (Below.refl w.heap.size w) n1).trans hb)
            clear hb
            generalize tokE (tkA t) y = z at *
            generalize tokV (tkA t) y = u at *
            go_wp2_with fail
            go_ret3
            exact ⟨by rw [HE.out.1, HE.out.2.1, HE.out.2.2]; rfl, HB2.out⟩
          · have h2' : (tokE (tkA t) (dnV (bhd t 46)) == 0) = false := by simpa using h2
            have H1 := Lib.hid h1
            clear h1 h2 hn
            go_wp2_with fail
            rw [HB.out]
            refine (rnumber_any (bhd t 46) _ HZ2.out).mono ?_
            rintro e w1 ⟨rfl, n1, rfl⟩
            rw [H1.out]
            generalize dnV (bhd t 46) = y at *
            go_wp2_with fail
            rw [HA.out]
            refine (rtoken_any (tkA t) _ _ HZ1.out).mono ?_
            rintro e w2 ⟨rfl, hb⟩
            have HB2 := Lib.hid (show Below w.heap.size w w2 by
              rw [HWE.out] at hb
              exact (drawn (Below.refl w.heap.size w) n1).trans hb)
            clear hb
            generalize tokE (tkA t) y = z at *
            generalize tokV (tkA t) y = u at *
            go_wp2_with fail
            go_ret3
            exact ⟨by rw [HE.out.1, HE.out.2.1, HE.out.2.2]; rfl, HB2.out⟩
          · have h3' := same_list h3
            have H1 := Lib.hid h1
            have H2 := Lib.hid h2
            clear h1 h2 h3 hn
            go_wp2_with fail
            rw [HB.out]
            refine (rnumber_any (bhd t 46) _ HZ2.out).mono ?_
            rintro e w1 ⟨rfl, n1, rfl⟩
            rw [H1.out]
            generalize dnV (bhd t 46) = y at *
            go_wp2_with fail
            rw [HA.out]
            refine (rtoken_any (tkA t) _ _ HZ1.out).mono ?_
            rintro e w2 ⟨rfl, hb⟩
            have HB2 := Lib.hid (show Below w.heap.size w w2 by
              rw [HWE.out] at hb
              exact (drawn (Below.refl w.heap.size w) n1).trans hb)
            clear hb
            rw [H2.out]
            generalize tokV (tkA t) y = u at *
            go_wp2_with fail
            go_ret3
            exact ⟨by rw [HE.out.1, HE.out.2.1, HE.out.2.2]; rfl, HB2.out⟩
      · have hd' : ((t[k].toNat : Int) != 46) = true := by
          rw [bne_iff_ne]
          intro h
          exact hd (UInt8.toNat_inj.1 (by show t[k].toNat = 46; omega))
        have HN2 := Lib.hid (show ∀ j (hj : j < t.size), j < k + 1 → t[j] ≠ 46 from fun j hj hjk => by
          rcases Nat.lt_or_ge j k with h | h
          · exact HN.out j hj h
          · obtain rfl : j = k := by omega
            exact hd)
        clear hd
        go_wp2_with fail
        go_roundw
        case rel => exact ⟨k + 1, by omega, by go_num, HN2.out, HWE.out⟩
        case measure => simp [intOf]; omega
    · obtain rfl : k = t.size := by omega
      obtain ⟨f1, f2⟩ := fst_none (fun j hj => HN.out j hj hj)
      have hn : isTk t = false := by
        cases hn : isTk t with
        | false => rfl
        | true => rw [tk_has hn] at f1; exact absurd f1 (by decide)
      have HE := Lib.hid (show splE t = 11 ∧ splV t = ⟨#[]⟩ ∧ splN t = 0 by unfold splE splV splN; rw [hn]; exact ⟨rfl, rfl, rfl⟩)
      clear f1 f2 hn
      go_wp2_with fail
      go_ret3
      exact ⟨by rw [HE.out.1, HE.out.2.1, HE.out.2.2]; rfl, by rw [HWE.out]; exact Below.refl _ _⟩
end Go.Proofs.YtgpgleojkldndaaDoor
