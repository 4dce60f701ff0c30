/- The reference of layer 1: Unpack. -/
import Derived.Test.YtglajdedalikdaaDoorDigE
import Derived.Test.YtglajdedalikdaaDoorRef01A
namespace Go.Proofs.YtglajdedalikdaaDoor
open Go.RowKit

/-- the text of the first t halves -/
def hs (bs : Nat → Nat) (t : Nat) : ByteArray := strOf t fun i => 48 + hb bs i
theorem hb_lo (bs : Nat → Nat) (i : Nat) : hb bs (2 * i) = bs i / 16 := by unfold hb; rw [if_pos (by omega), show 2 * i / 2 = i by omega]
theorem hb_hi (bs : Nat → Nat) (i : Nat) : hb bs (2 * i + 1) = bs i % 16 := by unfold hb; rw [if_neg (by omega), show (2 * i + 1) / 2 = i by omega]
theorem hs_two (bs : Nat → Nat) (i x : Nat) (h : bs i = x) : hs bs (2 * i) ++ ByteArray.mk #[chr (48 + x / 16), chr (48 + x % 16)] = hs bs (2 * (i + 1)) := by
  subst h
  unfold hs strOf
  apply ByteArray.ext
  rw [ByteArray.data_append]
  apply Array.ext'
  rw [show 2 * (i + 1) = 2 * i + 1 + 1 by omega, List.range_succ, List.range_succ]
  simp [hb_lo, hb_hi]
theorem hs_size (bs : Nat → Nat) (t : Nat) : (hs bs t).size = t := strOf_size _ _
theorem hs_head (bs : Nat → Nat) (t : Nat) (h : 0 < (hs bs t).size) (h16 : hb bs 0 < 16) : ((hs bs t)[0]'h).toNat = 48 + hb bs 0 := by
  have h0 : 0 < t := by rw [hs_size] at h; exact h
  have : (hs bs t)[0]'h = chr (48 + hb bs 0) := by
    show (hs bs t).data[0]'h = _
    simp [hs, strOf]
  rw [this, chr_toNat _ (by omega)]
theorem hs_tail (bs : Nat → Nat) (n : Nat) : (hs bs (n + 1)).extract 1 (n + 1) = strOf n fun i => 48 + hb bs (1 + i) := by
  unfold hs strOf
  rw [ByteArray.extract_mk]
  congr 1
  rw [List.range_succ_eq_map]
  simp [List.map_map, Function.comp_def, Nat.add_comm 1]
  exact List.take_of_length_le (by simp)

theorem okB_half {bs : Nat → Nat} {n t : Nat} (h : t < n + n % 2) (h9 : ¬ hb bs t ≤ 9) : okB bs n = false := by
  rcases Nat.lt_or_ge t (n % 2) with hlt | hge
  · obtain rfl : t = 0 := by omega
    exact okB_lead (by omega) (by omega)
  · exact okB_bad (i := t - n % 2) (by omega) (by rw [show n % 2 + (t - n % 2) = t by omega]; exact h9)
set_option maxHeartbeats 1600000 in
theorem runpack_in (B o cap len : Nat) (n : Nat) (bs : Nat → Nat) (w : World) (hl : len ≤ 281474976710656) (h9 : n ≤ 999) (hfit : (n + 1) / 2 ≤ len)
    (hx : ∀ j, j < len → bs j < 256 ∧ w.cell? ⟨B, o + j, none⟩ = some (.int .u8 (bs j : Nat))) (hB : B < w.heap.size) :
    Calls Tryd.prog 14 #[.slice (some ⟨B, o, none⟩) len cap, .int .i64 n] w fun e w' => e = unpR len bs n ∧ Below w.heap.size w w' := by
  have HX := Lib.hid hx
  clear hx
  have HE := Lib.hid (unpE_inner (bs := bs) h9 hfit)
  obtain ⟨m, hm⟩ : ∃ m, m = (n + 1) / 2 := ⟨_, rfl⟩
  have HM := Lib.hid hm
  have HI := Lib.hid (show ((n : Int) + 1) / 2 = (m : Nat) by omega)
  have hmt : ((n : Int) + 1).tdiv 2 = (m : Nat) := by rw [Int.tdiv_eq_ediv_of_nonneg (by omega)]; omega
  have hd1 : decide (len < m) = false := by rw [decide_eq_false_iff_not]; omega
  have hd2 : decide ((n : Int) < 0) = false := by rw [decide_eq_false_iff_not]; omega
  have hd3 : decide ((999 : Int) < n) = false := by rw [decide_eq_false_iff_not]; omega
  have hm5 : m ≤ 500 := by omega
  have hml : m ≤ len := by omega
  clear hm
  go_enter Tryd.func14, Tryd.ntmps14
  go_wp2_with fail
  go_loopw [8, 9] (fun s c wr => ∃ i : Nat, i ≤ m ∧ c = .int .i64 i ∧ s = .string (hs bs (2 * i)) ∧ (∀ t, t < 2 * i → hb bs t ≤ 9) ∧ Below w.heap.size w wr) (fun _ c _ => m - (intOf c).toNat)
  case atStart => exact ⟨0, Nat.zero_le _, rfl, rfl, fun t ht => absurd ht (by omega), Below.refl _ _⟩
  case round =>
    obtain ⟨i, hi, rfl, rfl, hall, hb'⟩ := hrel
    have HA := Lib.hid hall
    have HB := Lib.hid hb'
    clear hall hb'
    by_cases hlt : i < m
    · obtain ⟨x, hxx⟩ : ∃ x, bs i = x := ⟨_, rfl⟩
      have HXX := Lib.hid hxx
      have hc := HX.out i (by omega)
      rw [hxx] at hc
      obtain ⟨hx256, hc⟩ := hc
      have hcell : wr.cell? ⟨B, o + i, none⟩ = some (.int .u8 x) := (HB.out.cell (p := ⟨B, _, none⟩) hB).trans hc
      clear hc hxx
      have HT := Lib.hid (hs_two bs i x HXX.out)
      have hsz := hs_size bs (2 * i)
      have HLO := Lib.hid (show hb bs (2 * i) = x / 16 by rw [hb_lo, HXX.out])
      have HHI := Lib.hid (show hb bs (2 * i + 1) = x % 16 by rw [hb_hi, HXX.out])
      generalize hs bs (2 * i) = st at *
      obtain ⟨a, ha, ha'⟩ : ∃ a : Nat, ((x : Nat) : Int).tdiv 16 = a ∧ x / 16 = a := ⟨x / 16, by rw [Int.tdiv_eq_ediv_of_nonneg (by omega)]; omega, rfl⟩
      obtain ⟨b, hbm, hbm'⟩ : ∃ b : Nat, ((x : Nat) : Int).tmod 16 = b ∧ x % 16 = b := ⟨x % 16, by rw [Int.tmod_eq_emod_of_nonneg (by omega)]; omega, rfl⟩
      have ha16 : a < 16 := by omega
      have hb16 : b < 16 := by omega
      rw [ha'] at HT HLO
      rw [hbm'] at HT HHI
      have hst : st.size ≤ 1000 := by omega
      clear ha' hbm' hsz
      by_cases h1 : (9 : Int) < a
      · have HZ := Lib.hid (unpR_bad (ite_f HE.out (okB_half (t := 2 * i) (by have := HM.out; omega) (by rw [HLO.out]; omega))) (by decide))
        go_wp2_with fail
        go_ret3
        exact ⟨HZ.out.symm, HB.out⟩
      · by_cases h2 : (9 : Int) < b
        · have HZ := Lib.hid (unpR_bad (ite_f HE.out (okB_half (t := 2 * i + 1) (by have := HM.out; omega) (by rw [HHI.out]; omega))) (by decide))
          go_wp2_with fail
          go_ret3
          exact ⟨HZ.out.symm, HB.out⟩
        · have e1 : IntKind.u8.wrap (a : Int) = a := IntWalk.u8_in _ (by omega)
          have e2 : IntKind.u8.wrap (48 + (a : Int)) = ((48 + a : Nat) : Int) := by rw [IntWalk.u8_in _ (by omega)]; norm_cast
          have e3 : IntKind.u8.wrap (b : Int) = b := IntWalk.u8_in _ (by omega)
          have e4 : IntKind.u8.wrap (48 + (b : Int)) = ((48 + b : Nat) : Int) := by rw [IntWalk.u8_in _ (by omega)]; norm_cast
          generalize 48 + a = a48 at *
          generalize 48 + b = b48 at *
          have hcv : (convert 22 9 (.slice (some ⟨wr.heap.size, 0, none⟩) 2 2)).run Tryd.prog ((wr.alloc (.cells #[.int .u8 a48, .int .u8 b48] 5)).drew) = .ok (.string ⟨#[chr a48, chr b48]⟩) ((wr.alloc (.cells #[.int .u8 a48, .int .u8 b48] 5)).drew) := conv2 a48 b48 wr.drew
          have hsz2 : (ByteArray.mk #[chr a48, chr b48]).size = 2 := rfl
          go_wp2_with fail
          go_region
          go_wp2_with fail
          go_roundw
          case rel =>
            exact ⟨i + 1, by omega, by go_num, by rw [← HT.out], fun t ht => by
              rcases Nat.lt_or_ge t (2 * i) with h | h
              · exact HA.out t h
              · rcases (show t = 2 * i ∨ t = 2 * i + 1 by omega) with rfl | rfl
                · rw [HLO.out]; omega
                · rw [HHI.out]; omega, (HB.out.alloc HB.out.size _).drew⟩
          case measure => simp [intOf]; omega
    · obtain rfl : i = m := by omega
      have HA2 := Lib.hid (show ∀ t, t < n + n % 2 → hb bs t ≤ 9 from fun t ht => HA.out t (by have := HM.out; omega))
      by_cases hp : n % 2 = 1
      · have hp' : (n : Int).tmod 2 = 1 := by rw [Int.tmod_eq_emod_of_nonneg (by omega)]; omega
        have hn1 : 2 * i = n + 1 := by have := HM.out; omega
        rw [hn1]
        have hsz := hs_size bs (n + 1)
        have h16 := hb_lt bs 0 (HX.out 0 (by omega)).1
        have hpos : 0 < (hs bs (n + 1)).size := by omega
        have hhead := hs_head bs (n + 1) hpos h16
        have HTL := Lib.hid (hs_tail bs n)
        by_cases hz : hb bs 0 = 0
        · have HZ := Lib.hid (unpR_ok (ite_t HE.out (okB_ok (Or.inr hz) (fun j hj => HA2.out _ (by omega)))))
          rw [hp, ← HM.out] at HZ
          rw [hz] at hhead
          generalize hs bs (n + 1) = st at *
          rw [← HTL.out] at HZ
          clear hn1
          go_wp2_with fail
          go_ret3
          exact ⟨HZ.out.symm, HB.out⟩
        · have HZ := Lib.hid (unpR_bad (ite_f HE.out (okB_lead hp hz)) (by decide))
          generalize hb bs 0 = z at *
          generalize hs bs (n + 1) = st at *
          have hne : ((((st[0]'hpos).toNat : Nat) : Int) != 48) = true := by rw [hhead]; simp; omega
          clear hn1 hhead
          go_wp2_with fail
          go_ret3
          exact ⟨HZ.out.symm, HB.out⟩
      · have hp' : (n : Int).tmod 2 = 0 := by rw [Int.tmod_eq_emod_of_nonneg (by omega)]; omega
        have hn1 : 2 * i = n := by have := HM.out; omega
        rw [hn1]
        have HZ := Lib.hid (unpR_ok (ite_t HE.out (okB_ok (Or.inl (by omega)) (fun j hj => HA2.out _ (by omega)))))
        rw [← HM.out, show n % 2 = 0 by omega, strOf_congr n _ (fun i => 48 + hb bs i) (fun i _ => by rw [Nat.zero_add])] at HZ
        clear hn1
        go_wp2_with fail
        go_ret3
        exact ⟨HZ.out.symm, HB.out⟩

set_option maxHeartbeats 400000 in
theorem runpack_any (A : Option Addr) (cap len : Nat) (n : Int) (bs : Nat → Nat) (w : World) (hl : len ≤ 281474976710656) (hA : SlB w A len bs) :
    Calls Tryd.prog 14 #[.slice A len cap, .int .i64 n] w fun e w' => e = unpR len bs n ∧ Below w.heap.size w w' := by
  rcases (show n < 0 ∨ (0 ≤ n ∧ 999 < n) ∨ (0 ≤ n ∧ n ≤ 999) by omega) with h | ⟨h, h'⟩ | ⟨h, h'⟩
  · have HZ := Lib.hid (unpR_bad (len := len) (bs := bs) (show unpE len bs n = 1 by unfold unpE; rw [if_pos h]) (by decide))
    go_enter Tryd.func14, Tryd.ntmps14
    go_wp2_with fail
    go_ret3
    exact ⟨HZ.out.symm, Below.refl _ _⟩
  · have HZ := Lib.hid (unpR_bad (len := len) (bs := bs) (show unpE len bs n = 2 by unfold unpE; rw [if_neg (by omega), if_pos h']) (by decide))
    go_enter Tryd.func14, Tryd.ntmps14
    go_wp2_with fail
    go_ret3
    exact ⟨HZ.out.symm, Below.refl _ _⟩
  · obtain ⟨n, rfl⟩ := Int.eq_ofNat_of_zero_le h
    by_cases hfit : (n + 1) / 2 ≤ len
    · by_cases h0 : n = 0
      · subst h0
        have HZ := Lib.hid (unpR_ok (len := len) (bs := bs) (n := 0) (by rw [unpE_inner (by omega) (by omega)]; rfl))
        go_enter Tryd.func14, Tryd.ntmps14
        go_wp2_with fail
        go_loopw [8, 9] (fun s c wr => s = .string ⟨#[]⟩ ∧ c = .int .i64 0 ∧ wr = w) (fun _ _ _ => 0)
        case atStart => exact ⟨rfl, rfl, rfl⟩
        case round =>
          obtain ⟨rfl, rfl, rfl⟩ := hrel
          go_wp2_with fail
          go_ret3
          exact ⟨HZ.out.symm, Below.refl _ _⟩
      · obtain ⟨B, o, rfl, hB, hc⟩ := hA (by omega)
        exact runpack_in B o cap len n bs w hl (by omega) hfit hc hB
    · have HZ := Lib.hid (unpR_bad (len := len) (bs := bs) (show unpE len bs n = 3 by unfold unpE; rw [if_neg (by omega), if_neg (by omega), if_pos (by simp only [Int.toNat_natCast]; omega)]) (by decide))
      obtain ⟨m, hm, hm'⟩ : ∃ m : Nat, ((n : Int) + 1).tdiv 2 = m ∧ m = (n + 1) / 2 := ⟨(n + 1) / 2, by rw [Int.tdiv_eq_ediv_of_nonneg (by omega)]; omega, rfl⟩
      have hlt : (len : Int) < m := by omega
      have hm5 : m ≤ 500 := by omega
      clear hm'
      go_enter Tryd.func14, Tryd.ntmps14
      go_wp2_with fail
      go_ret3
      exact ⟨HZ.out.symm, Below.refl _ _⟩
end Go.Proofs.YtglajdedalikdaaDoor
