import Derived.Test.YtglajdedalikdaaDoorLaw01a
import Derived.Test.YtglajdedalikdaaDoorDigE
import Derived.Test.YtglajdedalikdaaDoorAppB
namespace Go.Proofs.YtglajdedalikdaaDoor
open Go.RowKit

theorem pb_lt (s : ByteArray) (hd : s.data.toList.all isDig = true) (j : Nat) : pb s j < 256 := by
  have h1 := half_le s (2 * j) hd
  have h2 := half_le s (2 * j + 1) hd
  unfold pb; omega
theorem hb_pack (s : ByteArray) (hd : s.data.toList.all isDig = true) (bs : Nat → Nat) (t : Nat) (h : bs (t / 2) = pb s (t / 2)) : hb bs t = half s t := by
  have h1 := half_le s (2 * (t / 2)) hd
  have h2 := half_le s (2 * (t / 2) + 1) hd
  unfold hb
  rw [h]
  unfold pb
  by_cases e : t % 2 = 0
  · rw [if_pos e]
    have h3 := half_le s t hd
    have h4 := half_le s (t + 1) hd
    rw [show 2 * (t / 2) = t by omega]; omega
  · rw [if_neg e]
    have h3 := half_le s t hd
    rw [show 2 * (t / 2) + 1 = t by omega]; omega
theorem half_dg (s : ByteArray) (i : Nat) : half s (s.size % 2 + i) = dg s i := by
  unfold half
  by_cases h : s.size % 2 = 0
  · rw [if_pos h, h, Nat.zero_add]
  · rw [if_neg h, if_neg (by omega), show s.size % 2 + i - 1 = i by omega]
theorem by_dg' (s : ByteArray) (i : Nat) (h : i < s.size) (hd : s.data.toList.all isDig = true) : by_ s i = 48 + dg s i := by
  have h1 := dig_at s i h hd
  have h2 := dg_eq s i h
  unfold by_
  rw [List.getD_eq_getElem?_getD, List.getElem?_eq_getElem (by rw [Array.length_toList]; exact h)]
  show (s[i]).toNat = _
  omega
/-- what was packed is unpacked, whatever follows -/
theorem unp_pack (s : ByteArray) (hd : s.data.toList.all isDig = true) (hl : s.size ≤ 999) (g : Nat → Nat) (len : Nat) :
    unpR ((s.size + 1) / 2 + len) (catB ((s.size + 1) / 2) (pb s) g) s.size = .returned (.tuple #[.string s, .int .i64 ((s.size + 1) / 2 : Nat), .int .i64 0]) := by
  have hcat : ∀ t, t < s.size + s.size % 2 → hb (catB ((s.size + 1) / 2) (pb s) g) t = half s t := fun t ht =>
    hb_pack s hd _ t (by unfold catB; rw [if_pos (by omega)])
  have hok : okB (catB ((s.size + 1) / 2) (pb s) g) s.size = true := by
    apply okB_ok
    · by_cases h : s.size % 2 = 0
      · exact Or.inl h
      · right; rw [hcat 0 (by omega)]; exact half_zero s (by omega)
    · intro i hi
      rw [hcat _ (by omega), half_dg]; exact dg_le s i hd
  rw [unpR_ok (by rw [unpE_inner hl (by omega), hok]; rfl)]
  rw [show (strOf s.size fun i => 48 + hb (catB ((s.size + 1) / 2) (pb s) g) (s.size % 2 + i)) = s from ?_]
  rw [← strOf_by s, strOf_size, strOf_by]
  refine (strOf_congr _ _ _ fun i hi => ?_).trans (strOf_by s)
  rw [hcat _ (by omega), half_dg, by_dg' s i hi hd]

theorem strOf_dig (n : Nat) (b : Nat → Nat) (h : ∀ i, i < n → b i ≤ 9) : (strOf n fun i => 48 + b i).data.toList.all isDig = true := by
  rw [strOf_list, List.all_eq_true]
  intro c hc
  obtain ⟨i, hi, rfl⟩ := List.mem_map.1 hc
  have := h i (List.mem_range.1 hi)
  unfold isDig
  rw [chr_toNat _ (by omega)]
  simp; omega
theorem dg_dig (n : Nat) (b : Nat → Nat) (i : Nat) (h : i < n) (hb9 : b i ≤ 9) : dg (strOf n fun i => 48 + b i) i = b i := by
  unfold dg
  rw [strOf_at n (fun i => 48 + b i) 48 i h (by omega)]
  omega
theorem okB_all {bs : Nat → Nat} {n : Nat} (h : okB bs n = true) : (n % 2 = 1 → hb bs 0 = 0) ∧ ∀ i, i < n → hb bs (n % 2 + i) ≤ 9 := by
  unfold okB at h
  rw [Bool.and_eq_true, List.all_eq_true] at h
  refine ⟨fun hn => ?_, fun i hi => by simpa using h.2 i (List.mem_range.2 hi)⟩
  have := h.1
  simp only [Bool.or_eq_true, beq_iff_eq] at this
  omega
/-- what was unpacked packs to the same bytes -/
theorem pack_unp (bs : Nat → Nat) (n : Nat) (h : okB bs n = true) (j : Nat) (hj : j < (n + 1) / 2) : pb (strOf n fun i => 48 + hb bs (n % 2 + i)) j = bs j := by
  obtain ⟨h0, h9⟩ := okB_all h
  have hh : ∀ t, t < n + n % 2 → half (strOf n fun i => 48 + hb bs (n % 2 + i)) t = hb bs t := by
    intro t ht
    unfold half
    rw [strOf_size]
    by_cases e : n % 2 = 0
    · rw [if_pos e, dg_dig n (fun i => hb bs (n % 2 + i)) t (by omega) (h9 t (by omega)), e, Nat.zero_add]
    · rw [if_neg e]
      by_cases e0 : t = 0
      · rw [if_pos e0, e0, h0 (by omega)]
      · rw [if_neg e0, dg_dig n (fun i => hb bs (n % 2 + i)) (t - 1) (by omega) (h9 (t - 1) (by omega)), show n % 2 + (t - 1) = t by omega]
  unfold pb
  rw [hh _ (by omega), hh _ (by omega)]
  unfold hb
  rw [if_pos (by omega), if_neg (by omega), show 2 * j / 2 = j by omega, show (2 * j + 1) / 2 = j by omega]
  omega
theorem td_acc (n k i : Nat) (hi : i ≤ k) (h : n / 10 ^ k = 0) : acc (strOf k (td n k)) i = n / 10 ^ (k - i) := by
  induction i with
  | zero => rw [Nat.sub_zero, h]; rfl
  | succ i ih =>
    simp only [acc]
    rw [ih (by omega)]
    have : dg (strOf k (td n k)) i = n / 10 ^ (k - 1 - i) % 10 := by
      have := dg_dig k (fun j => n / 10 ^ (k - 1 - j) % 10) i (by omega) (by omega)
      exact this
    rw [this, show k - i = k - 1 - i + 1 by omega, show k - (i + 1) = k - 1 - i by omega, pow_step]
    omega
/-- the number of a number's text is it -/
theorem text_num (n k : Nat) (hn : n ≤ 9223372036854775807) (h1 : 1 ≤ k) (h2 : k ≤ 19) (h : textE n k = 0) : textV n k = strOf k (td n k) ∧ numE (strOf k (td n k)) = 0 ∧ numV (strOf k (td n k)) = n := by
  have hz : n / 10 ^ k = 0 := by
    by_cases e : n / 10 ^ k = 0
    · exact e
    · rw [textE_big h1 h2 e] at h; cases h
  have hd : (strOf k (td n k)).data.toList.all isDig = true := strOf_dig k (fun j => n / 10 ^ (k - 1 - j) % 10) (fun i _ => by omega)
  have ha := td_acc n k k (Nat.le_refl _) hz
  rw [Nat.sub_self, Nat.pow_zero, Nat.div_one] at ha
  have hE : numE (strOf k (td n k)) = 0 := by
    unfold numE
    rw [fault_ok hd (by rw [Array.length_toList]; show (strOf k (td n k)).size ≤ 999; rw [strOf_size]; omega), strOf_size, ha, if_neg (by decide), if_neg (by omega), if_neg (by omega)]
  refine ⟨by unfold textV; rw [if_pos h]; rfl, hE, ?_⟩
  unfold numV
  rw [if_pos hE, strOf_size, ha]

theorem unpE_zero {len : Nat} {bs : Nat → Nat} {n : Int} (h : unpE len bs n = 0) : ∃ N : Nat, n = (N : Int) ∧ N ≤ 999 ∧ (N + 1) / 2 ≤ len ∧ okB bs N = true := by
  unfold unpE at h
  by_cases h1 : n < 0
  · rw [if_pos h1] at h; cases h
  · rw [if_neg h1] at h
    by_cases h2 : 999 < n
    · rw [if_pos h2] at h; cases h
    · rw [if_neg h2] at h
      obtain ⟨N, rfl⟩ := Int.eq_ofNat_of_zero_le (show 0 ≤ n by omega)
      simp only [Int.toNat_natCast] at h
      by_cases h3 : len < (N + 1) / 2
      · rw [if_pos h3] at h; cases h
      · rw [if_neg h3] at h
        refine ⟨N, rfl, by omega, by omega, ?_⟩
        by_cases hk : okB bs N = true
        · exact hk
        · rw [if_neg hk] at h; cases h

set_option maxRecDepth 100000 in
set_option maxHeartbeats 4000000 in
theorem back_any (s : ByteArray) (A : Option Addr) (len cap : Nat) (bs : Nat → Nat) (n k : Int) (w : World) (hs : s.size ≤ maxLen) (hn : n ≤ 9223372036854775807) (hA : SlB w A len bs)
    (hlc : len ≤ cap) (hnil : A = none → len = 0 ∧ cap = 0) (hw : Wts w) :
    Calls Tryd.prog 6 #[.string s, .slice A len cap, .int .i64 n, .int .i64 k] w fun e w' => e = .returned (.bool true) ∧ Below w.heap.size w w' := by
  have HW := Lib.hid hw
  have HA := Lib.hid hA
  have HN := Lib.hid hnil
  clear hw hA hnil
  by_cases hbig : len ≤ 1048576
  · have hbig' : ¬ (1048576 : Int) < len := by omega
    go_enter Tryd.func6, Tryd.ntmps6
    go_wp2_with fail
    refine (small_any _ HW.out).mono ?_
    rintro e w1 ⟨rfl, hb1⟩
    have HB1 := Lib.hid hb1
    clear hb1
    go_wp2_with fail
    by_cases hf : faultOf s.data.toList = 0
    · obtain ⟨hd, hl⟩ := fault_zero hf
      have hl' : s.size ≤ 999 := by rw [Array.length_toList] at hl; exact hl
      have HD := Lib.hid hd
      clear hf hl hd
      refine (pack_ok s _ HD.out hl').mono ?_
      rintro e w2 ⟨g1, rfl, hg1, hrow, hb2⟩
      have HB2 := Lib.hid (HB1.out.trans (hb2.mono HB1.out.size))
      have HR := Lib.hid hrow
      have HU := Lib.hid (unp_pack s HD.out hl' bs len)
      have hm5 : (s.size + 1) / 2 ≤ 500 := by omega
      generalize (s.size + 1) / 2 = m at *
      clear hb2 hrow hg1
      have HS1 := Lib.hid (SlB.of_rowX (bs := pb s) ((RowX.of_rowIs HR.out).alloc (.cells #[] 5)) (fun j _ => ⟨pb_lt s HD.out j, rfl⟩))
      have HO0 := Lib.hid (own_empty w2)
      have HB3 := Lib.hid (HB2.out.alloc HB2.out.size (.cells #[] 5))
      have hm14 : 0 + m ≤ 100000000000000 := by omega
      have hml14 : m + len ≤ 100000000000000 := by omega
      have hsz3 : w2.heap.size ≤ (w2.alloc (.cells #[] 5)).heap.size := by show _ ≤ (w2.heap.push _).size; simp
      have HN1 := Lib.hid (show (some (⟨g1, 0, none⟩ : Addr) = none → m = 0 ∧ m = 0) from fun h => by cases h)
      go_wp2_with (first | (at_builtin; refine wpList_appB rfl (.tmp 41) (.tmp 42) rfl w2.heap.size _ 0 (fun _ => 0) rfl HO0.out (some ⟨g1, 0, none⟩) m m (pb s) rfl HS1.out HN1.out hm14 hsz3 ?_; intro v1 w3 hown1 hb3; rw [bytesL_first, Nat.zero_add] at hown1; have HO1 := Lib.hid hown1; have HB4 := Lib.hid (HB3.out.trans (hb3.mono HB2.out.size)); have HA4 := Lib.hid (HA.out.keep HB4.out); have hsz4 := Nat.le_trans hsz3 hb3.size; clear hown1 hb3) | (at_builtin; refine wpList_appB rfl (.tmp 43) (.tmp 44) rfl w2.heap.size _ m (pb s) rfl HO1.out A len cap bs rfl HA4.out HN.out hml14 hsz4 ?_; intro v2 w4 hown2 hb4; obtain ⟨A2, c2, rfl, hA2⟩ := own_slB hown2 (fun j hj => catB_lt (fun j _ => pb_lt s HD.out j) (fun j hj => HA4.out.byte hj) j hj); have HA2 := Lib.hid hA2; have HB5 := Lib.hid (HB4.out.trans (hb4.mono HB2.out.size)); clear hown2 hb4 hA2) | fail)
      refine (unpack_any A2 c2 (m + len) s.size _ w4 (by omega) HA2.out).mono ?_
      rw [HU.out]
      rintro e w5 ⟨rfl, hb5⟩
      have HB6 := Lib.hid (HB5.out.trans (hb5.mono HB5.out.size))
      clear hb5
      go_wp2_with fail
      have HA6 := Lib.hid (HA.out.keep HB6.out)
      refine (unpack_any A cap len n bs _ (by omega) HA6.out).mono ?_
      rintro e w6 ⟨rfl, hb6⟩
      have HB7 := Lib.hid (HB6.out.trans (hb6.mono HB6.out.size))
      have HA7 := Lib.hid (HA.out.keep HB7.out)
      clear hb6
      by_cases hE : unpE len bs n = 0
      · obtain ⟨N, HNn, hN9, hNl, hok⟩ := unpE_zero hE
        have HOK := Lib.hid hok
        have HUR := Lib.hid (show unpR len bs n = .returned (.tuple #[.string (strOf N fun i => 48 + hb bs (N % 2 + i)), .int .i64 ((N + 1) / 2 : Nat), .int .i64 0]) by rw [HNn]; exact unpR_ok (by rw [← HNn]; exact hE))
        rw [HUR.out]
        have HPV := Lib.hid (pack_unp bs N hok)
        have HVd := Lib.hid (strOf_dig N (fun i => hb bs (N % 2 + i)) (okB_all hok).2)
        have HVs := strOf_size N (fun i => 48 + hb bs (N % 2 + i))
        obtain ⟨U, hU⟩ : ∃ U, (N + 1) / 2 = U := ⟨_, rfl⟩
        have HU2 := Lib.hid hU
        have hUl : U ≤ len := by omega
        have hU5 : U ≤ 500 := by omega
        rw [hU] at HPV ⊢
        have hNb : (((N : Nat) : Int) != n) = false := by rw [HNn]; simp
        clear hE hok HUR hU hNl HNn
        generalize (strOf N fun i => 48 + hb bs (N % 2 + i)) = V at *
        go_wp2_with fail
        refine (pack_ok V _ HVd.out (by omega)).mono ?_
        rw [HVs, HU2.out]
        rintro e w7 ⟨g2, rfl, hg2, hrow2, hb7⟩
        have HB8 := Lib.hid (HB7.out.trans (hb7.mono HB7.out.size))
        have hcv1 := fun nq => convRow (w := w7.drewN nq) hrow2 bs (Nat.le_refl _) (fun j hj => by rw [HPV.out j hj])
        have hcv2 := fun nq => convSl (w := w7.drewN nq) (cap := cap) (HA.out.keep (drawn HB8.out nq)) hUl
        have hUli : ¬ (len : Int) < (U : Nat) := by omega
        have hUle : (U : Int) ≤ (cap : Nat) := by omega
        have hUlt : ¬ ((U : Nat) : Int) < 0 := by omega
        clear hrow2 hb7 hg2
        generalize strOf U bs = y at *
        go_wp2_with fail
        go_quiet (fail)
        have HB8q := Lib.hid (drawn HB8.out nq)
        go_wp2_with fail
        refine (text_any n k _ hn).mono ?_
        rintro e w9 ⟨rfl, hb9⟩
        have HB9 := Lib.hid (HB8q.out.trans (hb9.mono HB8q.out.size))
        clear hb9
        by_cases hte : textE n k = 0
        · have hrange : ¬ (n < 0 ∨ k < 1 ∨ 19 < k) := fun h => by unfold textE at hte; rw [if_pos h] at hte; cases hte
          obtain ⟨nn, hnn⟩ := Int.eq_ofNat_of_zero_le (show 0 ≤ n by omega)
          obtain ⟨kk, hkk⟩ := Int.eq_ofNat_of_zero_le (show 0 ≤ k by omega)
          have HT := Lib.hid (text_num nn kk (by omega) (by omega) (by omega) (by rw [← hnn, ← hkk]; exact hte))
          have HTE := Lib.hid hte
          have HTV := Lib.hid (show textV n k = strOf kk (td nn kk) by rw [hnn, hkk]; exact HT.out.1)
          have hsz := strOf_size kk (td nn kk)
          have HNE := Lib.hid HT.out.2.1
          have HNV := Lib.hid (show numV (strOf kk (td nn kk)) = n from HT.out.2.2.trans hnn.symm)
          rw [HTE.out, HTV.out]
          clear HTV HT HTE hte
          generalize strOf kk (td nn kk) = u at *
          have husz : ((u.size : Nat) : Int) = k := by omega
          have hum : u.size ≤ maxLen := by unfold maxLen; omega
          clear hsz hnn hkk
          go_wp2_with fail
          refine (number_any u _ hum).mono ?_
          rintro e w10 ⟨rfl, n10, rfl⟩
          rw [HNE.out, HNV.out]
          go_wp2_with fail
          go_ret
          exact ⟨rfl, drawn HB9.out n10⟩
        · have HTV := Lib.hid (show textV n k = ⟨#[]⟩ by unfold textV; rw [if_neg hte]; rfl)
          rw [HTV.out]
          have hne : (textE n k != 0) = true := by simpa using hte
          generalize textE n k = te at *
          clear hte
          go_wp2_with fail
          go_ret
          exact ⟨rfl, HB9.out⟩
      · have hne : (unpE len bs n == 0) = false := by simpa using hE
        rw [unpR_bad rfl hE]
        have HB8 := HB7
        generalize unpE len bs n = ue at *
        clear hE
        go_wp2_with fail
        refine (text_any n k _ hn).mono ?_
        rintro e w9 ⟨rfl, hb9⟩
        have HB9 := Lib.hid (HB8.out.trans (hb9.mono HB8.out.size))
        clear hb9
        by_cases hte : textE n k = 0
        · have hrange : ¬ (n < 0 ∨ k < 1 ∨ 19 < k) := fun h => by unfold textE at hte; rw [if_pos h] at hte; cases hte
          obtain ⟨nn, hnn⟩ := Int.eq_ofNat_of_zero_le (show 0 ≤ n by omega)
          obtain ⟨kk, hkk⟩ := Int.eq_ofNat_of_zero_le (show 0 ≤ k by omega)
          have HT := Lib.hid (text_num nn kk (by omega) (by omega) (by omega) (by rw [← hnn, ← hkk]; exact hte))
          have HTE := Lib.hid hte
          have HTV := Lib.hid (show textV n k = strOf kk (td nn kk) by rw [hnn, hkk]; exact HT.out.1)
          have hsz := strOf_size kk (td nn kk)
          have HNE := Lib.hid HT.out.2.1
          have HNV := Lib.hid (show numV (strOf kk (td nn kk)) = n from HT.out.2.2.trans hnn.symm)
          rw [HTE.out, HTV.out]
          clear HTV HT HTE hte
          generalize strOf kk (td nn kk) = u at *
          have husz : ((u.size : Nat) : Int) = k := by omega
          have hum : u.size ≤ maxLen := by unfold maxLen; omega
          clear hsz hnn hkk
          go_wp2_with fail
          refine (number_any u _ hum).mono ?_
          rintro e w10 ⟨rfl, n10, rfl⟩
          rw [HNE.out, HNV.out]
          go_wp2_with fail
          go_ret
          exact ⟨rfl, drawn HB9.out n10⟩
        · have HTV := Lib.hid (show textV n k = ⟨#[]⟩ by unfold textV; rw [if_neg hte]; rfl)
          rw [HTV.out]
          have hne : (textE n k != 0) = true := by simpa using hte
          generalize textE n k = te at *
          clear hte
          go_wp2_with fail
          go_ret
          exact ⟨rfl, HB9.out⟩
    · have hfb : (faultOf s.data.toList == 0) = false := by simpa using hf
      refine (pack_bad s _ hs hf).mono ?_
      rintro e w2 ⟨rfl, rfl⟩
      have HB6 := HB1
      clear hf
      generalize faultOf s.data.toList = fe at *
      go_wp2_with fail
      have HA6 := Lib.hid (HA.out.keep HB6.out)
      refine (unpack_any A cap len n bs _ (by omega) HA6.out).mono ?_
      rintro e w6 ⟨rfl, hb6⟩
      have HB7 := Lib.hid (HB6.out.trans (hb6.mono HB6.out.size))
      have HA7 := Lib.hid (HA.out.keep HB7.out)
      clear hb6
      by_cases hE : unpE len bs n = 0
      · obtain ⟨N, HNn, hN9, hNl, hok⟩ := unpE_zero hE
        have HOK := Lib.hid hok
        have HUR := Lib.hid (show unpR len bs n = .returned (.tuple #[.string (strOf N fun i => 48 + hb bs (N % 2 + i)), .int .i64 ((N + 1) / 2 : Nat), .int .i64 0]) by rw [HNn]; exact unpR_ok (by rw [← HNn]; exact hE))
        rw [HUR.out]
        have HPV := Lib.hid (pack_unp bs N hok)
        have HVd := Lib.hid (strOf_dig N (fun i => hb bs (N % 2 + i)) (okB_all hok).2)
        have HVs := strOf_size N (fun i => 48 + hb bs (N % 2 + i))
        obtain ⟨U, hU⟩ : ∃ U, (N + 1) / 2 = U := ⟨_, rfl⟩
        have HU2 := Lib.hid hU
        have hUl : U ≤ len := by omega
        have hU5 : U ≤ 500 := by omega
        rw [hU] at HPV ⊢
        have hNb : (((N : Nat) : Int) != n) = false := by rw [HNn]; simp
        clear hE hok HUR hU hNl HNn
        generalize (strOf N fun i => 48 + hb bs (N % 2 + i)) = V at *
        go_wp2_with fail
        refine (pack_ok V _ HVd.out (by omega)).mono ?_
        rw [HVs, HU2.out]
        rintro e w7 ⟨g2, rfl, hg2, hrow2, hb7⟩
        have HB8 := Lib.hid (HB7.out.trans (hb7.mono HB7.out.size))
        have hcv1 := fun nq => convRow (w := w7.drewN nq) hrow2 bs (Nat.le_refl _) (fun j hj => by rw [HPV.out j hj])
        have hcv2 := fun nq => convSl (w := w7.drewN nq) (cap := cap) (HA.out.keep (drawn HB8.out nq)) hUl
        have hUli : ¬ (len : Int) < (U : Nat) := by omega
        have hUle : (U : Int) ≤ (cap : Nat) := by omega
        have hUlt : ¬ ((U : Nat) : Int) < 0 := by omega
        clear hrow2 hb7 hg2
        generalize strOf U bs = y at *
        go_wp2_with fail
        go_quiet (fail)
        have HB8q := Lib.hid (drawn HB8.out nq)
        go_wp2_with fail
        refine (text_any n k _ hn).mono ?_
        rintro e w9 ⟨rfl, hb9⟩
        have HB9 := Lib.hid (HB8q.out.trans (hb9.mono HB8q.out.size))
        clear hb9
        by_cases hte : textE n k = 0
        · have hrange : ¬ (n < 0 ∨ k < 1 ∨ 19 < k) := fun h => by unfold textE at hte; rw [if_pos h] at hte; cases hte
          obtain ⟨nn, hnn⟩ := Int.eq_ofNat_of_zero_le (show 0 ≤ n by omega)
          obtain ⟨kk, hkk⟩ := Int.eq_ofNat_of_zero_le (show 0 ≤ k by omega)
          have HT := Lib.hid (text_num nn kk (by omega) (by omega) (by omega) (by rw [← hnn, ← hkk]; exact hte))
          have HTE := Lib.hid hte
          have HTV := Lib.hid (show textV n k = strOf kk (td nn kk) by rw [hnn, hkk]; exact HT.out.1)
          have hsz := strOf_size kk (td nn kk)
          have HNE := Lib.hid HT.out.2.1
          have HNV := Lib.hid (show numV (strOf kk (td nn kk)) = n from HT.out.2.2.trans hnn.symm)
          rw [HTE.out, HTV.out]
          clear HTV HT HTE hte
          generalize strOf kk (td nn kk) = u at *
          have husz : ((u.size : Nat) : Int) = k := by omega
          have hum : u.size ≤ maxLen := by unfold maxLen; omega
          clear hsz hnn hkk
          go_wp2_with fail
          refine (number_any u _ hum).mono ?_
          rintro e w10 ⟨rfl, n10, rfl⟩
          rw [HNE.out, HNV.out]
          go_wp2_with fail
          go_ret
          exact ⟨rfl, drawn HB9.out n10⟩
        · have HTV := Lib.hid (show textV n k = ⟨#[]⟩ by unfold textV; rw [if_neg hte]; rfl)
          rw [HTV.out]
          have hne : (textE n k != 0) = true := by simpa using hte
          generalize textE n k = te at *
          clear hte
          go_wp2_with fail
          go_ret
          exact ⟨rfl, HB9.out⟩
      · have hne : (unpE len bs n == 0) = false := by simpa using hE
        rw [unpR_bad rfl hE]
        have HB8 := HB7
        generalize unpE len bs n = ue at *
        clear hE
        go_wp2_with fail
        refine (text_any n k _ hn).mono ?_
        rintro e w9 ⟨rfl, hb9⟩
        have HB9 := Lib.hid (HB8.out.trans (hb9.mono HB8.out.size))
        clear hb9
        by_cases hte : textE n k = 0
        · have hrange : ¬ (n < 0 ∨ k < 1 ∨ 19 < k) := fun h => by unfold textE at hte; rw [if_pos h] at hte; cases hte
          obtain ⟨nn, hnn⟩ := Int.eq_ofNat_of_zero_le (show 0 ≤ n by omega)
          obtain ⟨kk, hkk⟩ := Int.eq_ofNat_of_zero_le (show 0 ≤ k by omega)
          have HT := Lib.hid (text_num nn kk (by omega) (by omega) (by omega) (by rw [← hnn, ← hkk]; exact hte))
          have HTE := Lib.hid hte
          have HTV := Lib.hid (show textV n k = strOf kk (td nn kk) by rw [hnn, hkk]; exact HT.out.1)
          have hsz := strOf_size kk (td nn kk)
          have HNE := Lib.hid HT.out.2.1
          have HNV := Lib.hid (show numV (strOf kk (td nn kk)) = n from HT.out.2.2.trans hnn.symm)
          rw [HTE.out, HTV.out]
          clear HTV HT HTE hte
          generalize strOf kk (td nn kk) = u at *
          have husz : ((u.size : Nat) : Int) = k := by omega
          have hum : u.size ≤ maxLen := by unfold maxLen; omega
          clear hsz hnn hkk
          go_wp2_with fail
          refine (number_any u _ hum).mono ?_
          rintro e w10 ⟨rfl, n10, rfl⟩
          rw [HNE.out, HNV.out]
          go_wp2_with fail
          go_ret
          exact ⟨rfl, drawn HB9.out n10⟩
        · have HTV := Lib.hid (show textV n k = ⟨#[]⟩ by unfold textV; rw [if_neg hte]; rfl)
          rw [HTV.out]
          have hne : (textE n k != 0) = true := by simpa using hte
          generalize textE n k = te at *
          clear hte
          go_wp2_with fail
          go_ret
          exact ⟨rfl, HB9.out⟩
  · have hbig' : (1048576 : Int) < len := by omega
    go_enter Tryd.func6, Tryd.ntmps6
    go_wp2_with fail
    refine (small_any _ HW.out).mono ?_
    rintro e w1 ⟨rfl, hb1⟩
    go_wp2_with fail
    go_ret
    exact ⟨rfl, hb1⟩
end Go.Proofs.YtglajdedalikdaaDoor
