/- Tokens: what is joined is parted, and the other way round. -/
import Derived.Test.YtgpgleojkldndaaDoorPanM
namespace Go.Proofs.YtgpgleojkldndaaDoor
open Go.RowKit

theorem at_list (t : ByteArray) (k : Nat) (h : k < t.size) : t.data.toList[k]? = some t[k] := by
  rw [List.getElem?_eq_getElem (by simpa using h)]; rfl

theorem fst_at {t : ByteArray} {k : Nat} (hk : k < t.size) (h : t[k] = 46) (hn : ∀ j (hj : j < k), t[j]'(Nat.lt_trans hj hk) ≠ 46) : hasB t 46 = true ∧ fst t 46 = k := by
  have h0 : Lib.indexByte t.data.toList 46 ≠ -1 := by
    intro hc
    exact Lib.indexByte_none hc k (by rw [at_list t k hk, h])
  obtain ⟨g0, glt⟩ := indexByte_lt h0
  obtain ⟨o, ho⟩ : ∃ o : Nat, Lib.indexByte t.data.toList 46 = o := ⟨(Lib.indexByte t.data.toList 46).toNat, by omega⟩
  obtain ⟨h1, h2⟩ := Lib.indexByte_some ho
  have hol : o < t.size := by rw [ho, Array.length_toList] at glt; exact glt
  have e : o = k := by
    rcases Nat.lt_trichotomy o k with hlt | he | hgt
    · exfalso
      rw [at_list t o hol] at h1
      exact hn o hlt (Option.some.inj h1)
    · exact he
    · exact absurd (by rw [at_list t k hk, h]) (h2 k hgt)
  refine ⟨?_, ?_⟩
  · unfold hasB; rw [ho, beq_eq_false_iff_ne.2 (by omega)]; rfl
  · unfold fst; rw [if_neg h0, ho, e]; rfl

theorem fst_none {t : ByteArray} (hn : ∀ j (hj : j < t.size), t[j] ≠ 46) : hasB t 46 = false ∧ fst t 46 = t.size := by
  have h0 : Lib.indexByte t.data.toList 46 = -1 := by
    by_cases h : Lib.indexByte t.data.toList 46 = -1
    · exact h
    · exfalso
      obtain ⟨g0, glt⟩ := indexByte_lt h
      obtain ⟨o, ho⟩ : ∃ o : Nat, Lib.indexByte t.data.toList 46 = o := ⟨(Lib.indexByte t.data.toList 46).toNat, by omega⟩
      have h1 := (Lib.indexByte_some ho).1
      have hol : o < t.size := by rw [ho, Array.length_toList] at glt; exact glt
      rw [at_list t o hol] at h1
      exact hn o hol (Option.some.inj h1)
  exact ⟨by unfold hasB; rw [h0]; rfl, by unfold fst; rw [if_pos h0]⟩

theorem fst_has {t : ByteArray} (h : hasB t 46 = true) : ∃ hk : fst t 46 < t.size, t[fst t 46] = 46 := by
  have h0 : Lib.indexByte t.data.toList 46 ≠ -1 := by
    intro hc; unfold hasB at h; rw [hc] at h; exact absurd h (by decide)
  obtain ⟨g0, glt⟩ := indexByte_lt h0
  obtain ⟨o, ho⟩ : ∃ o : Nat, Lib.indexByte t.data.toList 46 = o := ⟨(Lib.indexByte t.data.toList 46).toNat, by omega⟩
  have h1 := (Lib.indexByte_some ho).1
  have hol : o < t.size := by rw [ho, Array.length_toList] at glt; exact glt
  have e : fst t 46 = o := by unfold fst; rw [if_neg h0, ho]; rfl
  rw [at_list t o hol] at h1
  have h2 := Option.some.inj h1
  simp only [e]
  exact ⟨hol, h2⟩

theorem app_list (a b : ByteArray) : (a ++ b).data.toList = a.data.toList ++ b.data.toList := by rw [ByteArray.data_append, Array.toList_append]

theorem ba_ext {a b : ByteArray} (h : a.data.toList = b.data.toList) : a = b := by
  apply ByteArray.ext; exact Array.ext' h

theorem ext_list (s : ByteArray) (a b : Nat) : (s.extract a b).data.toList = (s.data.toList.drop a).take (b - a) := Lib.extract_data s a b

/-- a text with a period is what is ahead of it, the period, what is behind it -/
theorem join_parts {t : ByteArray} (h : hasB t 46 = true) : tkA t ++ ⟨#[46]⟩ ++ bhd t 46 = t := by
  obtain ⟨hk, he⟩ := fst_has h
  apply ba_ext
  unfold tkA ahd bhd
  rw [app_list, app_list, ext_list, ext_list]
  have hl : t.data.toList.length = t.size := Array.length_toList
  rw [List.drop_zero, Nat.sub_zero]
  have e1 : t.data.toList.take (fst t 46) ++ [46] = t.data.toList.take (fst t 46 + 1) := by
    rw [List.take_succ_eq_append_getElem (by omega)]
    congr 2
    exact he.symm
  show t.data.toList.take (fst t 46) ++ [46] ++ _ = _
  rw [e1, List.take_of_length_le (l := t.data.toList.drop (fst t 46 + 1)) (by rw [List.length_drop]; omega), List.take_append_drop]

theorem bhd_none {t : ByteArray} (h : hasB t 46 = false) : bhd t 46 = ⟨#[]⟩ := by
  have h0 : Lib.indexByte t.data.toList 46 = -1 := by
    unfold hasB at h
    simpa using h
  unfold bhd fst
  rw [if_pos h0]
  apply ByteArray.ext; simp

theorem verN_empty : verN ⟨#[]⟩ = 0 := by decide

/-- three digits at most -/
def dl (n : Nat) : List UInt8 := if n < 10 then [UInt8.ofNat (48 + n)] else if n < 100 then [UInt8.ofNat (48 + n / 10), UInt8.ofNat (48 + n % 10)] else [UInt8.ofNat (48 + n / 100), UInt8.ofNat (48 + n / 10 % 10), UInt8.ofNat (48 + n % 10)]

theorem dec_dl (n : Nat) (h : n < 1000) : Lib.decDigits n = dl n := by
  unfold dl
  by_cases h1 : n < 10
  · rw [if_pos h1, Lib.decDigits_one h1]
  · rw [if_neg h1]
    by_cases h2 : n < 100
    · rw [if_pos h2, Lib.decDigits_two h1 h2]
    · rw [if_neg h2, Lib.decDigits, dif_neg h1, Lib.decDigits_two (by omega) (by omega), Nat.div_div_eq_div_mul]; rfl

theorem itoaB_nat (n : Nat) : itoaB n = ⟨(Lib.decDigits n).toArray⟩ := by unfold itoaB; rw [Lib.itoa_nonneg]

theorem itoaB_dl (n : Nat) (h : n < 1000) : itoaB n = ⟨(dl n).toArray⟩ := by rw [itoaB_nat, dec_dl n h]

theorem dl_back : ∀ n : Fin 256, 1 ≤ n.val → verN ⟨(dl n.val).toArray⟩ = (n.val : Int) ∧ dnE ⟨(dl n.val).toArray⟩ = 0 ∧ dnV ⟨(dl n.val).toArray⟩ = (n.val : Int) := by decide +kernel

theorem itoa_back {v : Int} (h1 : 1 ≤ v) (h2 : v ≤ 255) : verN (itoaB v) = v ∧ dnE (itoaB v) = 0 ∧ dnV (itoaB v) = v := by
  obtain ⟨n, rfl⟩ : ∃ n : Nat, v = n := ⟨v.toNat, by omega⟩
  rw [itoaB_dl n (by omega)]
  exact dl_back ⟨n, by omega⟩ (by show 1 ≤ n; omega)

/-- digits without a nought ahead are their number's -/
theorem dec_acc (s : ByteArray) (hd : s.data.toList.all isDig = true) (hp : 1 ≤ dg s 0) : ∀ k, k + 1 ≤ s.size → 1 ≤ acc s (k + 1) ∧ Lib.decDigits (acc s (k + 1)) = s.data.toList.take (k + 1)
  | 0, h => by
    have hl : s.data.toList.length = s.size := Array.length_toList
    have h9 := dg_le s 0 hd
    have e : acc s 1 = dg s 0 := by simp [acc]
    refine ⟨by rw [e]; exact hp, ?_⟩
    rw [e, Lib.decDigits_one (by omega), List.take_succ_eq_append_getElem (by omega), List.take_zero, List.nil_append]
    congr 1
    have h1 := dig_at s 0 (by omega) hd
    have h2 := dg_eq s 0 (by omega)
    show _ = s[0]
    rw [h2, show 48 + (s[0].toNat - 48) = s[0].toNat by omega]
    exact UInt8.ofNat_toNat
  | k + 1, h => by
    obtain ⟨ih1, ih2⟩ := dec_acc s hd hp k (by omega)
    have hl : s.data.toList.length = s.size := Array.length_toList
    have h9 := dg_le s (k + 1) hd
    have e : acc s (k + 1 + 1) = 10 * acc s (k + 1) + dg s (k + 1) := rfl
    refine ⟨by rw [e]; omega, ?_⟩
    rw [e, Lib.decDigits, dif_neg (by omega), show (10 * acc s (k + 1) + dg s (k + 1)) / 10 = acc s (k + 1) by omega, show (10 * acc s (k + 1) + dg s (k + 1)) % 10 = dg s (k + 1) by omega, ih2,
      List.take_succ_eq_append_getElem (i := k + 1) (by omega)]
    congr 2
    have h1 := dig_at s (k + 1) (by omega) hd
    have h2 := dg_eq s (k + 1) (by omega)
    show _ = s[k + 1]
    rw [h2, show 48 + (s[k + 1].toNat - 48) = s[k + 1].toNat by omega]
    exact UInt8.ofNat_toNat

theorem dnV_parts {s : ByteArray} (h : 1 ≤ dnV s) : dnE s = 0 ∧ s.data.toList.all isDig = true ∧ 0 < s.size ∧ dnV s = acc s s.size := by
  have he : dnE s = 0 := by
    by_cases he : dnE s = 0
    · exact he
    · exfalso; unfold dnV at h; rw [if_neg he] at h; omega
  refine ⟨he, ?_⟩
  have hv : dnV s = acc s s.size := by unfold dnV; rw [if_pos he]
  unfold dnE at he
  split at he
  · exact absurd he ‹_›
  · rename_i hf
    refine ⟨(fault_zero (by simpa using hf)).1, ?_, hv⟩
    split at he
    · omega
    · omega

/-- a version's text is its number's -/
theorem ver_text {s : ByteArray} (h : 1 ≤ verN s) : dnE s = 0 ∧ dnV s = verN s ∧ itoaB (verN s) = s := by
  unfold verN at h ⊢
  cases hp : Lib.hasPrefix s.data.toList [48] with
  | true => rw [hp, if_pos rfl] at h; omega
  | false =>
    rw [hp] at h
    have h' : 1 ≤ dnV s := h
    obtain ⟨he, hd, hz, hv⟩ := dnV_parts h'
    refine ⟨he, rfl, ?_⟩
    show itoaB (dnV s) = s
    rw [hv, itoaB_nat]
    have hl : s.data.toList.length = s.size := Array.length_toList
    have h0 : 1 ≤ dg s 0 := by
      rw [dg_eq s 0 hz]
      have h1 := dig_at s 0 hz hd
      have h2 : s[0].toNat ≠ 48 := by
        intro hc
        have h3 : s.data.toList = s[0] :: s.data.toList.drop 1 := by
          have := List.drop_eq_getElem_cons (l := s.data.toList) (i := 0) (by omega)
          rw [List.drop_zero] at this
          exact this
        rw [h3, show s[0] = 48 from UInt8.toNat_inj.1 hc] at hp
        simp [Lib.hasPrefix] at hp
      omega
    obtain ⟨k, hk⟩ : ∃ k, s.size = k + 1 := ⟨s.size - 1, by omega⟩
    have h2 := (dec_acc s hd h0 k (by omega)).2
    rw [hk, h2, List.take_of_length_le (by omega)]

theorem tk_has {t : ByteArray} (h : isTk t = true) : hasB t 46 = true := by
  cases hb : hasB t 46 with
  | true => rfl
  | false =>
    exfalso
    have h1 := (isTk_parts h).2.1
    unfold tkN at h1
    rw [bhd_none hb, verN_empty] at h1
    omega

/-- a token is made of what it consists of -/
theorem tk_join {t : ByteArray} (h : isTk t = true) : tkS (tkA t) (tkN t) = t := by
  obtain ⟨_, h1, h2⟩ := isTk_parts h
  unfold tkS
  rw [show itoaB (tkN t) = bhd t 46 from (ver_text h1).2.2, join_parts (tk_has h)]

theorem app_at_lo (a b : ByteArray) (j : Nat) (hj : j < a.size) (hj2 : j < (a ++ b).size) : (a ++ b)[j] = a[j] := ByteArray.getElem_append_left hj

/-- what is joined is parted so -/
theorem tk_of {s : ByteArray} {v : Int} (hs : shp s = true) (h1 : 1 ≤ v) (h2 : v ≤ 255) : tkA (tkS s v) = s ∧ tkN (tkS s v) = v ∧ isTk (tkS s v) = true := by
  obtain ⟨hd, _, _⟩ := shp_parts hs
  have hz : (tkS s v).size = s.size + 1 + (itoaB v).size := by unfold tkS; rw [ByteArray.size_append, ByteArray.size_append]; rfl
  have hl : (tkS s v).data.toList = s.data.toList ++ 46 :: (itoaB v).data.toList := by
    unfold tkS; rw [app_list, app_list, List.append_assoc]; rfl
  have hsl : s.data.toList.length = s.size := Array.length_toList
  have hk : s.size < (tkS s v).size := by omega
  have e1 : (tkS s v)[s.size] = 46 := by
    have h := at_list (tkS s v) s.size hk
    rw [hl, List.getElem?_append_right (by omega), hsl, Nat.sub_self] at h
    exact (Option.some.inj h).symm
  have e2 : ∀ j (hj : j < s.size), (tkS s v)[j]'(Nat.lt_trans hj hk) ≠ 46 := by
    intro j hj hc
    have h := at_list (tkS s v) j (Nat.lt_trans hj hk)
    rw [hl, List.getElem?_append_left (by omega), at_list s j hj, hc] at h
    have h3 := dig_at s j hj hd
    rw [Option.some.inj h] at h3
    exact absurd h3.1 (by decide)
  obtain ⟨f1, f2⟩ := fst_at hk e1 e2
  have ea : tkA (tkS s v) = s := by
    unfold tkA ahd
    rw [f2]
    apply ba_ext
    rw [ext_list, hl, List.drop_zero, Nat.sub_zero, List.take_left' hsl]
  have eb : bhd (tkS s v) 46 = itoaB v := by
    unfold bhd
    rw [f2]
    apply ba_ext
    have hil : (itoaB v).data.toList.length = (itoaB v).size := Array.length_toList
    rw [ext_list, hl, List.drop_append, List.drop_eq_nil_of_le (by omega), hsl, Nat.add_sub_cancel_left]
    show List.take _ (itoaB v).data.toList = _
    rw [List.take_of_length_le (by omega)]
  have en : tkN (tkS s v) = v := by unfold tkN; rw [eb]; exact (itoa_back h1 h2).1
  refine ⟨ea, en, ?_⟩
  unfold isTk
  rw [ea, en, hs, decide_eq_true h1, decide_eq_true h2]; rfl
end Go.Proofs.YtgpgleojkldndaaDoor
