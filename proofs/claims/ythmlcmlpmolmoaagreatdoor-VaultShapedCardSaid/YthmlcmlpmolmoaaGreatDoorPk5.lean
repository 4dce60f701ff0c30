/- 16 texts in one, in their order. -/
import Derived.Test.YthmlcmlpmolmoaaGreatDoorPk4
import Derived.Shelf.Strings.Prefix
import Derived.Shelf.Strconv.Clone
import Derived.Laws.StructEq
import Derived.Lib.QuietBelow
import Derived.Lib.Builder
/- Card numbers and tokens, as plain functions of texts. -/
namespace Go.Proofs.YthmlcmlpmolmoaaGreatDoor
open Go.RowKit

/-- well-shaped -/
def shp (s : ByteArray) : Bool := s.data.toList.all isDig && (decide (16 ≤ s.size) && decide (s.size ≤ 19))

/-- its parts -/
def pB (s : ByteArray) : ByteArray := if shp s then s.extract 0 6 else ⟨#[]⟩
def pM (s : ByteArray) : ByteArray := if shp s then s.extract 6 (s.size - 4) else ⟨#[]⟩
def pL (s : ByteArray) : ByteArray := if shp s then s.extract (s.size - 4) s.size else ⟨#[]⟩

theorem shp_parts {s : ByteArray} (h : shp s = true) : s.data.toList.all isDig = true ∧ 16 ≤ s.size ∧ s.size ≤ 19 := by
  unfold shp at h
  simp only [Bool.and_eq_true, decide_eq_true_eq] at h
  exact h

theorem shp_of {s : ByteArray} (h : s.data.toList.all isDig = true) (h1 : 16 ≤ s.size) (h2 : s.size ≤ 19) : shp s = true := by
  unfold shp; rw [h, decide_eq_true h1, decide_eq_true h2]; rfl

theorem pB_yes {s : ByteArray} (h : shp s = true) : pB s = s.extract 0 6 := by unfold pB; rw [if_pos h]
theorem pM_yes {s : ByteArray} (h : shp s = true) : pM s = s.extract 6 (s.size - 4) := by unfold pM; rw [if_pos h]
theorem pL_yes {s : ByteArray} (h : shp s = true) : pL s = s.extract (s.size - 4) s.size := by unfold pL; rw [if_pos h]
theorem pB_no {s : ByteArray} (h : shp s = false) : pB s = ⟨#[]⟩ := by unfold pB; rw [h]; rfl
theorem pM_no {s : ByteArray} (h : shp s = false) : pM s = ⟨#[]⟩ := by unfold pM; rw [h]; rfl
theorem pL_no {s : ByteArray} (h : shp s = false) : pL s = ⟨#[]⟩ := by unfold pL; rw [h]; rfl

theorem pB_size {s : ByteArray} (h : shp s = true) : (pB s).size = 6 := by
  obtain ⟨_, h1, h2⟩ := shp_parts h
  rw [pB_yes h, ByteArray.size_extract]; omega
theorem pM_size {s : ByteArray} (h : shp s = true) : (pM s).size = s.size - 10 := by
  obtain ⟨_, h1, h2⟩ := shp_parts h
  rw [pM_yes h, ByteArray.size_extract]; omega
theorem pL_size {s : ByteArray} (h : shp s = true) : (pL s).size = 4 := by
  obtain ⟨_, h1, h2⟩ := shp_parts h
  rw [pL_yes h, ByteArray.size_extract]; omega

theorem pB_le (s : ByteArray) : (pB s).size ≤ 6 := by
  cases h : shp s with
  | true => rw [pB_size h]; exact Nat.le_refl _
  | false => rw [pB_no h]; decide
theorem pM_le (s : ByteArray) : (pM s).size ≤ 9 := by
  cases h : shp s with
  | true => obtain ⟨_, h1, h2⟩ := shp_parts h; rw [pM_size h]; omega
  | false => rw [pM_no h]; decide
theorem pL_le (s : ByteArray) : (pL s).size ≤ 4 := by
  cases h : shp s with
  | true => rw [pL_size h]; exact Nat.le_refl _
  | false => rw [pL_no h]; decide

theorem extract_join (s : ByteArray) (a b c : Nat) (h : a ≤ b) (h' : b ≤ c) (_hc : c ≤ s.size) : s.extract a b ++ s.extract b c = s.extract a c := by
  apply ByteArray.ext
  rw [ByteArray.data_append, ByteArray.data_extract, ByteArray.data_extract, ByteArray.data_extract, Array.extract_append_extract]
  congr 1 <;> omega

theorem extract_all (s : ByteArray) : s.extract 0 s.size = s := by
  apply ByteArray.ext
  rw [ByteArray.data_extract]
  exact Array.extract_size

/-- the parts make the whole -/
theorem whole_eq {s : ByteArray} (h : shp s = true) : pB s ++ pM s ++ pL s = s := by
  obtain ⟨_, h1, h2⟩ := shp_parts h
  rw [pB_yes h, pM_yes h, pL_yes h, extract_join _ _ _ _ (by omega) (by omega) (by omega), extract_join _ _ _ _ (by omega) (by omega) (by omega), extract_all]

/-- parts, masked -/
def mk3 (a b c : ByteArray) : ByteArray := a ++ stars b.size ++ c

/-- a version's number: 0 where the text is none's -/
def verN (s : ByteArray) : Int := if Lib.hasPrefix s.data.toList [48] then 0 else dnV s

/-- the text ahead of the period, and the version behind it -/
def tkA (t : ByteArray) : ByteArray := ahd t 46
def tkN (t : ByteArray) : Int := verN (bhd t 46)

/-- is it a token? -/
def isTk (t : ByteArray) : Bool := shp (tkA t) && (decide (1 ≤ tkN t) && decide (tkN t ≤ 255))

theorem isTk_parts {t : ByteArray} (h : isTk t = true) : shp (tkA t) = true ∧ 1 ≤ tkN t ∧ tkN t ≤ 255 := by
  unfold isTk at h
  simp only [Bool.and_eq_true, decide_eq_true_eq] at h
  exact h

/-- a token of a text and a version -/
def tkS (s : ByteArray) (v : Int) : ByteArray := s ++ ⟨#[46]⟩ ++ itoaB v

/-- the masked form -/
def maskS (s : ByteArray) : ByteArray :=
  if shp s then mk3 (pB s) (pM s) (pL s) else if isTk s then tkS (mk3 (pB (tkA s)) (pM (tkA s)) (pL (tkA s))) (tkN s) else stars (min s.size 32)

/-- what Token answers -/
def tokE (s : ByteArray) (v : Int) : Int := if shp s then (if v < 1 ∨ 255 < v then 1 else 0) else 10
def tokV (s : ByteArray) (v : Int) : ByteArray := if tokE s v = 0 then tkS s v else ⟨#[]⟩

/-- what Split answers -/
def splE (t : ByteArray) : Int := if isTk t then 0 else 11
def splV (t : ByteArray) : ByteArray := if isTk t then tkA t else ⟨#[]⟩
def splN (t : ByteArray) : Int := if isTk t then tkN t else 0

/-- what Cut answers besides -/
def cutE (s : ByteArray) : Int := if shp s then 0 else 10

theorem mk3_size (s : ByteArray) : (mk3 (pB s) (pM s) (pL s)).size ≤ 19 := by
  unfold mk3
  rw [ByteArray.size_append, ByteArray.size_append, stars_size]
  have h1 := pB_le s; have h2 := pM_le s; have h3 := pL_le s
  omega

theorem dnV_nonneg (s : ByteArray) : 0 ≤ dnV s ∧ dnV s ≤ 9223372036854775807 := by
  unfold dnV
  split
  · rename_i h
    refine ⟨by omega, ?_⟩
    unfold dnE at h
    split at h
    · exact absurd h ‹_›
    · split at h
      · omega
      · split at h
        · omega
        · omega
  · omega

theorem verN_in (s : ByteArray) : 0 ≤ verN s ∧ verN s ≤ 9223372036854775807 := by
  unfold verN
  split
  · omega
  · exact dnV_nonneg s
end Go.Proofs.YthmlcmlpmolmoaaGreatDoor
/- Tokens: what is joined is parted, and the other way round. -/
namespace Go.Proofs.YthmlcmlpmolmoaaGreatDoor
open Go.RowKit

theorem at_list (t : ByteArray) (k : Nat) (h : k < t.size) : t.data.toList[k]? = some t[k] := by
  rw [List.getElem?_eq_getElem (by simpa using h)]; rfl

theorem fst_at {t : ByteArray} {k : Nat} (hk : k < t.size) (h : t[k] = 46) (hn : ∀ j (hj : j < k), t[j]'(Nat.lt_trans hj hk) ≠ 46) : hasB t 46 = true ∧ fst t 46 = k := by
  have h0 : Lib.indexByte t.data.toList 46 ≠ -1 := by
    intro hc
    exact Lib.indexByte_none hc k (by rw [at_list t k hk, h])
  obtain ⟨g0, glt⟩ := indexByte_lt h0
  obtain ⟨o, ho⟩ : ∃ o : Nat, Lib.indexByte t.data.toList 46 = o := ⟨(Lib.indexByte t.data.toList 46).toNat, by omega⟩
  obtain ⟨h1, h2⟩ := Lib.indexByte_some ho
  have hol : o < t.size := by rw [ho, Array.length_toList] at glt; exact glt
  have e : o = k := by
    rcases Nat.lt_trichotomy o k with hlt | he | hgt
    · exfalso
      rw [at_list t o hol] at h1
      exact hn o hlt (Option.some.inj h1)
    · exact he
    · exact absurd (by rw [at_list t k hk, h]) (h2 k hgt)
  refine ⟨?_, ?_⟩
  · unfold hasB; rw [ho, beq_eq_false_iff_ne.2 (by omega)]; rfl
  · unfold fst; rw [if_neg h0, ho, e]; rfl

theorem fst_none {t : ByteArray} (hn : ∀ j (hj : j < t.size), t[j] ≠ 46) : hasB t 46 = false ∧ fst t 46 = t.size := by
  have h0 : Lib.indexByte t.data.toList 46 = -1 := by
    by_cases h : Lib.indexByte t.data.toList 46 = -1
    · exact h
    · exfalso
      obtain ⟨g0, glt⟩ := indexByte_lt h
      obtain ⟨o, ho⟩ : ∃ o : Nat, Lib.indexByte t.data.toList 46 = o := ⟨(Lib.indexByte t.data.toList 46).toNat, by omega⟩
      have h1 := (Lib.indexByte_some ho).1
      have hol : o < t.size := by rw [ho, Array.length_toList] at glt; exact glt
      rw [at_list t o hol] at h1
      exact hn o hol (Option.some.inj h1)
  exact ⟨by unfold hasB; rw [h0]; rfl, by unfold fst; rw [if_pos h0]⟩

theorem fst_has {t : ByteArray} (h : hasB t 46 = true) : ∃ hk : fst t 46 < t.size, t[fst t 46] = 46 := by
  have h0 : Lib.indexByte t.data.toList 46 ≠ -1 := by
    intro hc; unfold hasB at h; rw [hc] at h; exact absurd h (by decide)
  obtain ⟨g0, glt⟩ := indexByte_lt h0
  obtain ⟨o, ho⟩ : ∃ o : Nat, Lib.indexByte t.data.toList 46 = o := ⟨(Lib.indexByte t.data.toList 46).toNat, by omega⟩
  have h1 := (Lib.indexByte_some ho).1
  have hol : o < t.size := by rw [ho, Array.length_toList] at glt; exact glt
  have e : fst t 46 = o := by unfold fst; rw [if_neg h0, ho]; rfl
  rw [at_list t o hol] at h1
  have h2 := Option.some.inj h1
  simp only [e]
  exact ⟨hol, h2⟩

theorem ext_list (s : ByteArray) (a b : Nat) : (s.extract a b).data.toList = (s.data.toList.drop a).take (b - a) := Lib.extract_data s a b

/-- a text with a period is what is ahead of it, the period, what is behind it -/
theorem join_parts {t : ByteArray} (h : hasB t 46 = true) : tkA t ++ ⟨#[46]⟩ ++ bhd t 46 = t := by
  obtain ⟨hk, he⟩ := fst_has h
  apply ba_ext
  unfold tkA ahd bhd
  rw [app_list, app_list, ext_list, ext_list]
  have hl : t.data.toList.length = t.size := Array.length_toList
  rw [List.drop_zero, Nat.sub_zero]
  have e1 : t.data.toList.take (fst t 46) ++ [46] = t.data.toList.take (fst t 46 + 1) := by
    rw [List.take_succ_eq_append_getElem (by omega)]
    congr 2
    exact he.symm
  show t.data.toList.take (fst t 46) ++ [46] ++ _ = _
  rw [e1, List.take_of_length_le (l := t.data.toList.drop (fst t 46 + 1)) (by rw [List.length_drop]; omega), List.take_append_drop]

theorem bhd_none {t : ByteArray} (h : hasB t 46 = false) : bhd t 46 = ⟨#[]⟩ := by
  have h0 : Lib.indexByte t.data.toList 46 = -1 := by
    unfold hasB at h
    simpa using h
  unfold bhd fst
  rw [if_pos h0]
  apply ByteArray.ext; simp

theorem verN_empty : verN ⟨#[]⟩ = 0 := by decide

/-- three digits at most -/
def dl (n : Nat) : List UInt8 := if n < 10 then [UInt8.ofNat (48 + n)] else if n < 100 then [UInt8.ofNat (48 + n / 10), UInt8.ofNat (48 + n % 10)] else [UInt8.ofNat (48 + n / 100), UInt8.ofNat (48 + n / 10 % 10), UInt8.ofNat (48 + n % 10)]

theorem dec_dl (n : Nat) (h : n < 1000) : Lib.decDigits n = dl n := by
  unfold dl
  by_cases h1 : n < 10
  · rw [if_pos h1, Lib.decDigits_one h1]
  · rw [if_neg h1]
    by_cases h2 : n < 100
    · rw [if_pos h2, Lib.decDigits_two h1 h2]
    · rw [if_neg h2, Lib.decDigits, dif_neg h1, Lib.decDigits_two (by omega) (by omega), Nat.div_div_eq_div_mul]; rfl

theorem itoaB_dl (n : Nat) (h : n < 1000) : itoaB n = ⟨(dl n).toArray⟩ := by rw [itoaB_nat, dec_dl n h]

theorem dl_back : ∀ n : Fin 256, 1 ≤ n.val → verN ⟨(dl n.val).toArray⟩ = (n.val : Int) ∧ dnE ⟨(dl n.val).toArray⟩ = 0 ∧ dnV ⟨(dl n.val).toArray⟩ = (n.val : Int) := by decide +kernel

theorem itoa_back {v : Int} (h1 : 1 ≤ v) (h2 : v ≤ 255) : verN (itoaB v) = v ∧ dnE (itoaB v) = 0 ∧ dnV (itoaB v) = v := by
  obtain ⟨n, rfl⟩ : ∃ n : Nat, v = n := ⟨v.toNat, by omega⟩
  rw [itoaB_dl n (by omega)]
  exact dl_back ⟨n, by omega⟩ (by show 1 ≤ n; omega)

/-- digits without a nought ahead are their number's -/
theorem dec_acc (s : ByteArray) (hd : s.data.toList.all isDig = true) (hp : 1 ≤ dg s 0) : ∀ k, k + 1 ≤ s.size → 1 ≤ acc s (k + 1) ∧ Lib.decDigits (acc s (k + 1)) = s.data.toList.take (k + 1)
  | 0, h => by
    have hl : s.data.toList.length = s.size := Array.length_toList
    have h9 := dg_le s 0 hd
    have e : acc s 1 = dg s 0 := by simp [acc]
    refine ⟨by rw [e]; exact hp, ?_⟩
    rw [e, Lib.decDigits_one (by omega), List.take_succ_eq_append_getElem (by omega), List.take_zero, List.nil_append]
    congr 1
    have h1 := dig_at s 0 (by omega) hd
    have h2 := dg_eq s 0 (by omega)
    show _ = s[0]
    rw [h2, show 48 + (s[0].toNat - 48) = s[0].toNat by omega]
    exact UInt8.ofNat_toNat
  | k + 1, h => by
    obtain ⟨ih1, ih2⟩ := dec_acc s hd hp k (by omega)
    have hl : s.data.toList.length = s.size := Array.length_toList
    have h9 := dg_le s (k + 1) hd
    have e : acc s (k + 1 + 1) = 10 * acc s (k + 1) + dg s (k + 1) := rfl
    refine ⟨by rw [e]; omega, ?_⟩
    rw [e, Lib.decDigits, dif_neg (by omega), show (10 * acc s (k + 1) + dg s (k + 1)) / 10 = acc s (k + 1) by omega, show (10 * acc s (k + 1) + dg s (k + 1)) % 10 = dg s (k + 1) by omega, ih2,
      List.take_succ_eq_append_getElem (i := k + 1) (by omega)]
    congr 2
    have h1 := dig_at s (k + 1) (by omega) hd
    have h2 := dg_eq s (k + 1) (by omega)
    show _ = s[k + 1]
    rw [h2, show 48 + (s[k + 1].toNat - 48) = s[k + 1].toNat by omega]
    exact UInt8.ofNat_toNat

theorem dnV_parts {s : ByteArray} (h : 1 ≤ dnV s) : dnE s = 0 ∧ s.data.toList.all isDig = true ∧ 0 < s.size ∧ dnV s = acc s s.size := by
  have he : dnE s = 0 := by
    by_cases he : dnE s = 0
    · exact he
    · exfalso; unfold dnV at h; rw [if_neg he] at h; omega
  refine ⟨he, ?_⟩
  have hv : dnV s = acc s s.size := by unfold dnV; rw [if_pos he]
  unfold dnE at he
  split at he
  · exact absurd he ‹_›
  · rename_i hf
    refine ⟨(fault_zero (by simpa using hf)).1, ?_, hv⟩
    split at he
    · omega
    · omega

/-- a version's text is its number's -/
theorem ver_text {s : ByteArray} (h : 1 ≤ verN s) : dnE s = 0 ∧ dnV s = verN s ∧ itoaB (verN s) = s := by
  unfold verN at h ⊢
  cases hp : Lib.hasPrefix s.data.toList [48] with
  | true => rw [hp, if_pos rfl] at h; omega
  | false =>
    rw [hp] at h
    have h' : 1 ≤ dnV s := h
    obtain ⟨he, hd, hz, hv⟩ := dnV_parts h'
    refine ⟨he, rfl, ?_⟩
    show itoaB (dnV s) = s
    rw [hv, itoaB_nat]
    have hl : s.data.toList.length = s.size := Array.length_toList
    have h0 : 1 ≤ dg s 0 := by
      rw [dg_eq s 0 hz]
      have h1 := dig_at s 0 hz hd
      have h2 : s[0].toNat ≠ 48 := by
        intro hc
        have h3 : s.data.toList = s[0] :: s.data.toList.drop 1 := by
          have := List.drop_eq_getElem_cons (l := s.data.toList) (i := 0) (by omega)
          rw [List.drop_zero] at this
          exact this
        rw [h3, show s[0] = 48 from UInt8.toNat_inj.1 hc] at hp
        simp [Lib.hasPrefix] at hp
      omega
    obtain ⟨k, hk⟩ : ∃ k, s.size = k + 1 := ⟨s.size - 1, by omega⟩
    have h2 := (dec_acc s hd h0 k (by omega)).2
    rw [hk, h2, List.take_of_length_le (by omega)]

theorem tk_has {t : ByteArray} (h : isTk t = true) : hasB t 46 = true := by
  cases hb : hasB t 46 with
  | true => rfl
  | false =>
    exfalso
    have h1 := (isTk_parts h).2.1
    unfold tkN at h1
    rw [bhd_none hb, verN_empty] at h1
    omega

/-- a token is made of what it consists of -/
theorem tk_join {t : ByteArray} (h : isTk t = true) : tkS (tkA t) (tkN t) = t := by
  obtain ⟨_, h1, h2⟩ := isTk_parts h
  unfold tkS
  rw [show itoaB (tkN t) = bhd t 46 from (ver_text h1).2.2, join_parts (tk_has h)]

theorem app_at_lo (a b : ByteArray) (j : Nat) (hj : j < a.size) (hj2 : j < (a ++ b).size) : (a ++ b)[j] = a[j] := ByteArray.getElem_append_left hj

/-- what is joined is parted so -/
theorem tk_of {s : ByteArray} {v : Int} (hs : shp s = true) (h1 : 1 ≤ v) (h2 : v ≤ 255) : tkA (tkS s v) = s ∧ tkN (tkS s v) = v ∧ isTk (tkS s v) = true := by
  obtain ⟨hd, _, _⟩ := shp_parts hs
  have hz : (tkS s v).size = s.size + 1 + (itoaB v).size := by unfold tkS; rw [ByteArray.size_append, ByteArray.size_append]; rfl
  have hl : (tkS s v).data.toList = s.data.toList ++ 46 :: (itoaB v).data.toList := by
    unfold tkS; rw [app_list, app_list, List.append_assoc]; rfl
  have hsl : s.data.toList.length = s.size := Array.length_toList
  have hk : s.size < (tkS s v).size := by omega
  have e1 : (tkS s v)[s.size] = 46 := by
    have h := at_list (tkS s v) s.size hk
    rw [hl, List.getElem?_append_right (by omega), hsl, Nat.sub_self] at h
    exact (Option.some.inj h).symm
  have e2 : ∀ j (hj : j < s.size), (tkS s v)[j]'(Nat.lt_trans hj hk) ≠ 46 := by
    intro j hj hc
    have h := at_list (tkS s v) j (Nat.lt_trans hj hk)
    rw [hl, List.getElem?_append_left (by omega), at_list s j hj, hc] at h
    have h3 := dig_at s j hj hd
    rw [Option.some.inj h] at h3
    exact absurd h3.1 (by decide)
  obtain ⟨f1, f2⟩ := fst_at hk e1 e2
  have ea : tkA (tkS s v) = s := by
    unfold tkA ahd
    rw [f2]
    apply ba_ext
    rw [ext_list, hl, List.drop_zero, Nat.sub_zero, List.take_left' hsl]
  have eb : bhd (tkS s v) 46 = itoaB v := by
    unfold bhd
    rw [f2]
    apply ba_ext
    have hil : (itoaB v).data.toList.length = (itoaB v).size := Array.length_toList
    rw [ext_list, hl, List.drop_append, List.drop_eq_nil_of_le (by omega), hsl, Nat.add_sub_cancel_left]
    show List.take _ (itoaB v).data.toList = _
    rw [List.take_of_length_le (by omega)]
  have en : tkN (tkS s v) = v := by unfold tkN; rw [eb]; exact (itoa_back h1 h2).1
  refine ⟨ea, en, ?_⟩
  unfold isTk
  rw [ea, en, hs, decide_eq_true h1, decide_eq_true h2]; rfl
end Go.Proofs.YthmlcmlpmolmoaaGreatDoor
/- Texts that differ in their middles alone. -/
namespace Go.Proofs.YthmlcmlpmolmoaaGreatDoor
open Go.RowKit

theorem strOf_all (n : Nat) (b : Nat → Nat) (h : ∀ i, i < n → 48 ≤ b i ∧ b i ≤ 57) : (strOf n b).data.toList.all isDig = true := by
  rw [strOf_list, List.all_eq_true]
  intro x hx
  obtain ⟨i, hi, rfl⟩ := List.mem_map.1 hx
  have := h i (List.mem_range.1 hi)
  unfold isDig
  rw [chr_toNat _ (by omega)]
  simp; omega

theorem app_size (a b : ByteArray) : (a ++ b).size = a.size + b.size := ByteArray.size_append

theorem ext_left (a b : ByteArray) (k : Nat) (h : a.size = k) : (a ++ b).extract 0 k = a := by
  apply ba_ext
  rw [ext_list, app_list, List.drop_zero, Nat.sub_zero]
  exact List.take_left' (by rw [Array.length_toList]; exact h)

theorem ext_right (a b : ByteArray) (k n : Nat) (h : a.size = k) (hn : (a ++ b).size = n) : (a ++ b).extract k n = b := by
  apply ba_ext
  have h1 : a.data.toList.length = k := by rw [Array.length_toList]; exact h
  have h2 : b.data.toList.length = b.size := Array.length_toList
  rw [app_size] at hn
  rw [ext_list, app_list, List.drop_left' h1, List.take_of_length_le (by omega)]

/-- texts that differ in their middles alone have one mask -/
theorem mask_same {s M : ByteArray} (hz : shp s = true) (hM : M.size = (pM s).size) (hd : M.data.toList.all isDig = true) : maskS (pB s ++ M ++ pL s) = maskS s := by
  obtain ⟨hall, h1, h2⟩ := shp_parts hz
  have s1 := pB_size hz
  have s2 := pM_size hz
  have s3 := pL_size hz
  have hu : (pB s ++ M ++ pL s).size = s.size := by rw [app_size, app_size]; omega
  have hB : (pB s).data.toList.all isDig = true := by
    rw [pB_yes hz, ext_list]
    rw [List.all_eq_true] at hall ⊢
    exact fun x hx => hall x (List.mem_of_mem_drop (List.mem_of_mem_take hx))
  have hL : (pL s).data.toList.all isDig = true := by
    rw [pL_yes hz, ext_list]
    rw [List.all_eq_true] at hall ⊢
    exact fun x hx => hall x (List.mem_of_mem_drop (List.mem_of_mem_take hx))
  have hzu : shp (pB s ++ M ++ pL s) = true := shp_of (by rw [app_list, app_list, List.all_append, List.all_append, hB, hd, hL]; rfl) (by omega) (by omega)
  have e1 : pB (pB s ++ M ++ pL s) = pB s := by
    rw [pB_yes hzu, ByteArray.append_assoc]
    exact ext_left _ _ 6 s1
  have e3 : pL (pB s ++ M ++ pL s) = pL s := by
    rw [pL_yes hzu]
    exact ext_right _ _ _ _ (by rw [app_size, hu]; omega) rfl
  have e2 : (pM (pB s ++ M ++ pL s)).size = (pM s).size := by rw [pM_size hzu, hu, s2]
  unfold maskS
  rw [hzu, hz, if_pos rfl, if_pos rfl]
  unfold mk3
  rw [e1, e2, e3]

theorem mask_shape {s : ByteArray} (hz : shp s = true) : (maskS s).size = s.size ∧ (maskS s).extract 0 6 = pB s ∧ (maskS s).extract (s.size - 4) s.size = pL s ∧
    ∀ i, 6 ≤ i → i + 4 < s.size → (maskS s).data.toList[i]? = some 42 := by
  obtain ⟨hall, h1, h2⟩ := shp_parts hz
  have s1 := pB_size hz
  have s2 := pM_size hz
  have s3 := pL_size hz
  have e : maskS s = pB s ++ stars (pM s).size ++ pL s := by unfold maskS; rw [hz, if_pos rfl]; rfl
  have st := stars_size (pM s).size
  have hsz : (maskS s).size = s.size := by rw [e, app_size, app_size]; omega
  refine ⟨hsz, ?_, ?_, ?_⟩
  · rw [e, ByteArray.append_assoc]; exact ext_left _ _ 6 s1
  · rw [e]; exact ext_right _ _ _ _ (by rw [app_size]; omega) (by rw [← e]; exact hsz)
  · intro i h6 h4
    have hl1 : (pB s).data.toList.length = 6 := by rw [Array.length_toList]; exact s1
    rw [e, app_list, app_list, List.append_assoc, List.getElem?_append_right (by omega), hl1]
    have hl2 : (stars (pM s).size).data.toList = List.replicate (pM s).size 42 := rfl
    rw [hl2, List.getElem?_append_left (by rw [List.length_replicate]; omega), List.getElem?_replicate, if_pos (by omega)]

end Go.Proofs.YthmlcmlpmolmoaaGreatDoor
/- Contracts of package digits: Luhn, Valid. -/
namespace Go.Proofs.YthmlcmlpmolmoaaGreatDoor
open Go.RowKit

def wtab (i : Nat) : Int := if i < 10 then i else if 2 * (i - 10) ≤ 9 then 2 * (i - 10 : Nat) else 2 * (i - 10 : Nat) - 9

def Wts (w : World) : Prop := ∀ i, i < 20 → w.cell? ⟨0, i, none⟩ = some (.int .i64 (wtab i))

/-- the weight of digit d at a position -/
def wt (pos d : Nat) : Nat := if pos % 2 = 0 then d else if 2 * d ≤ 9 then 2 * d else 2 * d - 9

def psum (N f : Nat) (s : ByteArray) : Nat → Nat
  | 0 => 0
  | k + 1 => psum N f s k + wt (N - 1 - k + f) (dg s k)

theorem wt_odd (p d : Nat) (h : p % 2 = 1) : wt p d = wt 1 d := by unfold wt; simp only [h, if_neg (show ¬ (1 = 0) by decide)]

theorem wt_even (p d : Nat) (h : p % 2 = 0) : wt p d = d := by unfold wt; rw [if_pos h]

theorem wtab_lo (d : Nat) (h : d < 10) : wtab d = (d : Int) := by unfold wtab; rw [if_pos h]

theorem wtab_hi (d : Nat) (_h : d < 10) : wtab (10 + d) = (wt 1 d : Nat) := by
  unfold wtab wt; rw [if_neg (by omega), if_neg (show ¬ (1 % 2 = 0) by decide), Nat.add_sub_cancel_left]; split <;> omega

theorem wt_le (p d : Nat) (h : d ≤ 9) : wt p d ≤ 9 := by unfold wt; split; omega; split <;> omega

theorem psum_le (N f : Nat) (s : ByteArray) (hd : s.data.toList.all isDig = true) (k : Nat) : psum N f s k ≤ 9 * k := by
  induction k with
  | zero => simp [psum]
  | succ k ih => have := wt_le (N - 1 - k + f) (dg s k) (dg_le s k hd); simp only [psum]; omega

set_option maxHeartbeats 800000 in
theorem luhnSum_any (s : ByteArray) (f : Int) (w : World) (hs : s.size ≤ 1000) (hf : 0 ≤ f) (hf' : f ≤ 1) (hd : s.data.toList.all isDig = true) (hw : Wts w) :
    Calls Tryz.prog 93 #[.string s, .int .i64 f] w fun e w' => e = .returned (.int .i64 (psum s.size f.toNat s s.size)) ∧ ∃ n, w' = w.drewN n := by
  have HD := Lib.hid hd
  have HW := Lib.hid hw
  clear hd hw
  go_enter Tryz.func93, Tryz.ntmps93
  go_wp2
  go_loopw [5, 10] (fun t i wr => ∃ k : Nat, k ≤ s.size ∧ i = .int .i64 k ∧ t = .int .i64 (psum s.size f.toNat s k) ∧ ∃ n, wr = w.drewN n) (fun _ i _ => s.size - (intOf i).toNat)
  case atStart => exact ⟨0, Nat.zero_le _, rfl, rfl, 0, rfl⟩
  case round =>
    obtain ⟨k, hk, rfl, rfl, hn⟩ := hrel
    have HN := Lib.hid hn
    clear hn
    by_cases hlt : k < s.size
    · obtain ⟨hb1, hb2⟩ := dig_at s k hlt HD.out
      have hps := psum_le s.size f.toNat s HD.out k
      obtain ⟨d, e0, hd9⟩ : ∃ d : Nat, (s[k].toNat : Int) - 48 = d ∧ d < 10 := ⟨s[k].toNat - 48, by omega, by omega⟩
      have e0' : s[k].toNat - 48 = d := by omega
      have HS := Lib.hid (show psum s.size f.toNat s (k+1) = psum s.size f.toNat s k + wt (s.size - 1 - k + f.toNat) d by rw [← e0', ← dg_eq s k hlt]; rfl)
      clear e0'
      have hd9' : (d : Int) < 10 := by omega
      rcases (show ((s.size : Int) - 1 - k + f) % 2 = 0 ∨ ((s.size : Int) - 1 - k + f) % 2 = 1 by omega) with h | h
      · have e1 : ((s.size : Int) - 1 - k + f).tmod 2 = 0 := by rw [Int.tmod_eq_emod_of_nonneg (by omega)]; exact h
        have HT := Lib.hid (show wt (s.size - 1 - k + f.toNat) d = d from wt_even _ _ (by omega))
        have hc : wr.cell? ⟨0, d, none⟩ = some (.int .i64 d) := by
          obtain ⟨n, hn⟩ := HN.out
          rw [hn]
          exact (HW.out d (by omega)).trans (by rw [wtab_lo d hd9])
        clear h
        go_wp2
        go_quiet ((go_at_call 129; exact Calls.quiet_of_same ((value_any _ _ (by omega) (by omega)).mono fun _ _ h => ⟨h.1, h.2.symm⟩)))
        go_wp2
        go_roundw
        case rel => exact ⟨k + 1, by omega, by go_num, fin1 HS.out rfl (by rw [HT.out]), drawn_more HN.out nq⟩
        case measure => simp [intOf]; omega
      · have e1 : ((s.size : Int) - 1 - k + f).tmod 2 = 1 := by rw [Int.tmod_eq_emod_of_nonneg (by omega)]; exact h
        have hc : wr.cell? ⟨0, 10 + d, none⟩ = some (.int .i64 (wt 1 d)) := by
          obtain ⟨n, hn⟩ := HN.out
          rw [hn]
          exact (HW.out (10 + d) (by omega)).trans (by rw [wtab_hi d hd9])
        have HT := Lib.hid (show wt (s.size - 1 - k + f.toNat) d = wt 1 d from wt_odd _ _ (by omega))
        have hwl := wt_le 1 d (by omega)
        clear h
        go_wp2
        go_quiet ((go_at_call 129; exact Calls.quiet_of_same ((value_any _ _ (by omega) (by omega)).mono fun _ _ h => ⟨h.1, h.2.symm⟩)))
        go_wp2
        go_roundw
        case rel => exact ⟨k + 1, by omega, by go_num, fin1 HS.out rfl (by rw [HT.out]), drawn_more HN.out nq⟩
        case measure => simp [intOf]; omega
    · have e : k = s.size := by omega
      subst e
      go_wp2
      go_ret
      exact ⟨rfl, HN.out⟩

def luhnOf (s : ByteArray) : Int := ((10 - (psum s.size 1 s s.size) % 10) % 10 : Nat)

def validB (s : ByteArray) : Bool := decide (0 < s.size) && (decide (faultOf s.data.toList = 0) && decide (psum s.size 0 s s.size % 10 = 0))

set_option maxHeartbeats 400000 in
theorem luhn_bad (s : ByteArray) (w : World) (hs : s.size ≤ maxLen) (hb : ¬ faultOf s.data.toList = 0) :
    Calls Tryz.prog 91 #[.string s] w fun e w' => e = .returned (.tuple #[.int .i64 0, .int .i64 (faultOf s.data.toList)]) ∧ w = w' := by
  have hb' : (faultOf s.data.toList != 0) = true := by simpa using hb
  go_enter Tryz.func91, Tryz.ntmps91
  go_wp2_with (go_at_call 92; refine (fault_any _ _ hs).mono ?_; rintro e w' ⟨rfl, rfl⟩)
  go_ret2
  exact ⟨rfl, rfl⟩

set_option maxHeartbeats 400000 in
theorem luhn_ok (s : ByteArray) (w : World) (hd : s.data.toList.all isDig = true) (hl : s.size ≤ 999) (hw : Wts w) :
    Calls Tryz.prog 91 #[.string s] w fun e w' => e = .returned (.tuple #[.int .i64 (luhnOf s), .int .i64 0]) ∧ ∃ n, w' = w.drewN n := by
  have HD := Lib.hid hd
  have HW := Lib.hid hw
  have HF := Lib.hid (fault_ok hd (by simpa using hl))
  have hp := psum_le s.size 1 s hd s.size
  clear hd hw
  go_enter Tryz.func91, Tryz.ntmps91
  go_wp2_with (go_at_call 92; refine (fault_any _ _ (by unfold maxLen; omega)).mono ?_; rintro e w' ⟨rfl, rfl⟩; rw [HF.out])
  go_wp2_with (go_at_call 93; refine (luhnSum_any _ _ _ (by omega) (by omega) (by omega) HD.out HW.out).mono ?_; rintro e w' ⟨rfl, n, rfl⟩)
  go_ret2
  exact ⟨ret_two (by unfold luhnOf; show _ = ((_ : Nat) : Int); omega), n, rfl⟩

set_option maxHeartbeats 400000 in
theorem valid_any (s : ByteArray) (w : World) (hs : s.size ≤ maxLen) (hw : Wts w) :
    Calls Tryz.prog 51 #[.string s] w fun e w' => e = .returned (.bool (validB s)) ∧ ∃ n, w' = w.drewN n := by
  have HW := Lib.hid hw
  clear hw
  by_cases h0 : s.size = 0
  · have e1 : s.toList.isEmpty = true := by
      rw [ByteArray.toList_eq, List.isEmpty_iff_length_eq_zero]; exact Array.length_toList.trans h0
    have HB := Lib.hid (show validB s = false by unfold validB; rw [decide_eq_false (by omega)]; simp)
    clear h0
    go_enter Tryz.func51, Tryz.ntmps51
    go_wp2
    go_ret
    exact ⟨by rw [HB.out]; rfl, 0, rfl⟩
  · have e1 := toList_of_size (s := s) (by omega)
    by_cases hf : faultOf s.data.toList = 0
    · obtain ⟨hd, hl⟩ := fault_zero hf
      have hl' : s.size ≤ 999 := by rw [Array.length_toList] at hl; exact hl
      have HD := Lib.hid hd
      have HF := Lib.hid hf
      have hp := psum_le s.size 0 s hd s.size
      have HB := Lib.hid (show validB s = ((psum s.size 0 s s.size : Int) % 10 == 0) by
        unfold validB; rw [decide_eq_true (show 0 < s.size by omega), hf]; simp only [Bool.true_and, decide_true]; rw [Bool.eq_iff_iff]; simp; omega)
      clear hf hd hl h0
      go_enter Tryz.func51, Tryz.ntmps51
      go_wp2_with (first | (go_at_call 92; refine (fault_any s _ hs).mono ?_; rintro e w' ⟨rfl, rfl⟩; rw [HF.out]) | (go_at_call 93; refine (luhnSum_any s 0 _ (by omega) (by omega) (by omega) HD.out HW.out).mono ?_; rintro e w' ⟨rfl, n, rfl⟩))
      go_ret
      exact ⟨by rw [HB.out]; rfl, _, rfl⟩
    · have hf' : (faultOf s.data.toList == 0) = false := by simpa using hf
      have HB := Lib.hid (show validB s = false by unfold validB; rw [decide_eq_false hf]; simp)
      clear hf h0
      go_enter Tryz.func51, Tryz.ntmps51
      go_wp2_with (go_at_call 92; refine (fault_any s _ hs).mono ?_; rintro e w' ⟨rfl, rfl⟩)
      go_ret
      exact ⟨by rw [HB.out]; rfl, 0, rfl⟩
end Go.Proofs.YthmlcmlpmolmoaaGreatDoor
/- strings.HasPrefix at this dump. -/
namespace Go.Proofs.YthmlcmlpmolmoaaGreatDoor
open Go.Shelf Go.RowKit
def lays99_ren : Go.Shelf.Ren := ⟨fun | 99 => 97 | 206 => 134 | n => n, fun | 9 => 9 | 4 => 4 | 3 => 3 | n => n, fun | n => n⟩
theorem lays99 : Go.Proofs.Lays.n99 Tryz.prog lays99_ren := {
  mixed := by kernel_rfl
  f99 := Tryz.func97.trans (congrArg some (by kernel_rfl))
  f206 := Tryz.func134.trans (congrArg some (by kernel_rfl))
  t3 := Tryz.underlying3
  a3 := Tryz.isAgg3
  z3 := Tryz.sizeOf3
  v3 := Tryz.zeroValue3
  t4 := Tryz.underlying4
  a4 := Tryz.isAgg4
  z4 := Tryz.sizeOf4
  v4 := Tryz.zeroValue4
  t9 := Tryz.underlying9
  a9 := Tryz.isAgg9
  z9 := Tryz.sizeOf9
  v9 := Tryz.zeroValue9 }

theorem prefix_any (s p : ByteArray) (w : World) :
    Calls Tryz.prog 97 #[.string s, .string p] w fun e w' => e = .returned (.bool (Lib.hasPrefix s.data.toList p.data.toList)) ∧ w = w' :=
  (Any.strings_HasPrefix lays99 s p w).mono fun _ _ ⟨a, b⟩ => ⟨a, b.symm⟩
end Go.Proofs.YthmlcmlpmolmoaaGreatDoor
/- strings.Clone at this dump. -/
namespace Go.Proofs.YthmlcmlpmolmoaaGreatDoor
open Go.Shelf Go.RowKit
def laysM316_ren : Go.Shelf.Ren := ⟨fun | 316 => 103 | n => n, fun | 9 => 9 | 3 => 3 | 4 => 4 | 37 => 22 | 0 => 0 | 127 => 193 | 5 => 5 | n => n, fun | n => n⟩
theorem laysM316 : Go.Proofs.LaysM.n316 Tryz.prog laysM316_ren := {
  mixed := by kernel_rfl
  f316 := Tryz.func103.trans (congrArg some (by kernel_rfl))
  t0 := Tryz.underlying0
  a0 := Tryz.isAgg0
  z0 := Tryz.sizeOf0
  v0 := Tryz.zeroValue0
  t3 := Tryz.underlying3
  a3 := Tryz.isAgg3
  z3 := Tryz.sizeOf3
  v3 := Tryz.zeroValue3
  t4 := Tryz.underlying4
  a4 := Tryz.isAgg4
  z4 := Tryz.sizeOf4
  v4 := Tryz.zeroValue4
  t9 := Tryz.underlying9
  a9 := Tryz.isAgg9
  z9 := Tryz.sizeOf9
  v9 := Tryz.zeroValue9
  t37 := Tryz.underlying22
  a37 := Tryz.isAgg22
  z37 := Tryz.sizeOf22
  v37 := Tryz.zeroValue22
  t127 := Tryz.underlying193
  a127 := Tryz.isAgg193
  z127 := Tryz.sizeOf193
  v127 := Tryz.zeroValue193
  t5 := Tryz.underlying5
  a5 := Tryz.isAgg5
  z5 := Tryz.sizeOf5
  v5 := Tryz.zeroValue5
  i0 := by kernel_rfl
  i3 := by kernel_rfl
  i4 := by kernel_rfl
  i5 := by kernel_rfl
  i9 := by kernel_rfl
  i37 := by kernel_rfl
  i127 := by kernel_rfl }

theorem sclone_any (s : ByteArray) (w : World) (hl : s.size ≤ 281474976710656) :
    Calls Tryz.prog 58 #[.string s] w fun e w' => e = .returned (.string s) ∧ Below w.heap.size w w' := by
  go_enter Tryz.func58, Tryz.ntmps58
  go_wp2_with (go_at_call 103; refine (Any.stringslite_Clone laysM316 s _ hl).mono ?_; rintro e w' ⟨rfl, hb⟩)
  go_ret
  exact ⟨rfl, hb⟩
end Go.Proofs.YthmlcmlpmolmoaaGreatDoor
/- Package pan: cutting a text, a version's number, the forms of parts. -/
namespace Go.Proofs.YthmlcmlpmolmoaaGreatDoor
open Go.RowKit

/-- the parts as a struct -/
def parts (a b c : ByteArray) : Value := .agg #[.string a, .string b, .string c]

/-- what cut hands back -/
def cutV (s : ByteArray) : Value := .agg #[.string (pB s), .string (pM s), .string (pL s)]

theorem luhn_all (s : ByteArray) (w : World) (hs : s.size ≤ maxLen) (hw : Wts w) :
    Calls Tryz.prog 91 #[.string s] w fun e w' => (∃ x, e = .returned (.tuple #[.int .i64 x, .int .i64 (faultOf s.data.toList)])) ∧ ∃ n, w' = w.drewN n := by
  by_cases h : faultOf s.data.toList = 0
  · obtain ⟨hd, hl⟩ := fault_zero h
    exact (luhn_ok s w hd (by rw [Array.length_toList] at hl; exact hl) hw).mono fun e w' ⟨he, hn⟩ => ⟨⟨_, by rw [h]; exact he⟩, hn⟩
  · exact (luhn_bad s w hs h).mono fun e w' ⟨he, hn⟩ => ⟨⟨_, he⟩, 0, hn.symm⟩

set_option maxHeartbeats 800000 in
theorem cut_any (s : ByteArray) (w : World) (hs : s.size ≤ maxLen) (hw : Wts w) :
    Calls Tryz.prog 50 #[.string s] w fun e w' => e = .returned (cutV s) ∧ Below w.heap.size w w' := by
  have HW := Lib.hid (hw)
  have HS := Lib.hid hs
  unfold maxLen at hs
  clear hw
  by_cases hl : s.size < 16 ∨ 19 < s.size
  · have hz : shp s = false := by
      unfold shp
      rcases hl with h | h
      · rw [decide_eq_false (show ¬ 16 ≤ s.size by omega)]; simp
      · rw [decide_eq_false (show ¬ s.size ≤ 19 by omega)]; simp
    have HV := Lib.hid (show cutV s = .agg #[.string ⟨#[]⟩, .string ⟨#[]⟩, .string ⟨#[]⟩] by unfold cutV; rw [pB_no hz, pM_no hz, pL_no hz])
    clear hz
    rcases hl with h | h
    · have h1 : decide ((s.size : Int) < 16) = true := by simp; omega
      go_enter Tryz.func50, Tryz.ntmps50
      go_wp2_with fail
      exact bodyPost_ret (v := .agg #[.string ⟨#[]⟩, .string ⟨#[]⟩, .string ⟨#[]⟩]) (by simp [results, Tryz.results50, go_sem]) rfl ⟨by rw [HV.out], (Below.refl _ _).alloc (Nat.le_refl _) _⟩
    · have h1 : decide ((s.size : Int) < 16) = false := by simp; omega
      have h2 : decide ((19 : Int) < s.size) = true := by simp; omega
      go_enter Tryz.func50, Tryz.ntmps50
      go_wp2_with fail
      exact bodyPost_ret (v := .agg #[.string ⟨#[]⟩, .string ⟨#[]⟩, .string ⟨#[]⟩]) (by simp [results, Tryz.results50, go_sem]) rfl ⟨by rw [HV.out], (Below.refl _ _).alloc (Nat.le_refl _) _⟩
  · have h1 : decide ((s.size : Int) < 16) = false := by simp; omega
    have h2 : decide ((19 : Int) < s.size) = false := by simp; omega
    obtain ⟨n, hn, hn2⟩ : ∃ n : Nat, (s.size : Int) - 4 = n ∧ n = s.size - 4 := ⟨s.size - 4, by omega, rfl⟩
    by_cases hf : faultOf s.data.toList = 0
    · have hns : n ≤ s.size := by omega
      have hn6 : 6 ≤ n := by omega
      have hd := (fault_zero hf).1
      have hz := shp_of hd (by omega) (by omega)
      have HV := Lib.hid (show cutV s = .agg #[.string (s.extract 0 6), .string (s.extract 6 n), .string (s.extract n s.size)] by unfold cutV; rw [pB_yes hz, pM_yes hz, pL_yes hz, hn2])
      have HF := Lib.hid hf
      clear hf hd hz hn2
      go_enter Tryz.func50, Tryz.ntmps50
      go_wp2_with (go_at_call 91; refine (luhn_all s _ HS.out (fun i hi => ((Below.refl w.heap.size w).alloc (Nat.le_refl _) _).cell (block_lt (HW.out i hi)) |>.trans (HW.out i hi))).mono ?_; rintro e w1 ⟨⟨x, rfl⟩, m, rfl⟩; rw [HF.out])
      go_region
      go_wp2_with fail
      exact bodyPost_ret (v := .agg #[.string (s.extract 0 6), .string (s.extract 6 n), .string (s.extract n s.size)]) (by simp [results, Tryz.results50, go_sem]) rfl ⟨by rw [HV.out], (((drawn ((Below.refl _ _).alloc (Nat.le_refl _) _) _).setCell (Nat.le_refl _) _).setCell (Nat.le_refl _) _).setCell (Nat.le_refl _) _⟩
    · have hz : shp s = false := by
        cases h : shp s with
        | false => rfl
        | true => exact absurd (fault_ok (shp_parts h).1 (by rw [Array.length_toList]; show s.size ≤ 999; omega)) hf
      have HV := Lib.hid (show cutV s = .agg #[.string ⟨#[]⟩, .string ⟨#[]⟩, .string ⟨#[]⟩] by unfold cutV; rw [pB_no hz, pM_no hz, pL_no hz])
      have hf' : (faultOf s.data.toList != 0) = true := by simpa using hf
      clear hf hz
      go_enter Tryz.func50, Tryz.ntmps50
      go_wp2_with fail
      refine (luhn_all s _ HS.out (fun i hi => ((Below.refl w.heap.size w).alloc (Nat.le_refl _) _).cell (block_lt (HW.out i hi)) |>.trans (HW.out i hi))).mono ?_
      rintro e w1 ⟨⟨x, rfl⟩, m, rfl⟩
      go_wp2_with fail
      exact bodyPost_ret (v := .agg #[.string ⟨#[]⟩, .string ⟨#[]⟩, .string ⟨#[]⟩]) (by simp [results, Tryz.results50, go_sem]) rfl ⟨by rw [HV.out], (((drawn ((Below.refl _ _).alloc (Nat.le_refl _) _) _).setCell (Nat.le_refl _) _).setCell (Nat.le_refl _) _).setCell (Nat.le_refl _) _⟩

theorem wrong_any (v : Int) (w : World) :
    Calls Tryz.prog 77 #[.int .i64 v] w fun e w' => e = .returned (.bool (decide (v < 1) || decide (255 < v))) ∧ w = w' := by
  go_enter Tryz.func77, Tryz.ntmps77
  by_cases h1 : v < 1
  · have h1' : decide (v < 1) = true := by simpa using h1
    clear h1
    go_wp2
    go_ret
    exact ⟨by rw [h1']; rfl, rfl⟩
  · have h1' : decide (v < 1) = false := by simpa using h1
    clear h1
    go_wp2
    go_ret
    exact ⟨by rw [h1']; rfl, rfl⟩

theorem number11_any (s : ByteArray) (w : World) (hs : s.size ≤ maxLen) :
    Calls Tryz.prog 95 #[.string s] w fun e w' => e = .returned (.int .i64 (verN s)) ∧ ∃ n, w' = w.drewN n := by
  cases hp : Lib.hasPrefix s.data.toList [48] with
  | true =>
    have HV := Lib.hid (show verN s = 0 by unfold verN; rw [hp]; rfl)
    have HP := Lib.hid hp
    clear hp
    go_enter Tryz.func95, Tryz.ntmps95
    go_wp2_with (go_at_call 97; refine (prefix_any s _ _).mono ?_; rintro e w' ⟨rfl, rfl⟩; rw [show ((⟨#[48]⟩ : ByteArray).data.toList) = [48] from rfl, HP.out])
    go_ret
    exact ⟨by rw [HV.out]; rfl, 0, rfl⟩
  | false =>
    have HV := Lib.hid (show verN s = dnV s by unfold verN; rw [hp]; rfl)
    have HP := Lib.hid hp
    clear hp
    go_enter Tryz.func95, Tryz.ntmps95
    go_wp2_with (first
      | (go_at_call 97; refine (prefix_any s _ _).mono ?_; rintro e w' ⟨rfl, rfl⟩; rw [show ((⟨#[48]⟩ : ByteArray).data.toList) = [48] from rfl, HP.out])
      | (go_at_call 131; refine (number_any s _ hs).mono ?_; rintro e w' ⟨rfl, n, rfl⟩))
    go_ret
    exact ⟨by rw [HV.out]; rfl, n, rfl⟩

theorem join11_any (s : ByteArray) (v : Int) (w : World) (hs : s.size ≤ 1000) (h0 : -9223372036854775808 ≤ v) (h1 : v ≤ 9223372036854775807) (hp : P10 w) :
    Calls Tryz.prog 55 #[.string s, .int .i64 v] w fun e w' => e = .returned (.string (tkS s v)) ∧ Below w.heap.size w w' := by
  have HT := Lib.hid (show tkS s v = s ++ ⟨#[46]⟩ ++ itoaB v from rfl)
  have hz := itoaB_size v h0 h1
  have hz1 : (s ++ (⟨#[46]⟩ : ByteArray)).size ≤ 1001 := by rw [ByteArray.size_append]; show s.size + 1 ≤ 1001; omega
  have hz2 : (⟨#[46]⟩ : ByteArray).size ≤ 1 := Nat.le_refl _
  go_enter Tryz.func55, Tryz.ntmps55
  go_wp2_with fail
  refine (itoa_any v _ h0 h1 hp).mono ?_
  rintro e w' ⟨rfl, hb⟩
  generalize itoaB v = t at *
  go_wp2_with fail
  go_ret
  exact ⟨by rw [HT.out]; rfl, hb⟩

theorem eq_parts (a b c : ByteArray) (w : World) (h : 0 < a.size) :
    (binOp .eql 99 (.agg #[.string a, .string b, .string c]) (.agg #[.string ⟨#[]⟩, .string ⟨#[]⟩, .string ⟨#[]⟩])).run Tryz.prog w = .ok (.bool false) w := by
  have e1 : (a.toList == []) = false := by
    have := toList_of_size h
    cases ht : a.toList with
    | nil => rw [ht] at this; exact absurd this (by decide)
    | cons x l => rfl
  simp [go_sem, e1]

/-- the zero parts -/
theorem eq_none (w : World) :
    (binOp .eql 99 (.agg #[.string ⟨#[]⟩, .string ⟨#[]⟩, .string ⟨#[]⟩]) (.agg #[.string ⟨#[]⟩, .string ⟨#[]⟩, .string ⟨#[]⟩])).run Tryz.prog w = .ok (.bool true) w := by
  simp [go_sem]

theorem neq_parts (a b c : ByteArray) (w : World) (h : 0 < a.size) :
    (binOp .neq 99 (.agg #[.string a, .string b, .string c]) (.agg #[.string ⟨#[]⟩, .string ⟨#[]⟩, .string ⟨#[]⟩])).run Tryz.prog w = .ok (.bool true) w := by
  have e1 : (a.toList == []) = false := by
    have := toList_of_size h
    cases ht : a.toList with
    | nil => rw [ht] at this; exact absurd this (by decide)
    | cons x l => rfl
  simp [go_sem, e1]

theorem neq_none (w : World) :
    (binOp .neq 99 (.agg #[.string ⟨#[]⟩, .string ⟨#[]⟩, .string ⟨#[]⟩]) (.agg #[.string ⟨#[]⟩, .string ⟨#[]⟩, .string ⟨#[]⟩])).run Tryz.prog w = .ok (.bool false) w := by
  simp [go_sem]
end Go.Proofs.YthmlcmlpmolmoaaGreatDoor
/- Package pan: parts masked and whole, Is, Cut. -/
namespace Go.Proofs.YthmlcmlpmolmoaaGreatDoor
open Go.RowKit

theorem stars_regrown (W : World) (c : Nat) (hc : c ≤ 1000000) (d : Nat) (os : Array Obj) :
    Calls Tryz.prog 56 #[.string ⟨#[42]⟩, .int .i64 c] (Go.Sort.grow (redrawn W d) os) fun e w'' => e = .returned (.string (stars c)) ∧ ∃ p : Regrown, w'' = Go.Sort.grow (redrawn W p.d) p.os :=
  Calls.regrown_of (stars_any c _ hc)

theorem clone_regrown (W : World) (s : ByteArray) (hl : s.size ≤ 281474976710656) (d : Nat) (os : Array Obj) :
    Calls Tryz.prog 58 #[.string s] (Go.Sort.grow (redrawn W d) os) fun e w'' => e = .returned (.string s) ∧ ∃ p : Regrown, w'' = Go.Sort.grow (redrawn W p.d) p.os :=
  Calls.regrown_of (sclone_any s _ hl)

set_option maxHeartbeats 800000 in
theorem mask3_any (a b c : ByteArray) (w : World) (ha : a.size ≤ 1000) (hb : b.size ≤ 1000) (hc : c.size ≤ 1000) :
    Calls Tryz.prog 54 #[.agg #[.string a, .string b, .string c]] w fun e w' => e = .returned (.string (mk3 a b c)) ∧ Below w.heap.size w w' := by
  have HM := Lib.hid (show mk3 a b c = a ++ stars b.size ++ c from rfl)
  have cR := stars_regrown (w.alloc (.cells #[.string a, .string b, .string c] 99)) b.size (by omega)
  have HS := Lib.hid (stars_size b.size)
  have hz0 := stars_size b.size
  generalize stars b.size = st at *
  have hz : st.size ≤ 1000 := by omega
  have hz1 : ¬ 9223372036854775807 < a.size + st.size := by omega
  have hz2 : ¬ 9223372036854775807 < a.size + st.size + c.size := by omega
  clear hz0
  have hw1 : (w.alloc (.cells #[.string a, .string b, .string c] 99)).cell? ⟨w.heap.size, 0, none⟩ = some (.string a) := (World.cell?_alloc_at _ _ _ _ rfl).trans rfl
  have hw2 : (w.alloc (.cells #[.string a, .string b, .string c] 99)).cell? ⟨w.heap.size, 1, none⟩ = some (.string b) := (World.cell?_alloc_at _ _ _ _ rfl).trans rfl
  have hw3 : (w.alloc (.cells #[.string a, .string b, .string c] 99)).cell? ⟨w.heap.size, 2, none⟩ = some (.string c) := (World.cell?_alloc_at _ _ _ _ rfl).trans rfl
  have k1 := cell_regrown hw1
  have k2 := cell_regrown hw2
  have k3 := cell_regrown hw3
  have HB := Lib.hid ((Below.refl w.heap.size w).alloc (Nat.le_refl _) (.cells #[.string a, .string b, .string c] 99))
  clear hw1 hw2 hw3
  go_enter Tryz.func54, Tryz.ntmps54
  go_wp2_with fail
  generalize w.alloc (.cells #[.string a, .string b, .string c] 99) = W at *
  refine wp_region_quiet_below (by kernel_rfl) (by kernel_rfl) ?_
  repeat (quiet_step (exact cR _ _))
  refine wpQuiet_nil ?_
  intro _ hw'
  obtain ⟨⟨dq, osq⟩, hw''⟩ := hw'
  subst hw''
  have HB2 := Lib.hid (HB.out.trans ((below_regrown W dq osq).mono HB.out.size))
  generalize Go.Sort.grow (redrawn W dq) osq = W2 at *
  go_wp2_with fail
  go_ret
  exact ⟨by rw [HM.out]; rfl, HB2.out⟩

set_option maxHeartbeats 800000 in
theorem whole_any (a b c : ByteArray) (w : World) (ha : a.size ≤ 1000) (hb : b.size ≤ 1000) (hc : c.size ≤ 1000) :
    Calls Tryz.prog 53 #[.agg #[.string a, .string b, .string c]] w fun e w' => e = .returned (.string (a ++ b ++ c)) ∧ Below w.heap.size w w' := by
  have hz1 : (a ++ b).size ≤ 2000 := by rw [ByteArray.size_append]; omega
  have hz2 : (a ++ b ++ c).size ≤ 3000 := by rw [ByteArray.size_append, ByteArray.size_append]; omega
  go_enter Tryz.func53, Tryz.ntmps53
  go_wp2_with fail
  go_ret
  exact ⟨rfl, (Below.refl w.heap.size w).alloc (Nat.le_refl _) _⟩

def isV (s : ByteArray) : Bool := shp s && validB s

set_option maxHeartbeats 800000 in
theorem is11_any (s : ByteArray) (w : World) (hs : s.size ≤ maxLen) (hw : Wts w) (hwk : ∀ w', Below w.heap.size w w' → Wts w') :
    Calls Tryz.prog 25 #[.string s] w fun e w' => e = .returned (.bool (isV s)) ∧ Below w.heap.size w w' := by
  have HK := Lib.hid hwk
  have HW := Lib.hid hw
  clear hwk hw
  cases hz : shp s with
  | true =>
    have HV := Lib.hid (show isV s = validB s by unfold isV; rw [hz]; rfl)
    have hC : cutV s = .agg #[.string (pB s), .string (pM s), .string (pL s)] := rfl
    have e1 : ¬ (pB s).toList = [] := by
      have := toList_of_size (s := pB s) (by rw [pB_size hz]; decide)
      intro h; rw [h] at this; exact absurd this (by decide)
    clear hz
    go_enter Tryz.func25, Tryz.ntmps25
    go_wp2_with fail
    refine (cut_any s _ hs HW.out).mono ?_
    rintro e w1 ⟨rfl, hb1⟩
    rw [hC]
    have HB1 := Lib.hid hb1
    clear hb1 hC
    generalize pB s = a at *
    generalize pM s = b at *
    generalize pL s = c at *
    go_wp2_with fail
    refine (valid_any s _ hs (HK.out _ HB1.out)).mono ?_
    rintro e w2 ⟨rfl, n, rfl⟩
    go_wp2_with fail
    go_ret
    exact ⟨by rw [HV.out]; rfl, drawn HB1.out n⟩
  | false =>
    have HV := Lib.hid (show isV s = false by unfold isV; rw [hz]; rfl)
    have hC : cutV s = .agg #[.string ⟨#[]⟩, .string ⟨#[]⟩, .string ⟨#[]⟩] := by unfold cutV; rw [pB_no hz, pM_no hz, pL_no hz]
    clear hz
    go_enter Tryz.func25, Tryz.ntmps25
    go_wp2_with fail
    refine (cut_any s _ hs HW.out).mono ?_
    rintro e w1 ⟨rfl, hb1⟩
    rw [hC]
    have HB1 := Lib.hid hb1
    clear hb1 hC
    go_wp2_with fail
    go_ret
    exact ⟨by rw [HV.out]; rfl, HB1.out⟩
end Go.Proofs.YthmlcmlpmolmoaaGreatDoor
/- The table of weights stays. -/
namespace Go.Proofs.YthmlcmlpmolmoaaGreatDoor
open Go.RowKit

theorem Wts.below {w w' : World} {B : Nat} (h : Wts w) (hb : Below B w w') (hB : 0 < B) : Wts w' := fun i hi => (hb.cell (p := ⟨_, i, none⟩) hB).trans (h i hi)

theorem Wts.lt {w : World} (h : Wts w) : 0 < w.heap.size := block_lt (h 0 (by omega))

theorem Wts.drewN {w : World} (h : Wts w) (n : Nat) : Wts (w.drewN n) := h

theorem Wts.keep {w w' : World} (h : Wts w) (hb : Below w.heap.size w w') : Wts w' := h.below hb h.lt
end Go.Proofs.YthmlcmlpmolmoaaGreatDoor
/- Package pan: Cut, read. -/
namespace Go.Proofs.YthmlcmlpmolmoaaGreatDoor
open Go.RowKit

/-- the tables -/
structure PT (w : World) : Prop where
  wts : Wts w
  p10 : P10 w

theorem PT.keep {w w' : World} (h : PT w) (hb : Below w.heap.size w w') : PT w' := ⟨h.wts.keep hb, h.p10.keep hb⟩

theorem no_list {s : ByteArray} (h : 0 < s.size) : ¬ s.toList = [] := by
  have := toList_of_size h
  intro h; rw [h] at this; exact absurd this (by decide)

set_option maxHeartbeats 1600000 in
theorem cut11_any (s : ByteArray) (w : World) (hs : s.size ≤ maxLen) (hw : PT w) :
    Calls Tryz.prog 29 #[.string s] w fun e w' => e = .returned (.tuple #[.string (pB s), .string (pM s), .string (pL s), .int .i64 (cutE s)]) ∧ Below w.heap.size w w' := by
  have HW := Lib.hid hw
  clear hw
  cases hz : shp s with
  | true =>
    have HE := Lib.hid (show cutE s = 0 by unfold cutE; rw [hz]; rfl)
    have hC : cutV s = .agg #[.string (pB s), .string (pM s), .string (pL s)] := rfl
    have e1 := no_list (s := pB s) (by rw [pB_size hz]; decide)
    have hB := pB_le s
    have hM := pM_le s
    have hL := pL_le s
    clear hz
    go_enter Tryz.func29, Tryz.ntmps29
    go_wp2_with fail
    refine (cut_any s _ hs HW.out.wts).mono ?_
    rintro e w1 ⟨rfl, hb1⟩
    rw [hC]
    have HB1 := Lib.hid hb1
    clear hb1 hC
    generalize hpa : pB s = a at *
    generalize hpb : pM s = b at *
    generalize hpc : pL s = c at *
    have HP := Lib.hid (show pB s = a ∧ pM s = b ∧ pL s = c from ⟨hpa, hpb, hpc⟩)
    clear hpa hpb hpc
    have cA := fun W => clone_regrown W a (by omega)
    have cB := fun W => clone_regrown W b (by omega)
    have cC := fun W => clone_regrown W c (by omega)
    have hw1 : (w1.alloc (.cells #[.string a, .string b, .string c] 99)).cell? ⟨w1.heap.size, 0, none⟩ = some (.string a) := (World.cell?_alloc_at _ _ _ _ rfl).trans rfl
    have hw2 : (w1.alloc (.cells #[.string a, .string b, .string c] 99)).cell? ⟨w1.heap.size, 1, none⟩ = some (.string b) := (World.cell?_alloc_at _ _ _ _ rfl).trans rfl
    have hw3 : (w1.alloc (.cells #[.string a, .string b, .string c] 99)).cell? ⟨w1.heap.size, 2, none⟩ = some (.string c) := (World.cell?_alloc_at _ _ _ _ rfl).trans rfl
    have k1 := cell_regrown hw1
    have k2 := cell_regrown hw2
    have k3 := cell_regrown hw3
    have HB2 := Lib.hid (HB1.out.alloc HB1.out.size (.cells #[.string a, .string b, .string c] 99))
    clear hw1 hw2 hw3
    go_wp2_with fail
    generalize w1.alloc (.cells #[.string a, .string b, .string c] 99) = W at *
    have cA := cA W
    have cB := cB W
    have cC := cC W
    refine wp_region_quiet_below (by kernel_rfl) (by kernel_rfl) ?_
    repeat (quiet_step (first | (with_reducible exact cA _ _) | (with_reducible exact cB _ _) | (with_reducible exact cC _ _)))
    refine wpQuiet_nil ?_
    intro _ hw'
    obtain ⟨⟨dq, osq⟩, hw''⟩ := hw'
    subst hw''
    have HB3 := Lib.hid (HB2.out.trans ((below_regrown W dq osq).mono HB2.out.size))
    generalize Go.Sort.grow (redrawn W dq) osq = W2 at *
    go_wp2_with fail
    exact bodyPost_ret (v := .tuple #[.string a, .string b, .string c, .int .i64 0]) (by simp [results, Tryz.results29, go_sem]) rfl ⟨by rw [HE.out, HP.out.1, HP.out.2.1, HP.out.2.2], HB3.out⟩
  | false =>
    have HE := Lib.hid (show cutE s = 10 by unfold cutE; rw [hz]; rfl)
    have hC : cutV s = .agg #[.string ⟨#[]⟩, .string ⟨#[]⟩, .string ⟨#[]⟩] := by unfold cutV; rw [pB_no hz, pM_no hz, pL_no hz]
    have HV := Lib.hid (show pB s = ⟨#[]⟩ ∧ pM s = ⟨#[]⟩ ∧ pL s = ⟨#[]⟩ from ⟨pB_no hz, pM_no hz, pL_no hz⟩)
    clear hz
    go_enter Tryz.func29, Tryz.ntmps29
    go_wp2_with fail
    refine (cut_any s _ hs HW.out.wts).mono ?_
    rintro e w1 ⟨rfl, hb1⟩
    rw [hC]
    have HB1 := Lib.hid hb1
    clear hb1 hC
    go_wp2_with fail
    exact bodyPost_ret (v := .tuple #[.string ⟨#[]⟩, .string ⟨#[]⟩, .string ⟨#[]⟩, .int .i64 10]) (by simp [results, Tryz.results29, go_sem]) rfl ⟨by rw [HE.out, HV.out.1, HV.out.2.1, HV.out.2.2], HB1.out.alloc HB1.out.size _⟩

/-- what read hands back -/
def rdA (t : ByteArray) : ByteArray := if isTk t then pB (tkA t) else ⟨#[]⟩
def rdB (t : ByteArray) : ByteArray := if isTk t then pM (tkA t) else ⟨#[]⟩
def rdC (t : ByteArray) : ByteArray := if isTk t then pL (tkA t) else ⟨#[]⟩
def rdV (t : ByteArray) : Value := .agg #[.string (rdA t), .string (rdB t), .string (rdC t), .int .i64 (splN t)]

theorem tkA_le (t : ByteArray) : (tkA t).size ≤ t.size := by
  unfold tkA ahd; rw [ByteArray.size_extract]; omega
theorem bhd_le (t : ByteArray) (c : UInt8) : (bhd t c).size ≤ t.size := by
  unfold bhd; rw [ByteArray.size_extract]; omega

set_option maxHeartbeats 3200000 in
theorem read_any (t : ByteArray) (w : World) (hs : t.size ≤ maxLen) (hw : PT w) :
    Calls Tryz.prog 52 #[.string t] w fun e w' => e = .returned (rdV t) ∧ Below w.heap.size w w' := by
  have HW := Lib.hid hw
  clear hw
  have HS := Lib.hid (show (tkA t).size ≤ maxLen from Nat.le_trans (tkA_le t) hs)
  have HS2 := Lib.hid (show (bhd t 46).size ≤ maxLen from Nat.le_trans (bhd_le t 46) hs)
  obtain ⟨v, hv0⟩ : ∃ v, tkN t = v := ⟨_, rfl⟩
  cases hz : shp (tkA t) with
  | false =>
    have hn : isTk t = false := by unfold isTk; rw [hz]; rfl
    have HV := Lib.hid (show rdV t = .agg #[.string ⟨#[]⟩, .string ⟨#[]⟩, .string ⟨#[]⟩, .int .i64 0] by
      unfold rdV rdA rdB rdC splN; rw [hn]; rfl)
    have hC : cutV (tkA t) = .agg #[.string ⟨#[]⟩, .string ⟨#[]⟩, .string ⟨#[]⟩] := by unfold cutV; rw [pB_no hz, pM_no hz, pL_no hz]
    clear hz hn
    go_enter Tryz.func52, Tryz.ntmps52
    go_wp2_with fail
    refine (scut_any t 46 _ hs).mono ?_
    rintro e w1 ⟨rfl, n1, hw1⟩
    have HB1 := Lib.hid (show Below w.heap.size w w1 from hw1 ▸ drawn ((Below.refl w.heap.size w).alloc (Nat.le_refl _) (.cells #[.string ⟨#[]⟩, .string ⟨#[]⟩, .string ⟨#[]⟩, .int .i64 0] 102)) n1)
    have HK1 := Lib.hid (show w1.heap[w.heap.size]? = some (.cells #[.string ⟨#[]⟩, .string ⟨#[]⟩, .string ⟨#[]⟩, .int .i64 0] 102 (0, 0)) by
      rw [hw1]; show (w.heap.push _)[w.heap.size]? = _; simp)
    clear hw1
    go_wp2_with fail
    refine (cut_any (tkA t) _ HS.out (HW.out.keep HB1.out).wts).mono ?_
    rintro e w2 ⟨rfl, hb2⟩
    rw [hC]
    go_wp2_with fail
    refine (number11_any (bhd t 46) _ HS2.out).mono ?_
    rintro e w3 ⟨rfl, n3, hw3⟩
    have hlt : w.heap.size < w1.heap.size := by
      rcases Nat.lt_or_ge w.heap.size w1.heap.size with h | h
      · exact h
      · have := HK1.out; rw [Array.getElem?_eq_none h] at this; cases this
    have HB3 := Lib.hid (show Below w1.heap.size w1 w3 from hw3 ▸ drawn hb2 n3)
    have hk3 : w3.heap[w.heap.size]? = some (.cells #[.string ⟨#[]⟩, .string ⟨#[]⟩, .string ⟨#[]⟩, .int .i64 0] 102 (0, 0)) := (HB3.out.block _ hlt).trans HK1.out
    have hk4 := (Below.heap_alloc w3 (.cells #[.string ⟨#[]⟩, .string ⟨#[]⟩, .string ⟨#[]⟩] 99) w.heap.size (Nat.lt_of_lt_of_le hlt HB3.out.size)).trans hk3
    have c0 := Lib.cell_of_heap hk4 0
    have c1 := Lib.cell_of_heap hk4 1
    have c2 := Lib.cell_of_heap hk4 2
    have c3 := Lib.cell_of_heap hk4 3
    have f0 := Lib.frozen_of_heap hk4 0
    have f1 := Lib.frozen_of_heap hk4 1
    have f2 := Lib.frozen_of_heap hk4 2
    have f3 := Lib.frozen_of_heap hk4 3
    have HB4 := Lib.hid ((HB1.out.trans (HB3.out.mono HB1.out.size)).alloc (Nat.le_trans HB1.out.size HB3.out.size) (.cells #[.string ⟨#[]⟩, .string ⟨#[]⟩, .string ⟨#[]⟩] 99))
    have hv : verN (bhd t 46) = v := hv0
    rw [hv]
    clear hb2 hk3 hk4 hw3 hv hv0 hC
    go_wp2_with fail
    exact bodyPost_ret (v := .agg #[.string ⟨#[]⟩, .string ⟨#[]⟩, .string ⟨#[]⟩, .int .i64 0]) (by simp [results, Tryz.results52, go_sem, c0, c1, c2, c3]) rfl ⟨by rw [HV.out], (((HB4.out.setCell (Nat.le_refl _) _).setCell (Nat.le_refl _) _).setCell (Nat.le_refl _) _).setCell (Nat.le_refl _) _⟩
  | true =>
    have e1 := no_list (s := pB (tkA t)) (by rw [pB_size hz]; decide)
    obtain ⟨a, ha⟩ : ∃ a, pB (tkA t) = a := ⟨_, rfl⟩
    obtain ⟨b, hb⟩ : ∃ b, pM (tkA t) = b := ⟨_, rfl⟩
    obtain ⟨c, hc⟩ : ∃ c, pL (tkA t) = c := ⟨_, rfl⟩
    have hC : cutV (tkA t) = .agg #[.string a, .string b, .string c] := by unfold cutV; rw [ha, hb, hc]
    rw [ha] at e1
    by_cases hv : 1 ≤ v ∧ v ≤ 255
    · have hn : isTk t = true := by unfold isTk; rw [hz, hv0, decide_eq_true hv.1, decide_eq_true hv.2]; rfl
      have HV := Lib.hid (show rdV t = .agg #[.string a, .string b, .string c, .int .i64 v] by
        unfold rdV rdA rdB rdC splN; rw [hn, ha, hb, hc, hv0]; rfl)
      have HN := Lib.hid (show (decide (v < 1) || decide (255 < v)) = false by rw [decide_eq_false (by omega), decide_eq_false (by omega)]; rfl)
      clear hz hn ha hb hc hv
      go_enter Tryz.func52, Tryz.ntmps52
      go_wp2_with fail
      refine (scut_any t 46 _ hs).mono ?_
      rintro e w1 ⟨rfl, n1, hw1⟩
      have HB1 := Lib.hid (show Below w.heap.size w w1 from hw1 ▸ drawn ((Below.refl w.heap.size w).alloc (Nat.le_refl _) (.cells #[.string ⟨#[]⟩, .string ⟨#[]⟩, .string ⟨#[]⟩, .int .i64 0] 102)) n1)
      have HK1 := Lib.hid (show w1.heap[w.heap.size]? = some (.cells #[.string ⟨#[]⟩, .string ⟨#[]⟩, .string ⟨#[]⟩, .int .i64 0] 102 (0, 0)) by
        rw [hw1]; show (w.heap.push _)[w.heap.size]? = _; simp)
      clear hw1
      go_wp2_with fail
      refine (cut_any (tkA t) _ HS.out (HW.out.keep HB1.out).wts).mono ?_
      rintro e w2 ⟨rfl, hb2⟩
      rw [hC]
      go_wp2_with fail
      refine (number11_any (bhd t 46) _ HS2.out).mono ?_
      rintro e w3 ⟨rfl, n3, hw3⟩
      have hlt : w.heap.size < w1.heap.size := by
        rcases Nat.lt_or_ge w.heap.size w1.heap.size with h | h
        · exact h
        · have := HK1.out; rw [Array.getElem?_eq_none h] at this; cases this
      have HB3 := Lib.hid (show Below w1.heap.size w1 w3 from hw3 ▸ drawn hb2 n3)
      have hk3 : w3.heap[w.heap.size]? = some (.cells #[.string ⟨#[]⟩, .string ⟨#[]⟩, .string ⟨#[]⟩, .int .i64 0] 102 (0, 0)) := (HB3.out.block _ hlt).trans HK1.out
      have hk4 := (Below.heap_alloc w3 (.cells #[.string a, .string b, .string c] 99) w.heap.size (Nat.lt_of_lt_of_le hlt HB3.out.size)).trans hk3
      have c0 := Lib.cell_of_heap hk4 0
      have c1 := Lib.cell_of_heap hk4 1
      have c2 := Lib.cell_of_heap hk4 2
      have c3 := Lib.cell_of_heap hk4 3
      have f0 := Lib.frozen_of_heap hk4 0
      have f1 := Lib.frozen_of_heap hk4 1
      have f2 := Lib.frozen_of_heap hk4 2
      have f3 := Lib.frozen_of_heap hk4 3
      have HB4 := Lib.hid ((HB1.out.trans (HB3.out.mono HB1.out.size)).alloc (Nat.le_trans HB1.out.size HB3.out.size) (.cells #[.string a, .string b, .string c] 99))
      have hv : verN (bhd t 46) = v := hv0
      rw [hv]
      clear hb2 hk3 hk4 hw3 hv hv0 hC
      go_wp2_with (go_at_call 77; refine (wrong_any v _).mono ?_; rintro e w5 ⟨rfl, rfl⟩; rw [HN.out])
      exact bodyPost_ret (v := .agg #[.string a, .string b, .string c, .int .i64 v]) (by simp [results, Tryz.results52, go_sem, c0, c1, c2, c3]) rfl ⟨by rw [HV.out], (((HB4.out.setCell (Nat.le_refl _) _).setCell (Nat.le_refl _) _).setCell (Nat.le_refl _) _).setCell (Nat.le_refl _) _⟩
    · have hn : isTk t = false := by
        unfold isTk; rw [hz, hv0]
        rcases (show ¬ 1 ≤ v ∨ ¬ v ≤ 255 by omega) with h | h
        · rw [decide_eq_false h]; rfl
        · rw [decide_eq_false h, Bool.and_false]; rfl
      have HV := Lib.hid (show rdV t = .agg #[.string ⟨#[]⟩, .string ⟨#[]⟩, .string ⟨#[]⟩, .int .i64 0] by
        unfold rdV rdA rdB rdC splN; rw [hn]; rfl)
      have HN := Lib.hid (show (decide (v < 1) || decide (255 < v)) = true by
        rcases (show v < 1 ∨ 255 < v by omega) with h | h
        · rw [decide_eq_true h]; rfl
        · rw [decide_eq_true h, Bool.or_true])
      clear hz hn ha hb hc hv
      go_enter Tryz.func52, Tryz.ntmps52
      go_wp2_with fail
      refine (scut_any t 46 _ hs).mono ?_
      rintro e w1 ⟨rfl, n1, hw1⟩
      have HB1 := Lib.hid (show Below w.heap.size w w1 from hw1 ▸ drawn ((Below.refl w.heap.size w).alloc (Nat.le_refl _) (.cells #[.string ⟨#[]⟩, .string ⟨#[]⟩, .string ⟨#[]⟩, .int .i64 0] 102)) n1)
      have HK1 := Lib.hid (show w1.heap[w.heap.size]? = some (.cells #[.string ⟨#[]⟩, .string ⟨#[]⟩, .string ⟨#[]⟩, .int .i64 0] 102 (0, 0)) by
        rw [hw1]; show (w.heap.push _)[w.heap.size]? = _; simp)
      clear hw1
      go_wp2_with fail
      refine (cut_any (tkA t) _ HS.out (HW.out.keep HB1.out).wts).mono ?_
      rintro e w2 ⟨rfl, hb2⟩
      rw [hC]
      go_wp2_with fail
      refine (number11_any (bhd t 46) _ HS2.out).mono ?_
      rintro e w3 ⟨rfl, n3, hw3⟩
      have hlt : w.heap.size < w1.heap.size := by
        rcases Nat.lt_or_ge w.heap.size w1.heap.size with h | h
        · exact h
        · have := HK1.out; rw [Array.getElem?_eq_none h] at this; cases this
      have HB3 := Lib.hid (show Below w1.heap.size w1 w3 from hw3 ▸ drawn hb2 n3)
      have hk3 : w3.heap[w.heap.size]? = some (.cells #[.string ⟨#[]⟩, .string ⟨#[]⟩, .string ⟨#[]⟩, .int .i64 0] 102 (0, 0)) := (HB3.out.block _ hlt).trans HK1.out
      have hk4 := (Below.heap_alloc w3 (.cells #[.string a, .string b, .string c] 99) w.heap.size (Nat.lt_of_lt_of_le hlt HB3.out.size)).trans hk3
      have c0 := Lib.cell_of_heap hk4 0
      have c1 := Lib.cell_of_heap hk4 1
      have c2 := Lib.cell_of_heap hk4 2
      have c3 := Lib.cell_of_heap hk4 3
      have f0 := Lib.frozen_of_heap hk4 0
      have f1 := Lib.frozen_of_heap hk4 1
      have f2 := Lib.frozen_of_heap hk4 2
      have f3 := Lib.frozen_of_heap hk4 3
      have HB4 := Lib.hid ((HB1.out.trans (HB3.out.mono HB1.out.size)).alloc (Nat.le_trans HB1.out.size HB3.out.size) (.cells #[.string a, .string b, .string c] 99))
      have hv : verN (bhd t 46) = v := hv0
      rw [hv]
      clear hb2 hk3 hk4 hw3 hv hv0 hC
      go_wp2_with (go_at_call 77; refine (wrong_any v _).mono ?_; rintro e w5 ⟨rfl, rfl⟩; rw [HN.out])
      exact bodyPost_ret (v := .agg #[.string ⟨#[]⟩, .string ⟨#[]⟩, .string ⟨#[]⟩, .int .i64 0]) (by simp [results, Tryz.results52, go_sem, c0, c1, c2, c3]) rfl ⟨by rw [HV.out], (((HB4.out.setCell (Nat.le_refl _) _).setCell (Nat.le_refl _) _).setCell (Nat.le_refl _) _).setCell (Nat.le_refl _) _⟩
end Go.Proofs.YthmlcmlpmolmoaaGreatDoor
/- Is, under the tables. -/
namespace Go.Proofs.YthmlcmlpmolmoaaGreatDoor
open Go.RowKit

theorem isc_any (s : ByteArray) (w : World) (hs : s.size ≤ maxLen) (hw : PT w) :
    Calls Tryz.prog 25 #[.string s] w fun e w' => e = .returned (.bool (isV s)) ∧ Below w.heap.size w w' :=
  is11_any s w hs hw.wts fun _ hb => hw.wts.keep hb

end Go.Proofs.YthmlcmlpmolmoaaGreatDoor
/- Layer 14: what a vault answers, as plain functions of texts. -/
namespace Go.Proofs.YthmlcmlpmolmoaaGreatDoor
open Go.RowKit
/-- the tweak of a card number: its BIN and its last four -/
def twS (s : ByteArray) : ByteArray := pB s ++ pL s
/-- a card number under a key, and back -/
def vEn (k : Nat → Nat) (s : ByteArray) : ByteArray := pB s ++ encS 8 k (twS s).size (by_ (twS s)) (pM s) ++ pL s
def vDe (k : Nat → Nat) (s : ByteArray) : ByteArray := pB s ++ decS 8 k (twS s).size (by_ (twS s)) (pM s) ++ pL s
/-- a text whose middle alone is another -/
theorem mid_parts {s M : ByteArray} (hz : shp s = true) (hM : M.size = (pM s).size) (hd : M.data.toList.all isDig = true) :
    shp (pB s ++ M ++ pL s) = true ∧ pB (pB s ++ M ++ pL s) = pB s ∧ pM (pB s ++ M ++ pL s) = M ∧ pL (pB s ++ M ++ pL s) = pL s ∧ (pB s ++ M ++ pL s).size = s.size := by
  obtain ⟨hall, h1, h2⟩ := shp_parts hz
  have s1 := pB_size hz
  have s2 := pM_size hz
  have s3 := pL_size hz
  have hu : (pB s ++ M ++ pL s).size = s.size := by rw [app_size, app_size]; omega
  have hB : (pB s).data.toList.all isDig = true := by
    rw [pB_yes hz, ext_list]
    rw [List.all_eq_true] at hall ⊢
    exact fun x hx => hall x (List.mem_of_mem_drop (List.mem_of_mem_take hx))
  have hL : (pL s).data.toList.all isDig = true := by
    rw [pL_yes hz, ext_list]
    rw [List.all_eq_true] at hall ⊢
    exact fun x hx => hall x (List.mem_of_mem_drop (List.mem_of_mem_take hx))
  have hzu : shp (pB s ++ M ++ pL s) = true := shp_of (by rw [app_list, app_list, List.all_append, List.all_append, hB, hd, hL]; rfl) (by omega) (by omega)
  have e1 : pB (pB s ++ M ++ pL s) = pB s := by
    rw [pB_yes hzu, ByteArray.append_assoc]
    exact ext_left _ _ 6 s1
  have e3 : pL (pB s ++ M ++ pL s) = pL s := by
    rw [pL_yes hzu]
    exact ext_right _ _ _ _ (by rw [app_size, hu]; omega) rfl
  have e2 : pM (pB s ++ M ++ pL s) = M := by
    have h := whole_eq hzu
    rw [e1, e3] at h
    have h4 := congrArg (fun x : ByteArray => x.data.toList) h
    simp only [app_list, List.append_assoc] at h4
    have h5 := List.append_cancel_left h4
    exact ba_ext (List.append_cancel_right h5)
  exact ⟨hzu, e1, e2, e3, hu⟩
theorem mid_hE {s : ByteArray} (hz : shp s = true) : hE (pM s) = 0 := by
  obtain ⟨hall, h1, h2⟩ := shp_parts hz
  have s2 := pM_size hz
  refine (hE_zero (by omega) (by omega)).2 ?_
  rw [pM_yes hz, ext_list]
  rw [List.all_eq_true] at hall ⊢
  exact fun x hx => hall x (List.mem_of_mem_drop (List.mem_of_mem_take hx))
theorem vEn_parts (k : Nat → Nat) {s : ByteArray} (hz : shp s = true) :
    shp (vEn k s) = true ∧ pB (vEn k s) = pB s ∧ pM (vEn k s) = encS 8 k (twS s).size (by_ (twS s)) (pM s) ∧ pL (vEn k s) = pL s ∧ (vEn k s).size = s.size := by
  obtain ⟨l1, l2, h1, h2, _⟩ := enc_fine (n := 8) (key := k) (t := (twS s).size) (T := by_ (twS s)) (mid_hE hz)
  exact mid_parts hz h1 ((hE_zero (by omega) (by omega)).1 h2)
theorem vDe_parts (k : Nat → Nat) {s : ByteArray} (hz : shp s = true) :
    shp (vDe k s) = true ∧ pB (vDe k s) = pB s ∧ pM (vDe k s) = decS 8 k (twS s).size (by_ (twS s)) (pM s) ∧ pL (vDe k s) = pL s ∧ (vDe k s).size = s.size := by
  obtain ⟨l1, l2, _, _, _, h1, h2, _⟩ := enc_fine (n := 8) (key := k) (t := (twS s).size) (T := by_ (twS s)) (mid_hE hz)
  exact mid_parts hz h1 ((hE_zero (by omega) (by omega)).1 h2)
theorem vDe_vEn (k : Nat → Nat) {s : ByteArray} (hz : shp s = true) : vDe k (vEn k s) = s := by
  obtain ⟨_, e1, e2, e3, _⟩ := vEn_parts k hz
  obtain ⟨_, _, _, _, h5, _⟩ := enc_fine (n := 8) (key := k) (t := (twS s).size) (T := by_ (twS s)) (mid_hE hz)
  unfold vDe
  have et : twS (vEn k s) = twS s := by unfold twS; rw [e1, e3]
  rw [et, e1, e2, e3, h5]
  exact whole_eq hz
theorem vEn_vDe (k : Nat → Nat) {s : ByteArray} (hz : shp s = true) : vEn k (vDe k s) = s := by
  obtain ⟨_, e1, e2, e3, _⟩ := vDe_parts k hz
  obtain ⟨_, _, _, _, _, _, _, h5⟩ := enc_fine (n := 8) (key := k) (t := (twS s).size) (T := by_ (twS s)) (mid_hE hz)
  unfold vEn
  have et : twS (vDe k s) = twS s := by unfold twS; rw [e1, e3]
  rw [et, e1, e2, e3, h5]
  exact whole_eq hz
/-- what Token answers of a vault: K v is the key of version v -/
def vtE (s : ByteArray) : Int := if isV s = true then 0 else 10
def vtV (K : Int → Nat → Nat) (V : Int) (s : ByteArray) : ByteArray := if isV s = true then tkS (vEn (K V) s) V else ⟨#[]⟩
/-- what Back answers -/
def vbE (K : Int → Nat → Nat) (V : Int) (t : ByteArray) : Int := if isTk t = true then (if V < tkN t then 12 else if isV (vDe (K (tkN t)) (tkA t)) = true then 0 else 11) else 11
def vbV (K : Int → Nat → Nat) (V : Int) (t : ByteArray) : ByteArray := if vbE K V t = 0 then vDe (K (tkN t)) (tkA t) else ⟨#[]⟩
/-- what Renew answers -/
def vrV (K : Int → Nat → Nat) (V : Int) (t : ByteArray) : ByteArray := if vbE K V t = 0 then vtV K V (vbV K V t) else ⟨#[]⟩
theorem isV_shp {s : ByteArray} (h : isV s = true) : shp s = true := by
  unfold isV at h
  rw [Bool.and_eq_true] at h
  exact h.1
theorem vt_tk {K : Int → Nat → Nat} {V : Int} {s : ByteArray} (hs : isV s = true) (h1 : 1 ≤ V) (h2 : V ≤ 255) :
    vtV K V s = tkS (vEn (K V) s) V ∧ tkA (vtV K V s) = vEn (K V) s ∧ tkN (vtV K V s) = V ∧ isTk (vtV K V s) = true := by
  have e : vtV K V s = tkS (vEn (K V) s) V := if_pos hs
  obtain ⟨a, b, c⟩ := tk_of (vEn_parts (K V) (isV_shp hs)).1 h1 h2
  rw [e]
  exact ⟨rfl, a, b, c⟩
/-- what was made at version V is read at any later one -/
theorem vb_vt {K : Int → Nat → Nat} {V W : Int} {s : ByteArray} (hs : isV s = true) (h1 : 1 ≤ V) (h2 : V ≤ 255) (hW : V ≤ W) : vbE K W (vtV K V s) = 0 ∧ vbV K W (vtV K V s) = s := by
  obtain ⟨_, a, b, c⟩ := vt_tk (K := K) hs h1 h2
  have e : vbE K W (vtV K V s) = 0 := by
    unfold vbE
    rw [c, a, b, vDe_vEn _ (isV_shp hs), hs, if_pos rfl, if_neg (by omega), if_pos rfl]
  refine ⟨e, ?_⟩
  unfold vbV
  rw [if_pos e, a, b, vDe_vEn _ (isV_shp hs)]
theorem vb_ok {K : Int → Nat → Nat} {V : Int} {t : ByteArray} (h : vbE K V t = 0) : isTk t = true ∧ tkN t ≤ V ∧ isV (vbV K V t) = true ∧ vbV K V t = vDe (K (tkN t)) (tkA t) := by
  have e : vbV K V t = vDe (K (tkN t)) (tkA t) := if_pos h
  rw [e]
  unfold vbE at h
  cases h1 : isTk t with
  | false => rw [h1] at h; simp at h
  | true =>
    rw [h1, if_pos rfl] at h
    by_cases h2 : V < tkN t
    · rw [if_pos h2] at h; simp at h
    · rw [if_neg h2] at h
      cases h3 : isV (vDe (K (tkN t)) (tkA t)) with
      | false => rw [h3] at h; simp at h
      | true => exact ⟨rfl, by omega, rfl, rfl⟩
/-- what was read is made again -/
theorem vt_vb {K : Int → Nat → Nat} {V : Int} {t : ByteArray} (h : vbE K V t = 0) (hn : tkN t = V) : vtV K V (vbV K V t) = t := by
  obtain ⟨h1, _, h3, h4⟩ := vb_ok h
  have hz := (isTk_parts h1).1
  unfold vtV
  rw [if_pos h3, h4, hn, vEn_vDe _ hz, ← hn]
  exact tk_join h1
/-- unlike card numbers have unlike tokens -/
theorem vt_inj {K : Int → Nat → Nat} {V : Int} {s t : ByteArray} (hs : isV s = true) (ht : isV t = true) (h1 : 1 ≤ V) (h2 : V ≤ 255) (h : vtV K V s = vtV K V t) : s = t := by
  have a := (vb_vt (K := K) hs h1 h2 (Int.le_refl V)).2
  have b := (vb_vt (K := K) ht h1 h2 (Int.le_refl V)).2
  rw [← a, h, b]
theorem vbE_cases (K : Int → Nat → Nat) (V : Int) (t : ByteArray) : vbE K V t = 0 ∨ vbE K V t = 11 ∨ vbE K V t = 12 := by
  unfold vbE
  split
  · split
    · exact Or.inr (Or.inr rfl)
    · split
      · exact Or.inl rfl
      · exact Or.inr (Or.inl rfl)
  · exact Or.inr (Or.inl rfl)
end Go.Proofs.YthmlcmlpmolmoaaGreatDoor
/- bytes.Clone. -/
namespace Go.Proofs.YthmlcmlpmolmoaaGreatDoor
open Go.RowKit
/-- what Clone leaves -/
theorem clone_any (A : Option Addr) (n c : Nat) (f : Nat → Nat) (w : World) (hn : n ≤ 100000000000000) (hA : SlB w A n f) (hnil : A = none → n = 0 ∧ c = 0) :
    Calls Tryz.prog 59 #[.slice A n c] w fun e w' => (∃ v, e = .returned v ∧ OwnB w' w.heap.size v n f) ∧ Below w.heap.size w w' := by
  have q8 : ∀ (w : World) (a : Option Addr) (n c : Nat), (binOp .eql 22 (.slice a n c) (.slice none 0 0)).run Tryz.prog w = .ok (.bool a.isNone) w := fun w a n c => Lib.run_eql_slice_nil w _ _ a n c 0 0 Tryz.underlying22
  cases A with
  | none =>
    obtain ⟨rfl, rfl⟩ := hnil rfl
    clear hnil hA hn
    go_enter Tryz.func59, Tryz.ntmps59
    go_wp2_with fail
    go_ret
    exact ⟨⟨_, rfl, OwnB.nil _ _ _⟩, Below.refl _ _⟩
  | some ad =>
    have HA := Lib.hid (hA.keep (alloc_below w (.cells #[] 5)))
    have HF := Lib.hid (fun j (hj : j < n) => hA.byte hj)
    have HO := Lib.hid (OwnB.empty w w.heap.size f (Nat.le_refl _))
    have HB := Lib.hid (alloc_below w (.cells #[] 5))
    have HN := Lib.hid hn
    clear hnil hA hn
    go_enter Tryz.func59, Tryz.ntmps59
    go_wp2_with (refine wpList_appO rfl (.tmp 5) (.tmp 6) rfl w.heap.size _ 0 f rfl HO.out (some ad) n c f rfl HA.out (fun h => by cases h) (by have := HN.out; omega) HB.out.size (fun j hj => absurd hj (Nat.not_lt_zero j)) HF.out ?_; intro A' c' w2 h1 _ _ h4; have H1 := Lib.hid h1; have H4 := Lib.hid h4; clear h1 h4)
    go_ret
    refine ⟨⟨_, rfl, ?_⟩, HB.out.trans H4.out⟩
    have := H1.out
    rw [Nat.zero_add] at this
    exact this.congr fun j _ => rfl
end Go.Proofs.YthmlcmlpmolmoaaGreatDoor
/- sync.Once's slow road with a method, by that method's contract. -/
namespace Go.Proofs.YthmlcmlpmolmoaaGreatDoor
open Go.MuLone

set_option maxRecDepth 100000 in
set_option maxHeartbeats 1600000 in
theorem slow_mac (b off : Nat) (rv : Value) (w : World) (h : OnceAt w b off 0 0) (R : World → Prop)
    (hF : Calls Tryz.prog 138 #[rv] (w.setCell ⟨b, off + 1, none⟩ (.int .i32 1)) fun e w' => e = .returned (.tuple #[]) ∧ R w') (hR : ∀ w', R w' → OnceAt w' b off 0 1) :
    Calls Tryz.prog 119 #[.pointer (some ⟨b, off, none⟩), .func (.func 138) #[rv] #[]] w fun e w' => e = .returned (.tuple #[]) ∧
      ∃ w1, R w1 ∧ w' = (w1.drew.setCell ⟨b, off, none⟩ (.int .u32 1)).setCell ⟨b, off + 1, none⟩ (.int .i32 0) := by
  have hl := run_call_load (P := Tryz.prog) Tryz.func149 (by kernel_rfl) (by kernel_rfl) (by kernel_rfl) .u32 (by kernel_rfl) (w := w.setCell ⟨b, off + 1, none⟩ (.int .i32 1)) (a := ⟨b, off, none⟩) (x := 0) ((World.cell?_setCell_other _ ⟨b, off + 1, none⟩ ⟨b, off, none⟩ _ (by simp)).trans h.done)
  have hnot : ∀ (x : Bool) (w : World), (Op.unary .not (.bool x)).run Tryz.prog w = .ok (.bool (!x)) w := fun _ _ => rfl
  have HR := Lib.hid hR
  have HF := Lib.hid hF
  have H := Lib.hid h
  clear hR hF h
  go_enter_defers Tryz.func119, Tryz.ntmps119
  go_wp2_with (first | (go_at_call 150; refine (lock_free muLib ⟨b, off + 1, none⟩ _ H.out.lock H.out.flock).mono ?_; rintro e w' ⟨rfl, rfl⟩) | (go_at_call 118; go_in) | (go_at_call 138; refine HF.out.mono ?_; rintro e w' ⟨rfl, hw⟩; have HW := Lib.hid hw; clear hw))
  have h1 := HR.out _ HW.out
  -- the door: two deferred calls, the last laid first
  refine leaves_cons (f := 152) (args := #[.pointer (some ⟨b, off, none⟩), .bool true]) (by simp) (by simp [go_sem]) ?_
  refine (store_deferred ⟨b, off, none⟩ (.int .u32 0) .returning _ h1.done h1.fdone).mono ?_
  rintro e u' w'' ⟨rfl, rfl, rfl⟩
  refine leaves_cons (f := 151) (args := #[.pointer (some ⟨b, off + 1, none⟩)]) (by simp [settle]) (by simp [go_sem]) ?_
  refine (unlock_deferred muLib ⟨b, off + 1, none⟩ _ _ ?_ (by simp [h1.flock])).mono ?_
  · refine (World.cell?_setCell_other _ ⟨b, off, none⟩ ⟨b, off + 1, none⟩ _ (by simp)).trans ?_
    rw [World.cell?_drew]
    exact h1.lock
  rintro e u' w'' ⟨rfl, rfl, rfl⟩
  exact ⟨_, results_none rfl _ _ _, rfl, w', HW.out, rfl⟩

/-- '(*sync.Once).Do', not yet done, the lock free -/
theorem do_first_mac (b off : Nat) (rv : Value) (w : World) (h : OnceAt w b off 0 0) (R : World → Prop)
    (hF : Calls Tryz.prog 138 #[rv] (w.setCell ⟨b, off + 1, none⟩ (.int .i32 1)) fun e w' => e = .returned (.tuple #[]) ∧ R w') (hR : ∀ w', R w' → OnceAt w' b off 0 1) :
    Calls Tryz.prog 78 #[.pointer (some ⟨b, off, none⟩), .func (.func 138) #[rv] #[]] w fun e w' => e = .returned (.tuple #[]) ∧
      ∃ w1, R w1 ∧ w' = (w1.drew.setCell ⟨b, off, none⟩ (.int .u32 1)).setCell ⟨b, off + 1, none⟩ (.int .i32 0) := by
  have hl := run_call_load (P := Tryz.prog) Tryz.func149 (by kernel_rfl) (by kernel_rfl) (by kernel_rfl) .u32 (by kernel_rfl) h.done
  have hnot : ∀ (x : Bool) (w : World), (Op.unary .not (.bool x)).run Tryz.prog w = .ok (.bool (!x)) w := fun _ _ => rfl
  have HS := Lib.hid (slow_mac b off rv w h R hF hR)
  clear hR hF h
  go_enter Tryz.func78, Tryz.ntmps78
  go_wp2_with (first | (go_at_call 119; refine HS.out.mono ?_; rintro e w' ⟨rfl, hw⟩; have HW := Lib.hid hw; clear hw) | (go_at_call 118; go_in))
  go_end0
  exact ⟨rfl, HW.out⟩
end Go.Proofs.YthmlcmlpmolmoaaGreatDoor
/- Rows of any values: a block known whole; a part of one. -/
namespace Go.Proofs.YthmlcmlpmolmoaaGreatDoor
open Go.RowKit

def valsL (n : Nat) (f : Nat → Value) : List Value := (List.range n).map f
theorem valsL_length (n : Nat) (f : Nat → Value) : (valsL n f).length = n := by simp [valsL]
theorem valsL_at {n : Nat} {f : Nat → Value} {j : Nat} (hj : j < n) : (valsL n f)[j]? = some (f j) := by
  unfold valsL; rw [List.getElem?_map, List.getElem?_range hj]; rfl
theorem valsL_get {n : Nat} {f : Nat → Value} {j : Nat} {u : Value} (h : (valsL n f)[j]? = some u) : j < n ∧ u = f j := by
  rcases Nat.lt_or_ge j n with hj | hj
  · rw [valsL_at hj] at h; exact ⟨hj, (Option.some.inj h).symm⟩
  · rw [List.getElem?_eq_none (by rw [valsL_length]; exact hj)] at h; cases h
theorem valsL_congr {n : Nat} {f g : Nat → Value} (h : ∀ j, j < n → f j = g j) : valsL n f = valsL n g := List.map_congr_left fun j hj => h j (List.mem_range.1 hj)
theorem vals_one {n : Nat} {f : Nat → Value} (h : ∀ j, j < n → (f j).oneCell' = true) : ∀ v ∈ valsL n f, v.oneCell' = true := by
  intro u hu
  obtain ⟨j, hj⟩ := List.getElem?_of_mem hu
  obtain ⟨hk, rfl⟩ := valsL_get hj
  exact h j hk
/-- n values lie in block g from o on, and may be written -/
def ArrV (w : World) (g o n : Nat) (f : Nat → Value) : Prop := ∀ j, j < n → w.cell? ⟨g, o + j, none⟩ = some (f j) ∧ w.frozen? ⟨g, o + j, none⟩ = false
namespace ArrV
variable {w w' : World} {g o n : Nat} {cur f : Nat → Value}
theorem congr (h : ArrV w g o n cur) (e : ∀ j, j < n → cur j = f j) : ArrV w g o n f := fun j hj => by rw [← e j hj]; exact h j hj
theorem cell (h : ArrV w g o n cur) {j k : Nat} (hj : j < n) (hk : k = o + j) : w.cell? ⟨g, k, none⟩ = some (cur j) := by subst hk; exact (h j hj).1
theorem frozen (h : ArrV w g o n cur) {j k : Nat} (hj : j < n) (hk : k = o + j) : w.frozen? ⟨g, k, none⟩ = false := by subst hk; exact (h j hj).2
theorem lt (h : ArrV w g o n cur) (hn : 0 < n) : g < w.heap.size := block_lt (h 0 hn).1
theorem of_block (h : ArrV w g o n cur) (e : w'.heap[g]? = w.heap[g]?) : ArrV w' g o n cur := fun j hj => ⟨(World.cell?_of_block e).trans (h j hj).1, (World.frozen?_of_block e).trans (h j hj).2⟩
theorem drewN (h : ArrV w g o n cur) (k : Nat) : ArrV (w.drewN k) g o n cur := h
theorem drew (h : ArrV w g o n cur) : ArrV w.drew g o n cur := h
theorem keep (h : ArrV w g o n cur) (hb : Below w.heap.size w w') : ArrV w' g o n cur := fun j hj => (h.of_block (hb.block g (h.lt (by omega)))) j hj
theorem alloc (h : ArrV w g o n cur) (ob : Obj) : ArrV (w.alloc ob) g o n cur := h.keep ((Below.refl _ _).alloc (Nat.le_refl _) ob)
theorem chg {K : Nat} (h : ArrV w g o n cur) (hc : Chg K w w') (hK : g ≠ K) : ArrV w' g o n cur := fun j hj => (h.of_block (hc.block g (h.lt (by omega)) hK)) j hj
theorem setOther (h : ArrV w g o n cur) {a : Addr} (ha : g ≠ a.block) (v : Value) : ArrV (w.setCell a v) g o n cur := h.of_block (Below.heap_setCell w a v g ha)
theorem set (h : ArrV w g o n cur) {k i : Nat} (hi : i < n) (hk : k = o + i) (v : Value) : ArrV (w.setCell ⟨g, k, none⟩ v) g o n (fun j => if j = i then v else cur j) := fun j hj => by
  subst hk
  refine ⟨?_, by rw [World.frozen?_setCell]; exact (h j hj).2⟩
  by_cases e : j = i
  · subst e
    rw [World.cell?_setCell_same w _ _ (h j hj).1]
    show _ = some (if j = j then v else cur j)
    rw [if_pos rfl]
  · refine (World.cell?_setCell_other w ⟨g, o + i, none⟩ ⟨g, o + j, none⟩ _ (fun e' => by have := congrArg Addr.off e'; simp at this; omega)).trans ?_
    show _ = some (if j = i then v else cur j)
    rw [if_neg e]; exact (h j hj).1
theorem range (h : ArrV w g o n cur) : w.rangeAt g o (valsL n cur) := fun j v hv => by
  obtain ⟨hj, rfl⟩ := valsL_get hv
  exact (h j hj).1
theorem sub (h : ArrV w g o n cur) {a m o' : Nat} (ha : a + m ≤ n) (ho : o' = o + a) : ArrV w g o' m (fun j => cur (a + j)) := fun j hj => by
  subst ho
  rw [Nat.add_assoc]
  exact h (a + j) (by omega)
theorem there (h : ArrV w g o n cur) : w.there g o n := fun j hj => ⟨by rw [(h j hj).1]; rfl, (h j hj).2⟩
theorem there' (h : ArrV w g o n cur) (f : Nat → Value) : w.there g o (valsL n f).toArray.size := by
  rw [List.size_toArray, valsL_length]; exact h.there
/-- a whole row laid -/
theorem setCells (h : ArrV w g o n cur) (f : Nat → Value) : ArrV (w.setCells g o (valsL n f)) g o n f := fun j hj => by
  refine ⟨?_, ?_⟩
  · exact World.rangeAt_setCells_same w g o (valsL n f) (by rw [valsL_length]; exact h.there) j _ (valsL_at hj)
  · rw [World.frozen?_setCells]; exact (h j hj).2
end ArrV
/-- a block that is made -/
theorem arrV_made (w : World) (c : Array Value) (t : TypeId) (n : Nat) (f : Nat → Value) (hc : c = (valsL n f).toArray) : ArrV (w.alloc (.cells c t)) w.heap.size 0 n f := fun j hj => by
  subst hc
  refine ⟨(World.cell?_alloc_at _ _ _ _ rfl).trans ?_, World.frozen?_alloc_at _ _ _ _ rfl⟩
  show (valsL n f).toArray[0 + j]? = _
  rw [Nat.zero_add, List.getElem?_toArray]
  exact valsL_at hj
/-- block g is a row of n values -/
def RowV (w : World) (g : Nat) (t : TypeId) (n : Nat) (f : Nat → Value) : Prop := w.heap[g]? = some (.cells (valsL n f).toArray t (0, 0))
namespace RowV
variable {w w' : World} {g n : Nat} {t : TypeId} {cur f : Nat → Value}
theorem lt (h : RowV w g t n cur) : g < w.heap.size := (Array.getElem?_eq_some_iff.1 h).1
theorem of_block (h : RowV w g t n cur) (e : w'.heap[g]? = w.heap[g]?) : RowV w' g t n cur := e.trans h
theorem drewN (h : RowV w g t n cur) (k : Nat) : RowV (w.drewN k) g t n cur := h
theorem drew (h : RowV w g t n cur) : RowV w.drew g t n cur := h
theorem keep (h : RowV w g t n cur) (hb : Below w.heap.size w w') : RowV w' g t n cur := h.of_block (hb.block g h.lt)
theorem alloc (h : RowV w g t n cur) (o : Obj) : RowV (w.alloc o) g t n cur := h.of_block (Below.heap_alloc w o g h.lt)
theorem chg {K : Nat} (h : RowV w g t n cur) (hc : Chg K w w') (hK : g ≠ K) : RowV w' g t n cur := h.of_block (hc.block g h.lt hK)
theorem setOther (h : RowV w g t n cur) {a : Addr} (ha : g ≠ a.block) (v : Value) : RowV (w.setCell a v) g t n cur := h.of_block (Below.heap_setCell w a v g ha)
theorem congr (h : RowV w g t n cur) (e : ∀ j, j < n → cur j = f j) : RowV w g t n f := by
  unfold RowV at *; rw [← valsL_congr e]; exact h
theorem arr (h : RowV w g t n cur) : ArrV w g 0 n cur := fun j hj => by
  rw [Nat.zero_add]
  refine ⟨?_, ?_⟩
  · unfold RowV at h
    have e : (valsL n cur)[j]? = some (cur j) := valsL_at hj
    simp [World.cell?, h, e]
  · unfold RowV at h
    simp [World.frozen?, h]
theorem cell (h : RowV w g t n cur) {i : Nat} (hi : i < n) : w.cell? ⟨g, i, none⟩ = some (cur i) := h.arr.cell hi (Nat.zero_add i).symm
theorem frozen (h : RowV w g t n cur) {i : Nat} (hi : i < n) : w.frozen? ⟨g, i, none⟩ = false := h.arr.frozen hi (Nat.zero_add i).symm
theorem set (h : RowV w g t n cur) (i : Nat) (v : Value) : RowV (w.setCell ⟨g, i, none⟩ v) g t n (fun j => if j = i then v else cur j) := by
  unfold RowV at *
  rw [show (w.setCell ⟨g, i, none⟩ v).heap[g]? = some (.cells ((valsL n cur).toArray.setIfInBounds i v) t (0, 0)) by simp [World.setCell, Array.getElem?_modify, h]]
  congr 2
  apply Array.ext'
  apply List.ext_getElem?
  intro j
  simp only [List.setIfInBounds_toArray, List.getElem?_set, valsL_length]
  rcases Nat.lt_or_ge j n with hj | hj
  · rw [valsL_at hj, valsL_at hj]
    by_cases e : i = j
    · subst e; simp [hj]
    · have e2 : ¬ j = i := fun h => e h.symm
      simp [e, e2]
  · rw [List.getElem?_eq_none (by rw [valsL_length]; exact hj), List.getElem?_eq_none (by rw [valsL_length]; exact hj)]
    by_cases e : i = j
    · subst e; simp [Nat.not_lt.2 hj]
    · simp [e]
end RowV
theorem rowV_made (w : World) (c : Array Value) (t : TypeId) (n : Nat) (f : Nat → Value) (hc : c = (valsL n f).toArray) : RowV (w.alloc (.cells c t)) w.heap.size t n f := by
  subst hc; exact heap_alloc_new w _
/-- k values laid over others from a place on -/
def putV (off k : Nat) (f cur : Nat → Value) (j : Nat) : Value := if off ≤ j ∧ j < off + k then f (j - off) else cur j
theorem splice_vals (m off k : Nat) (f cur : Nat → Value) (h : off + k ≤ m) : splice (valsL m cur) off (valsL k f) = valsL m (putV off k f cur) := by
  unfold splice valsL
  apply List.ext_getElem?
  intro j
  simp only [List.length_map, List.length_range, List.getElem?_append, List.getElem?_take, List.getElem?_drop, List.length_take, List.getElem?_map]
  rw [Nat.min_eq_left (show off ≤ m by omega)]
  unfold putV
  by_cases h1 : j < off
  · rw [if_pos h1, if_pos h1, List.getElem?_range (by omega)]
    simp only [Option.map_some]
    rw [if_neg (by omega)]
  · rw [if_neg h1]
    by_cases h2 : j < off + k
    · rw [if_pos (by omega), List.getElem?_range (by omega), List.getElem?_range (by omega)]
      simp only [Option.map_some]
      rw [if_pos ⟨by omega, h2⟩]
    · rw [if_neg (by omega), show off + k + (j - off - k) = j by omega]
      by_cases hj : j < m
      · rw [List.getElem?_range hj]
        simp only [Option.map_some]
        rw [if_neg (by omega)]
      · rw [List.getElem?_eq_none (by simpa using hj)]; rfl
theorem chg_setRow (w : World) (g : Nat) (cs : Array Value) : Chg g w (w.setRow g cs) := ⟨rfl, rfl, rfl, by simp [World.setRow], fun k _ hk => setRow_other w g k cs hk⟩
/-- copy of bytes into the middle of a block, as one step of a region that draws its order -/
theorem step_copyV {ops : Array Oper} {o : Oper} {a : Act} {w : World} {K : Act → World → Prop} {Q : Exit → Act → World → Prop} {E : Prop} (hgd : o.guard = none) (d s : Operand)
    (ho : o.op = .call { callee := .builtin .copy, args := #[d, s], argTypes := #[22, 22] })
    (g off dLen dCap : Nat) (A : Option Addr) (sLen sCap : Nat) (hd : a.eval d = .slice (some ⟨g, off, none⟩) dLen dCap) (hs : a.eval s = .slice A sLen sCap)
    (t : TypeId) (m : Nat) (cur : Nat → Value) (hg : RowV w g t m cur) (f : Nat → Nat) (hA : SlB w A sLen f) (k : Nat) (hk : k = Nat.min sLen dLen) (hfit : off + k ≤ m)
    (h : ∀ w', RowV w' g t m (putV off k (fun j => .int .u8 (f j : Nat)) cur) → Chg g w w' → K (a.put o.dst (goInt k)) w') : if Region.wanted o (yielded ops a.tmps) = true then Oper.wp Tryz.prog o a w K Q else E := by
  have hw : Region.wanted o (yielded ops a.tmps) = true := by simp [Region.wanted, hgd]
  rw [if_pos hw]
  have hl : (bytesL k f).length = k := by simp [bytesL]
  by_cases h0 : k = 0
  · subst h0
    have hrun := run_copy_none (P := Tryz.prog) w 22 22 o.type 5 (some ⟨g, off, none⟩) A dLen dCap sLen sCap Tryz.underlying22 sizeOf8 hk.symm
    unfold Oper.wp
    simp [execOp, ho, resolve, invoke, builtin, hd, hs, hrun, Result.andThen]
    refine h w ?_ (Chg.refl _ _)
    exact hg.congr fun j _ => by unfold putV; rw [if_neg (by omega)]
  · obtain ⟨_, ad, rfl, hsrc⟩ := copy_parts (k := k) hA (by rw [hk]; exact Nat.min_le_left _ _) (dp := some ⟨g, off, none⟩) (g := g) (off := off) (fun _ => rfl) (by rw [hl]; omega)
    have hrun := run_copy_row (P := Tryz.prog) w 22 22 o.type 5 g off dLen dCap ad sLen sCap (valsL m cur).toArray t (bytesL k f) Tryz.underlying22 sizeOf8 hg (by rw [hl, hk]) hsrc (by rw [hl]; simpa [valsL] using hfit) (bytes_one k f)
    unfold Oper.wp
    simp [execOp, ho, resolve, invoke, builtin, hd, hs, hrun, Result.andThen]
    rw [hl]
    refine h _ ?_ (chg_setRow w g _)
    unfold RowV
    rw [← splice_vals m off k _ cur hfit]
    have e : valsL k (fun j => Value.int .u8 (f j : Nat)) = bytesL k f := rfl
    rw [e]
    simpa [splice, hl] using setRow_heap w g _ _ t _ hg
end Go.Proofs.YthmlcmlpmolmoaaGreatDoor
/- SHA-256, over numbers: nothing here hangs on the program. -/
namespace Go.Proofs.YthmlcmlpmolmoaaGreatDoor

/-- rotated right -/
def rr (n x : Nat) : Nat := x / 2 ^ n ||| x * 2 ^ (32 - n) % 4294967296
def chn (e f g : Nat) : Nat := (e &&& f) ^^^ ((4294967295 - e) &&& g)
def maj (a b c : Nat) : Nat := ((a &&& b) ^^^ (a &&& c)) ^^^ (b &&& c)
def bs1 (e : Nat) : Nat := (rr 6 e ^^^ rr 11 e) ^^^ rr 25 e
def bs0 (a : Nat) : Nat := (rr 2 a ^^^ rr 13 a) ^^^ rr 22 a
def ls0 (x : Nat) : Nat := (rr 7 x ^^^ rr 18 x) ^^^ x / 8
def ls1 (x : Nat) : Nat := (rr 17 x ^^^ rr 19 x) ^^^ x / 1024

theorem rr_lt {n x : Nat} (hx : x < 4294967296) : rr n x < 4294967296 := by
  refine Nat.or_lt_two_pow (n := 32) ?_ (Nat.mod_lt _ (by decide))
  exact Nat.lt_of_le_of_lt (Nat.div_le_self _ _) hx
theorem xor32 {a b : Nat} (ha : a < 4294967296) (hb : b < 4294967296) : a ^^^ b < 4294967296 := Nat.xor_lt_two_pow (n := 32) ha hb
theorem or32 {a b : Nat} (ha : a < 4294967296) (hb : b < 4294967296) : a ||| b < 4294967296 := Nat.or_lt_two_pow (n := 32) ha hb
theorem and32 {a b : Nat} (ha : a < 4294967296) : a &&& b < 4294967296 := Nat.lt_of_le_of_lt Nat.and_le_left ha
theorem and32' {a b : Nat} (hb : b < 4294967296) : a &&& b < 4294967296 := Nat.lt_of_le_of_lt Nat.and_le_right hb
theorem chn_lt {e f g : Nat} (hf : f < 4294967296) (hg : g < 4294967296) : chn e f g < 4294967296 := xor32 (and32' hf) (and32' hg)
theorem maj_lt {a b c : Nat} (ha : a < 4294967296) (hb : b < 4294967296) : maj a b c < 4294967296 := xor32 (xor32 (and32 ha) (and32 ha)) (and32 hb)
theorem bs1_lt {x : Nat} (h : x < 4294967296) : bs1 x < 4294967296 := xor32 (xor32 (rr_lt h) (rr_lt h)) (rr_lt h)
theorem bs0_lt {x : Nat} (h : x < 4294967296) : bs0 x < 4294967296 := xor32 (xor32 (rr_lt h) (rr_lt h)) (rr_lt h)
theorem ls0_lt {x : Nat} (h : x < 4294967296) : ls0 x < 4294967296 := xor32 (xor32 (rr_lt h) (rr_lt h)) (by omega)
theorem ls1_lt {x : Nat} (h : x < 4294967296) : ls1 x < 4294967296 := xor32 (xor32 (rr_lt h) (rr_lt h)) (by omega)
theorem not_bit (e i : Nat) (he : e < 4294967296) : (4294967295 - e).testBit i = (decide (i < 32) && !e.testBit i) := by
  have := Nat.testBit_two_pow_sub_succ (n := 32) he i
  rw [show 4294967295 - e = 2 ^ 32 - (e + 1) by omega]
  exact this
/-- the reference's forms -/
theorem chn_or {e f g : Nat} (he : e < 4294967296) : ((e &&& f) ||| ((4294967295 - e) &&& g)) = chn e f g := by
  unfold chn
  apply Nat.eq_of_testBit_eq
  intro i
  rw [Nat.testBit_or, Nat.testBit_xor, Nat.testBit_and, Nat.testBit_and, not_bit e i he]
  cases e.testBit i <;> cases f.testBit i <;> cases g.testBit i <;> simp
theorem maj_or (a b c : Nat) : ((a &&& b) ||| (a &&& c) ||| (b &&& c)) = maj a b c := by
  unfold maj
  apply Nat.eq_of_testBit_eq
  intro i
  simp only [Nat.testBit_or, Nat.testBit_xor, Nat.testBit_and]
  cases a.testBit i <;> cases b.testBit i <;> cases c.testBit i <;> rfl

/-- the eight words -/
structure S8 where
  a : Nat
  b : Nat
  c : Nat
  d : Nat
  e : Nat
  f : Nat
  g : Nat
  h : Nat
theorem S8.ext' {s t : S8} (ha : s.a = t.a) (hb : s.b = t.b) (hc : s.c = t.c) (hd : s.d = t.d) (he : s.e = t.e) (hf : s.f = t.f) (hg : s.g = t.g) (hh : s.h = t.h) : s = t := by
  cases s; cases t; simp_all
instance : DecidableEq S8 := fun s t =>
  decidable_of_iff ((s.a = t.a ∧ s.b = t.b) ∧ (s.c = t.c ∧ s.d = t.d) ∧ (s.e = t.e ∧ s.f = t.f) ∧ (s.g = t.g ∧ s.h = t.h))
    ⟨fun ⟨⟨a, b⟩, ⟨c, d⟩, ⟨e, f⟩, ⟨g, h⟩⟩ => S8.ext' a b c d e f g h, fun h => h ▸ ⟨⟨rfl, rfl⟩, ⟨rfl, rfl⟩, ⟨rfl, rfl⟩, ⟨rfl, rfl⟩⟩⟩
structure S8.ok (s : S8) : Prop where
  a : s.a < 4294967296
  b : s.b < 4294967296
  c : s.c < 4294967296
  d : s.d < 4294967296
  e : s.e < 4294967296
  f : s.f < 4294967296
  g : s.g < 4294967296
  h : s.h < 4294967296
def kcL : List Nat := [1116352408, 1899447441, 3049323471, 3921009573, 961987163, 1508970993, 2453635748, 2870763221, 3624381080, 310598401, 607225278, 1426881987, 1925078388, 2162078206, 2614888103, 3248222580, 3835390401, 4022224774, 264347078, 604807628, 770255983, 1249150122, 1555081692, 1996064986, 2554220882, 2821834349, 2952996808, 3210313671, 3336571891, 3584528711, 113926993, 338241895, 666307205, 773529912, 1294757372, 1396182291, 1695183700, 1986661051, 2177026350, 2456956037, 2730485921, 2820302411, 3259730800, 3345764771, 3516065817, 3600352804, 4094571909, 275423344, 430227734, 506948616, 659060556, 883997877, 958139571, 1322822218, 1537002063, 1747873779, 1955562222, 2024104815, 2227730452, 2361852424, 2428436474, 2756734187, 3204031479, 3329325298]
def kc (t : Nat) : Nat := kcL.getD t 0
def st0 : S8 := ⟨1779033703, 3144134277, 1013904242, 2773480762, 1359893119, 2600822924, 528734635, 1541459225⟩
theorem kc_lt (t : Nat) : kc t < 4294967296 := by
  unfold kc
  rcases Nat.lt_or_ge t 64 with h | h
  · exact (show ∀ t, t < 64 → kcL.getD t 0 < 4294967296 by decide +kernel) t h
  · rw [List.getD_eq_getElem?_getD, List.getElem?_eq_none (by exact h)]; decide
theorem st0_ok : st0.ok := ⟨by decide, by decide, by decide, by decide, by decide, by decide, by decide, by decide⟩
def tx (s : S8) (k w : Nat) : Nat := s.h + bs1 s.e + chn s.e s.f s.g + k + w
def ty (s : S8) : Nat := bs0 s.a + maj s.a s.b s.c
def rnd (s : S8) (k w : Nat) : S8 := ⟨(tx s k w + ty s) % 4294967296, s.a, s.b, s.c, (s.d + tx s k w) % 4294967296, s.e, s.f, s.g⟩
theorem rnd_ok {s : S8} (h : s.ok) (k w : Nat) : (rnd s k w).ok := ⟨Nat.mod_lt _ (by decide), h.a, h.b, h.c, Nat.mod_lt _ (by decide), h.e, h.f, h.g⟩
def rs (W : Nat → Nat) (s : S8) : Nat → S8
  | 0 => s
  | t + 1 => rnd (rs W s t) (kc t) (W t)
theorem rs_ok {W : Nat → Nat} {s : S8} (h : s.ok) : ∀ t, (rs W s t).ok
  | 0 => h
  | t + 1 => rnd_ok (rs_ok h t) _ _
theorem rs_congr {W V : Nat → Nat} {s : S8} : ∀ t, (∀ j, j < t → W j = V j) → rs W s t = rs V s t
  | 0, _ => rfl
  | t + 1, h => by rw [rs, rs, rs_congr t (fun j hj => h j (by omega)), h t (Nat.lt_succ_self t)]
/-- four bytes as a word -/
def be (b : Nat → Nat) (o : Nat) : Nat := b o * 16777216 + b (o + 1) * 65536 + b (o + 2) * 256 + b (o + 3)
/-- the words of a block: those of its bytes, and n that are made of them -/
def wn (b : Nat → Nat) : Nat → Nat → Nat
  | 0, j => if j < 16 then be b (4 * j) else 0
  | n + 1, j => if j = 16 + n then (wn b n n + ls0 (wn b n (n + 1)) + wn b n (n + 9) + ls1 (wn b n (n + 14))) % 4294967296 else wn b n j
theorem be_lt {b : Nat → Nat} {o : Nat} (h0 : b o < 256) (h1 : b (o + 1) < 256) (h2 : b (o + 2) < 256) (h3 : b (o + 3) < 256) : be b o < 4294967296 := by unfold be; omega
theorem wn_lt {b : Nat → Nat} (hb : ∀ j, j < 64 → b j < 256) : ∀ n j, wn b n j < 4294967296
  | 0, j => by
    rw [wn]; split
    · exact be_lt (hb _ (by omega)) (hb _ (by omega)) (hb _ (by omega)) (hb _ (by omega))
    · decide
  | n + 1, j => by
    rw [wn]; split
    · exact Nat.mod_lt _ (by decide)
    · exact wn_lt hb n j
theorem wn_congr {b c : Nat → Nat} (h : ∀ j, j < 64 → b j = c j) : ∀ n j, wn b n j = wn c n j
  | 0, j => by
    rw [wn, wn]; split
    · unfold be; rw [h _ (by omega), h _ (by omega), h _ (by omega), h _ (by omega)]
    · rfl
  | n + 1, j => by
    rw [wn, wn, wn_congr h n, wn_congr h n, wn_congr h n, wn_congr h n, wn_congr h n]
def add8 (s t : S8) : S8 := ⟨(s.a + t.a) % 4294967296, (s.b + t.b) % 4294967296, (s.c + t.c) % 4294967296, (s.d + t.d) % 4294967296, (s.e + t.e) % 4294967296, (s.f + t.f) % 4294967296, (s.g + t.g) % 4294967296, (s.h + t.h) % 4294967296⟩
theorem add8_ok (s t : S8) : (add8 s t).ok := ⟨Nat.mod_lt _ (by decide), Nat.mod_lt _ (by decide), Nat.mod_lt _ (by decide), Nat.mod_lt _ (by decide), Nat.mod_lt _ (by decide), Nat.mod_lt _ (by decide), Nat.mod_lt _ (by decide), Nat.mod_lt _ (by decide)⟩
/-- the state behind a block -/
def comp (s : S8) (b : Nat → Nat) : S8 := add8 s (rs (wn b 48) s 64)
theorem comp_congr {s : S8} {b c : Nat → Nat} (h : ∀ j, j < 64 → b j = c j) : comp s b = comp s c := by
  unfold comp
  rw [rs_congr 64 fun j _ => wn_congr h 48 j]
/-- the state behind i blocks -/
def hs (f : Nat → Nat) : Nat → S8
  | 0 => st0
  | i + 1 => comp (hs f i) (fun j => f (64 * i + j))
theorem hs_ok (f : Nat → Nat) : ∀ i, (hs f i).ok
  | 0 => st0_ok
  | _ + 1 => add8_ok _ _
theorem hs_congr {f g : Nat → Nat} : ∀ i, (∀ j, j < 64 * i → f j = g j) → hs f i = hs g i
  | 0, _ => rfl
  | i + 1, h => by
    rw [hs, hs, hs_congr i fun j hj => h j (by omega)]
    exact comp_congr fun j hj => h _ (by omega)
/-- one of the eight -/
def at8 (s : S8) (j : Nat) : Nat := [s.a, s.b, s.c, s.d, s.e, s.f, s.g, s.h].getD j 0
theorem at8_lt {s : S8} (h : s.ok) (j : Nat) : at8 s j < 4294967296 := by
  rcases Nat.lt_or_ge j 8 with hj | hj
  · match j, hj with
    | 0, _ => exact h.a
    | 1, _ => exact h.b
    | 2, _ => exact h.c
    | 3, _ => exact h.d
    | 4, _ => exact h.e
    | 5, _ => exact h.f
    | 6, _ => exact h.g
    | 7, _ => exact h.h
  · unfold at8; rw [List.getD_eq_getElem?_getD, List.getElem?_eq_none (by exact hj)]; decide
theorem at8_add (s t : S8) (j : Nat) (hj : j < 8) : at8 (add8 s t) j = (at8 s j + at8 t j) % 4294967296 := by
  match j, hj with
  | 0, _ => rfl
  | 1, _ => rfl
  | 2, _ => rfl
  | 3, _ => rfl
  | 4, _ => rfl
  | 5, _ => rfl
  | 6, _ => rfl
  | 7, _ => rfl
/-- how long the padded bytes are, and what they are -/
def padL (n : Nat) : Nat := 64 * ((n + 72) / 64)
def padf (n : Nat) (f : Nat → Nat) (j : Nat) : Nat := if j < n then f j else if j = n then 128 else if j < padL n - 8 then 0 else 8 * n / 256 ^ (padL n - 1 - j) % 256
def dig (s : S8) (j : Nat) : Nat := at8 s (j / 4) / 256 ^ (3 - j % 4) % 256
theorem dig_lt (s : S8) (j : Nat) : dig s j < 256 := Nat.mod_lt _ (by decide)
/-- the digest -/
def sha (n : Nat) (f : Nat → Nat) (j : Nat) : Nat := dig (hs (padf n f) ((n + 72) / 64)) j
theorem sha_lt (n : Nat) (f : Nat → Nat) (j : Nat) : sha n f j < 256 := dig_lt _ _
theorem padf_congr {n : Nat} {f g : Nat → Nat} (h : ∀ j, j < n → f j = g j) (j : Nat) : padf n f j = padf n g j := by
  unfold padf
  by_cases e : j < n
  · rw [if_pos e, if_pos e, h j e]
  · rw [if_neg e, if_neg e]
theorem sha_congr {n : Nat} {f g : Nat → Nat} (h : ∀ j, j < n → f j = g j) (j : Nat) : sha n f j = sha n g j := by
  unfold sha
  rw [hs_congr _ fun j _ => padf_congr h j]
end Go.Proofs.YthmlcmlpmolmoaaGreatDoor
