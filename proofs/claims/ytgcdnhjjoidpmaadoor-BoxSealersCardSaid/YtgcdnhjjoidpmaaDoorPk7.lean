/- 8 texts in one, in their order. -/
import Derived.Test.YtgcdnhjjoidpmaaDoorPk6
import Derived.Conc.MuLone
/- The laws' small case (layer 8). -/
namespace Go.Proofs.YtgcdnhjjoidpmaaDoor
open Go.RowKit
theorem box_all : (List.range 3).map (fun j => abcF j ^^^ nb (encN 4 (npack (4 * 4) (fun _ => 0)) (npack 16 (cb 5 0))) (0 + j)) = [237, 111, 2] := by decide +kernel
def cF (j : Nat) : Nat := [237, 111, 2].getD j 0
theorem box_bytes (j : Nat) (hj : j < 3) : xorf 4 (fun _ => 0) 5 0 abcF j = cF j := by
  rw [xor_num (m := 3) (by decide) (zero_by _) (by decide) hj]
  have h := congrArg (fun l => l[j]?) box_all
  simp only [List.getElem?_map, List.getElem?_range hj] at h
  unfold cF
  rw [List.getD_eq_getElem?_getD, ← h]
  rfl
set_option maxRecDepth 100000 in
theorem tag_x : btag 16 (fun _ => 0) 1 (fun _ => 120) 11 (headF 5 cF) 0 = 248 := by decide +kernel
set_option maxRecDepth 100000 in
theorem tag_y : btag 16 (fun _ => 0) 1 (fun _ => 121) 11 (headF 5 cF) 0 = 3 := by decide +kernel
/-- the small case's sealed form -/
def smF : Nat → Nat := sealF 16 (fun _ => 0) 1 (fun _ => 120) 5 3 (xorf 4 (fun _ => 0) 5 0 abcF)
theorem smF_by : By 27 smF := sealF_by (m := 3) (xorf_lt (Or.inl rfl) (zero_by _) abc_by)
theorem smF_x : sameB 16 16 (fun j => smF (27 - 16 + j)) (btag 16 (fun _ => 0) 1 (fun _ => 120) (27 - 16) smF) = true := sealF_same (m := 3) rfl
theorem smF_head (i : Nat) (hi : i < 11) : smF i = headF 5 cF i := by
  unfold smF
  rw [sealF_head i hi]
  exact catB_congr (m := 3) (fun _ _ => rfl) box_bytes i hi
theorem smF_y : sameB 16 16 (fun j => smF (27 - 16 + j)) (btag 16 (fun _ => 0) 1 (fun _ => 121) (27 - 16) smF) = false := by
  refine decide_eq_false fun h => ?_
  have h0 := h.2 0 (by decide)
  have e1 : smF (27 - 16 + 0) = 248 := by
    have h1 : smF (8 + 3 + 0) = _ := sealF_tag (nt := 16) (na := 1) (N := 5) (m := 3) (tk := fun _ => 0) (about := fun _ => 120) (c := xorf 4 (fun _ => 0) 5 0 abcF) 0
    have h2 : smF (27 - 16 + 0) = smF (8 + 3 + 0) := rfl
    rw [h2, h1, btag_congr (g := headF 5 (xorf 4 (fun _ => 0) 5 0 abcF)) (g' := headF 5 cF) (fun i hi => catB_congr (m := 3) (fun _ _ => rfl) box_bytes i hi)]
    exact tag_x
  have e2 : btag 16 (fun _ => 0) 1 (fun _ => 121) (27 - 16) smF 0 = 3 := by
    rw [btag_congr (g' := headF 5 cF) smF_head]
    exact tag_y
  have h3 : smF (27 - 16 + 0) = btag 16 (fun _ => 0) 1 (fun _ => 121) (27 - 16) smF 0 := h0
  rw [e1, e2] at h3
  exact absurd h3 (by decide)
theorem smF_num : numE smF 8 = 5 := sealF_numE (by decide)
theorem smF_low : smF 0 ≤ 127 := sealF_low (by decide)
theorem smF_text : strOf 3 (xorf 4 (fun _ => 0) 5 0 (fun j => smF (8 + j))) = ⟨#[97, 98, 99]⟩ := by
  have h : ∀ j, j < 3 → xorf 4 (fun _ => 0) 5 0 (fun j => smF (8 + j)) j = abcF j := xorf_back fun j hj => by unfold smF; exact sealF_body j hj
  rw [strOf_congr 3 _ abcF h]
  decide
set_option maxRecDepth 100000 in
set_option maxHeartbeats 1600000 in
theorem small8_any (w : World) (ht : GT w) : Calls Tryd.prog 6 #[] w fun e w' => e = .returned (.bool true) ∧ Below w.heap.size w w' := by
  have hmk : ∀ W : World, (Instr.makeSlice 22 (.int .i64 16) (.int .i64 16)).run Tryd.prog W = .ok (.slice (some ⟨W.heap.size, 0, none⟩) 16 16) (W.alloc (.cells (madeCells #[.int .u8 0] 16) 5)) := fun W => by
    obtain ⟨i, hi, hz, hsz, hb⟩ := info_parts info8
    have := run_make (P := Tryd.prog) W 22 5 i (.int .u8 0) Tryd.underlying22 hi hz .i64 .i64 16 16 (by omega) (by omega) (by rw [hb]; omega) (by omega)
    rw [this, hsz]
    rfl
  have HLX := Lib.hid (fun w : World => lit_slB w 5 (1, 2) [120] (fun j => by rcases j with _ | j <;> simp))
  have HLY := Lib.hid (fun w : World => lit_slB w 5 (1, 2) [121] (fun j => by rcases j with _ | j <;> simp))
  have HLA := Lib.hid (fun w : World => lit_slB w 5 (3, 4) [97, 98, 99] (fun j => by rcases j with _ | _ | _ | j <;> simp))
  have kc := fun (w : World) C n c => kconv w C n c w.heap.size rfl
  have kc2 := fun (w : World) o C n c => kconv (w.alloc o) C n c (w.heap.size + 1) (by simp)
  have kc3 := fun (w : World) o o2 C n c => kconv ((w.alloc o).alloc o2) C n c (w.heap.size + 1 + 1) (by simp)
  have HT := Lib.hid ht
  clear ht
  go_enter Tryd.func6, Tryd.ntmps6
  go_wp2_with fail
  clear kc2 kc3 hmk
  have hK : SlB (w.alloc (.cells (madeCells #[.int .u8 0] 16) 5)) (some ⟨w.heap.size, 0, none⟩) 16 (fun _ => 0) := (rowB_made w 16).slB0 (Nat.le_refl 16) (fun _ _ => Nat.zero_lt_succ _)
  have e1 : (w.alloc (.cells (madeCells #[.int .u8 0] 16) 5)).heap.size = w.heap.size + 1 := by simp
  have b1 := alloc_below w (.cells (madeCells #[.int .u8 0] 16) 5)
  generalize w.alloc (.cells (madeCells #[.int .u8 0] 16) 5) = w1 at *
  have hX : SlB (w1.alloc (.cells #[.int .u8 120] 5 (1, 2))) (some ⟨w.heap.size + 1, 0, none⟩) 1 (fun _ => 120) := by
    rw [← e1]
    exact (HLX.out w1).congr fun j hj => by
      obtain rfl : j = 0 := by simp at hj; omega
      rfl
  have e2 : (w1.alloc (.cells #[.int .u8 120] 5 (1, 2))).heap.size = w.heap.size + 1 + 1 := by simp [e1]
  have b2 := alloc_below w1 (.cells #[.int .u8 120] 5 (1, 2))
  generalize w1.alloc (.cells #[.int .u8 120] 5 (1, 2)) = w2 at *
  have hA : SlB (w2.alloc (.cells #[.int .u8 97, .int .u8 98, .int .u8 99] 5 (3, 4))) (some ⟨w.heap.size + 1 + 1, 0, none⟩) 3 abcF := by
    rw [← e2]
    exact HLA.out w2
  have b3 := alloc_below w2 (.cells #[.int .u8 97, .int .u8 98, .int .u8 99] 5 (3, 4))
  generalize w2.alloc (.cells #[.int .u8 97, .int .u8 98, .int .u8 99] 5 (3, 4)) = w3 at *
  have b23 := b2.trans (b3.mono b2.size)
  have HB3 := Lib.hid (b1.trans (b23.mono b1.size))
  have HK3 := Lib.hid (hK.keep b23)
  have HX3 := Lib.hid (hX.keep b3)
  have HA3 := Lib.hid hA
  have HT3 := Lib.hid (HT.out.keep HB3.out)
  obtain ⟨kb, hkb⟩ : ∃ kb, w.heap.size = kb := ⟨_, rfl⟩
  rw [hkb] at HK3 HX3 HA3 ⊢
  clear hK e1 b1 hX e2 b2 hA b3 b23 hkb HLA
  have HS := Lib.hid (show Calls Tryd.prog 8 #[.slice (some ⟨kb, 0, none⟩) 16 16, .slice (some ⟨kb, 0, none⟩) 16 16, .int .i64 5, .slice (some ⟨kb + 1, 0, none⟩) 1 1, .slice (some ⟨kb + 1 + 1, 0, none⟩) 3 3] w3 (SU 27 smF 0 w3) from
    seal1_any 16 16 4 16 16 5 1 1 3 3 (some ⟨kb, 0, none⟩) (some ⟨kb, 0, none⟩) (some ⟨kb + 1, 0, none⟩) (some ⟨kb + 1 + 1, 0, none⟩) (fun _ => 0) (fun _ => 0) (fun _ => 120) abcF w3 (Or.inl rfl) rfl HK3.out HX3.out HA3.out (by decide) (by decide) (by decide) (by decide) (by decide) (by decide) HK3.out HT3.out)
  refine HS.out.mono ?_
  rintro e w4 ⟨A4, c4, rfl, h1, h2⟩
  obtain ⟨A4', c4', e4, h3⟩ := OwnB.slice h1 smF_by
  cases e4
  obtain ⟨A5', c5', e5, h4, _⟩ := OwnB.cap_le h1
  cases e5
  have HS4 := Lib.hid h3
  have HC4 := Lib.hid h4
  have HK4 := Lib.hid (HK3.out.keep h2)
  have HB4 := Lib.hid (HB3.out.trans (h2.mono HB3.out.size))
  have HT4 := Lib.hid (HT.out.keep HB4.out)
  clear h1 h2 h3 h4 HS HK3 HX3 HA3 HT3 HB3
  go_wp2_with fail
  have hX5 : SlB (w4.alloc (.cells #[.int .u8 120] 5 (1, 2))) (some ⟨w4.heap.size, 0, none⟩) 1 (fun _ => 120) := (HLX.out w4).congr fun j hj => by
    obtain rfl : j = 0 := by simp at hj; omega
    rfl
  have b5 := alloc_below w4 (.cells #[.int .u8 120] 5 (1, 2))
  obtain ⟨x5, hx5⟩ : ∃ x5, w4.heap.size = x5 := ⟨_, rfl⟩
  generalize w4.alloc (.cells #[.int .u8 120] 5 (1, 2)) = w5 at *
  rw [hx5] at hX5 ⊢
  have HX5 := Lib.hid hX5
  have HS5 := Lib.hid (HS4.out.keep b5)
  have HK5 := Lib.hid (HK4.out.keep b5)
  have HB5 := Lib.hid (HB4.out.trans (b5.mono HB4.out.size))
  have HT5 := Lib.hid (HT.out.keep HB5.out)
  clear hX5 b5 hx5
  have HO := Lib.hid (show Calls Tryd.prog 9 #[.slice (some ⟨kb, 0, none⟩) 16 16, .slice (some ⟨kb, 0, none⟩) 16 16, .slice (some ⟨x5, 0, none⟩) 1 1, .slice A4 27 c4] w5 (OU 3 (xorf 4 (fun _ => 0) 5 0 (fun j => smF (8 + j))) 5 0 w5) from by
    have h := openx_any 16 4 16 16 16 1 1 27 c4 (some ⟨kb, 0, none⟩) (some ⟨kb, 0, none⟩) (some ⟨x5, 0, none⟩) A4 (fun _ => 0) (fun _ => 0) (fun _ => 120) smF w5 (Or.inl rfl) rfl HK5.out HK5.out HX5.out HS5.out (by decide) (by decide) HC4.out (by decide) (by decide) (by decide) (by decide) HT5.out smF_x smF_low
    rw [smF_num] at h
    exact h)
  refine HO.out.mono ?_
  rintro e w6 ⟨A6, c6, rfl, h1, h2⟩
  obtain ⟨A6', c6', e6, h3⟩ := OwnB.slice h1 (fun j hj => xorf_lt (Or.inl rfl) (zero_by _) (fun i hi => smF_by (8 + i) (by omega)) j hj)
  cases e6
  have HP6 := Lib.hid h3
  have HS6 := Lib.hid (HS5.out.keep h2)
  have HK6 := Lib.hid (HK5.out.keep h2)
  have HB6 := Lib.hid (HB5.out.trans (h2.mono HB5.out.size))
  clear h1 h2 h3 HO HS5 HK5 HX5 HT5 HB5 HS4 HK4 HT4 HB4
  go_wp2_with fail
  have hX7 : SlB (w6.alloc (.cells #[.int .u8 121] 5 (1, 2))) (some ⟨w6.heap.size, 0, none⟩) 1 (fun _ => 121) := (HLY.out w6).congr fun j hj => by
    obtain rfl : j = 0 := by simp at hj; omega
    rfl
  have b7 := alloc_below w6 (.cells #[.int .u8 121] 5 (1, 2))
  obtain ⟨x7, hx7⟩ : ∃ x7, w6.heap.size = x7 := ⟨_, rfl⟩
  generalize w6.alloc (.cells #[.int .u8 121] 5 (1, 2)) = w7 at *
  rw [hx7] at hX7 ⊢
  have HX7 := Lib.hid hX7
  have HS7 := Lib.hid (HS6.out.keep b7)
  have HK7 := Lib.hid (HK6.out.keep b7)
  have HP7 := Lib.hid (HP6.out.keep b7)
  have HB7 := Lib.hid (HB6.out.trans (b7.mono HB6.out.size))
  have HT7 := Lib.hid (HT.out.keep HB7.out)
  clear hX7 b7 hx7
  refine (openx_tag 16 4 16 16 16 1 1 27 c4 (some ⟨kb, 0, none⟩) (some ⟨kb, 0, none⟩) (some ⟨x7, 0, none⟩) A4 (fun _ => 0) (fun _ => 0) (fun _ => 121) smF w7 (Or.inl rfl) rfl HK7.out HK7.out HX7.out HS7.out (by decide) (by decide) HC4.out (by decide) (by decide) (by decide) (by decide) HT7.out smF_y).mono ?_
  rintro e w8 ⟨A8, c8, rfl, _, h2⟩
  have hcv := convSl (cap := c6) (HP7.out.keep h2) (Nat.le_refl 3)
  rw [smF_text] at hcv
  have HB8 := Lib.hid (HB7.out.trans (h2.mono HB7.out.size))
  clear h2 HS7 HK7 HP7 HX7 HT7 HB7 HS6 HK6 HP6 HB6
  have h27 : Calls Tryd.prog 10 #[.int .i64 3] w8 fun e w' => e = .returned (.int .i64 27) ∧ w8 = w' := size_any 3 w8 (by decide)
  go_wp2_with fail
  refine h27.mono ?_
  rintro e w9 ⟨rfl, rfl⟩
  go_wp2_with fail
  go_ret
  exact ⟨rfl, HB8.out⟩
end Go.Proofs.YtgcdnhjjoidpmaaDoor
/- The laws of layer 8: fits; what Seal and Open answer for short arguments. -/
namespace Go.Proofs.YtgcdnhjjoidpmaaDoor
open Go.RowKit
set_option maxRecDepth 100000 in
theorem fits_all (p R cap : Nat) (A : Nat → Option Addr) (l c : Nat → Nat) (w : World) (hR : R ≤ 100) (hp : ∀ j, j < R → w.cell? ⟨p, j, none⟩ = some (.slice (A j) (l j) (c j))) (h : ∀ j, j < R → l j ≤ 1024) :
    Calls Tryd.prog 7 #[.slice (some ⟨p, 0, none⟩) R cap] w fun e w' => e = .returned (.bool true) ∧ w = w' := by
  have HP := Lib.hid hp
  have HH := Lib.hid h
  clear hp h
  go_enter Tryd.func7, Tryd.ntmps7
  go_wp2_with fail
  go_loopw [3] (fun i wr => ∃ k : Nat, k ≤ R ∧ i = .int .i64 k ∧ wr = w) (fun i _ => R - (intOf i).toNat)
  case atStart => exact ⟨0, Nat.zero_le _, rfl, rfl⟩
  case round =>
    obtain ⟨k, hk, rfl, rfl⟩ := hrel
    by_cases hlt : k < R
    · have hc := HP.out k hlt
      have hd : decide ((1024 : Int) < (l k : Nat)) = false := by rw [decide_eq_false_iff_not]; have := HH.out k hlt; omega
      have hki : (k : Int) < R := by omega
      go_wp2_with fail
      go_roundw
      case rel => exact ⟨k + 1, by omega, by go_num, trivial⟩
      case measure => simp [intOf]; omega
    · have hki : ¬ (k : Int) < R := by omega
      go_wp2_with fail
      go_ret
      exact ⟨rfl, rfl⟩
set_option maxRecDepth 100000 in
theorem fits_not (p R cap j0 : Nat) (A : Nat → Option Addr) (l c : Nat → Nat) (w : World) (hR : R ≤ 100) (hp : ∀ j, j < R → w.cell? ⟨p, j, none⟩ = some (.slice (A j) (l j) (c j))) (hj : j0 < R) (h : 1024 < l j0) :
    Calls Tryd.prog 7 #[.slice (some ⟨p, 0, none⟩) R cap] w fun e w' => e = .returned (.bool false) ∧ w = w' := by
  have HP := Lib.hid hp
  have HH := Lib.hid h
  have HJ := Lib.hid hj
  clear hp h hj
  go_enter Tryd.func7, Tryd.ntmps7
  go_wp2_with fail
  go_loopw [3] (fun i wr => ∃ k : Nat, k ≤ j0 ∧ i = .int .i64 k ∧ wr = w) (fun i _ => R - (intOf i).toNat)
  case atStart => exact ⟨0, Nat.zero_le _, rfl, rfl⟩
  case round =>
    obtain ⟨k, hk, rfl, rfl⟩ := hrel
    have hlt : k < R := by have := HJ.out; omega
    have hc := HP.out k hlt
    have hki : (k : Int) < R := by omega
    by_cases hb : 1024 < l k
    · have hd : decide ((1024 : Int) < (l k : Nat)) = true := by rw [decide_eq_true_eq]; omega
      clear hb
      go_wp2_with fail
      go_ret
      exact ⟨rfl, rfl⟩
    · have hd : decide ((1024 : Int) < (l k : Nat)) = false := by rw [decide_eq_false_iff_not]; omega
      have HN := Lib.hid (show k ≠ j0 by intro e; subst e; exact hb HH.out)
      clear hb
      go_wp2_with fail
      go_roundw
      case rel => exact ⟨k + 1, by have := HN.out; omega, by go_num, trivial⟩
      case measure => simp [intOf]; omega
/-- the arguments of Seal and Open in memory -/
structure In4 (w : World) (Ae At Ab P : Option Addr) (len nt na m : Nat) (key tk about p : Nat → Nat) : Prop where
  enc : SlB w Ae len key
  tag : SlB w At nt tk
  abt : SlB w Ab na about
  txt : SlB w P m p
  gt : GT w
theorem In4.keep {w w' : World} {Ae At Ab P : Option Addr} {len nt na m : Nat} {key tk about p : Nat → Nat} (h : In4 w Ae At Ab P len nt na m key tk about p) (hb : Below w.heap.size w w') : In4 w' Ae At Ab P len nt na m key tk about p :=
  ⟨h.enc.keep hb, h.tag.keep hb, h.abt.keep hb, h.txt.keep hb, h.gt.keep hb⟩
theorem In4.other {w : World} {Ae At Ab P P' : Option Addr} {len nt na m m' : Nat} {key tk about p p' : Nat → Nat} (h : In4 w Ae At Ab P len nt na m key tk about p) (h' : SlB w P' m' p') : In4 w Ae At Ab P' len nt na m' key tk about p' :=
  ⟨h.enc, h.tag, h.abt, h', h.gt⟩
/-- what Open answers, short arguments: refused (why), or opened -/
theorem open_cases (len cap nt ct na ca nb cb : Nat) (Ae At Ab Bb : Option Addr) (key tk about b : Nat → Nat) (w0 : World) (h : In4 w0 Ae At Ab Bb len nt na nb key tk about b) (hl : len ≤ 1024) (hnt : nt ≤ 1024) (hna : na ≤ 1024) (hnb : nb ≤ 1024) (hct : nt ≤ ct) (hac : na ≤ ca) (hbc : nb ≤ cb) :
    (∃ E, (E = 1 ∨ (E = 3 ∧ nb < 24) ∨ (E = 7 ∧ 24 ≤ nb)) ∧ ∀ w, In4 w Ae At Ab Bb len nt na nb key tk about b → Calls Tryd.prog 9 #[.slice Ae len cap, .slice At nt ct, .slice Ab na ca, .slice Bb nb cb] w (OU 0 (fun _ => 0) 0 E w)) ∨
    (∃ n N : Nat, (n = 4 ∨ n = 8) ∧ 4 * n = len ∧ 24 ≤ nb ∧ numE b 8 = N ∧ N ≤ 9223372036854775807 ∧ sameB 16 16 (fun j => b (nb - 16 + j)) (btag nt tk na about (nb - 16) b) = true ∧
      ∀ w, In4 w Ae At Ab Bb len nt na nb key tk about b → Calls Tryd.prog 9 #[.slice Ae len cap, .slice At nt ct, .slice Ab na ca, .slice Bb nb cb] w (OU (nb - 24) (xorf n key N 0 (fun j => b (8 + j))) N 0 w)) := by
  by_cases hw : wrong len 0 0
  · exact Or.inl ⟨1, Or.inl rfl, fun w _ => openx_arg len cap nt ct na ca nb cb Ae At Ab Bb w (by omega) hw⟩
  · obtain ⟨n, _, _, hn, hl4, _, _⟩ := right_of hw
    by_cases h1 : nb < 24
    · exact Or.inl ⟨3, Or.inr (Or.inl ⟨rfl, h1⟩), fun w hi => openx_end len n cap nt ct na ca nb cb Ae At Ab Bb key w hn hl4 hi.enc h1⟩
    · by_cases hs : sameB 16 16 (fun j => b (nb - 16 + j)) (btag nt tk na about (nb - 16) b) = true
      · by_cases hlow : b 0 ≤ 127
        · refine Or.inr ⟨n, numE b 8, hn, hl4, by omega, rfl, ?_, hs, fun w hi => openx_any len n cap nt ct na ca nb cb Ae At Ab Bb key tk about b w hn hl4 hi.enc hi.tag hi.abt hi.txt (by omega) (by omega) hbc (by omega) hct (by omega) hac hi.gt hs hlow⟩
          have := (numE_big (f := b) (fun j hj => h.txt.byte (by omega))).1
          omega
        · exact Or.inl ⟨1, Or.inl rfl, fun w hi => openx_neg len n cap nt ct na ca nb cb Ae At Ab Bb key tk about b w hn hl4 hi.enc hi.tag hi.abt hi.txt (by omega) (by omega) hbc (by omega) hct (by omega) hac hi.gt hs (by omega)⟩
      · exact Or.inl ⟨7, Or.inr (Or.inr ⟨rfl, by omega⟩), fun w hi => openx_tag len n cap nt ct na ca nb cb Ae At Ab Bb key tk about b w hn hl4 hi.enc hi.tag hi.abt hi.txt (by omega) (by omega) hbc (by omega) hct (by omega) hac hi.gt (by simpa using hs)⟩
/-- what Seal answers, short arguments -/
theorem seal_cases (len cap nt ct na ca m cp : Nat) (N : Int) (Ae At Ab P : Option Addr) (key tk about p : Nat → Nat) (hN : N ≤ 9223372036854775807) (hl : len ≤ 1024) (hnt : nt ≤ 1024) (hna : na ≤ 1024) (hm : m ≤ 1024) (hct : nt ≤ ct) (hac : na ≤ ca) :
    (wrong len N 0 ∧ ∀ w, In4 w Ae At Ab P len nt na m key tk about p → Calls Tryd.prog 8 #[.slice Ae len cap, .slice At nt ct, .int .i64 N, .slice Ab na ca, .slice P m cp] w (SU 0 (fun _ => 0) 1 w)) ∨
    (∃ n N' : Nat, (n = 4 ∨ n = 8) ∧ 4 * n = len ∧ N = (N' : Nat) ∧ N' ≤ 9223372036854775807 ∧
      ∀ w, In4 w Ae At Ab P len nt na m key tk about p → Calls Tryd.prog 8 #[.slice Ae len cap, .slice At nt ct, .int .i64 (N' : Nat), .slice Ab na ca, .slice P m cp] w (SU (24 + m) (sealF nt tk na about N' m (xorf n key N' 0 p)) 0 w)) := by
  by_cases hw : wrong len N 0
  · exact Or.inl ⟨hw, fun w hi => seal1_wrong nt len cap ct na ca m cp N Ae At Ab P tk w (by omega) hw (by omega) hct hi.tag hi.gt⟩
  · obtain ⟨n, N', _, hn, hl4, rfl, _⟩ := right_of hw
    exact Or.inr ⟨n, N', hn, hl4, rfl, by omega, fun w hi => seal1_any nt len n cap ct N' na ca m cp Ae At Ab P tk key about p w hn hl4 hi.enc hi.abt hi.txt (by omega) (by omega) (by omega) hac (by omega) hct hi.tag hi.gt⟩
end Go.Proofs.YtgcdnhjjoidpmaaDoor
/- BoxCut. -/
namespace Go.Proofs.YtgcdnhjjoidpmaaDoor
open Go.RowKit
/-- one of four -/
def r4 {α : Type} (x y z u : α) (j : Nat) : α := if j = 0 then x else if j = 1 then y else if j = 2 then z else u
theorem of_four {j : Nat} (h : j < 4) : j = 0 ∨ j = 1 ∨ j = 2 ∨ j = 3 := by omega
theorem cells_four (w : World) (A0 A1 A2 A3 : Option Addr) (n0 n1 n2 n3 c0 c1 c2 c3 : Nat) (j : Nat) (hj : j < 4) :
    (w.alloc (.cells #[.slice A0 n0 c0, .slice A1 n1 c1, .slice A2 n2 c2, .slice A3 n3 c3] 22)).cell? ⟨w.heap.size, j, none⟩ = some (.slice (r4 A0 A1 A2 A3 j) (r4 n0 n1 n2 n3 j) (r4 c0 c1 c2 c3 j)) := by
  rcases of_four hj with rfl | rfl | rfl | rfl <;> exact cell_made w _ _ _ _ rfl rfl
theorem fits4_all (w : World) (A0 A1 A2 A3 : Option Addr) (n0 n1 n2 n3 c0 c1 c2 c3 : Nat) (h0 : n0 ≤ 1024) (h1 : n1 ≤ 1024) (h2 : n2 ≤ 1024) (h3 : n3 ≤ 1024) :
    Calls Tryd.prog 7 #[.slice (some ⟨w.heap.size, 0, none⟩) 4 4] (w.alloc (.cells #[.slice A0 n0 c0, .slice A1 n1 c1, .slice A2 n2 c2, .slice A3 n3 c3] 22)) fun e w' => e = .returned (.bool true) ∧ Below w.heap.size w w' := by
  refine (fits_all w.heap.size 4 4 (r4 A0 A1 A2 A3) (r4 n0 n1 n2 n3) (r4 c0 c1 c2 c3) _ (by decide) (cells_four w A0 A1 A2 A3 n0 n1 n2 n3 c0 c1 c2 c3) (fun j hj => ?_)).mono ?_
  · rcases of_four hj with rfl | rfl | rfl | rfl
    · exact h0
    · exact h1
    · exact h2
    · exact h3
  · rintro e w' ⟨he, rfl⟩
    exact ⟨he, alloc_below w _⟩
theorem fits4_not (w : World) (A0 A1 A2 A3 : Option Addr) (n0 n1 n2 n3 c0 c1 c2 c3 : Nat) (h : ¬ (n0 ≤ 1024 ∧ n1 ≤ 1024 ∧ n2 ≤ 1024 ∧ n3 ≤ 1024)) :
    Calls Tryd.prog 7 #[.slice (some ⟨w.heap.size, 0, none⟩) 4 4] (w.alloc (.cells #[.slice A0 n0 c0, .slice A1 n1 c1, .slice A2 n2 c2, .slice A3 n3 c3] 22)) fun e w' => e = .returned (.bool false) ∧ Below w.heap.size w w' := by
  have key : ∃ j, j < 4 ∧ 1024 < r4 n0 n1 n2 n3 j := by
    by_cases h0 : n0 ≤ 1024
    · by_cases h1 : n1 ≤ 1024
      · by_cases h2 : n2 ≤ 1024
        · exact ⟨3, by decide, show 1024 < n3 by omega⟩
        · exact ⟨2, by decide, show 1024 < n2 by omega⟩
      · exact ⟨1, by decide, show 1024 < n1 by omega⟩
    · exact ⟨0, by decide, show 1024 < n0 by omega⟩
  obtain ⟨j, hj, hlt⟩ := key
  refine (fits_not w.heap.size 4 4 j (r4 A0 A1 A2 A3) (r4 n0 n1 n2 n3) (r4 c0 c1 c2 c3) _ (by decide) (cells_four w A0 A1 A2 A3 n0 n1 n2 n3 c0 c1 c2 c3) hj hlt).mono ?_
  rintro e w' ⟨he, rfl⟩
  exact ⟨he, alloc_below w _⟩
set_option maxRecDepth 100000 in
set_option maxHeartbeats 1600000 in
theorem cut_out (len cap nt ct na ca nb cb : Nat) (Ae At Ab Bb : Option Addr) (w : World) (ht : GT w) (h : ¬ (len ≤ 1024 ∧ nt ≤ 1024 ∧ na ≤ 1024 ∧ nb ≤ 1024)) :
    Calls Tryd.prog 5 #[.slice Ae len cap, .slice At nt ct, .slice Ab na ca, .slice Bb nb cb] w fun e w' => e = .returned (.bool true) ∧ Below w.heap.size w w' := by
  have HS := Lib.hid (small8_any w ht)
  have HF := Lib.hid (fun w => fits4_not w Ae At Ab Bb len nt na nb cap ct ca cb h)
  clear ht h
  go_enter Tryd.func5, Tryd.ntmps5
  go_wp2_with fail
  refine HS.out.mono ?_
  rintro e w1 ⟨rfl, h1⟩
  have H1 := Lib.hid h1
  clear h1
  go_wp2_with fail
  refine (HF.out w1).mono ?_
  rintro e w2 ⟨rfl, h2⟩
  have H2 := Lib.hid (H1.out.trans (h2.mono H1.out.size))
  clear h2
  go_wp2_with fail
  go_ret
  exact ⟨rfl, H2.out⟩
set_option maxRecDepth 100000 in
set_option maxHeartbeats 1600000 in
theorem cut_bad (len cap nt ct na ca nb cb E : Nat) (Ae At Ab Bb : Option Addr) (key tk about b : Nat → Nat) (w : World) (hi : In4 w Ae At Ab Bb len nt na nb key tk about b) (hl : len ≤ 1024) (hnt : nt ≤ 1024) (hna : na ≤ 1024) (hnb : nb ≤ 1024)
    (hE : E = 1 ∨ (E = 3 ∧ nb < 24) ∨ (E = 7 ∧ 24 ≤ nb)) (ho : ∀ w, In4 w Ae At Ab Bb len nt na nb key tk about b → Calls Tryd.prog 9 #[.slice Ae len cap, .slice At nt ct, .slice Ab na ca, .slice Bb nb cb] w (OU 0 (fun _ => 0) 0 E w)) :
    Calls Tryd.prog 5 #[.slice Ae len cap, .slice At nt ct, .slice Ab na ca, .slice Bb nb cb] w fun e w' => e = .returned (.bool true) ∧ Below w.heap.size w w' := by
  have HS := Lib.hid (small8_any w hi.gt)
  have HF := Lib.hid (fun w => fits4_all w Ae At Ab Bb len nt na nb cap ct ca cb hl hnt hna hnb)
  have HO := Lib.hid ho
  have HI := Lib.hid hi
  have hx : (E = 1 ∧ decide ((24 : Int) ≤ (nb : Nat)) = true) ∨ (E = 1 ∧ decide ((24 : Int) ≤ (nb : Nat)) = false) ∨ (E = 3 ∧ decide ((24 : Int) ≤ (nb : Nat)) = false) ∨ (E = 7 ∧ decide ((24 : Int) ≤ (nb : Nat)) = true) := by
    simp only [decide_eq_true_eq, decide_eq_false_iff_not]
    omega
  clear hi hl hnt hna hnb hE ho
  rcases hx with ⟨rfl, hd⟩ | ⟨rfl, hd⟩ | ⟨rfl, hd⟩ | ⟨rfl, hd⟩
  all_goals
    go_enter Tryd.func5, Tryd.ntmps5
    go_wp2_with fail
    refine HS.out.mono ?_
    rintro e w1 ⟨rfl, h1⟩
    have H1 := Lib.hid h1
    clear h1
    go_wp2_with fail
    refine (HF.out w1).mono ?_
    rintro e w2 ⟨rfl, h2⟩
    have H2 := Lib.hid (H1.out.trans (h2.mono H1.out.size))
    clear h2
    go_wp2_with fail
    refine (HO.out w2 (HI.out.keep H2.out)).mono ?_
    rintro e w3 ⟨A, c, rfl, _, h3⟩
    have H3 := Lib.hid (H2.out.trans (h3.mono H2.out.size))
    clear h3
    go_wp2_with fail
    go_ret
    exact ⟨rfl, H3.out⟩
set_option maxRecDepth 100000 in
set_option maxHeartbeats 1600000 in
theorem cut_good (len cap nt ct na ca nb cb N : Nat) (Ae At Ab Bb : Option Addr) (key tk about b f : Nat → Nat) (w : World) (hi : In4 w Ae At Ab Bb len nt na nb key tk about b) (hl : len ≤ 1024) (hnt : nt ≤ 1024) (hna : na ≤ 1024) (hnb : nb ≤ 1024) (h24 : 24 ≤ nb) (hN : N ≤ 9223372036854775807)
    (ho : ∀ w, In4 w Ae At Ab Bb len nt na nb key tk about b → Calls Tryd.prog 9 #[.slice Ae len cap, .slice At nt ct, .slice Ab na ca, .slice Bb nb cb] w (OU (nb - 24) f N 0 w)) :
    Calls Tryd.prog 5 #[.slice Ae len cap, .slice At nt ct, .slice Ab na ca, .slice Bb nb cb] w fun e w' => e = .returned (.bool true) ∧ Below w.heap.size w w' := by
  have HS := Lib.hid (small8_any w hi.gt)
  have HF := Lib.hid (fun w => fits4_all w Ae At Ab Bb len nt na nb cap ct ca cb hl hnt hna hnb)
  obtain ⟨k, hk⟩ : ∃ k, nb - 24 = k := ⟨_, rfl⟩
  rw [hk] at ho
  have HO := Lib.hid ho
  have HI := Lib.hid hi
  have HZ := Lib.hid (show ∀ w, Calls Tryd.prog 10 #[.int .i64 (k : Nat)] w fun e w' => e = .returned (.int .i64 (nb : Nat)) ∧ w = w' from fun w => by
    have h := size_at k w (by omega)
    rw [show 24 + k = nb by omega] at h
    exact h)
  have hd : decide ((0 : Int) ≤ (N : Nat)) = true := by rw [decide_eq_true_eq]; omega
  clear hi hl hnt hna hnb h24 hN ho hk
  go_enter Tryd.func5, Tryd.ntmps5
  go_wp2_with fail
  refine HS.out.mono ?_
  rintro e w1 ⟨rfl, h1⟩
  have H1 := Lib.hid h1
  clear h1
  go_wp2_with fail
  refine (HF.out w1).mono ?_
  rintro e w2 ⟨rfl, h2⟩
  have H2 := Lib.hid (H1.out.trans (h2.mono H1.out.size))
  clear h2
  go_wp2_with fail
  refine (HO.out w2 (HI.out.keep H2.out)).mono ?_
  rintro e w3 ⟨A, c, rfl, _, h3⟩
  have H3 := Lib.hid (H2.out.trans (h3.mono H2.out.size))
  clear h3
  go_wp2_with fail
  refine (HZ.out w3).mono ?_
  rintro e w4 ⟨rfl, rfl⟩
  go_wp2_with fail
  go_ret
  exact ⟨rfl, H3.out⟩
theorem cut_all (len cap nt ct na ca nb cb : Nat) (Ae At Ab Bb : Option Addr) (key tk about b : Nat → Nat) (w : World) (hct : nt ≤ ct) (hac : na ≤ ca) (hbc : nb ≤ cb) (hE : SlB w Ae len key) (hT : SlB w At nt tk) (hA : SlB w Ab na about) (hB : SlB w Bb nb b) (ht : GT w) :
    Calls Tryd.prog 5 #[.slice Ae len cap, .slice At nt ct, .slice Ab na ca, .slice Bb nb cb] w fun e w' => e = .returned (.bool true) ∧ Below w.heap.size w w' := by
  by_cases h : len ≤ 1024 ∧ nt ≤ 1024 ∧ na ≤ 1024 ∧ nb ≤ 1024
  · obtain ⟨hl, hnt, hna, hnb⟩ := h
    have hi : In4 w Ae At Ab Bb len nt na nb key tk about b := ⟨hE, hT, hA, hB, ht⟩
    rcases open_cases len cap nt ct na ca nb cb Ae At Ab Bb key tk about b w hi hl hnt hna hnb hct hac hbc with ⟨E, hE, ho⟩ | ⟨n, N, _, _, h24, _, hN, _, ho⟩
    · exact cut_bad len cap nt ct na ca nb cb E Ae At Ab Bb key tk about b w hi hl hnt hna hnb hE ho
    · exact cut_good len cap nt ct na ca nb cb N Ae At Ab Bb key tk about b _ w hi hl hnt hna hnb h24 hN ho
  · exact cut_out len cap nt ct na ca nb cb Ae At Ab Bb w ht h
end Go.Proofs.YtgcdnhjjoidpmaaDoor
/- BoxBack. -/
namespace Go.Proofs.YtgcdnhjjoidpmaaDoor
open Go.RowKit
/-- one of five -/
def r5 {α : Type} (x y z u v : α) (j : Nat) : α := if j = 0 then x else if j = 1 then y else if j = 2 then z else if j = 3 then u else v
theorem of_five {j : Nat} (h : j < 5) : j = 0 ∨ j = 1 ∨ j = 2 ∨ j = 3 ∨ j = 4 := by omega
theorem cells_five (w : World) (A0 A1 A2 A3 A4 : Option Addr) (n0 n1 n2 n3 n4 c0 c1 c2 c3 c4 : Nat) (j : Nat) (hj : j < 5) :
    (w.alloc (.cells #[.slice A0 n0 c0, .slice A1 n1 c1, .slice A2 n2 c2, .slice A3 n3 c3, .slice A4 n4 c4] 22)).cell? ⟨w.heap.size, j, none⟩ = some (.slice (r5 A0 A1 A2 A3 A4 j) (r5 n0 n1 n2 n3 n4 j) (r5 c0 c1 c2 c3 c4 j)) := by
  rcases of_five hj with rfl | rfl | rfl | rfl | rfl <;> exact cell_made w _ _ _ _ rfl rfl
theorem fits5_all (w : World) (A0 A1 A2 A3 A4 : Option Addr) (n0 n1 n2 n3 n4 c0 c1 c2 c3 c4 : Nat) (h0 : n0 ≤ 1024) (h1 : n1 ≤ 1024) (h2 : n2 ≤ 1024) (h3 : n3 ≤ 1024) (h4 : n4 ≤ 1024) :
    Calls Tryd.prog 7 #[.slice (some ⟨w.heap.size, 0, none⟩) 5 5] (w.alloc (.cells #[.slice A0 n0 c0, .slice A1 n1 c1, .slice A2 n2 c2, .slice A3 n3 c3, .slice A4 n4 c4] 22)) fun e w' => e = .returned (.bool true) ∧ Below w.heap.size w w' := by
  refine (fits_all w.heap.size 5 5 (r5 A0 A1 A2 A3 A4) (r5 n0 n1 n2 n3 n4) (r5 c0 c1 c2 c3 c4) _ (by decide) (cells_five w A0 A1 A2 A3 A4 n0 n1 n2 n3 n4 c0 c1 c2 c3 c4) (fun j hj => ?_)).mono ?_
  · rcases of_five hj with rfl | rfl | rfl | rfl | rfl
    · exact h0
    · exact h1
    · exact h2
    · exact h3
    · exact h4
  · rintro e w' ⟨he, rfl⟩
    exact ⟨he, alloc_below w _⟩
theorem fits5_not (w : World) (A0 A1 A2 A3 A4 : Option Addr) (n0 n1 n2 n3 n4 c0 c1 c2 c3 c4 : Nat) (h : ¬ (n0 ≤ 1024 ∧ n1 ≤ 1024 ∧ n2 ≤ 1024 ∧ n3 ≤ 1024 ∧ n4 ≤ 1024)) :
    Calls Tryd.prog 7 #[.slice (some ⟨w.heap.size, 0, none⟩) 5 5] (w.alloc (.cells #[.slice A0 n0 c0, .slice A1 n1 c1, .slice A2 n2 c2, .slice A3 n3 c3, .slice A4 n4 c4] 22)) fun e w' => e = .returned (.bool false) ∧ Below w.heap.size w w' := by
  have key : ∃ j, j < 5 ∧ 1024 < r5 n0 n1 n2 n3 n4 j := by
    by_cases h0 : n0 ≤ 1024
    · by_cases h1 : n1 ≤ 1024
      · by_cases h2 : n2 ≤ 1024
        · by_cases h3 : n3 ≤ 1024
          · exact ⟨4, by decide, show 1024 < n4 by omega⟩
          · exact ⟨3, by decide, show 1024 < n3 by omega⟩
        · exact ⟨2, by decide, show 1024 < n2 by omega⟩
      · exact ⟨1, by decide, show 1024 < n1 by omega⟩
    · exact ⟨0, by decide, show 1024 < n0 by omega⟩
  obtain ⟨j, hj, hlt⟩ := key
  refine (fits_not w.heap.size 5 5 j (r5 A0 A1 A2 A3 A4) (r5 n0 n1 n2 n3 n4) (r5 c0 c1 c2 c3 c4) _ (by decide) (cells_five w A0 A1 A2 A3 A4 n0 n1 n2 n3 n4 c0 c1 c2 c3 c4) hj hlt).mono ?_
  rintro e w' ⟨he, rfl⟩
  exact ⟨he, alloc_below w _⟩
theorem OU.as {k k' N N' E : Nat} {f f' : Nat → Nat} {w : World} {e : Ending} {w' : World} (h : OU k f N E w e w') (hk : k = k') (hN : N = N') (hf : ∀ j, j < k → f j = f' j) : OU k' f' N' E w e w' := by
  subst hk hN
  obtain ⟨A, c, he, h1, h2⟩ := h
  exact ⟨A, c, he, h1.congr hf, h2⟩
theorem SU.as {k k' E : Nat} {f f' : Nat → Nat} {w : World} {e : Ending} {w' : World} (h : SU k f E w e w') (hk : k = k') (hf : ∀ j, j < k → f j = f' j) : SU k' f' E w e w' := by
  subst hk
  obtain ⟨A, c, he, h1, h2⟩ := h
  exact ⟨A, c, he, h1.congr hf, h2⟩
set_option maxRecDepth 100000 in
set_option maxHeartbeats 1600000 in
theorem bback_out (len cap nt ct na ca m cp nb cb : Nat) (Ae At Ab P Bb : Option Addr) (N : Int) (w : World) (ht : GT w) (h : ¬ (len ≤ 1024 ∧ nt ≤ 1024 ∧ na ≤ 1024 ∧ m ≤ 1024 ∧ nb ≤ 1024)) :
    Calls Tryd.prog 3 #[.slice Ae len cap, .slice At nt ct, .int .i64 N, .slice Ab na ca, .slice P m cp, .slice Bb nb cb] w fun e w' => e = .returned (.bool true) ∧ Below w.heap.size w w' := by
  have HS := Lib.hid (small8_any w ht)
  have HF := Lib.hid (fun w => fits5_not w Ae At Ab P Bb len nt na m nb cap ct ca cp cb h)
  clear ht h
  go_enter Tryd.func3, Tryd.ntmps3
  go_wp2_with fail
  refine HS.out.mono ?_
  rintro e w1 ⟨rfl, h1⟩
  have H1 := Lib.hid h1
  clear h1
  go_wp2_with fail
  refine (HF.out w1).mono ?_
  rintro e w2 ⟨rfl, h2⟩
  have H2 := Lib.hid (H1.out.trans (h2.mono H1.out.size))
  clear h2
  go_wp2_with fail
  go_ret
  exact ⟨rfl, H2.out⟩
set_option maxRecDepth 100000 in
set_option maxHeartbeats 3200000 in
theorem bback_WB (len cap nt ct na ca m cp nb cb : Nat) (Ae At Ab P Bb : Option Addr) (N : Int) (key tk about p b : Nat → Nat) (w : World) (hi : In4 w Ae At Ab P len nt na m key tk about p) (hB : SlB w Bb nb b) (hl : len ≤ 1024) (hnt : nt ≤ 1024) (hna : na ≤ 1024) (hm : m ≤ 1024) (hnb : nb ≤ 1024) (_hct : nt ≤ ct) (_hac : na ≤ ca)
    (hs : ∀ w, In4 w Ae At Ab P len nt na m key tk about p → Calls Tryd.prog 8 #[.slice Ae len cap, .slice At nt ct, .int .i64 N, .slice Ab na ca, .slice P m cp] w (SU 0 (fun _ => 0) 1 w))
    (E : Nat) (hE : E = 1 ∨ (E = 3 ∧ nb < 24) ∨ (E = 7 ∧ 24 ≤ nb)) (ho : ∀ w, In4 w Ae At Ab Bb len nt na nb key tk about b → Calls Tryd.prog 9 #[.slice Ae len cap, .slice At nt ct, .slice Ab na ca, .slice Bb nb cb] w (OU 0 (fun _ => 0) 0 E w)) :
    Calls Tryd.prog 3 #[.slice Ae len cap, .slice At nt ct, .int .i64 N, .slice Ab na ca, .slice P m cp, .slice Bb nb cb] w fun e w' => e = .returned (.bool true) ∧ Below w.heap.size w w' := by
  have HS := Lib.hid (small8_any w hi.gt)
  have HF := Lib.hid (fun w => fits5_all w Ae At Ab P Bb len nt na m nb cap ct ca cp cb hl hnt hna hm hnb)
  have HI := Lib.hid hi
  have HIB := Lib.hid (hi.other hB)
  have HO := Lib.hid ho
  have HSE := Lib.hid hs
  have hx : E = 1 ∨ E = 3 ∨ E = 7 := by omega
  clear hi hB hl hnt hna hm hnb ho hs hE
  rcases hx with rfl | rfl | rfl
  all_goals
    go_enter Tryd.func3, Tryd.ntmps3
    go_wp2_with fail
    refine HS.out.mono ?_
    rintro e w1 ⟨rfl, h1⟩
    have H1 := Lib.hid h1
    clear h1
    go_wp2_with fail
    refine (HF.out w1).mono ?_
    rintro e w2 ⟨rfl, h2⟩
    have H2 := Lib.hid (H1.out.trans (h2.mono H1.out.size))
    clear h2
    go_wp2_with fail
    refine (HSE.out w2 (HI.out.keep H2.out)).mono ?_
    rintro e w3 ⟨A3, c3, rfl, h1, h3⟩
    have H4 := Lib.hid (H2.out.trans (h3.mono H2.out.size))
    clear h1 h3
    go_wp2_with fail
    refine (HO.out w3 (HIB.out.keep H4.out)).mono ?_
    rintro e w6 ⟨A6, c6, rfl, h1, h3⟩
    have H6 := Lib.hid (H4.out.trans (h3.mono H4.out.size))
    clear h1 h3
    go_wp2_with fail
    go_ret
    exact ⟨rfl, H6.out⟩
set_option maxRecDepth 100000 in
set_option maxHeartbeats 3200000 in
theorem bback_WG (len cap nt ct na ca m cp nb cb : Nat) (Ae At Ab P Bb : Option Addr) (N : Int) (key tk about p b : Nat → Nat) (w : World) (hi : In4 w Ae At Ab P len nt na m key tk about p) (hB : SlB w Bb nb b) (hl : len ≤ 1024) (hnt : nt ≤ 1024) (hna : na ≤ 1024) (hm : m ≤ 1024) (hnb : nb ≤ 1024) (hct : nt ≤ ct) (hac : na ≤ ca)
    (hs : ∀ w, In4 w Ae At Ab P len nt na m key tk about p → Calls Tryd.prog 8 #[.slice Ae len cap, .slice At nt ct, .int .i64 N, .slice Ab na ca, .slice P m cp] w (SU 0 (fun _ => 0) 1 w))
    (n2 N2 : Nat) (hn2 : n2 = 4 ∨ n2 = 8) (hl2 : 4 * n2 = len) (h24 : 24 ≤ nb) (hN2e : numE b 8 = N2) (hN2 : N2 ≤ 9223372036854775807) (hsm : sameB 16 16 (fun j => b (nb - 16 + j)) (btag nt tk na about (nb - 16) b) = true)
    (ho : ∀ w, In4 w Ae At Ab Bb len nt na nb key tk about b → Calls Tryd.prog 9 #[.slice Ae len cap, .slice At nt ct, .slice Ab na ca, .slice Bb nb cb] w (OU (nb - 24) (xorf n2 key N2 0 (fun j => b (8 + j))) N2 0 w)) :
    Calls Tryd.prog 3 #[.slice Ae len cap, .slice At nt ct, .int .i64 N, .slice Ab na ca, .slice P m cp, .slice Bb nb cb] w fun e w' => e = .returned (.bool true) ∧ Below w.heap.size w w' := by
  have HS := Lib.hid (small8_any w hi.gt)
  have HF := Lib.hid (fun w => fits5_all w Ae At Ab P Bb len nt na m nb cap ct ca cp cb hl hnt hna hm hnb)
  have HI := Lib.hid hi
  have HIB := Lib.hid (hi.other hB)
  have HO := Lib.hid ho
  have HSE := Lib.hid hs
  have HSB := Lib.hid (fun (w : World) (A : Option Addr) (c : Nat) (hi : In4 w Ae At Ab P len nt na m key tk about p) (hA : SlB w A (nb - 24) (xorf n2 key N2 0 (fun j => b (8 + j)))) =>
    (seal1_any nt len n2 cap ct N2 na ca (nb - 24) c Ae At Ab A tk key about (xorf n2 key N2 0 (fun j => b (8 + j))) w hn2 hl2 hi.enc hi.abt hA hN2 (by omega) (by omega) hac (by omega) hct hi.tag hi.gt).mono fun e w' h => (h.as (k' := nb) (f' := b) (by omega) fun j hj => by
      subst hN2e
      exact sealF_back (fun i hi => hB.byte hi) h24 hsm j (by omega)))
  have HBY := Lib.hid (show ∀ j, j < nb → b j < 256 from fun j hj => hB.byte hj)
  have HQY := Lib.hid (show ∀ j, j < nb - 24 → xorf n2 key N2 0 (fun j => b (8 + j)) j < 256 from xorf_lt hn2 (fun j hj => hi.enc.byte (by omega)) (fun j hj => hB.byte (by omega)))
  obtain ⟨q, hq⟩ : ∃ q, xorf n2 key N2 0 (fun j => b (8 + j)) = q := ⟨_, rfl⟩
  obtain ⟨k, hk⟩ : ∃ k, nb - 24 = k := ⟨_, rfl⟩
  rw [hq, hk] at HSB HQY
  rw [hq, hk] at HO
  clear hi hB hl hnt hna hm hnb hct hac ho hs hn2 hl2 h24 hN2e hN2 hsm hq hk
  go_enter Tryd.func3, Tryd.ntmps3
  go_wp2_with fail
  refine HS.out.mono ?_
  rintro e w1 ⟨rfl, h1⟩
  have H1 := Lib.hid h1
  clear h1
  go_wp2_with fail
  refine (HF.out w1).mono ?_
  rintro e w2 ⟨rfl, h2⟩
  have H2 := Lib.hid (H1.out.trans (h2.mono H1.out.size))
  clear h2
  go_wp2_with fail
  refine (HSE.out w2 (HI.out.keep H2.out)).mono ?_
  rintro e w3 ⟨A3, c3, rfl, h1, h3⟩
  have H4 := Lib.hid (H2.out.trans (h3.mono H2.out.size))
  clear h1 h3
  go_wp2_with fail
  refine (HO.out w3 (HIB.out.keep H4.out)).mono ?_
  rintro e w6 ⟨A6, c6, rfl, h1, h3⟩
  obtain ⟨A6', c6', e6, h4⟩ := OwnB.slice h1 HQY.out
  cases e6
  have HQ6 := Lib.hid h4
  have H6 := Lib.hid (H4.out.trans (h3.mono H4.out.size))
  clear h1 h3 h4
  go_wp2_with fail
  refine (HSB.out w6 A6 c6 (HI.out.keep H6.out) HQ6.out).mono ?_
  rintro e w7 ⟨A7, c7, rfl, h1, h3⟩
  have H7 := Lib.hid (H6.out.trans (h3.mono H6.out.size))
  obtain ⟨A7', c7', e7, h4⟩ := OwnB.slice h1 HBY.out
  cases e7
  have hcy := convSl (cap := c7) h4 (Nat.le_refl nb)
  have hcb := convSl (cap := cb) (HIB.out.keep H7.out).txt (Nat.le_refl nb)
  obtain ⟨Y, hY⟩ : ∃ Y, strOf nb b = Y := ⟨_, rfl⟩
  rw [hY] at hcy hcb
  clear h1 h3 h4 hY
  go_wp2_with fail
  go_ret
  exact ⟨rfl, H7.out⟩
set_option maxRecDepth 100000 in
set_option maxHeartbeats 3200000 in
theorem bback_RB (len cap nt ct na ca m cp nb cb : Nat) (Ae At Ab P Bb : Option Addr) (n N : Nat) (key tk about p b : Nat → Nat) (w : World) (hi : In4 w Ae At Ab P len nt na m key tk about p) (hB : SlB w Bb nb b) (hl : len ≤ 1024) (hnt : nt ≤ 1024) (hna : na ≤ 1024) (hm : m ≤ 1024) (hnb : nb ≤ 1024) (hct : nt ≤ ct) (hac : na ≤ ca)
    (hn : n = 4 ∨ n = 8) (hl4 : 4 * n = len) (hN : N ≤ 9223372036854775807)
    (E : Nat) (hE : E = 1 ∨ (E = 3 ∧ nb < 24) ∨ (E = 7 ∧ 24 ≤ nb)) (ho : ∀ w, In4 w Ae At Ab Bb len nt na nb key tk about b → Calls Tryd.prog 9 #[.slice Ae len cap, .slice At nt ct, .slice Ab na ca, .slice Bb nb cb] w (OU 0 (fun _ => 0) 0 E w)) :
    Calls Tryd.prog 3 #[.slice Ae len cap, .slice At nt ct, .int .i64 (N : Nat), .slice Ab na ca, .slice P m cp, .slice Bb nb cb] w fun e w' => e = .returned (.bool true) ∧ Below w.heap.size w w' := by
  have HS := Lib.hid (small8_any w hi.gt)
  have HF := Lib.hid (fun w => fits5_all w Ae At Ab P Bb len nt na m nb cap ct ca cp cb hl hnt hna hm hnb)
  have HI := Lib.hid hi
  have HIB := Lib.hid (hi.other hB)
  have HO := Lib.hid ho
  obtain ⟨F, hF⟩ : ∃ F, sealF nt tk na about N m (xorf n key N 0 p) = F := ⟨_, rfl⟩
  have HSE := Lib.hid (fun (w : World) (hi : In4 w Ae At Ab P len nt na m key tk about p) => seal1_any nt len n cap ct N na ca m cp Ae At Ab P tk key about p w hn hl4 hi.enc hi.abt hi.txt hN (by omega) (by omega) hac (by omega) hct hi.tag hi.gt)
  have HFY := Lib.hid (show By (24 + m) F by rw [← hF]; exact sealF_by (xorf_lt hn (fun j hj => hi.enc.byte (by omega)) (fun j hj => hi.txt.byte hj)))
  obtain ⟨z, hz⟩ : ∃ z, 24 + m = z := ⟨_, rfl⟩
  have HOX := Lib.hid (show ∀ (w : World) (A : Option Addr) (c : Nat), In4 w Ae At Ab P len nt na m key tk about p → SlB w A z F → z ≤ c → Calls Tryd.prog 9 #[.slice Ae len cap, .slice At nt ct, .slice Ab na ca, .slice A z c] w (OU m p N 0 w) from fun w A c hi hA hc => by
    refine (openx_any len n cap nt ct na ca z c Ae At Ab A key tk about F w hn hl4 hi.enc hi.tag hi.abt hA (by omega) (by omega) hc (by omega) hct (by omega) hac hi.gt (by rw [← hF]; exact sealF_same hz.symm) (by rw [← hF]; exact sealF_low hN)).mono fun e w' h => ?_
    have hne : numE F 8 = N := by rw [← hF]; exact sealF_numE hN
    rw [hne] at h
    exact h.as (by omega) rfl (xorf_back (k := z - 24) fun j hj => by rw [← hF]; exact sealF_body j (by omega)))
  have HZ := Lib.hid (show ∀ w, Calls Tryd.prog 10 #[.int .i64 (m : Nat)] w fun e w' => e = .returned (.int .i64 (z : Nat)) ∧ w = w' from fun w => by
    have h := size_at m w (by omega)
    rw [hz] at h
    exact h)
  rw [hz] at HFY
  rw [hF, hz] at HSE
  have hx : E = 1 ∨ E = 3 ∨ E = 7 := by omega
  clear hi hB hl hnt hna hm hnb hct hac ho hn hl4 hN hF hz hE
  rcases hx with rfl | rfl | rfl
  all_goals
    go_enter Tryd.func3, Tryd.ntmps3
    go_wp2_with fail
    refine HS.out.mono ?_
    rintro e w1 ⟨rfl, h1⟩
    have H1 := Lib.hid h1
    clear h1
    go_wp2_with fail
    refine (HF.out w1).mono ?_
    rintro e w2 ⟨rfl, h2⟩
    have H2 := Lib.hid (H1.out.trans (h2.mono H1.out.size))
    clear h2
    go_wp2_with fail
    refine (HSE.out w2 (HI.out.keep H2.out)).mono ?_
    rintro e w3 ⟨A3, c3, rfl, h1, h3⟩
    obtain ⟨A3', c3', e3, h4⟩ := OwnB.slice h1 HFY.out
    cases e3
    obtain ⟨A4', c4', e4, h5, _⟩ := OwnB.cap_le h1
    cases e4
    have HX3 := Lib.hid h4
    have HC3 := Lib.hid h5
    have H3 := Lib.hid (H2.out.trans (h3.mono H2.out.size))
    clear h1 h3 h4 h5
    go_wp2_with fail
    refine (HOX.out w3 A3 c3 (HI.out.keep H3.out) HX3.out HC3.out).mono ?_
    rintro e w4 ⟨A4, c4, rfl, h1, h3⟩
    have H4 := Lib.hid (H3.out.trans (h3.mono H3.out.size))
    obtain ⟨A5', c5', e5, h4⟩ := OwnB.slice h1 (fun j hj => HI.out.txt.byte hj)
    cases e5
    have hcq := convSl (cap := c4) h4 (Nat.le_refl m)
    have hcp := convSl (cap := cp) (HI.out.keep H4.out).txt (Nat.le_refl m)
    obtain ⟨X, hX⟩ : ∃ X, strOf m p = X := ⟨_, rfl⟩
    rw [hX] at hcq hcp
    clear h1 h3 h4 hX
    go_wp2_with fail
    refine (HZ.out w4).mono ?_
    rintro e w5 ⟨rfl, rfl⟩
    clear hcq hcp
    go_wp2_with fail
    refine (HO.out w4 (HIB.out.keep H4.out)).mono ?_
    rintro e w6 ⟨A6, c6, rfl, h1, h3⟩
    have H6 := Lib.hid (H4.out.trans (h3.mono H4.out.size))
    clear h1 h3
    go_wp2_with fail
    go_ret
    exact ⟨rfl, H6.out⟩
set_option maxRecDepth 100000 in
set_option maxHeartbeats 3200000 in
theorem bback_RG (len cap nt ct na ca m cp nb cb : Nat) (Ae At Ab P Bb : Option Addr) (n N : Nat) (key tk about p b : Nat → Nat) (w : World) (hi : In4 w Ae At Ab P len nt na m key tk about p) (hB : SlB w Bb nb b) (hl : len ≤ 1024) (hnt : nt ≤ 1024) (hna : na ≤ 1024) (hm : m ≤ 1024) (hnb : nb ≤ 1024) (hct : nt ≤ ct) (hac : na ≤ ca)
    (hn : n = 4 ∨ n = 8) (hl4 : 4 * n = len) (hN : N ≤ 9223372036854775807)
    (n2 N2 : Nat) (hn2 : n2 = 4 ∨ n2 = 8) (hl2 : 4 * n2 = len) (h24 : 24 ≤ nb) (hN2e : numE b 8 = N2) (hN2 : N2 ≤ 9223372036854775807) (hsm : sameB 16 16 (fun j => b (nb - 16 + j)) (btag nt tk na about (nb - 16) b) = true)
    (ho : ∀ w, In4 w Ae At Ab Bb len nt na nb key tk about b → Calls Tryd.prog 9 #[.slice Ae len cap, .slice At nt ct, .slice Ab na ca, .slice Bb nb cb] w (OU (nb - 24) (xorf n2 key N2 0 (fun j => b (8 + j))) N2 0 w)) :
    Calls Tryd.prog 3 #[.slice Ae len cap, .slice At nt ct, .int .i64 (N : Nat), .slice Ab na ca, .slice P m cp, .slice Bb nb cb] w fun e w' => e = .returned (.bool true) ∧ Below w.heap.size w w' := by
  have HS := Lib.hid (small8_any w hi.gt)
  have HF := Lib.hid (fun w => fits5_all w Ae At Ab P Bb len nt na m nb cap ct ca cp cb hl hnt hna hm hnb)
  have HI := Lib.hid hi
  have HIB := Lib.hid (hi.other hB)
  have HO := Lib.hid ho
  obtain ⟨F, hF⟩ : ∃ F, sealF nt tk na about N m (xorf n key N 0 p) = F := ⟨_, rfl⟩
  have HSE := Lib.hid (fun (w : World) (hi : In4 w Ae At Ab P len nt na m key tk about p) => seal1_any nt len n cap ct N na ca m cp Ae At Ab P tk key about p w hn hl4 hi.enc hi.abt hi.txt hN (by omega) (by omega) hac (by omega) hct hi.tag hi.gt)
  have HFY := Lib.hid (show By (24 + m) F by rw [← hF]; exact sealF_by (xorf_lt hn (fun j hj => hi.enc.byte (by omega)) (fun j hj => hi.txt.byte hj)))
  obtain ⟨z, hz⟩ : ∃ z, 24 + m = z := ⟨_, rfl⟩
  have HOX := Lib.hid (show ∀ (w : World) (A : Option Addr) (c : Nat), In4 w Ae At Ab P len nt na m key tk about p → SlB w A z F → z ≤ c → Calls Tryd.prog 9 #[.slice Ae len cap, .slice At nt ct, .slice Ab na ca, .slice A z c] w (OU m p N 0 w) from fun w A c hi hA hc => by
    refine (openx_any len n cap nt ct na ca z c Ae At Ab A key tk about F w hn hl4 hi.enc hi.tag hi.abt hA (by omega) (by omega) hc (by omega) hct (by omega) hac hi.gt (by rw [← hF]; exact sealF_same hz.symm) (by rw [← hF]; exact sealF_low hN)).mono fun e w' h => ?_
    have hne : numE F 8 = N := by rw [← hF]; exact sealF_numE hN
    rw [hne] at h
    exact h.as (by omega) rfl (xorf_back (k := z - 24) fun j hj => by rw [← hF]; exact sealF_body j (by omega)))
  have HZ := Lib.hid (show ∀ w, Calls Tryd.prog 10 #[.int .i64 (m : Nat)] w fun e w' => e = .returned (.int .i64 (z : Nat)) ∧ w = w' from fun w => by
    have h := size_at m w (by omega)
    rw [hz] at h
    exact h)
  rw [hz] at HFY
  rw [hF, hz] at HSE
  have HSB := Lib.hid (fun (w : World) (A : Option Addr) (c : Nat) (hi : In4 w Ae At Ab P len nt na m key tk about p) (hA : SlB w A (nb - 24) (xorf n2 key N2 0 (fun j => b (8 + j)))) =>
    (seal1_any nt len n2 cap ct N2 na ca (nb - 24) c Ae At Ab A tk key about (xorf n2 key N2 0 (fun j => b (8 + j))) w hn2 hl2 hi.enc hi.abt hA hN2 (by omega) (by omega) hac (by omega) hct hi.tag hi.gt).mono fun e w' h => (h.as (k' := nb) (f' := b) (by omega) fun j hj => by
      subst hN2e
      exact sealF_back (fun i hi => hB.byte hi) h24 hsm j (by omega)))
  have HBY := Lib.hid (show ∀ j, j < nb → b j < 256 from fun j hj => hB.byte hj)
  have HQY := Lib.hid (show ∀ j, j < nb - 24 → xorf n2 key N2 0 (fun j => b (8 + j)) j < 256 from xorf_lt hn2 (fun j hj => hi.enc.byte (by omega)) (fun j hj => hB.byte (by omega)))
  obtain ⟨q, hq⟩ : ∃ q, xorf n2 key N2 0 (fun j => b (8 + j)) = q := ⟨_, rfl⟩
  obtain ⟨k, hk⟩ : ∃ k, nb - 24 = k := ⟨_, rfl⟩
  rw [hq, hk] at HSB HQY
  rw [hq, hk] at HO
  clear hi hB hl hnt hna hm hnb hct hac ho hn hl4 hN hF hz hn2 hl2 h24 hN2e hN2 hsm hq hk
  go_enter Tryd.func3, Tryd.ntmps3
  go_wp2_with fail
  refine HS.out.mono ?_
  rintro e w1 ⟨rfl, h1⟩
  have H1 := Lib.hid h1
  clear h1
  go_wp2_with fail
  refine (HF.out w1).mono ?_
  rintro e w2 ⟨rfl, h2⟩
  have H2 := Lib.hid (H1.out.trans (h2.mono H1.out.size))
  clear h2
  go_wp2_with fail
  refine (HSE.out w2 (HI.out.keep H2.out)).mono ?_
  rintro e w3 ⟨A3, c3, rfl, h1, h3⟩
  obtain ⟨A3', c3', e3, h4⟩ := OwnB.slice h1 HFY.out
  cases e3
  obtain ⟨A4', c4', e4, h5, _⟩ := OwnB.cap_le h1
  cases e4
  have HX3 := Lib.hid h4
  have HC3 := Lib.hid h5
  have H3 := Lib.hid (H2.out.trans (h3.mono H2.out.size))
  clear h1 h3 h4 h5
  go_wp2_with fail
  refine (HOX.out w3 A3 c3 (HI.out.keep H3.out) HX3.out HC3.out).mono ?_
  rintro e w4 ⟨A4, c4, rfl, h1, h3⟩
  have H4 := Lib.hid (H3.out.trans (h3.mono H3.out.size))
  obtain ⟨A5', c5', e5, h4⟩ := OwnB.slice h1 (fun j hj => HI.out.txt.byte hj)
  cases e5
  have hcq := convSl (cap := c4) h4 (Nat.le_refl m)
  have hcp := convSl (cap := cp) (HI.out.keep H4.out).txt (Nat.le_refl m)
  obtain ⟨X, hX⟩ : ∃ X, strOf m p = X := ⟨_, rfl⟩
  rw [hX] at hcq hcp
  clear h1 h3 h4 hX
  go_wp2_with fail
  refine (HZ.out w4).mono ?_
  rintro e w5 ⟨rfl, rfl⟩
  clear hcq hcp
  go_wp2_with fail
  refine (HO.out w4 (HIB.out.keep H4.out)).mono ?_
  rintro e w6 ⟨A6, c6, rfl, h1, h3⟩
  obtain ⟨A6', c6', e6, h4⟩ := OwnB.slice h1 HQY.out
  cases e6
  have HQ6 := Lib.hid h4
  have H6 := Lib.hid (H4.out.trans (h3.mono H4.out.size))
  clear h1 h3 h4
  go_wp2_with fail
  refine (HSB.out w6 A6 c6 (HI.out.keep H6.out) HQ6.out).mono ?_
  rintro e w7 ⟨A7, c7, rfl, h1, h3⟩
  have H7 := Lib.hid (H6.out.trans (h3.mono H6.out.size))
  obtain ⟨A7', c7', e7, h4⟩ := OwnB.slice h1 HBY.out
  cases e7
  have hcy := convSl (cap := c7) h4 (Nat.le_refl nb)
  have hcb := convSl (cap := cb) (HIB.out.keep H7.out).txt (Nat.le_refl nb)
  obtain ⟨Y, hY⟩ : ∃ Y, strOf nb b = Y := ⟨_, rfl⟩
  rw [hY] at hcy hcb
  clear h1 h3 h4 hY
  go_wp2_with fail
  go_ret
  exact ⟨rfl, H7.out⟩
theorem bback_all (len cap nt ct na ca m cp nb cb : Nat) (Ae At Ab P Bb : Option Addr) (N : Int) (key tk about p b : Nat → Nat) (w : World) (hN : N ≤ 9223372036854775807) (hct : nt ≤ ct) (hac : na ≤ ca) (hbc : nb ≤ cb) (hE : SlB w Ae len key) (hT : SlB w At nt tk) (hA : SlB w Ab na about) (hP : SlB w P m p) (hB : SlB w Bb nb b) (ht : GT w) :
    Calls Tryd.prog 3 #[.slice Ae len cap, .slice At nt ct, .int .i64 N, .slice Ab na ca, .slice P m cp, .slice Bb nb cb] w fun e w' => e = .returned (.bool true) ∧ Below w.heap.size w w' := by
  by_cases h : len ≤ 1024 ∧ nt ≤ 1024 ∧ na ≤ 1024 ∧ m ≤ 1024 ∧ nb ≤ 1024
  · obtain ⟨hl, hnt, hna, hm, hnb⟩ := h
    have hi : In4 w Ae At Ab P len nt na m key tk about p := ⟨hE, hT, hA, hP, ht⟩
    rcases seal_cases len cap nt ct na ca m cp N Ae At Ab P key tk about p hN hl hnt hna hm hct hac with ⟨_, hs⟩ | ⟨n, N', hn, hl4, rfl, hN', _⟩
    · rcases open_cases len cap nt ct na ca nb cb Ae At Ab Bb key tk about b w (hi.other hB) hl hnt hna hnb hct hac hbc with ⟨E, hE, ho⟩ | ⟨n2, N2, hn2, hl2, h24, hN2e, hN2, hsm, ho⟩
      · exact bback_WB len cap nt ct na ca m cp nb cb Ae At Ab P Bb N key tk about p b w hi hB hl hnt hna hm hnb hct hac hs E hE ho
      · exact bback_WG len cap nt ct na ca m cp nb cb Ae At Ab P Bb N key tk about p b w hi hB hl hnt hna hm hnb hct hac hs n2 N2 hn2 hl2 h24 hN2e hN2 hsm ho
    · rcases open_cases len cap nt ct na ca nb cb Ae At Ab Bb key tk about b w (hi.other hB) hl hnt hna hnb hct hac hbc with ⟨E, hE, ho⟩ | ⟨n2, N2, hn2, hl2, h24, hN2e, hN2, hsm, ho⟩
      · exact bback_RB len cap nt ct na ca m cp nb cb Ae At Ab P Bb n N' key tk about p b w hi hB hl hnt hna hm hnb hct hac hn hl4 hN' E hE ho
      · exact bback_RG len cap nt ct na ca m cp nb cb Ae At Ab P Bb n N' key tk about p b w hi hB hl hnt hna hm hnb hct hac hn hl4 hN' n2 N2 hn2 hl2 h24 hN2e hN2 hsm ho
  · exact bback_out len cap nt ct na ca m cp nb cb Ae At Ab P Bb N w ht h
end Go.Proofs.YtgcdnhjjoidpmaaDoor
/- Contracts of package box: a Sealer: New, Next, its counter. -/
namespace Go.Proofs.YtgcdnhjjoidpmaaDoor
open Go.RowKit
theorem add64 (x : Nat) (hx : x < 18446744073709551615) (w : World) : (Op.intArith .add .u64 (x : Int) 1).run Tryd.prog w = .ok (.int .u64 ((x + 1 : Nat) : Int)) w := by
  have : (x : Int) + 1 = ((x + 1 : Nat) : Int) := by omega
  have h2 : ((x : Int) + 1) % 18446744073709551616 = (x : Int) + 1 := by omega
  simp [go_sem, IntKind.wrap_u64, h2]
theorem count_add (b o x : Nat) (w : World) (hx : x < 18446744073709551615) (hc : w.cell? ⟨b, o, none⟩ = some (.int .u64 (x : Nat))) (hz : w.frozen? ⟨b, o, none⟩ = false) :
    Calls Tryd.prog 23 #[.pointer (some ⟨b, o, none⟩), .int .u64 1] w fun e w' => e = .returned (.int .u64 ((x + 1 : Nat) : Int)) ∧ w' = w.setCell ⟨b, o, none⟩ (.int .u64 ((x + 1 : Nat) : Int)) := by
  have hl := run_call_add (P := Tryd.prog) Tryd.func33 (by kernel_rfl) (by kernel_rfl) (by kernel_rfl) .u64 (by kernel_rfl) hc hz (add64 x hx w)
  go_enter Tryd.func23, Tryd.ntmps23
  go_wp2_with fail
  go_ret
  exact ⟨rfl, rfl⟩
theorem count_load (b o : Nat) (x : Int) (w : World) (hc : w.cell? ⟨b, o, none⟩ = some (.int .u64 x)) :
    Calls Tryd.prog 24 #[.pointer (some ⟨b, o, none⟩)] w fun e w' => e = .returned (.int .u64 x) ∧ w = w' := by
  have hl := run_call_load (P := Tryd.prog) Tryd.func34 (by kernel_rfl) (by kernel_rfl) (by kernel_rfl) .u64 (by kernel_rfl) hc
  go_enter Tryd.func24, Tryd.ntmps24
  go_wp2_with fail
  go_ret
  exact ⟨rfl, rfl⟩
theorem count_store (b o : Nat) (x : Int) (u : Value) (w : World) (hc : w.cell? ⟨b, o, none⟩ = some u) (hz : w.frozen? ⟨b, o, none⟩ = false) :
    Calls Tryd.prog 22 #[.pointer (some ⟨b, o, none⟩), .int .u64 x] w fun e w' => e = .returned (.tuple #[]) ∧ w' = w.setCell ⟨b, o, none⟩ (.int .u64 x) := by
  have hl := run_call_store (P := Tryd.prog) Tryd.func32 (by kernel_rfl) (by kernel_rfl) (by kernel_rfl) (by kernel_rfl) (k := .u64) (y := x) hc hz
  go_enter Tryd.func22, Tryd.ntmps22
  go_wp2_with fail
  go_end0
  exact ⟨rfl, rfl⟩
end Go.Proofs.YtgcdnhjjoidpmaaDoor
/- Contracts of package box: a Sealer. -/
namespace Go.Proofs.YtgcdnhjjoidpmaaDoor
open Go.RowKit
/-- a Sealer in block s: its Maker in block g, its key in block B; the next nonce is K -/
structure Slr (w : World) (s g B K len nt : Nat) (key tk : Nat → Nat) (cE : Nat) : Prop where
  enc : w.cell? ⟨s, 0, none⟩ = some (.slice (some ⟨B, 0, none⟩) len cE)
  mak : w.cell? ⟨s, 1, none⟩ = some (.pointer (some ⟨g, 0, none⟩))
  cnt : w.cell? ⟨s, 2, none⟩ = some (.int .u64 (K : Nat))
  cntf : w.frozen? ⟨s, 2, none⟩ = false
  row : SlB w (some ⟨B, 0, none⟩) len key
  maker : MakAt w g nt tk
  ne : s ≠ g
  neBs : B ≠ s
  neBg : B ≠ g
namespace Slr
variable {w w' : World} {s g B K len nt cE : Nat} {key tk : Nat → Nat}
theorem lt (h : Slr w s g B K len nt key tk cE) : s < w.heap.size := block_lt (a := ⟨s, 0, none⟩) h.enc
theorem of_blocks (h : Slr w s g B K len nt key tk cE) (hs : w'.heap[s]? = w.heap[s]?) (hg : w'.heap[g]? = w.heap[g]?) (hB : w'.heap[B]? = w.heap[B]?) (hz : w.heap.size ≤ w'.heap.size) : Slr w' s g B K len nt key tk cE :=
  ⟨(World.cell?_of_block hs).trans h.enc, (World.cell?_of_block hs).trans h.mak, (World.cell?_of_block hs).trans h.cnt, (World.frozen?_of_block hs).trans h.cntf,
    fun h0 => by
      obtain ⟨B', o, e, hB', hc⟩ := h.row h0
      cases e
      exact ⟨B, 0, rfl, Nat.lt_of_lt_of_le hB' hz, fun j hj => ⟨(hc j hj).1, (World.cell?_of_block hB).trans (hc j hj).2⟩⟩,
    h.maker.of_block hg, h.ne, h.neBs, h.neBg⟩
theorem keep (h : Slr w s g B K len nt key tk cE) (hl : 0 < len) (hb : Below w.heap.size w w') : Slr w' s g B K len nt key tk cE :=
  h.of_blocks (hb.block s h.lt) (hb.block g h.maker.lt) (hb.block B (by
    obtain ⟨B', o, e, hB', _⟩ := h.row hl
    cases e
    exact hB')) hb.size
end Slr
theorem OwnB.ownX {w : World} {base n : Nat} {v : Value} {f : Nat → Nat} (h : OwnB w base v n f) : ∃ A c g, v = .slice A n c ∧ (0 < c → A = some ⟨g, 0, none⟩) ∧ (0 < c → base ≤ g) ∧ c ≤ maxLen ∧ n ≤ c := by
  rcases h.2 with ⟨rfl, hn⟩ | ⟨g, cap, cur, rfl, hg, hh, h1, h2, _⟩
  · subst hn; exact ⟨none, 0, 0, rfl, fun h => absurd h (Nat.lt_irrefl 0), fun h => absurd h (Nat.lt_irrefl 0), by unfold maxLen; omega, Nat.le_refl _⟩
  · exact ⟨_, cap, g, rfl, fun _ => rfl, fun _ => hg, h2, h1⟩
theorem of_drewC' {w w' : World} (h : Below w.heap.size w.drew w') : Below w.heap.size w w' := ⟨h.os, h.tape, h.output, h.size, h.block⟩
set_option maxRecDepth 100000 in
theorem newx_wrong (len cap nt ct : Nat) (N : Int) (Ae At : Option Addr) (w : World) (hl : len ≤ 140737488351232) (h : wrong len N 0) :
    Calls Tryd.prog 11 #[.slice Ae len cap, .slice At nt ct, .int .i64 N] w fun e w' => e = .returned (.tuple #[.pointer none, .int .i64 1]) ∧ w = w' := by
  have HC := Lib.hid (check_arg Ae len cap N w hl h)
  clear h
  go_enter Tryd.func11, Tryd.ntmps11
  go_wp2_with fail
  refine HC.out.mono ?_
  rintro e w1 ⟨rfl, rfl⟩
  go_wp2_with fail
  go_ret2
  exact ⟨rfl, rfl⟩
set_option maxRecDepth 100000 in
set_option maxHeartbeats 1600000 in
theorem newx_any (len n cap N nt ct : Nat) (Ae At : Option Addr) (key tk : Nat → Nat) (w : World) (hn : n = 4 ∨ n = 8) (hl : 4 * n = len) (hE : SlB w Ae len key) (hEn : Ae = none → len = 0 ∧ cap = 0) (hN : N ≤ 9223372036854775807) (hnt : nt ≤ 100000000000000) (hct : nt ≤ ct) (hT : SlB w At nt tk) (ht : GT w) :
    Calls Tryd.prog 11 #[.slice Ae len cap, .slice At nt ct, .int .i64 (N : Nat)] w fun e w' => ∃ s g B cE, e = .returned (.tuple #[.pointer (some ⟨s, 0, none⟩), .int .i64 0]) ∧ Slr w' s g B N len nt key tk cE ∧ w.heap.size ≤ s ∧ w.heap.size ≤ g ∧ w.heap.size ≤ B ∧ Below w.heap.size w w' := by
  have HC := Lib.hid (check_any Ae len n cap N key w hn hl hE hN)
  have HE := Lib.hid hE
  have HEN := Lib.hid hEn
  have HT := Lib.hid hT
  have HG := Lib.hid ht
  have HLL := Lib.hid (show len ≤ 100000000000000 ∧ 0 < len by omega)
  have HNT := Lib.hid hnt
  have HCT := Lib.hid hct
  have hNi : (N : Int) ≤ 9223372036854775807 := by omega
  have HYE := Lib.hid (show ∀ j, j < len → key j < 256 from fun j hj => hE.byte hj)
  clear hn hl hE hEn hN hnt hct hT ht
  go_enter Tryd.func11, Tryd.ntmps11
  go_wp2_with fail
  refine HC.out.mono ?_
  rintro e w1 ⟨rfl, h1⟩
  have H1 := Lib.hid h1
  clear h1 HC
  go_wp2_with fail
  refine (clone_any Ae len cap key w1 HLL.out.1 (HE.out.keep H1.out) HEN.out).mono ?_
  rintro e w2 ⟨⟨v, rfl, h1⟩, h2⟩
  obtain ⟨A, cE, B, hv, h3, h4, h5, h6⟩ := h1.ownX
  have h7 : 0 < cE := Nat.lt_of_lt_of_le HLL.out.2 h6
  obtain rfl := h3 h7
  subst hv
  obtain ⟨A2, c2, e2, h8⟩ := OwnB.slice h1 HYE.out
  cases e2
  have HB := Lib.hid (h4 h7)
  have HR2 := Lib.hid h8
  have H2 := Lib.hid (H1.out.trans (h2.mono H1.out.size))
  have HZ2 := Lib.hid h2.size
  clear h1 h2 h3 h4 h5 h6 h7 h8
  go_wp2_with fail
  refine (mnew_any At nt ct tk w2 HNT.out HCT.out (HT.out.keep H2.out) (HG.out.keep H2.out)).mono ?_
  rintro e w3 ⟨g, rfl, h1, h2, h3⟩
  have HGG := Lib.hid h1
  have HM3 := Lib.hid h2
  have HR3 := Lib.hid (HR2.out.keep h3)
  have H3 := Lib.hid (H2.out.trans (h3.mono H2.out.size))
  have HBL := Lib.hid (show B < w2.heap.size from by
    obtain ⟨B', o, e, hB', _⟩ := HR2.out HLL.out.2
    cases e
    exact hB')
  have HZ3 := Lib.hid h3.size
  clear h1 h2 h3 HR2
  go_wp2_with fail
  obtain ⟨s, hs⟩ : ∃ s, w3.heap.size = s := ⟨_, rfl⟩
  have c0 := cell_made w3 #[.slice (some ⟨B, 0, none⟩) len cE, .pointer (some ⟨g, 0, none⟩), .int .u64 0] 56 0 s hs rfl
  have c1 := cell_made w3 #[.slice (some ⟨B, 0, none⟩) len cE, .pointer (some ⟨g, 0, none⟩), .int .u64 0] 56 1 s hs rfl
  have c2 := cell_made w3 #[.slice (some ⟨B, 0, none⟩) len cE, .pointer (some ⟨g, 0, none⟩), .int .u64 0] 56 2 s hs rfl
  have f2 : (w3.alloc (.cells #[.slice (some ⟨B, 0, none⟩) len cE, .pointer (some ⟨g, 0, none⟩), .int .u64 0] 56)).frozen? ⟨s, 2, none⟩ = false := by subst hs; exact World.frozen?_alloc_at _ _ _ _ rfl
  have B4 := alloc_below w3 (.cells #[.slice (some ⟨B, 0, none⟩) len cE, .pointer (some ⟨g, 0, none⟩), .int .u64 0] 56)
  rw [hs]
  generalize w3.alloc (.cells #[.slice (some ⟨B, 0, none⟩) len cE, .pointer (some ⟨g, 0, none⟩), .int .u64 0] 56) = w4 at *
  have hgs : g < s := by rw [← hs]; exact HM3.out.lt
  have hBs : B < s := by rw [← hs]; exact Nat.lt_of_lt_of_le HBL.out HZ3.out
  have hBg : B < g := Nat.lt_of_lt_of_le HBL.out HGG.out
  have hsw : w.heap.size ≤ s := by rw [← hs]; exact H3.out.size
  have HS := Lib.hid (show Slr (w4.setCell ⟨s, 2, none⟩ (.int .u64 (N : Nat))) s g B N len nt key tk cE from
    ⟨(cell_off (by decide) _).trans c0, (cell_off (by decide) _).trans c1, World.cell?_setCell_same w4 ⟨s, 2, none⟩ _ c2, by rw [World.frozen?_setCell]; exact f2,
      (HR3.out.keep B4).chg ((Chg.refl s w4).setCell (a := ⟨s, 2, none⟩) (Or.inl rfl) _) (fun _ B' o e => by cases e; exact Nat.ne_of_lt hBs),
      (HM3.out.keep B4).chg ((Chg.refl s w4).setCell (a := ⟨s, 2, none⟩) (Or.inl rfl) _) (Nat.ne_of_lt hgs), Nat.ne_of_gt hgs, Nat.ne_of_lt hBs, Nat.ne_of_lt hBg⟩)
  have HST := Lib.hid (count_store s 2 (N : Nat) _ w4 c2 f2)
  have HBW := Lib.hid ((H3.out.trans (B4.mono H3.out.size)).setCell (p := ⟨s, 2, none⟩) hsw (.int .u64 (N : Nat)))
  have HQ := Lib.hid (show w.heap.size ≤ s ∧ w.heap.size ≤ g ∧ w.heap.size ≤ B from ⟨hsw, Nat.le_trans H2.out.size HGG.out, Nat.le_trans H1.out.size HB.out⟩)
  clear c0 c1 c2 f2 B4 hs hgs hBs hBg hsw
  refine HST.out.mono ?_
  rintro e w5 ⟨rfl, rfl⟩
  go_wp2_with fail
  go_ret2
  exact ⟨s, g, B, cE, rfl, HS.out, HQ.out.1, HQ.out.2.1, HQ.out.2.2, HBW.out⟩
/-- what Next answers -/
theorem next_low (s g B K len nt cE : Nat) (key tk : Nat → Nat) (w : World) (h : Slr w s g B K len nt key tk cE) (hK : K ≤ 9223372036854775807) :
    Calls Tryd.prog 13 #[.pointer (some ⟨s, 0, none⟩)] w fun e w' => e = .returned (.int .i64 (K : Nat)) ∧ w = w' := by
  have HL := Lib.hid (count_load s 2 _ w h.cnt)
  have hKi : (K : Int) ≤ 9223372036854775807 := by omega
  clear h hK
  go_enter Tryd.func13, Tryd.ntmps13
  go_wp2_with fail
  refine HL.out.mono ?_
  rintro e w1 ⟨rfl, rfl⟩
  go_wp2_with fail
  go_ret
  exact ⟨rfl, rfl⟩
theorem next_high (s g B K len nt cE : Nat) (key tk : Nat → Nat) (w : World) (h : Slr w s g B K len nt key tk cE) (hK : 9223372036854775807 < K) :
    Calls Tryd.prog 13 #[.pointer (some ⟨s, 0, none⟩)] w fun e w' => e = .returned (.int .i64 9223372036854775807) ∧ w = w' := by
  have HL := Lib.hid (count_load s 2 _ w h.cnt)
  have hKi : (9223372036854775807 : Int) < K := by omega
  clear h hK
  go_enter Tryd.func13, Tryd.ntmps13
  go_wp2_with fail
  refine HL.out.mono ?_
  rintro e w1 ⟨rfl, rfl⟩
  go_wp2_with fail
  go_ret
  exact ⟨rfl, rfl⟩
end Go.Proofs.YtgcdnhjjoidpmaaDoor
/- Contracts of package box: a Sealer's Seal. -/
namespace Go.Proofs.YtgcdnhjjoidpmaaDoor
open Go.RowKit
theorem ord.makes_loadV {P : Program} {o : Oper} {a : Act} {w : World} {N : Value → World → Prop} {t : TypeId} {x : Operand} {vx u : Value} (ho : o.op = .load t x) (hx : a.eval x = vx) (hrun : (Instr.loadAt t vx).run P w = .ok u w) (hN : N u w) : makes P o a w N := by
  unfold makes
  have : (execOp a.eval o).run P w = .ok (.value u) w := by
    simp only [execOp, ho, hx, Sem.run_bind]
    rw [hrun]; rfl
  rw [this]; exact hN
theorem ord.makes_extract {P : Program} {o : Oper} {a : Act} {w : World} {N : Value → World → Prop} {x : Operand} {i : Nat} {vs : Array Value} {u : Value} (ho : o.op = .extract x i) (hx : a.eval x = .tuple vs) (hv : vs[i]? = some u) (hN : N u w) : makes P o a w N := by
  unfold makes
  have : (execOp a.eval o).run P w = .ok (.value u) w := by
    simp [execOp, ho, hx, Instr.extract, hv]
  rw [this]; exact hN
theorem ord.makes_call5 {P : Program} {o : Oper} {a : Act} {w : World} {N : Value → World → Prop} {F : FuncId} {fn : Func} {o1 o2 o3 o4 o5 : Operand} {ts : Array TypeId} {v1 v2 v3 v4 v5 : Value} {post : Ending → World → Prop} (hf : P.funcs[F]? = some fn) (hname : (fn.name == "runtime.NumGoroutine") = false) (hb : fn.body.isNone = false)
    (ho : o.op = .call { callee := .value (.func F), args := #[o1, o2, o3, o4, o5], argTypes := ts }) (h1 : a.eval o1 = v1) (h2 : a.eval o2 = v2) (h3 : a.eval o3 = v3) (h4 : a.eval o4 = v4) (h5 : a.eval o5 = v5) (hc : Calls P F #[v1, v2, v3, v4, v5] w post) (hN : ∀ e w', post e w' → ∃ v, e = .returned v ∧ N v w') : makes P o a w N :=
  makes_call hf hname hb ho (by simp [h1, h2, h3, h4, h5]) hc hN
theorem sub64 (x : Nat) (hx : x < 18446744073709551615) : IntKind.u64.wrap (((x + 1 : Nat) : Int) - 1) = (x : Nat) := by
  rw [IntKind.wrap_u64]; omega
/-- the blocks that a Sealer's Seal writes -/
def S2 (s g k : Nat) : Prop := k = s ∨ k = g
/-- what a Sealer's Seal leaves -/
def SrP (s g B K len nt : Nat) (key tk : Nat → Nat) (cE : Nat) (k : Nat) (f : Nat → Nat) (E : Nat) (w : World) (e : Ending) (w' : World) : Prop :=
  ∃ A c, e = .returned (.tuple #[.slice A k c, .int .i64 (E : Nat)]) ∧ OwnB w' w.heap.size (.slice A k c) k f ∧ Slr w' s g B K len nt key tk cE ∧ ChgS (S2 s g) w w'
theorem slr_long (s g B K len nt cE na ca m cp : Nat) (Ab P : Option Addr) (key tk : Nat → Nat) (w : World) (h : Slr w s g B K len nt key tk cE) (hm : 65536 < m) :
    Calls Tryd.prog 12 #[.pointer (some ⟨s, 0, none⟩), .slice Ab na ca, .slice P m cp] w (SrP s g B K len nt key tk cE 0 (fun _ => 0) 2 w) := by
  have HS := Lib.hid h
  have hd : decide ((65536 : Int) < (m : Nat)) = true := by rw [decide_eq_true_eq]; omega
  clear h hm
  go_enter Tryd.func12, Tryd.ntmps12
  go_wp2_with fail
  go_ret2
  exact ⟨none, 0, rfl, OwnB.nil _ _ _, HS.out, ChgS.refl _ _⟩
theorem Slr.count {w : World} {s g B K len nt cE : Nat} {key tk : Nat → Nat} (h : Slr w s g B K len nt key tk cE) (K' : Nat) : Slr (w.setCell ⟨s, 2, none⟩ (.int .u64 (K' : Nat))) s g B K' len nt key tk cE :=
  have hc := (Chg.refl s w).setCell (a := ⟨s, 2, none⟩) (Or.inl rfl) (.int .u64 (K' : Nat))
  ⟨(cell_off (by decide) _).trans h.enc, (cell_off (by decide) _).trans h.mak, World.cell?_setCell_same w ⟨s, 2, none⟩ _ h.cnt, by rw [World.frozen?_setCell]; exact h.cntf,
    h.row.chg hc (fun _ B' o e => by cases e; exact h.neBs), h.maker.chg hc (fun e => h.ne e.symm), h.ne, h.neBs, h.neBg⟩
theorem slr_full (s g B K len nt cE na ca m cp : Nat) (Ab P : Option Addr) (key tk : Nat → Nat) (w : World) (h : Slr w s g B K len nt key tk cE) (hm : m ≤ 65536) (hK : 9223372036854775807 ≤ K) (hK2 : K < 18446744073709551615) :
    Calls Tryd.prog 12 #[.pointer (some ⟨s, 0, none⟩), .slice Ab na ca, .slice P m cp] w (SrP s g B (K + 1) len nt key tk cE 0 (fun _ => 0) 2 w) := by
  have HS := Lib.hid (h.count (K + 1))
  have HC := Lib.hid (count_add s 2 K w hK2 h.cnt h.cntf)
  have hsb := sub64 K hK2
  have hd : decide ((65536 : Int) < (m : Nat)) = false := by rw [decide_eq_false_iff_not]; omega
  have hd2 : decide ((9223372036854775807 : Int) ≤ (K : Nat)) = true := by rw [decide_eq_true_eq]; omega
  obtain ⟨K1, hK1⟩ : ∃ K1, K + 1 = K1 := ⟨_, rfl⟩
  rw [hK1] at HS HC hsb ⊢
  clear h hm hK1 hK hK2
  go_enter Tryd.func12, Tryd.ntmps12
  go_wp2_with fail
  refine HC.out.mono ?_
  rintro e w1 ⟨rfl, hw⟩
  have HW := Lib.hid hw
  clear hw
  go_wp2_with fail
  go_ret2
  exact ⟨none, 0, rfl, OwnB.nil _ _ _, by rw [HW.out]; exact HS.out, by rw [HW.out]; exact (ChgS.refl _ w).setCell (a := ⟨s, 2, none⟩) (Or.inl rfl) _⟩
--DEFS sr
def srG (g _nt : Nat) (_tk : Nat → Nat) (s B len cE K na ca m cp : Nat) (Ab P : Option Addr) (k : Nat) (f : Nat → Nat) (bs : Nat) : Nat → Value → World → Prop
  | 0, v, _ => v = .pointer (some ⟨s, 0, none⟩)
  | 1, v, _ => v = .pointer (some ⟨s, 0, none⟩)
  | 2, v, _ => v = .pointer (some ⟨s, 0, none⟩)
  | 3, v, _ => v = .slice (some ⟨B, 0, none⟩) len cE
  | 4, v, _ => v = .pointer (some ⟨s, 0, none⟩)
  | 5, v, _ => v = .pointer (some ⟨s, 0, none⟩)
  | 6, v, _ => v = .pointer (some ⟨s, 1, none⟩)
  | 7, v, _ => v = .pointer (some ⟨g, 0, none⟩)
  | 8, v, _ => v = .int .u64 (K : Nat)
  | 9, v, _ => v = .int .i64 (K : Nat)
  | 10, v, _ => v = .slice Ab na ca
  | 11, v, _ => v = .slice P m cp
  | 12, v, w => ∃ A c, v = .tuple #[.slice A k c, .int .i64 0] ∧ g < bs ∧ OwnB w bs (.slice A k c) k f
  | 13, v, w => ∃ A c, v = .slice A k c ∧ g < bs ∧ OwnB w bs (.slice A k c) k f
  | 14, v, _ => v = .int .i64 0
  | _, _, _ => True
theorem srG_stays (g nt : Nat) (tk : Nat → Nat) (s B len cE K na ca m cp : Nat) (Ab P : Option Addr) (k : Nat) (f : Nat → Nat) (bs : Nat) : ∀ i v w w', srG g nt tk s B len cE K na ca m cp Ab P k f bs i v w → RelG g nt tk w w' → srG g nt tk s B len cE K na ca m cp Ab P k f bs i v w'
  | 0, _, _, _, h, _ => h
  | 1, _, _, _, h, _ => h
  | 2, _, _, _, h, _ => h
  | 3, _, _, _, h, _ => h
  | 4, _, _, _, h, _ => h
  | 5, _, _, _, h, _ => h
  | 6, _, _, _, h, _ => h
  | 7, _, _, _, h, _ => h
  | 8, _, _, _, h, _ => h
  | 9, _, _, _, h, _ => h
  | 10, _, _, _, h, _ => h
  | 11, _, _, _, h, _ => h
  | 12, v, w, w', h_, hb => by
    obtain ⟨A, c, h1, h2, h3⟩ := h_; exact ⟨A, c, h1, h2, h3.chg hb.1 h2⟩
  | 13, v, w, w', h_, hb => by
    obtain ⟨A, c, h1, h2, h3⟩ := h_; exact ⟨A, c, h1, h2, h3.chg hb.1 h2⟩
  | 14, _, _, _, h, _ => h
  | _ + 15, _, _, _, _, _ => trivial
--END DEFS sr
set_option maxRecDepth 100000 in
set_option maxHeartbeats 1600000 in
theorem slr_any (s g B K n len nt cE na ca m cp : Nat) (Ab P : Option Addr) (key tk about p : Nat → Nat) (w : World) (hn : n = 4 ∨ n = 8) (hl : 4 * n = len) (h : Slr w s g B K len nt key tk cE) (hm : m ≤ 65536) (hK : K < 9223372036854775807) (hA : SlB w Ab na about) (hP : SlB w P m p) (hna : na ≤ 100000000000) (hac : na ≤ ca)
    (hOA : OffS (S2 s g) Ab na) (hOP : OffS (S2 s g) P m) (hkey : By nt tk) (ht : GT w) (hG : ¬ S2 s g 1 ∧ ¬ S2 s g 0) :
    Calls Tryd.prog 12 #[.pointer (some ⟨s, 0, none⟩), .slice Ab na ca, .slice P m cp] w (SrP s g B (K + 1) len nt key tk cE (24 + m) (sealF nt tk na about K m (xorf n key K 0 p)) 0 w) := by
  have HC := Lib.hid (count_add s 2 K w (by omega) h.cnt h.cntf)
  have hsb := sub64 K (by omega)
  have hch := (Chg.refl s w).setCell (a := ⟨s, 2, none⟩) (Or.inl rfl) (.int .u64 ((K + 1 : Nat) : Int))
  have hchs := (ChgS.refl (S2 s g) w).setCell (a := ⟨s, 2, none⟩) (Or.inl rfl) (.int .u64 ((K + 1 : Nat) : Int))
  have hs1 := h.count (K + 1)
  have hA1 := hA.chgS hchs hOA
  have hP1 := hP.chgS hchs hOP
  have ht1 : GT (w.setCell ⟨s, 2, none⟩ (.int .u64 ((K + 1 : Nat) : Int))) := ht.chg hch ⟨fun e => hG.1 (Or.inl e), fun e => hG.2 (Or.inl e)⟩
  have hz1 : (w.setCell ⟨s, 2, none⟩ (.int .u64 ((K + 1 : Nat) : Int))).heap.size = w.heap.size := size_setCell _ _ _
  have HG2 := Lib.hid (show 1 ≠ g ∧ 0 ≠ g from ⟨fun e => hG.1 (Or.inr e), fun e => hG.2 (Or.inr e)⟩)
  have HOA := Lib.hid (show 0 < na → ∀ B o, Ab = some ⟨B, o, none⟩ → B ≠ g from fun h0 B o e hb => hOA h0 B o e (Or.inr hb))
  have HOPg := Lib.hid (show 0 < m → ∀ B o, P = some ⟨B, o, none⟩ → B ≠ g from fun h0 B o e hb => hOP h0 B o e (Or.inr hb))
  have HN := Lib.hid hn
  have HL := Lib.hid hl
  have HM2 := Lib.hid hm
  have HKK := Lib.hid hK
  have HNA := Lib.hid hna
  have HAC := Lib.hid hac
  have HKY := Lib.hid hkey
  have hKi : (K : Int) ≤ 9223372036854775806 := by omega
  have hd : decide ((65536 : Int) < (m : Nat)) = false := by rw [decide_eq_false_iff_not]; omega
  have hd2 : decide ((9223372036854775807 : Int) ≤ (K : Nat)) = false := by rw [decide_eq_false_iff_not]; omega
  obtain ⟨bs, hbs⟩ : ∃ bs, w.heap.size = bs := ⟨_, rfl⟩
  have HBS := Lib.hid hbs
  rw [hbs] at hz1
  obtain ⟨f, hf⟩ : ∃ f, sealF nt tk na about K m (xorf n key K 0 p) = f := ⟨_, rfl⟩
  have HFF := Lib.hid hf
  rw [hf]
  obtain ⟨K1, hK1⟩ : ∃ K1, K + 1 = K1 := ⟨_, rfl⟩
  rw [hK1] at HC hsb hs1 hchs hA1 hP1 ht1 hz1 ⊢
  have HCS := Lib.hid hchs
  generalize hW : w.setCell ⟨s, 2, none⟩ (.int .u64 (K1 : Nat)) = w1 at *
  have HS1 := Lib.hid hs1
  have HA1 := Lib.hid hA1
  have HP1 := Lib.hid hP1
  have HT1 := Lib.hid ht1
  have HZ1 := Lib.hid hz1
  have HGB := Lib.hid (show g < bs by rw [← hz1]; exact hs1.maker.lt)
  clear hn hl h hm hK hA hP hna hac hOA hOP hkey ht hG hch hchs hs1 hA1 hP1 ht1 hz1 hbs hf hK1 hW
  go_enter Tryd.func12, Tryd.ntmps12
  go_wp2_with fail
  refine HC.out.mono ?_
  rintro e w2 ⟨rfl, rfl⟩
  have HRR := Lib.hid (RelG.pre g nt tk)
  have HF0 := Lib.hid (show ∀ w : World, (Instr.fieldAt 56 (.pointer (some ⟨s, 0, none⟩)) 0).run Tryd.prog w = .ok (.pointer (some ⟨s, 0, none⟩)) w from fun w => by go_simp)
  have HF1 := Lib.hid (show ∀ w : World, (Instr.fieldAt 56 (.pointer (some ⟨s, 0, none⟩)) 1).run Tryd.prog w = .ok (.pointer (some ⟨s, 1, none⟩)) w from fun w => by go_simp)
  have HL0 := Lib.hid (show ∀ w5, RelG g nt tk w2.drew w5 → (Instr.loadAt 22 (.pointer (some ⟨s, 0, none⟩))).run Tryd.prog w5 = .ok (.slice (some ⟨B, 0, none⟩) len cE) w5 from fun w5 hb => by
    have hc := ((of_drewC hb.1).cell (o := 0) HS1.out.lt HS1.out.ne).trans HS1.out.enc
    clear hb
    go_simp)
  have HL1 := Lib.hid (show ∀ w5, RelG g nt tk w2.drew w5 → (Instr.loadAt 41 (.pointer (some ⟨s, 1, none⟩))).run Tryd.prog w5 = .ok (.pointer (some ⟨g, 0, none⟩)) w5 from fun w5 hb => by
    have hc := ((of_drewC hb.1).cell (o := 1) HS1.out.lt HS1.out.ne).trans HS1.out.mak
    clear hb
    go_simp)
  have HCV := Lib.hid (show ∀ w : World, (convert 46 3 (.int .u64 (K : Nat))).run Tryd.prog w = .ok (.int .i64 (K : Nat)) w from fun w => by
    have h2 : IntKind.i64.wrap (K : Int) = (K : Nat) := IntWalk.i64_in _ (by omega)
    go_simp)
  have HZ := Lib.hid (show ∀ w5, RelG g nt tk w2.drew w5 → bs ≤ w5.heap.size from fun w5 h => by rw [← HZ1.out]; exact h.1.size)
  have HSE := Lib.hid (show ∀ w5, RelG g nt tk w2.drew w5 → Calls Tryd.prog 14 #[.slice (some ⟨B, 0, none⟩) len cE, .pointer (some ⟨g, 0, none⟩), .int .i64 (K : Nat), .slice Ab na ca, .slice P m cp] w5 (SealG g nt tk (24 + m) f 0 w5) from fun w5 hb => by
    have hc := of_drewC hb.1
    rw [← HFF.out]
    exact seal_any g nt len n cE K na ca m cp (some ⟨B, 0, none⟩) Ab P tk key about p w5 HN.out HL.out (HS1.out.row.chg hc (fun _ B' o e => by cases e; exact HS1.out.neBg)) (HA1.out.chg hc HOA.out) (HP1.out.chg hc HOPg.out) (by have := HKK.out; omega) HM2.out HNA.out HAC.out HKY.out (hb.2 (HS1.out.maker.of_block rfl)) (HT1.out.chg hc HG2.out) HG2.out HOA.out)
  clear HA1 HP1 HT1 HC
  go_wp2_with fail
  refine ord.wp_region_ordR (RelG g nt tk) 15 [[], [0], [1], [2], [], [4], [5], [6], [], [8], [], [], [3, 7, 9, 10, 11], [12], [12]] [(0, 19), (1, 20), (2, 21), (3, 22), (4, 23), (5, 24), (6, 25), (7, 26), (8, 27), (9, 28), (10, 29), (11, 30), (12, 31), (13, 32), (14, 33)] (srG g nt tk s B len cE K na ca m cp Ab P (24 + m) f bs) (by kernel_rfl) (by kernel_rfl) (by kernel_rfl) HRR.out (srG_stays _ _ _ _ _ _ _ _ _ _ _ _ _ _ _ _ _) ((ord.steps_cons ?_ (ord.steps_cons ?_ (ord.steps_cons ?_ (ord.steps_cons ?_ (ord.steps_cons ?_ (ord.steps_cons ?_ (ord.steps_cons ?_ (ord.steps_cons ?_ (ord.steps_cons ?_ (ord.steps_cons ?_ (ord.steps_cons ?_ (ord.steps_cons ?_ (ord.steps_cons ?_ (ord.steps_cons ?_ (ord.steps_cons ?_ ord.steps_nil)))))))))))))))) (fun w' hb => RelG.of_drew hb) ?_
  --STEPS sr
  · intro o ho x w hb hG
    obtain rfl := Option.some.inj ho
    clear ho
    refine Or.inl ⟨ord.want0 rfl, ?_⟩
    exact ord.makes_move rfl ⟨HRR.out.refl _, rfl⟩
  · intro o ho x w hb hG
    obtain rfl := Option.some.inj ho
    clear ho
    have h19 : x 0 = .pointer (some ⟨s, 0, none⟩) := hG (0, 19) (List.mem_of_getElem? (i := 0) rfl) rfl
    refine Or.inl ⟨ord.want0 rfl, ?_⟩
    exact ord.makes_nilCheck rfl h19 ⟨HRR.out.refl _, rfl⟩
  · intro o ho x w hb hG
    obtain rfl := Option.some.inj ho
    clear ho
    have h20 : x 1 = .pointer (some ⟨s, 0, none⟩) := hG (1, 20) (List.mem_of_getElem? (i := 1) rfl) rfl
    refine Or.inl ⟨ord.want0 rfl, ?_⟩
    exact ord.makes_fieldAddr rfl h20 (HF0.out w) ⟨HRR.out.refl _, rfl⟩
  · intro o ho x w hb hG
    obtain rfl := Option.some.inj ho
    clear ho
    have h21 : x 2 = .pointer (some ⟨s, 0, none⟩) := hG (2, 21) (List.mem_of_getElem? (i := 2) rfl) rfl
    refine Or.inl ⟨ord.want0 rfl, ?_⟩
    exact ord.makes_loadV rfl h21 (HL0.out w hb) ⟨HRR.out.refl _, rfl⟩
  · intro o ho x w hb hG
    obtain rfl := Option.some.inj ho
    clear ho
    refine Or.inl ⟨ord.want0 rfl, ?_⟩
    exact ord.makes_move rfl ⟨HRR.out.refl _, rfl⟩
  · intro o ho x w hb hG
    obtain rfl := Option.some.inj ho
    clear ho
    have h23 : x 4 = .pointer (some ⟨s, 0, none⟩) := hG (4, 23) (List.mem_of_getElem? (i := 4) rfl) rfl
    refine Or.inl ⟨ord.want0 rfl, ?_⟩
    exact ord.makes_nilCheck rfl h23 ⟨HRR.out.refl _, rfl⟩
  · intro o ho x w hb hG
    obtain rfl := Option.some.inj ho
    clear ho
    have h24 : x 5 = .pointer (some ⟨s, 0, none⟩) := hG (5, 24) (List.mem_of_getElem? (i := 5) rfl) rfl
    refine Or.inl ⟨ord.want0 rfl, ?_⟩
    exact ord.makes_fieldAddr rfl h24 (HF1.out w) ⟨HRR.out.refl _, rfl⟩
  · intro o ho x w hb hG
    obtain rfl := Option.some.inj ho
    clear ho
    have h25 : x 6 = .pointer (some ⟨s, 1, none⟩) := hG (6, 25) (List.mem_of_getElem? (i := 6) rfl) rfl
    refine Or.inl ⟨ord.want0 rfl, ?_⟩
    exact ord.makes_loadV rfl h25 (HL1.out w hb) ⟨HRR.out.refl _, rfl⟩
  · intro o ho x w hb hG
    obtain rfl := Option.some.inj ho
    clear ho
    refine Or.inl ⟨ord.want0 rfl, ?_⟩
    exact ord.makes_move rfl ⟨HRR.out.refl _, rfl⟩
  · intro o ho x w hb hG
    obtain rfl := Option.some.inj ho
    clear ho
    have h27 : x 8 = .int .u64 (K : Nat) := hG (8, 27) (List.mem_of_getElem? (i := 8) rfl) rfl
    refine Or.inl ⟨ord.want0 rfl, ?_⟩
    exact ord.makes_conv rfl h27 (HCV.out w) ⟨HRR.out.refl _, rfl⟩
  · intro o ho x w hb hG
    obtain rfl := Option.some.inj ho
    clear ho
    refine Or.inl ⟨ord.want0 rfl, ?_⟩
    exact ord.makes_move rfl ⟨HRR.out.refl _, rfl⟩
  · intro o ho x w hb hG
    obtain rfl := Option.some.inj ho
    clear ho
    refine Or.inl ⟨ord.want0 rfl, ?_⟩
    exact ord.makes_move rfl ⟨HRR.out.refl _, rfl⟩
  · intro o ho x w hb hG
    obtain rfl := Option.some.inj ho
    clear ho
    have h22 : x 3 = .slice (some ⟨B, 0, none⟩) len cE := hG (3, 22) (List.mem_of_getElem? (i := 3) rfl) rfl
    have h26 : x 7 = .pointer (some ⟨g, 0, none⟩) := hG (7, 26) (List.mem_of_getElem? (i := 7) rfl) rfl
    have h28 : x 9 = .int .i64 (K : Nat) := hG (9, 28) (List.mem_of_getElem? (i := 9) rfl) rfl
    have h29 : x 10 = .slice Ab na ca := hG (10, 29) (List.mem_of_getElem? (i := 10) rfl) rfl
    have h30 : x 11 = .slice P m cp := hG (11, 30) (List.mem_of_getElem? (i := 11) rfl) rfl
    refine Or.inl ⟨ord.want0 rfl, ?_⟩
    exact ord.makes_call5 Tryd.func14 (by kernel_rfl) (by kernel_rfl) rfl h22 h26 h28 h29 h30 (HSE.out w hb) (fun e w' h => by obtain ⟨A, c, he, h1, h2, h3⟩ := h; exact ⟨_, he, ⟨h3, fun _ => h2⟩, A, c, rfl, HGB.out, h1.less (HZ.out w hb)⟩)
  · intro o ho x w hb hG
    obtain rfl := Option.some.inj ho
    clear ho
    have h31 : srG g nt tk s B len cE K na ca m cp Ab P (24 + m) f bs 12 (x 12) w := hG (12, 31) (List.mem_of_getElem? (i := 12) rfl) rfl
    refine Or.inl ⟨ord.want0 rfl, ?_⟩
    obtain ⟨A, c, hv, h1, h2⟩ := h31
    exact ord.makes_extract rfl hv rfl ⟨HRR.out.refl _, A, c, rfl, h1, h2⟩
  · intro o ho x w hb hG
    obtain rfl := Option.some.inj ho
    clear ho
    have h31 : srG g nt tk s B len cE K na ca m cp Ab P (24 + m) f bs 12 (x 12) w := hG (12, 31) (List.mem_of_getElem? (i := 12) rfl) rfl
    refine Or.inl ⟨ord.want0 rfl, ?_⟩
    obtain ⟨A, c, hv, h1, h2⟩ := h31
    exact ord.makes_extract rfl hv rfl ⟨HRR.out.refl _, rfl⟩
  --END STEPS sr
  · intro x w5 hb hG
    obtain ⟨A9, c9, e9, _, h9⟩ : ∃ A c, x 13 = .slice A (24 + m) c ∧ g < bs ∧ OwnB w5 bs (.slice A (24 + m) c) (24 + m) f := hG (13, 32) (List.mem_of_getElem? (i := 13) rfl)
    have e10 : x 14 = .int .i64 0 := hG (14, 33) (List.mem_of_getElem? (i := 14) rfl)
    clear hG
    have H9 := Lib.hid h9
    have hsn : ∀ o, w5.cell? ⟨s, o, none⟩ = w2.cell? ⟨s, o, none⟩ := fun o => hb.1.cell HS1.out.lt HS1.out.ne
    have HS5 := Lib.hid (show Slr w5 s g B K1 len nt key tk cE from ⟨(hsn 0).trans HS1.out.enc, (hsn 1).trans HS1.out.mak, (hsn 2).trans HS1.out.cnt, (hb.1.frozen HS1.out.lt HS1.out.ne).trans HS1.out.cntf, HS1.out.row.chg hb.1 (fun _ B' o e => by cases e; exact HS1.out.neBg), hb.2 HS1.out.maker, HS1.out.ne, HS1.out.neBs, HS1.out.neBg⟩)
    have HC5 := Lib.hid (HCS.out.trans (ChgS.of_chg hb.1 (Or.inr rfl)))
    clear hb h9 hsn
    simp only [ord.puts, ord.put', if_true]
    rw [e9, e10]
    clear e9 e10
    simp only [List.drop_succ_cons, List.drop_zero]
    go_wp2_with fail
    go_ret2
    exact ⟨A9, c9, rfl, by rw [HBS.out]; exact H9.out, HS5.out, HC5.out⟩
end Go.Proofs.YtgcdnhjjoidpmaaDoor
/- BoxSealers. -/
namespace Go.Proofs.YtgcdnhjjoidpmaaDoor
open Go.RowKit
set_option maxRecDepth 100000 in
set_option maxHeartbeats 1600000 in
theorem slrs_out (len cap nt ct na ca m cp : Nat) (N : Int) (Ae At Ab P : Option Addr) (w : World) (ht : GT w) (h : ¬ (len ≤ 1024 ∧ nt ≤ 1024 ∧ na ≤ 1024 ∧ m ≤ 1024)) :
    Calls Tryd.prog 4 #[.slice Ae len cap, .slice At nt ct, .int .i64 N, .slice Ab na ca, .slice P m cp] w fun e w' => e = .returned (.bool true) ∧ Below w.heap.size w w' := by
  have HS := Lib.hid (small8_any w ht)
  have HF := Lib.hid (fun w => fits4_not w Ae At Ab P len nt na m cap ct ca cp h)
  clear ht h
  go_enter Tryd.func4, Tryd.ntmps4
  go_wp2_with fail
  refine HS.out.mono ?_
  rintro e w1 ⟨rfl, h1⟩
  have H1 := Lib.hid h1
  clear h1
  go_wp2_with fail
  refine (HF.out w1).mono ?_
  rintro e w2 ⟨rfl, h2⟩
  have H2 := Lib.hid (H1.out.trans (h2.mono H1.out.size))
  clear h2
  go_wp2_with fail
  go_ret
  exact ⟨rfl, H2.out⟩
set_option maxRecDepth 100000 in
set_option maxHeartbeats 1600000 in
theorem slrs_end (len cap nt ct na ca m cp : Nat) (N : Int) (Ae At Ab P : Option Addr) (w : World) (ht : GT w) (hl : len ≤ 1024) (hnt : nt ≤ 1024) (hna : na ≤ 1024) (hm : m ≤ 1024) (h : N < 0 ∨ N = 9223372036854775807) :
    Calls Tryd.prog 4 #[.slice Ae len cap, .slice At nt ct, .int .i64 N, .slice Ab na ca, .slice P m cp] w fun e w' => e = .returned (.bool true) ∧ Below w.heap.size w w' := by
  have HS := Lib.hid (small8_any w ht)
  have HF := Lib.hid (fun w => fits4_all w Ae At Ab P len nt na m cap ct ca cp hl hnt hna hm)
  have hx : decide (N < 0) = true ∨ (decide (N < 0) = false ∧ (N == 9223372036854775807) = true) := by
    simp only [decide_eq_true_eq, decide_eq_false_iff_not, beq_iff_eq]
    omega
  clear ht hl hnt hna hm h
  rcases hx with h1 | ⟨h1, h2⟩
  all_goals
    go_enter Tryd.func4, Tryd.ntmps4
    go_wp2_with fail
    refine HS.out.mono ?_
    rintro e w1 ⟨rfl, h1⟩
    have H1 := Lib.hid h1
    clear h1
    go_wp2_with fail
    refine (HF.out w1).mono ?_
    rintro e w2 ⟨rfl, h2⟩
    have H2 := Lib.hid (H1.out.trans (h2.mono H1.out.size))
    clear h2
    go_wp2_with fail
    go_ret
    exact ⟨rfl, H2.out⟩
set_option maxRecDepth 100000 in
set_option maxHeartbeats 1600000 in
theorem slrs_wrong (len cap nt ct na ca m cp N : Nat) (Ae At Ab P : Option Addr) (w : World) (ht : GT w) (hl : len ≤ 1024) (hnt : nt ≤ 1024) (hna : na ≤ 1024) (hm : m ≤ 1024) (hN : N < 9223372036854775807) (h : wrong len (N : Nat) 0) :
    Calls Tryd.prog 4 #[.slice Ae len cap, .slice At nt ct, .int .i64 (N : Nat), .slice Ab na ca, .slice P m cp] w fun e w' => e = .returned (.bool true) ∧ Below w.heap.size w w' := by
  have HS := Lib.hid (small8_any w ht)
  have HF := Lib.hid (fun w => fits4_all w Ae At Ab P len nt na m cap ct ca cp hl hnt hna hm)
  have HW := Lib.hid (fun w => newx_wrong len cap nt ct (N : Nat) Ae At w (by omega) h)
  have hk : len ≠ 16 ∧ len ≠ 32 := by
    rcases h with h | h | h
    · exact h
    · omega
    · omega
  have d1 : decide ((N : Int) < 0) = false := by rw [decide_eq_false_iff_not]; omega
  have d2 : ((N : Int) == 9223372036854775807) = false := by rw [beq_eq_false_iff_ne]; omega
  have d3 : ((len : Int) != 16) = true := by rw [bne_iff_ne]; omega
  have d4 : ((len : Int) != 32) = true := by rw [bne_iff_ne]; omega
  clear ht hl hnt hna hm hN h hk
  go_enter Tryd.func4, Tryd.ntmps4
  go_wp2_with fail
  refine HS.out.mono ?_
  rintro e w1 ⟨rfl, h1⟩
  have H1 := Lib.hid h1
  clear h1
  go_wp2_with fail
  refine (HF.out w1).mono ?_
  rintro e w2 ⟨rfl, h2⟩
  have H2 := Lib.hid (H1.out.trans (h2.mono H1.out.size))
  clear h2
  go_wp2_with fail
  refine (HW.out w2).mono ?_
  rintro e w3 ⟨rfl, rfl⟩
  go_wp2_with fail
  go_ret
  exact ⟨rfl, H2.out⟩
set_option maxRecDepth 100000 in
set_option maxHeartbeats 1600000 in
theorem slrs_right (len n cap nt ct na ca m cp N : Nat) (Ae At Ab P : Option Addr) (key tk about p : Nat → Nat) (w : World) (hi : In4 w Ae At Ab P len nt na m key tk about p) (hl : len ≤ 1024) (hnt : nt ≤ 1024) (hna : na ≤ 1024) (hm : m ≤ 1024) (hct : nt ≤ ct) (hac : na ≤ ca) (hEn : Ae = none → len = 0 ∧ cap = 0)
    (hN : N < 9223372036854775807) (hn : n = 4 ∨ n = 8) (hl4 : 4 * n = len) :
    Calls Tryd.prog 4 #[.slice Ae len cap, .slice At nt ct, .int .i64 (N : Nat), .slice Ab na ca, .slice P m cp] w fun e w' => e = .returned (.bool true) ∧ Below w.heap.size w w' := by
  have HS := Lib.hid (small8_any w hi.gt)
  have HF := Lib.hid (fun w => fits4_all w Ae At Ab P len nt na m cap ct ca cp hl hnt hna hm)
  have HI := Lib.hid hi
  have HW := Lib.hid (fun (w : World) (hi : In4 w Ae At Ab P len nt na m key tk about p) => newx_any len n cap N nt ct Ae At key tk w hn hl4 hi.enc hEn (by omega) (by omega) hct hi.tag hi.gt)
  have HQ := Lib.hid (fun (w : World) (s g B cE : Nat) (h : Slr w s g B N len nt key tk cE) (hi : In4 w Ae At Ab P len nt na m key tk about p) (h1 : OffS (S2 s g) Ab na) (h2 : OffS (S2 s g) P m) (h3 : ¬ S2 s g 1 ∧ ¬ S2 s g 0) =>
    slr_any s g B N n len nt cE na ca m cp Ab P key tk about p w hn hl4 h (by omega) hN hi.abt hi.txt (by omega) hac h1 h2 (fun j hj => hi.tag.byte hj) hi.gt h3)
  have HR := Lib.hid (fun (w : World) (hi : In4 w Ae At Ab P len nt na m key tk about p) => seal1_any nt len n cap ct N na ca m cp Ae At Ab P tk key about p w hn hl4 hi.enc hi.abt hi.txt (by omega) (by omega) (by omega) hac (by omega) hct hi.tag hi.gt)
  obtain ⟨K1, hK1⟩ : ∃ K1, N + 1 = K1 := ⟨_, rfl⟩
  have hK1i : (N : Int) + 1 = (K1 : Nat) := by omega
  have HNX := Lib.hid (fun (w : World) (s g B cE : Nat) (h : Slr w s g B K1 len nt key tk cE) => next_low s g B K1 len nt cE key tk w h (by omega))
  have HXY := Lib.hid (show By (24 + m) (sealF nt tk na about N m (xorf n key N 0 p)) from sealF_by (xorf_lt hn (fun j hj => hi.enc.byte (by omega)) (fun j hj => hi.txt.byte hj)))
  rw [hK1] at HQ
  generalize sealF nt tk na about N m (xorf n key N 0 p) = f at *
  have HLEN := Lib.hid (show 0 < len by omega)
  have d1 : decide ((N : Int) < 0) = false := by rw [decide_eq_false_iff_not]; omega
  have d2 : ((N : Int) == 9223372036854775807) = false := by rw [beq_eq_false_iff_ne]; omega
  have hK1b : (K1 : Int) ≤ 9223372036854775807 := by omega
  clear hi hl hnt hna hm hct hac hEn hN hn hl4 hK1
  go_enter Tryd.func4, Tryd.ntmps4
  go_wp2_with fail
  refine HS.out.mono ?_
  rintro e w1 ⟨rfl, h1⟩
  have H1 := Lib.hid h1
  clear h1
  go_wp2_with fail
  refine (HF.out w1).mono ?_
  rintro e w2 ⟨rfl, h2⟩
  have H2 := Lib.hid (H1.out.trans (h2.mono H1.out.size))
  clear h2
  go_wp2_with fail
  refine (HW.out w2 (HI.out.keep H2.out)).mono ?_
  rintro e w3 ⟨s, g, B, cE, rfl, h1, h2, h3, _, h5⟩
  have HSL := Lib.hid h1
  have HB3 := Lib.hid h5
  have H3 := Lib.hid (H2.out.trans (h5.mono H2.out.size))
  have HSG := Lib.hid (show ∀ k, S2 s g k → w2.heap.size ≤ k from fun k hk => by
    rcases hk with rfl | rfl
    · exact h2
    · exact h3)
  clear h1 h2 h3 h5
  go_wp2_with fail
  refine (HQ.out w3 s g B cE HSL.out (HI.out.keep H3.out) ((HI.out.keep H2.out).abt.offS HSG.out) ((HI.out.keep H2.out).txt.offS HSG.out)
    ⟨fun hk => absurd (HSG.out _ hk) (Nat.not_le.2 (HI.out.keep H2.out).gt.ltk), fun hk => absurd (HSG.out _ hk) (Nat.not_le.2 (HI.out.keep H2.out).gt.lth)⟩).mono ?_
  rintro e w4 ⟨A4, c4, rfl, h1, h2, h3⟩
  obtain ⟨A4', c4', e4, h4⟩ := OwnB.slice h1 HXY.out
  cases e4
  have HX4 := Lib.hid h4
  have HSL4 := Lib.hid h2
  have H4 := Lib.hid (H3.out.trans ((h3.below HB3.out.size HSG.out).mono H2.out.size))
  clear h1 h2 h3 h4
  go_wp2_with fail
  refine (HR.out w4 (HI.out.keep H4.out)).mono ?_
  rintro e w5 ⟨A5, c5, rfl, h1, h2⟩
  obtain ⟨A5', c5', e5, h4⟩ := OwnB.slice h1 HXY.out
  cases e5
  have hcx := convSl (cap := c4) (HX4.out.keep h2) (Nat.le_refl (24 + m))
  have hcy := convSl (cap := c5) h4 (Nat.le_refl (24 + m))
  obtain ⟨X, hX⟩ : ∃ X, strOf (24 + m) f = X := ⟨_, rfl⟩
  rw [hX] at hcx hcy
  have HSL5 := Lib.hid (HSL4.out.keep HLEN.out h2)
  have H5 := Lib.hid (H4.out.trans (h2.mono H4.out.size))
  clear h1 h2 h4 hX
  go_wp2_with fail
  refine (HNX.out w5 s g B cE HSL5.out).mono ?_
  rintro e w6 ⟨rfl, rfl⟩
  go_wp2_with fail
  go_ret
  exact ⟨rfl, H5.out⟩
theorem slrs_all (len cap nt ct na ca m cp : Nat) (N : Int) (Ae At Ab P : Option Addr) (key tk about p : Nat → Nat) (w : World) (hN : N ≤ 9223372036854775807) (hct : nt ≤ ct) (hac : na ≤ ca) (hEn : Ae = none → len = 0 ∧ cap = 0) (hE : SlB w Ae len key) (hT : SlB w At nt tk) (hA : SlB w Ab na about) (hP : SlB w P m p) (ht : GT w) :
    Calls Tryd.prog 4 #[.slice Ae len cap, .slice At nt ct, .int .i64 N, .slice Ab na ca, .slice P m cp] w fun e w' => e = .returned (.bool true) ∧ Below w.heap.size w w' := by
  by_cases h : len ≤ 1024 ∧ nt ≤ 1024 ∧ na ≤ 1024 ∧ m ≤ 1024
  · obtain ⟨hl, hnt, hna, hm⟩ := h
    by_cases hx : N < 0 ∨ N = 9223372036854775807
    · exact slrs_end len cap nt ct na ca m cp N Ae At Ab P w ht hl hnt hna hm hx
    · obtain ⟨N', rfl⟩ : ∃ N' : Nat, N = (N' : Nat) := ⟨N.toNat, by omega⟩
      by_cases hw : wrong len (N' : Nat) 0
      · exact slrs_wrong len cap nt ct na ca m cp N' Ae At Ab P w ht hl hnt hna hm (by omega) hw
      · obtain ⟨n, _, _, hn, hl4, _, _⟩ := right_of hw
        exact slrs_right len n cap nt ct na ca m cp N' Ae At Ab P key tk about p w ⟨hE, hT, hA, hP, ht⟩ hl hnt hna hm hct hac hEn (by omega) hn hl4
  · exact slrs_out len cap nt ct na ca m cp N Ae At Ab P w ht h
end Go.Proofs.YtgcdnhjjoidpmaaDoor
