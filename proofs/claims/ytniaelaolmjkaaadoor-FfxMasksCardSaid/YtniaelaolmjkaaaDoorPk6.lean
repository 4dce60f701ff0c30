/- 3 texts in one, in their order. -/
import Derived.Test.YtniaelaolmjkaaaDoorPk5
/- The reference of layer 10: masks. -/
namespace Go.Proofs.YtniaelaolmjkaaaDoor
set_option maxRecDepth 100000
open Go.RowKit

def hd8 (u j : Nat) : Nat := [1, 2, 1, 0, 0, 10, 10, u].getD j 0
theorem hd8_lt {u : Nat} (hu : u < 256) (j : Nat) : hd8 u j < 256 := by
  unfold hd8
  match j with
  | 0 | 1 | 2 | 3 | 4 | 5 | 6 => first | exact (by decide : (0 : Nat) < 256) | exact (by decide : (1 : Nat) < 256) | exact (by decide : (2 : Nat) < 256) | exact (by decide : (10 : Nat) < 256)
  | 7 => exact hu
  | j + 8 => rw [List.getD_eq_getElem?_getD, List.getElem?_eq_none (by simp)]; decide
theorem fhd_12 {u N t j : Nat} (hN : N < 256) (hj : j < 12) : catB 8 (hd8 u) (bK 4 N) j = fhd u N t j := by
  rcases (show j = 0 ∨ j = 1 ∨ j = 2 ∨ j = 3 ∨ j = 4 ∨ j = 5 ∨ j = 6 ∨ j = 7 ∨ j = 8 ∨ j = 9 ∨ j = 10 ∨ j = 11 by omega) with rfl | rfl | rfl | rfl | rfl | rfl | rfl | rfl | rfl | rfl | rfl | rfl
  all_goals first | rfl | (simp [catB, bK, fhd]; omega)
theorem fhd_16 {u N t j : Nat} (ht : t < 256) (hj : j < 16) : catB 12 (fhd u N t) (bK 4 t) j = fhd u N t j := by
  by_cases h : j < 12
  · unfold catB; rw [if_pos h]
  · rcases (show j = 12 ∨ j = 13 ∨ j = 14 ∨ j = 15 by omega) with rfl | rfl | rfl | rfl
    all_goals (simp [catB, bK, fhd]; omega)
theorem finp_head {u N t : Nat} {T : Nat → Nat} {r x k j : Nat} (hj : j < 16) : finp u N t T r x k j = fhd u N t j := if_pos hj
theorem finp_tw {u N t : Nat} {T : Nat → Nat} {r x k j : Nat} (hj : j < 16 + t) : catB 16 (finp u N t T r x k) T j = finp u N t T r x k j := by
  unfold catB
  by_cases h : j < 16
  · rw [if_pos h]
  · rw [if_neg h]; unfold finp; rw [if_neg h, if_pos hj]
theorem finp_pad {u N t : Nat} {T : Nat → Nat} {r x k m j : Nat} (h1 : 16 + t ≤ m) (h2 : m < finL t k - 1 - k) (hj : j < m + 1) : catB m (finp u N t T r x k) (fun _ => 0) j = finp u N t T r x k j := by
  unfold catB
  by_cases h : j < m
  · rw [if_pos h]
  · rw [if_neg h]; unfold finp; rw [if_neg (by omega), if_neg (by omega), if_pos (by omega)]
theorem finp_rnd {u N t : Nat} {T : Nat → Nat} {r x k j : Nat} (hj : j < finL t k - 1 - k + 1) : catB (finL t k - 1 - k) (finp u N t T r x k) (fun _ => r) j = finp u N t T r x k j := by
  have := finL_ge t k
  unfold catB
  by_cases h : j < finL t k - 1 - k
  · rw [if_pos h]
  · rw [if_neg h]; unfold finp; rw [if_neg (by omega), if_neg (by omega), if_neg (by omega), if_pos (by omega)]
theorem finp_val {u N t : Nat} {T : Nat → Nat} {r x k j : Nat} (hj : j < finL t k) : catB (finL t k - k) (finp u N t T r x k) (bK k x) j = finp u N t T r x k j := by
  have := finL_ge t k
  unfold catB
  by_cases h : j < finL t k - k
  · rw [if_pos h]
  · rw [if_neg h]; unfold finp bK; rw [if_neg (by omega), if_neg (by omega), if_neg (by omega), if_neg (by omega), show k - 1 - (j - (finL t k - k)) = finL t k - 1 - j by omega]

set_option maxHeartbeats 4000000 in
theorem rmask_any (c g n : Nat) (key : Nat → Nat) (t : Nat) (T : Nat → Nat) (N r x : Nat) (w : World) (k : Kt n key t T) (hC : RCip w c g n key t T) (hN : 6 ≤ N) (hN2 : N ≤ 32) (hr : r ≤ 9) (hx : x ≤ 9223372036854775807) :
    Calls Tryd.prog 27 #[.pointer (some ⟨c, 0, none⟩), .int .i64 (N : Nat), .int .i64 (r : Nat), .int .i64 (x : Nat)] w fun e w' => e = .returned (.int .i64 (fmk n key t T N r x : Nat)) ∧ Below w.heap.size w w' := by
  have HW := Lib.hid (qwidth_any ((N - N / 2 : Nat) : Int) w)
  rw [show wd ((N - N / 2 : Nat) : Int) = fw N from rfl] at HW
  have hfd := fd_le r hN hN2
  have hkl := fw_le N
  have hpw := pw_at (k := fd N r) (by omega) (by omega)
  have HV := Lib.hid fun (f : Nat → Nat) => show rV ((fw N + 3) / 4 * 4 + 4) f (fd N r : Nat) = (restN (10 ^ fd N r) f ((fw N + 3) / 4 * 4 + 4) : Nat) by
    have := ten_pos (fd N r)
    rw [rV_ok (rE_ok (by omega) (by omega)), hpw]
  have HFM := Lib.hid (show fmk n key t T N r x = restN (10 ^ fd N r) (xch (enc n (ks n key)) (finp (N / 2) N t T r x (fw N)) (finL t (fw N) / 16)) ((fw N + 3) / 4 * 4 + 4) from rfl)
  have HBY := Lib.hid (finp_by (u := N / 2) (n := N) (t := t) (T := T) (r := r) (x := x) (w := fw N) (by omega) (by omega) (by have := k.t16; omega) k.tw (by omega))
  have hm1 := finL_mul t (fw N)
  have hm2 := finL_ge t (fw N)
  have hm3 := finL_le k.t16 hkl
  have HDG := Lib.hid fun W => rdigits_any N r W (by omega) (by omega)
  have HB1 := Lib.hid fun W => rbytes_any N 4 W (by omega) (by decide)
  have HB2 := Lib.hid fun W => rbytes_any t 4 W (by have := k.t16; omega) (by decide)
  have HB3 := Lib.hid fun W => rbytes_any x (fw N) W hx hkl
  obtain ⟨A, cap, e1, h2, h3, h4, _⟩ := hC.tw
  have hp0 := hC.ptr
  have hcl := hC.lt
  have ht16 := k.t16
  have H8 := Lib.hid fun u j (hj : j < 12) => fhd_12 (u := u) (N := N) (t := t) (by omega) hj
  have H16 := Lib.hid fun u j (hj : j < 16) => fhd_16 (u := u) (N := N) (t := t) (by omega) hj
  have HK := Lib.hid k
  have HC := Lib.hid hC
  have HT := Lib.hid h2
  have HNIL := Lib.hid h4
  have hu256 : N / 2 < 256 := by omega
  have HPW := Lib.hid fun j (hj : j < 16 + t) => finp_tw (u := N / 2) (N := N) (T := T) (r := r) (x := x) (k := fw N) hj
  have HPH := Lib.hid fun j (hj : j < 16) => finp_head (u := N / 2) (N := N) (t := t) (T := T) (r := r) (x := x) (k := fw N) hj
  have HPD := Lib.hid fun m j (h1 : 16 + t ≤ m) (h2 : m < finL t (fw N) - 1 - fw N) (hj : j < m + 1) => finp_pad (u := N / 2) (N := N) (T := T) (r := r) (x := x) h1 h2 hj
  have HPR := Lib.hid fun j (hj : j < finL t (fw N) - 1 - fw N + 1) => finp_rnd (u := N / 2) (N := N) (T := T) (r := r) (x := x) hj
  have HPV := Lib.hid fun j (hj : j < finL t (fw N)) => finp_val (u := N / 2) (N := N) (T := T) (r := r) (x := x) hj
  have hfl : finL t (fw N) = 16 + (t + 1 + fw N + 15) / 16 * 16 := rfl
  generalize fw N = kk at *
  generalize finL t kk = L at *
  obtain ⟨d, hd⟩ : ∃ d, L - 1 - kk = d := ⟨_, rfl⟩
  rw [show L - kk = d + 1 by omega] at HPV
  rw [hd] at HPD HPR
  have HMOD := Lib.hid fun (m : Nat) (h1 : 16 + t ≤ m) (h2 : m ≤ d) => show (m < d → ((((m : Nat) : Int) + 1 + (kk : Nat)) % 16 != 0) = true) ∧ (m = d → ((((m : Nat) : Int) + 1 + (kk : Nat)) % 16 != 0) = false) from ⟨fun h => by simp; omega, fun h => by simp; omega⟩
  obtain ⟨M, hM⟩ : ∃ M, L / 16 = M := ⟨_, rfl⟩
  rw [hM] at HFM hm1
  have hdL : d + 1 + kk = L := by omega
  have htd : 16 + t ≤ d := by omega
  obtain ⟨u, hu⟩ : ∃ u, N / 2 = u := ⟨_, rfl⟩
  rw [hu] at HFM HBY hu256 HW HPW HPH HPD HPR HPV
  generalize hF : finp u N t T r x kk = F at *
  have HXB := Lib.hid fun q (h : 16 * q ≤ L) => xch_by k.hn k.key HBY.out q h
  have hui : (N : Int) / 2 = (u : Nat) := by omega
  have hvi : (N : Int) - (u : Nat) = ((N - u : Nat) : Int) := by omega
  have hu8 : (u : Int) ≤ 16 := by omega
  have hNi : (N : Int) ≤ 32 := by omega
  have hti : (t : Int) ≤ 16 := by omega
  have hki : (kk : Int) ≤ 8 := by omega
  have hri : (r : Int) ≤ 9 := by omega
  have hvn : ((N - N / 2 : Nat) : Int) = ((N - u : Nat) : Int) := by rw [hu]
  have hmk : ∀ W : World, (Instr.makeSlice 22 (.int .i64 16) (.int .i64 16)).run Tryd.prog W = .ok (.slice (some ⟨W.heap.size, 0, none⟩) 16 16) (W.alloc (.cells (madeCells #[.int .u8 0] 16) 5)) := mk8 16 (by decide)
  have R8 : RowB (w.alloc (.cells #[.int .u8 1, .int .u8 2, .int .u8 1, .int .u8 0, .int .u8 0, .int .u8 10, .int .u8 10, .int .u8 (u : Nat)] 5)) w.heap.size 8 (hd8 u) := World.alloc_heap_new w _
  have HO1 := Lib.hid (R8.own (Nat.le_refl w.heap.size) (by decide))
  have HBL1 := Lib.hid (alloc_below w (.cells #[.int .u8 1, .int .u8 2, .int .u8 1, .int .u8 0, .int .u8 0, .int .u8 10, .int .u8 10, .int .u8 (u : Nat)] 5))
  have HH8 := Lib.hid (fun j (_ : j < 8) => hd8_lt hu256 j)
  have HF12 := Lib.hid fun j (hj : j < 12) => show fhd u N t j < 256 from fhd_lt hu256 (by omega) (by omega) (by omega)
  have HF16 := Lib.hid fun j (hj : j < 16) => HBY.out j (by omega)
  have HTB := Lib.hid fun j (hj : j < t) => k.tw j hj
  clear k hC hN hN2 hr hx h2 h3 h4 hpw hu hkl R8
  go_enter Tryd.func27, Tryd.ntmps27
  go_wp2_with fail
  refine HW.out.mono ?_
  rintro e w1 ⟨rfl, rfl⟩
  go_wp2_with fail
  refine (HB1.out _).mono ?_
  rintro e w2 ⟨A2, c2, rfl, h1, h2⟩
  obtain ⟨_, _, e2, hs2⟩ := h1.slice (fun j _ => bK_lt 4 N j)
  cases e2
  have HS2 := Lib.hid hs2
  have HN2 := Lib.hid h1.cap_le
  have HO2 := Lib.hid (HO1.out.keep h2)
  have HL2 := Lib.hid (HBL1.out.trans (h2.mono HBL1.out.size))
  clear h1 h2 hs2
  go_wp2_with (first | (at_builtin; refine wpList_appO rfl (.tmp 28) (.tmp 30) rfl w.heap.size _ 8 (hd8 u) rfl HO2.out A2 4 c2 (bK 4 N) rfl HS2.out (fun h => by obtain ⟨_, _, e, _, _, hn⟩ := HN2.out; cases e; exact hn h) (by decide) HL2.out.size HH8.out (fun j _ => bK_lt 4 N j) ?_; intro A3 c3 w3 h1 h2 h3 h4; have HO3 := Lib.hid (show OwnB w3 w.heap.size (.slice A3 12 c3) 12 (fhd u N t) from h1.congr fun j hj => H8.out u j hj); have HL3 := Lib.hid (HL2.out.trans h4); have e3 := (HL3.out.cell (p := ⟨c, 1, none⟩) hcl).trans e1; clear h1 h2 h3 h4))
  refine (HB2.out w3).mono ?_
  rintro e w4 ⟨A4, c4, rfl, h1, h2⟩
  obtain ⟨_, _, e4, hs4⟩ := h1.slice (fun j _ => bK_lt 4 t j)
  cases e4
  have HS4 := Lib.hid hs4
  have HN4 := Lib.hid h1.cap_le
  have HO4 := Lib.hid (HO3.out.keep h2)
  have HL4 := Lib.hid (HL3.out.trans (h2.mono HL3.out.size))
  clear h1 h2 hs4
  go_wp2_with (first | (at_builtin; refine wpList_appO rfl (.tmp 32) (.tmp 38) rfl w.heap.size _ 12 (fhd u N t) rfl HO4.out A4 4 c4 (bK 4 t) rfl HS4.out (fun h => by obtain ⟨_, _, e, _, _, hn⟩ := HN4.out; cases e; exact hn h) (by decide) HL4.out.size HF12.out (fun j _ => bK_lt 4 t j) ?_; intro A5 c5 w5 h1 h2 h3 h4; have HO5 := Lib.hid (show OwnB w5 w.heap.size (.slice A5 16 c5) 16 F from h1.congr fun j hj => (H16.out u j hj).trans (HPH.out j hj).symm); have HL5 := Lib.hid (HL4.out.trans h4); have e5 := (HL5.out.cell (p := ⟨c, 1, none⟩) hcl).trans e1; clear h1 h2 h3 h4) | (at_builtin; refine wpList_appO rfl (.tmp 40) (.tmp 44) rfl w.heap.size _ 16 F rfl HO5.out A t cap T rfl (HT.out.keep HL5.out) HNIL.out (by omega) HL5.out.size HF16.out HTB.out ?_; intro A6 c6 w6 h1 h2 h3 h4; have HO6 := Lib.hid (show OwnB w6 w.heap.size (.slice A6 (16 + t) c6) (16 + t) F from h1.congr fun j hj => HPW.out j hj); have HL6 := Lib.hid (HL5.out.trans h4); clear h1 h2 h3 h4))
  go_loopw [12] (fun v wr => ∃ (m : Nat) (A7 : Option Addr) (c7 : Nat), 16 + t ≤ m ∧ m ≤ d ∧ v = .slice A7 m c7 ∧ OwnB wr w.heap.size (.slice A7 m c7) m F ∧ Below w.heap.size w wr) (fun v _ => d - lenOf v)
  case atStart => exact ⟨16 + t, A6, c6, Nat.le_refl _, htd, rfl, HO6.out, HL6.out⟩
  case round =>
    obtain ⟨m, A7, c7, hm7, hmd, rfl, h1, h2⟩ := hrel
    have HO7 := Lib.hid h1
    have HL7 := Lib.hid h2
    clear h1 h2
    have hmi : (m : Int) ≤ 100 := by omega
    by_cases hlt : m < d
    · have hb := (HMOD.out m hm7 hmd).1 hlt
      have HZ := Lib.hid fun W => one_sl W 0 (by decide)
      have HO8 := Lib.hid (HO7.out.alloc (.cells #[.int .u8 0] 5))
      have HL8 := Lib.hid (HL7.out.alloc HL7.out.size (.cells #[.int .u8 0] 5))
      have HFM7 := Lib.hid fun j (hj : j < m) => HBY.out j (by omega)
      have HDD := Lib.hid (show m + 1 ≤ d by omega)
      go_wp2_with (at_builtin; refine wpList_appO rfl (.tmp 53) (.tmp 54) rfl w.heap.size _ m F rfl HO8.out (some ⟨_, 0, none⟩) 1 1 (fun _ => 0) rfl (HZ.out _) (fun h => by cases h) (by omega) HL8.out.size HFM7.out (fun _ _ => by decide) ?_; intro A9 c9 w9 h1 h2 h3 h4; have HO9 := Lib.hid (show OwnB w9 w.heap.size (.slice A9 (m + 1) c9) (m + 1) F from h1.congr fun j hj => HPD.out m j hm7 hlt hj); have HL9 := Lib.hid (HL8.out.trans h4); clear h1 h2 h3 h4)
      go_roundw
      case rel => exact ⟨m + 1, A9, c9, by omega, HDD.out, rfl, HO9.out, HL9.out⟩
      case measure => simp [lenOf]; omega
    · obtain rfl : m = d := by omega
      have hb := (HMOD.out m hm7 hmd).2 rfl
      have hr256 : r < 256 := by omega
      have HR1 := Lib.hid fun W => one_sl W r hr256
      have HO8 := Lib.hid (HO7.out.alloc (.cells #[.int .u8 (r : Nat)] 5))
      have HL8 := Lib.hid (HL7.out.alloc HL7.out.size (.cells #[.int .u8 (r : Nat)] 5))
      have HFM7 := Lib.hid fun j (hj : j < m) => HBY.out j (by omega)
      have HFM8 := Lib.hid fun j (hj : j < m + 1) => HBY.out j (by omega)
      have HMK := Lib.hid (show m + 1 + kk ≤ 100000000000000 by omega)
      clear HMOD HPD HPW HPH HO1 HBL1 HH8 HF12 HF16 HTB HS2 HN2 HO2 HL2 HO3 HL3 HS4 HN4 HO4 HL4 HO5 HL5 HO6 HL6 e3 e5 hm7 hmd hlt htd hfl
      go_wp2_with (at_builtin; refine wpList_appO rfl (.tmp 56) (.tmp 59) rfl w.heap.size _ m F rfl HO8.out (some ⟨_, 0, none⟩) 1 1 (fun _ => r) rfl (HR1.out _) (fun h => by cases h) (by omega) HL8.out.size HFM7.out (fun _ _ => hr256) ?_; intro A9 c9 w9 h1 h2 h3 h4; have HO9 := Lib.hid (show OwnB w9 w.heap.size (.slice A9 (m + 1) c9) (m + 1) F from h1.congr fun j hj => HPR.out j hj); have HL9 := Lib.hid (HL8.out.trans h4); clear h1 h2 h3 h4)
      refine (HB3.out w9).mono ?_
      rintro e w10 ⟨A10, c10, rfl, h1, h2⟩
      obtain ⟨_, _, e10, hs10⟩ := h1.slice (fun j _ => bK_lt kk x j)
      cases e10
      have HS10 := Lib.hid hs10
      have HN10 := Lib.hid h1.cap_le
      have HO10 := Lib.hid (HO9.out.keep h2)
      have HL10 := Lib.hid (HL9.out.trans (h2.mono HL9.out.size))
      clear h1 h2 hs10 HO7 HL7 HO8 HL8 HO9 HL9 HR1
      go_wp2_with (at_builtin; refine wpList_appO rfl (.tmp 61) (.tmp 64) rfl w.heap.size _ (m + 1) F rfl HO10.out A10 kk c10 (bK kk x) rfl HS10.out (fun h => by obtain ⟨_, _, e, _, _, hn⟩ := HN10.out; cases e; exact hn h) HMK.out HL10.out.size HFM8.out (fun j _ => bK_lt kk x j) ?_; intro A11 c11 w11 h1 h2 h3 h4; rw [hdL] at h2 ⊢; have HS11 := Lib.hid (show SlB w11 A11 L F from h2.congr fun j hj => HPV.out j hj); have HL11 := Lib.hid (HL10.out.trans h4); clear h1 h2 h3 h4)
      obtain ⟨Bp, op, rfl, hBp, _⟩ := HS11.out (by omega)
      have HBA := Lib.hid ((Below.refl w11.heap.size w11).alloc (Nat.le_refl _) (.cells (madeCells #[.int .u8 0] 16) 5))
      have HRA := Lib.hid (rowB_made w11 16)
      have HSA := Lib.hid (HS11.out.keep HBA.out)
      have HLA := Lib.hid (HL11.out.trans (HBA.out.mono HL11.out.size))
      have hML : 16 * M = L := hm1
      have hMi : (M : Int) ≤ 3 := by omega
      generalize w11.alloc (.cells (madeCells #[.int .u8 0] 16) 5) = wA at *
      have HWS := Lib.hid HL11.out.size
      generalize hst : w11.heap.size = stA at *
      clear hst
      go_loopw [13, 14] (fun sv a wr => ∃ (q st : Nat), q ≤ M ∧ a = .int .i64 ((16 * q : Nat) : Int) ∧ sv = .slice (some ⟨st, 0, none⟩) 16 16 ∧ RowB wr st 16 (xch (enc n (ks n key)) F q) ∧ SlB wr (some ⟨Bp, op, none⟩) L F ∧ Bp < st ∧ w.heap.size ≤ st ∧ Below w.heap.size w wr) (fun _ a _ => L - (intOf a).toNat)
      case atStart => exact ⟨0, stA, Nat.zero_le _, rfl, rfl, HRA.out, HSA.out, hBp, HWS.out, HLA.out⟩
      case round =>
        obtain ⟨q, st, hq, rfl, rfl, h1, h2, hBs, hst, h3⟩ := hrel
        have HR := Lib.hid h1
        have HS := Lib.hid h2
        have HL := Lib.hid h3
        clear h1 h2 h3
        by_cases hlt : q < M
        · obtain ⟨Q, hQ⟩ : ∃ Q, 16 * q = Q := ⟨_, rfl⟩
          rw [hQ]
          have hQL : Q + 16 ≤ L := by omega
          have hQi : (Q : Int) ≤ 48 := by omega
          have HQ := Lib.hid hQ
          have HSB := Lib.hid (HXB.out q (by omega))
          have HNX := Lib.hid (show xch (enc n (ks n key)) F (q + 1) = enc n (ks n key) (fun j => xch (enc n (ks n key)) F q j ^^^ F (16 * q + j)) from rfl)
          have HQM := Lib.hid (show q + 1 ≤ M by omega)
          generalize hS : xch (enc n (ks n key)) F q = S at *
          clear hQ hS
          go_wp2_with fail
          go_loopw [15] (fun kv wr2 => ∃ j : Nat, j ≤ 16 ∧ kv = .int .i64 (j : Nat) ∧ RowB wr2 st 16 (xpt S F q j) ∧ SlB wr2 (some ⟨Bp, op, none⟩) L F ∧ Below w.heap.size w wr2) (fun kv _ => 16 - (intOf kv).toNat)
          case atStart => exact ⟨0, Nat.zero_le _, rfl, HR.out, HS.out, HL.out⟩
          case round =>
            obtain ⟨j, hj, rfl, h1, h2, h3⟩ := hrel
            have G1 := Lib.hid h1
            have G2 := Lib.hid h2
            have G3 := Lib.hid h3
            clear h1 h2 h3
            by_cases hj16 : j < 16
            · obtain ⟨z, hz⟩ : ∃ z, Q + j = z := ⟨_, rfl⟩
              have hzi : (Q : Int) + (j : Nat) = (z : Nat) := by omega
              have hji : (j : Int) < 16 := by omega
              have hzl : z < L := by omega
              have hzl2 : (z : Int) < (L : Nat) := by omega
              obtain ⟨_, _, eB, _, hbs⟩ := G2.out (by omega)
              cases eB
              obtain ⟨y, hy⟩ : ∃ y, F z = y := ⟨_, rfl⟩
              obtain ⟨s, hs⟩ : ∃ s, S j = s := ⟨_, rfl⟩
              have hy8 : y < 256 := hy ▸ (hbs z hzl).1
              have hs8 : s < 256 := hs ▸ HSB.out j hj16
              have c1 := (hbs z hzl).2
              rw [hy] at c1
              have c2 : wr.cell? ⟨st, j, none⟩ = some (.int .u8 (s : Nat)) := by
                rw [G1.out.cell hj16]; unfold xpt; rw [if_neg (Nat.lt_irrefl j), hs]
              have f2 := G1.out.frozen j
              have d1 : wr.drew.cell? ⟨Bp, op + z, none⟩ = _ := c1
              have d2 : wr.drew.cell? ⟨st, j, none⟩ = _ := c2
              have g2 : wr.drew.frozen? ⟨st, j, none⟩ = _ := f2
              have b1 : bits BinOp.xor .u8 (s : Int) (y : Int) = ((s ^^^ y : Nat) : Int) := u8_xor_nat s y hs8 hy8
              have HBS := Lib.hid (show Bp ≠ st from Nat.ne_of_lt hBs)
              have HNW := Lib.hid (fun (W : World) (h : RowB W st 16 (xpt S F q j)) => (h.set j (s ^^^ y) (.int .u8 ((s ^^^ y : Nat) : Int)) rfl).congr (f := xpt S F q (j + 1)) fun i _ => by
                unfold xpt
                by_cases e : i = j
                · subst e; rw [if_pos rfl, if_pos (Nat.lt_succ_self _), hs, HQ.out, hz, hy]
                · rw [if_neg e]
                  by_cases h : i < j
                  · rw [if_pos h, if_pos (by omega)]
                  · rw [if_neg h, if_neg (by omega)])
              have HKS := Lib.hid (fun (W : World) (v : Value) (h : SlB W (some ⟨Bp, op, none⟩) L F) => show SlB (W.setCell ⟨st, j, none⟩ v) (some ⟨Bp, op, none⟩) L F from fun h0 => by
                obtain ⟨_, _, e, h1, h2⟩ := h h0
                cases e
                exact ⟨Bp, op, rfl, by rw [size_setCell]; exact h1, fun i hi => ⟨(h2 i hi).1, (World.cell?_of_block (a := ⟨Bp, op + i, none⟩) (Below.heap_setCell W ⟨st, j, none⟩ v Bp HBS.out)).trans (h2 i hi).2⟩⟩)
              clear hbs hs hy hz
              go_wp2_with fail
              go_region
              all_goals
                go_wp2_with fail
                exact ⟨⟨j + 1, by omega, by go_num, (HNW.out _ G1.out).drew, (HKS.out _ _ G2.out).drewN 1, drawn (G3.out.setCell (p := ⟨st, j, none⟩) hst _) 1⟩, by simp [intOf]; omega⟩
            · obtain rfl : j = 16 := by omega
              have e0 : wr.cell? ⟨c, 0, none⟩ = _ := (G3.out.cell (p := ⟨c, 0, none⟩) hcl).trans hp0
              have HBX := Lib.hid (show By 16 (fun i => S i ^^^ F (16 * q + i)) from fun i hi => xor_lt8 (HSB.out i hi) (HBY.out _ (by have := HQ.out; omega)))
              have HRX := Lib.hid (G1.out.congr (f := fun i => S i ^^^ F (16 * q + i)) fun i hi => by unfold xpt; rw [if_pos hi])
              have HEN := Lib.hid (renc_any g n key (fun i => S i ^^^ F (16 * q + i)) (some ⟨st, 0, none⟩) 16 wr HK.out.hn HK.out.key (HC.out.keep G3.out).key (HRX.out.slB0 (Nat.le_refl _) HBX.out))
              clear hj16
              go_wp2_with fail
              refine HEN.out.mono ?_
              rintro e w20 ⟨st2, rfl, h1, h2, h3⟩
              have HR20 := Lib.hid h2
              have HL20 := Lib.hid (G3.out.trans (h3.mono G3.out.size))
              have HS20 := Lib.hid (G2.out.keep h3)
              have HST2 := Lib.hid h1
              have HBP := Lib.hid (show Bp < wr.heap.size by obtain ⟨_, _, e, h, _⟩ := G2.out (by omega); cases e; exact h)
              clear h1 h2 h3
              go_wp2_with fail
              exact ⟨⟨q + 1, st2, HQM.out, by have := HQ.out; go_num, rfl, by rw [HNX.out]; exact HR20.out, HS20.out, Nat.lt_of_lt_of_le HBP.out HST2.out, Nat.le_trans G3.out.size HST2.out, HL20.out⟩, by simp [intOf]; omega⟩
        · obtain rfl : q = M := by omega
          rw [hML]
          obtain ⟨dl, hdl⟩ : ∃ dl, (kk + 3) / 4 * 4 + 4 = dl := ⟨_, rfl⟩
          rw [hdl] at HV HFM
          have hdi : ((kk : Int) + 3) / 4 * 4 + 4 = (dl : Nat) := by omega
          have hdl16 : dl ≤ 16 := by omega
          have hdl16i : (dl : Int) ≤ 16 := by omega
          have HSF := Lib.hid ((HR.out.slB0 (Nat.le_refl 16) (HXB.out q (Nat.le_of_eq hML))).low hdl16)
          clear hdl hlt hq HS HXB HBY
          go_wp2_with fail
          go_region_with (first | (go_at_call 26; refine (HDG.out _).mono ?_; rintro e w20 ⟨rfl, rfl⟩) | (go_at_call 44; refine (qrest_any (some ⟨st, 0, none⟩) dl 16 _ (fd N r : Nat) _ (by omega) (HSF.out.drewN 1)).mono ?_; rintro e w21 ⟨rfl, z5, rfl⟩))
          all_goals
            go_wp2_with fail
            go_ret
            exact ⟨by rw [HV.out, HFM.out]; rfl, drawn HL.out _⟩
end Go.Proofs.YtniaelaolmjkaaaDoor
/- The reference of layer 10: Mask. -/
namespace Go.Proofs.YtniaelaolmjkaaaDoor
set_option maxRecDepth 100000
open Go.RowKit

set_option maxHeartbeats 1600000 in
theorem rMask_bad (c : Nat) (n r v : Int) (w : World) (h : n < 6 ∨ 32 < n ∨ r < 0 ∨ 9 < r ∨ v < 0) :
    Calls Tryd.prog 11 #[.pointer (some ⟨c, 0, none⟩), .int .i64 n, .int .i64 r, .int .i64 v] w fun e w' => e = .returned (.tuple #[.int .i64 0, .int .i64 1]) ∧ w = w' := by
  rcases (show decide (n < 6) = true ∨ (decide (n < 6) = false ∧ decide (32 < n) = true) ∨ (decide (n < 6) = false ∧ decide (32 < n) = false ∧ decide (r < 0) = true) ∨ (decide (n < 6) = false ∧ decide (32 < n) = false ∧ decide (r < 0) = false ∧ decide (9 < r) = true) ∨ (decide (n < 6) = false ∧ decide (32 < n) = false ∧ decide (r < 0) = false ∧ decide (9 < r) = false ∧ decide (v < 0) = true) from by
    simp only [decide_eq_true_eq, decide_eq_false_iff_not]; omega) with q1 | ⟨q1, q2⟩ | ⟨q1, q2, q3⟩ | ⟨q1, q2, q3, q4⟩ | ⟨q1, q2, q3, q4, q5⟩
  all_goals
    clear h
    go_enter Tryd.func11, Tryd.ntmps11
    go_wp2_with fail
    go_ret2
    exact ⟨rfl, rfl⟩
theorem rMask_far (c N r x : Nat) (w : World) (hN : 6 ≤ N) (hN2 : N ≤ 32) (hr : r ≤ 9) (h : 10 ^ fd N (r + 1) ≤ x) :
    Calls Tryd.prog 11 #[.pointer (some ⟨c, 0, none⟩), .int .i64 (N : Nat), .int .i64 (r : Nat), .int .i64 (x : Nat)] w fun e w' => e = .returned (.tuple #[.int .i64 0, .int .i64 1]) ∧ w = w' := by
  have hfd := fd_le (r + 1) hN hN2
  have HDG := Lib.hid (rdigits_any N (r + 1) w (by omega) (by omega))
  rw [show ((r + 1 : Nat) : Int) = (r : Int) + 1 by omega] at HDG
  have HPW := Lib.hid (qpower_any (fd N (r + 1) : Nat) w)
  rw [pw_at (by omega) (by omega)] at HPW
  have q1 : decide ((N : Int) < 6) = false := by rw [decide_eq_false_iff_not]; omega
  have q2 : decide (32 < (N : Int)) = false := by rw [decide_eq_false_iff_not]; omega
  have q3 : decide ((r : Int) < 0) = false := by rw [decide_eq_false_iff_not]; omega
  have q4 : decide (9 < (r : Int)) = false := by rw [decide_eq_false_iff_not]; omega
  have q5 : decide ((x : Int) < 0) = false := by rw [decide_eq_false_iff_not]; omega
  have hr9 : (r : Int) ≤ 9 := by omega
  generalize 10 ^ fd N (r + 1) = P at *
  have q6 : decide (P ≤ x) = true := by rw [decide_eq_true_eq]; exact h
  generalize fd N (r + 1) = y at *
  clear hN hN2 hr h hfd
  go_enter Tryd.func11, Tryd.ntmps11
  go_wp2_with (first | (go_at_call 26; refine HDG.out.mono ?_; rintro e w1 ⟨rfl, rfl⟩) | (go_at_call 25; refine HPW.out.mono ?_; rintro e w1 ⟨rfl, rfl⟩))
  go_ret2
  exact ⟨rfl, rfl⟩
theorem rMask_any (c g n : Nat) (key : Nat → Nat) (t : Nat) (T : Nat → Nat) (N r x : Nat) (w : World) (k : Kt n key t T) (hC : RCip w c g n key t T) (hN : 6 ≤ N) (hN2 : N ≤ 32) (hr : r ≤ 9) (h : x < 10 ^ fd N (r + 1)) :
    Calls Tryd.prog 11 #[.pointer (some ⟨c, 0, none⟩), .int .i64 (N : Nat), .int .i64 (r : Nat), .int .i64 (x : Nat)] w fun e w' => e = .returned (.tuple #[.int .i64 (fmk n key t T N r x : Nat), .int .i64 0]) ∧ Below w.heap.size w w' := by
  have hfd := fd_le (r + 1) hN hN2
  have hx2 := ten_le (fd N (r + 1)) (by omega)
  have HM := Lib.hid (rmask_any c g n key t T N r x w k hC hN hN2 hr (by omega))
  have HDG := Lib.hid (rdigits_any N (r + 1) w (by omega) (by omega))
  rw [show ((r + 1 : Nat) : Int) = (r : Int) + 1 by omega] at HDG
  have HPW := Lib.hid (qpower_any (fd N (r + 1) : Nat) w)
  rw [pw_at (by omega) (by omega)] at HPW
  have q1 : decide ((N : Int) < 6) = false := by rw [decide_eq_false_iff_not]; omega
  have q2 : decide (32 < (N : Int)) = false := by rw [decide_eq_false_iff_not]; omega
  have q3 : decide ((r : Int) < 0) = false := by rw [decide_eq_false_iff_not]; omega
  have q4 : decide (9 < (r : Int)) = false := by rw [decide_eq_false_iff_not]; omega
  have q5 : decide ((x : Int) < 0) = false := by rw [decide_eq_false_iff_not]; omega
  have hr9 : (r : Int) ≤ 9 := by omega
  generalize 10 ^ fd N (r + 1) = P at *
  have q6 : decide (P ≤ x) = false := by rw [decide_eq_false_iff_not]; omega
  generalize fd N (r + 1) = y at *
  generalize fmk n key t T N r x = m at *
  clear k hC hN hN2 hr h hfd hx2
  go_enter Tryd.func11, Tryd.ntmps11
  go_wp2_with (first | (go_at_call 26; refine HDG.out.mono ?_; rintro e w1 ⟨rfl, rfl⟩) | (go_at_call 25; refine HPW.out.mono ?_; rintro e w1 ⟨rfl, rfl⟩) | (go_at_call 27; refine HM.out.mono ?_; rintro e w2 ⟨rfl, h5⟩; have H5 := Lib.hid h5; clear h5))
  go_ret2
  exact ⟨rfl, H5.out⟩
end Go.Proofs.YtniaelaolmjkaaaDoor
/- Laws of layer 10: FfxMasks. -/
namespace Go.Proofs.YtniaelaolmjkaaaDoor
set_option maxRecDepth 100000
open Go.RowKit

/-- both answer alike -/
def MPair (c c' : Nat) (args : Array Value) (w0 : World) (key T : Nat → Nat) (n t g g' : Nat) : Prop :=
  ∃ a b : Int, ∀ W, Cu w0 c g n key t T W → RCip W c' g' n key t T →
    Calls Tryd.prog 10 (#[.pointer (some ⟨c, 0, none⟩)] ++ args) W (fun e W' => e = .returned (.tuple #[.int .i64 a, .int .i64 b]) ∧ Cu w0 c g n key t T W' ∧ RCip W' c' g' n key t T) ∧
    Calls Tryd.prog 11 (#[.pointer (some ⟨c', 0, none⟩)] ++ args) W (fun e W' => e = .returned (.tuple #[.int .i64 a, .int .i64 b]) ∧ Below W.heap.size W W')
theorem mpair {w0 : World} {c c' g g' n t : Nat} {key T : Nat → Nat} (k : Kt n key t T) (N r v : Int) (hv : v ≤ 9223372036854775807) : MPair c c' #[.int .i64 N, .int .i64 r, .int .i64 v] w0 key T n t g g' := by
  by_cases hb : N < 6 ∨ 32 < N ∨ r < 0 ∨ 9 < r
  · refine ⟨0, 1, fun W h1 h2 => ⟨?_, ?_⟩⟩
    · refine (fMask_bad c N r v W (by omega)).mono ?_
      rintro e W' ⟨rfl, rfl⟩
      exact ⟨rfl, h1, h2⟩
    · refine (rMask_bad c' N r v W (by omega)).mono ?_
      rintro e W' ⟨rfl, rfl⟩
      exact ⟨rfl, Below.refl _ _⟩
  · obtain ⟨N, rfl⟩ := Int.eq_ofNat_of_zero_le (show 0 ≤ N by omega)
    obtain ⟨r, rfl⟩ := Int.eq_ofNat_of_zero_le (show 0 ≤ r by omega)
    have hN : 6 ≤ N := by omega
    have hN2 : N ≤ 32 := by omega
    have hr : r ≤ 9 := by omega
    by_cases hf : v < 0 ∨ ((10 ^ fd N (r + 1) : Nat) : Int) ≤ v
    · refine ⟨0, 1, fun W h1 h2 => ⟨?_, ?_⟩⟩
      · refine (fMask_far c N r v W h1.pws hN hN2 hr hf).mono ?_
        rintro e W' ⟨rfl, rfl⟩
        exact ⟨rfl, h1, h2⟩
      · by_cases h0 : v < 0
        · refine (rMask_bad c' N r v W (by omega)).mono ?_
          rintro e W' ⟨rfl, rfl⟩
          exact ⟨rfl, Below.refl _ _⟩
        · obtain ⟨x, rfl⟩ := Int.eq_ofNat_of_zero_le (show 0 ≤ v by omega)
          refine (rMask_far c' N r x W hN hN2 hr (by omega)).mono ?_
          rintro e W' ⟨rfl, rfl⟩
          exact ⟨rfl, Below.refl _ _⟩
    · obtain ⟨x, rfl⟩ := Int.eq_ofNat_of_zero_le (show 0 ≤ v by omega)
      refine ⟨(fmk n key t T N r x : Nat), 0, fun W h1 h2 => ⟨?_, ?_⟩⟩
      · refine (fMask_any c g n key t T N r x W h1.pws k.hn k.key h1.cip k.t16 k.tw hN hN2 hr (by omega)).mono ?_
        rintro e W' ⟨rfl, h3, h4⟩
        exact ⟨rfl, h1.next k.hn h3 h4, h2.chg h4 h1.cip.key.words⟩
      · exact (rMask_any c' g' n key t T N r x W k h2 hN hN2 hr (by omega)).mono fun e W' h => h
set_option maxHeartbeats 1600000 in
theorem masks10_key (A0 A1 : Option Addr) (n0 n1 c0 c1 : Nat) (a b v : Int) (w : World) (hp : Pws w) (hl : n0 ≠ 16) (hl2 : n0 ≠ 32) (hl3 : n0 ≤ 140737488351232) :
    Calls Tryd.prog 3 #[.slice A0 n0 c0, .slice A1 n1 c1, .int .i64 a, .int .i64 b, .int .i64 v] w fun e w' => e = .returned (.bool true) ∧ Below w.heap.size w w' := by
  have HS := Lib.hid (small10_any w hp)
  have HN := Lib.hid fun W => fnew_short A0 n0 c0 A1 n1 c1 W hl hl2 hl3
  have HR := Lib.hid fun W => rnew10_short A0 n0 c0 A1 n1 c1 W hl hl2 hl3
  clear hp hl hl2
  go_enter Tryd.func3, Tryd.ntmps3
  go_wp2_with fail
  refine HS.out.mono ?_
  rintro e w1 ⟨rfl, h1⟩
  have H1 := Lib.hid h1
  clear h1
  go_wp2_with fail
  refine (HN.out w1).mono ?_
  rintro e w2 ⟨rfl, rfl⟩
  go_wp2_with fail
  refine (HR.out w1).mono ?_
  rintro e w2 ⟨rfl, rfl⟩
  go_wp2_with fail
  go_ret
  exact ⟨rfl, H1.out⟩
set_option maxHeartbeats 1600000 in
theorem masks10_long (A0 A1 : Option Addr) (n0 n n1 c0 c1 : Nat) (key : Nat → Nat) (a b v : Int) (w : World) (hp : Pws w) (hn : n = 4 ∨ n = 8) (hl : 4 * n = n0) (hc : n0 ≤ c0) (hA : SlB w A0 n0 key) (ht : 16 < n1) :
    Calls Tryd.prog 3 #[.slice A0 n0 c0, .slice A1 n1 c1, .int .i64 a, .int .i64 b, .int .i64 v] w fun e w' => e = .returned (.bool true) ∧ Below w.heap.size w w' := by
  have HS := Lib.hid (small10_any w hp)
  have HN := Lib.hid fun W (h : SlB W A0 n0 key) => fnew_long A0 n0 n c0 key A1 n1 c1 W hn hl h ht
  have HR := Lib.hid fun W (h : SlB W A0 n0 key) => rnew10_long A0 n0 n c0 key A1 n1 c1 W hn hl hc h ht
  have HA := Lib.hid hA
  clear hp hn hA hl ht hc
  go_enter Tryd.func3, Tryd.ntmps3
  go_wp2_with fail
  refine HS.out.mono ?_
  rintro e w1 ⟨rfl, h1⟩
  have H1 := Lib.hid h1
  clear h1
  go_wp2_with fail
  refine (HN.out w1 (HA.out.keep H1.out)).mono ?_
  rintro e w2 ⟨rfl, h2⟩
  have H2 := Lib.hid (H1.out.trans (h2.mono H1.out.size))
  clear h2
  go_wp2_with fail
  refine (HR.out w2 (HA.out.keep H2.out)).mono ?_
  rintro e w3 ⟨rfl, h3⟩
  have H3 := Lib.hid (H2.out.trans (h3.mono H2.out.size))
  clear h3
  go_wp2_with fail
  go_ret
  exact ⟨rfl, H3.out⟩
set_option maxHeartbeats 1600000 in
theorem masks10_go (A0 A1 : Option Addr) (n0 n n1 c0 c1 : Nat) (key T : Nat → Nat) (a b v : Int) (w : World) (hp : Pws w) (k : Kt n key n1 T) (hl : 4 * n = n0) (hc : n0 ≤ c0) (hA : SlB w A0 n0 key) (hB : SlB w A1 n1 T) (hnil : A1 = none → n1 = 0 ∧ c1 = 0) (hv : v ≤ 9223372036854775807) :
    Calls Tryd.prog 3 #[.slice A0 n0 c0, .slice A1 n1 c1, .int .i64 a, .int .i64 b, .int .i64 v] w fun e w' => e = .returned (.bool true) ∧ Below w.heap.size w w' := by
  have HS := Lib.hid (small10_any w hp)
  have HN := Lib.hid fun W (h1 : SlB W A0 n0 key) (h2 : SlB W A1 n1 T) h3 h4 => newU (w0 := w) n n0 c0 key n1 c1 T A0 A1 k hl h1 h2 hnil h3 h4
  have HR := Lib.hid fun W (h1 : SlB W A0 n0 key) (h2 : SlB W A1 n1 T) => rnew10_any A0 n0 n c0 key A1 n1 c1 T W k.hn hl hc h1 k.t16 h2 hnil
  have HM := Lib.hid fun c c' g g' => mpair (w0 := w) (c := c) (c' := c') (g := g) (g' := g') k a b v hv
  have HA := Lib.hid hA
  have HB := Lib.hid hB
  have HP := Lib.hid hp
  clear hp k hl hc hA hB hnil hv
  go_enter Tryd.func3, Tryd.ntmps3
  go_wp2_with fail
  refine HS.out.mono ?_
  rintro e w1 ⟨rfl, h1⟩
  have H1 := Lib.hid h1
  clear h1
  go_wp2_with fail
  refine (HN.out w1 (HA.out.keep H1.out) (HB.out.keep H1.out) H1.out (HP.out.keep H1.out)).mono ?_
  rintro e w2 ⟨c, g, rfl, h1⟩
  have H2 := Lib.hid h1
  clear h1
  go_wp2_with fail
  refine (HR.out w2 (HA.out.keep H2.out.below) (HB.out.keep H2.out.below)).mono ?_
  rintro e w3 ⟨c', g', rfl, h1, h2⟩
  have H3 := Lib.hid (H2.out.keep h2)
  have G3 := Lib.hid h1
  clear h1 h2
  obtain ⟨x, y, hxy⟩ := HM.out c c' g g'
  have HXY := Lib.hid hxy
  clear hxy HM
  go_wp2_with fail
  refine (HXY.out w3 H3.out G3.out).1.mono ?_
  rintro e w4 ⟨rfl, h1, h2⟩
  have H4 := Lib.hid h1
  have G4 := Lib.hid h2
  clear h1 h2
  go_wp2_with fail
  refine (HXY.out w4 H4.out G4.out).2.mono ?_
  rintro e w5 ⟨rfl, h1⟩
  have H5 := Lib.hid (H4.out.keep h1)
  clear h1
  go_wp2_with fail
  go_ret
  exact ⟨rfl, H5.out.below⟩
/-- FfxMasks answers true -/
theorem masks10_all (A0 A1 : Option Addr) (n0 n1 c0 c1 : Nat) (key T : Nat → Nat) (a b v : Int) (w : World) (hp : Pws w) (hl0 : n0 ≤ 140737488351232) (hc : n0 ≤ c0) (hA : SlB w A0 n0 key) (hB : SlB w A1 n1 T) (hnil : A1 = none → n1 = 0 ∧ c1 = 0) (hv : v ≤ 9223372036854775807) :
    Calls Tryd.prog 3 #[.slice A0 n0 c0, .slice A1 n1 c1, .int .i64 a, .int .i64 b, .int .i64 v] w fun e w' => e = .returned (.bool true) ∧ Below w.heap.size w w' := by
  by_cases h : n0 = 16 ∨ n0 = 32
  · obtain ⟨n, hn, hl⟩ : ∃ n, (n = 4 ∨ n = 8) ∧ 4 * n = n0 := by
      rcases h with h | h
      · exact ⟨4, Or.inl rfl, by omega⟩
      · exact ⟨8, Or.inr rfl, by omega⟩
    by_cases ht16 : 16 < n1
    · exact masks10_long A0 A1 n0 n n1 c0 c1 key a b v w hp hn hl hc hA ht16
    · exact masks10_go A0 A1 n0 n n1 c0 c1 key T a b v w hp ⟨hn, fun j hj => hA.byte (by omega), by omega, fun j hj => hB.byte hj⟩ hl hc hA hB hnil hv
  · exact masks10_key A0 A1 n0 n1 c0 c1 a b v w hp (by omega) (by omega) hl0
end Go.Proofs.YtniaelaolmjkaaaDoor
