/- 7 texts in one, in their order. -/
import Derived.Test.YtniaelaolmjkaaaGreatDoorPk5
import Derived.Laws.CopyOwn
/- The reference of layer 10: numerals, Encrypt, Decrypt. -/
namespace Go.Proofs.YtniaelaolmjkaaaGreatDoor
set_option maxRecDepth 100000
open Go.RowKit

theorem rnum10_bad (s : ByteArray) (w : World) (hs : s.size ≤ maxLen) (h : s.size < 6 ∨ 32 < s.size) :
    Calls Tryz.prog 22 #[.string s] w fun e w' => e = .returned (.int .i64 1) ∧ w = w' := by
  unfold maxLen at hs
  rcases (show decide (((s.size : Nat) : Int) < 6) = true ∨ (decide (((s.size : Nat) : Int) < 6) = false ∧ decide (32 < ((s.size : Nat) : Int)) = true) from by
    simp only [decide_eq_true_eq, decide_eq_false_iff_not]; omega) with q1 | ⟨q1, q2⟩
  all_goals
    clear h
    go_enter Tryz.func22, Tryz.ntmps22
    go_wp2_with fail
    go_ret
    exact ⟨rfl, rfl⟩
theorem rnum10_any (s : ByteArray) (w : World) (hs : s.size ≤ maxLen) :
    Calls Tryz.prog 22 #[.string s] w fun e w' => e = .returned (.int .i64 (hE s)) ∧ Below w.heap.size w w' := by
  by_cases hl : s.size < 6 ∨ 32 < s.size
  · refine (rnum10_bad s w hs hl).mono ?_
    rintro e w' ⟨rfl, rfl⟩
    exact ⟨by rw [hE_one hl], Below.refl _ _⟩
  · have q1 : decide (((s.size : Nat) : Int) < 6) = false := by rw [decide_eq_false_iff_not]; omega
    have q2 : decide (32 < ((s.size : Nat) : Int)) = false := by rw [decide_eq_false_iff_not]; omega
    have h6 : 6 ≤ s.size := by omega
    have h32 : s.size ≤ 32 := by omega
    have hsi : ((s.size : Nat) : Int) ≤ 32 := by omega
    by_cases hd : s.data.toList.all isDig = true
    · have HP := Lib.hid (rpack_ok s w hd (by omega))
      have HE := Lib.hid ((hE_zero h6 h32).2 hd)
      clear hd hl h6 h32 hs
      go_enter Tryz.func22, Tryz.ntmps22
      go_wp2_with (go_at_call 41; refine HP.out.mono ?_; rintro e w1 ⟨v, rfl, h1, h2⟩; have H2 := Lib.hid h2; clear h1 h2)
      go_ret
      exact ⟨by rw [HE.out]; rfl, H2.out⟩
    · have hf : faultOf s.data.toList = 4 := by unfold faultOf; rw [if_neg hd]
      have hp := rpack_bad s w hs (by rw [hf]; decide)
      rw [hf] at hp
      have HP := Lib.hid hp
      have HE := Lib.hid (hE_four h6 h32 fun h => hd ((hE_zero h6 h32).1 h))
      clear hd hl h6 h32 hs hp hf
      go_enter Tryz.func22, Tryz.ntmps22
      go_wp2_with (go_at_call 41; refine HP.out.mono ?_; rintro e w1 ⟨rfl, rfl⟩)
      go_ret
      exact ⟨by rw [HE.out]; rfl, Below.refl _ _⟩
theorem number_fit {x m : Int} (w : World) (h : inP x m = true) :
    Calls Tryz.prog 24 #[.string (gV x m)] w fun e w' => e = .returned (.tuple #[.int .i64 x, .int .i64 0]) ∧ ∃ n, w' = w.drewN n := by
  obtain ⟨h1, h2, h3, h4⟩ := back_value h
  obtain ⟨k, rfl, hk1, _⟩ := pw_ten (inP_pos h)
  obtain ⟨f1, f2⟩ := (xvalue_facts (gV x k)).2.2 (by omega) h4
  refine (rnumber_any (gV x k) w (by unfold maxLen; omega)).mono ?_
  rintro e w' ⟨rfl, h⟩
  exact ⟨by rw [← f1, ← f2, h1, h2], h⟩
theorem text_fit {x m : Int} (w : World) (h : inP x m = true) :
    Calls Tryz.prog 27 #[.int .i64 x, .int .i64 m] w fun e w' => e = .returned (.tuple #[.string (gV x m), .int .i64 0]) ∧ Below w.heap.size w w' := by
  refine (rtext_any x m w (by have := inP_le h; omega)).mono ?_
  rintro e w' ⟨rfl, h1⟩
  exact ⟨by rw [(text_in h).1, (text_in h).2], h1⟩
theorem rmask_fit {c g n : Nat} {key : Nat → Nat} {t : Nat} {T : Nat → Nat} {N r : Nat} {v : Int} (w : World) (k : Kt n key t T) (hC : RCip w c g n key t T) (hN : 6 ≤ N) (hN2 : N ≤ 32) (hr : r ≤ 9) (hv : inP v (fd N (r + 1) : Nat) = true) :
    Calls Tryz.prog 26 #[.pointer (some ⟨c, 0, none⟩), .int .i64 (N : Nat), .int .i64 (r : Nat), .int .i64 v] w fun e w' => e = .returned (.int .i64 (fM n key t T N r v)) ∧ Below w.heap.size w w' := by
  have hb := inP_le hv
  obtain ⟨x, rfl⟩ := Int.eq_ofNat_of_zero_le hb.1
  exact rmask_any c g n key t T N r x w k hC hN hN2 hr (by omega)
/-- the halves of numerals are their values' texts -/
theorem halves_text {s : ByteArray} (h1 : 6 ≤ s.size) (h2 : s.size ≤ 32) (h : hE s = 0) : loS s = gV (vV (loS s)) (fd s.size 0 : Nat) ∧ hiS s = gV (vV (hiS s)) (fd s.size 1 : Nat) := by
  obtain ⟨a, b, c, d, _⟩ := halves_in h1 h2 h
  exact ⟨by rw [← c]; exact (back_text a).2.1.symm, by rw [← d]; exact (back_text b).2.1.symm⟩
theorem renc10_bad (c : Nat) (s : ByteArray) (w : World) (hs : s.size ≤ maxLen) (h : ¬ hE s = 0) :
    Calls Tryz.prog 11 #[.pointer (some ⟨c, 0, none⟩), .string s] w fun e w' => e = .returned (.tuple #[.string ⟨#[]⟩, .int .i64 (hE s)]) ∧ Below w.heap.size w w' := by
  have HN := Lib.hid (rnum10_any s w hs)
  have g1 : (hE s != 0) = true := by simpa using h
  generalize hE s = r at *
  clear h hs
  go_enter Tryz.func11, Tryz.ntmps11
  go_wp2_with (go_at_call 22; refine HN.out.mono ?_; rintro e w1 ⟨rfl, h1⟩; have H1 := Lib.hid h1; clear h1)
  go_ret2
  exact ⟨rfl, H1.out⟩
set_option maxHeartbeats 4000000 in
theorem renc10_go (c g n : Nat) (key : Nat → Nat) (t : Nat) (T : Nat → Nat) (s : ByteArray) (w : World) (k : Kt n key t T) (hC : RCip w c g n key t T) (hs : s.size ≤ maxLen) (h1 : 6 ≤ s.size) (h2 : s.size ≤ 32) (he : hE s = 0) :
    Calls Tryz.prog 11 #[.pointer (some ⟨c, 0, none⟩), .string s] w fun e w' => e = .returned (.tuple #[.string (encS n key t T s), .int .i64 0]) ∧ Below w.heap.size w w' := by
  obtain ⟨_, _, z1, z2, i0, i1⟩ := halves_in h1 h2 he
  obtain ⟨tx1, tx2⟩ := halves_text h1 h2 he
  have hn := rnum10_any s w hs
  rw [he] at hn
  have HN := Lib.hid hn
  have hM : MIn (fM n key t T s.size) s.size := fun k x => fM_in h1 h2 k x
  have heV : encS n key t T s = gV (fgo (fM n key t T s.size) s.size (vV (loS s)) (vV (hiS s)) 10).1 (fd s.size 10 : Nat) ++ gV (fgo (fM n key t T s.size) s.size (vV (loS s)) (vV (hiS s)) 10).2 (fd s.size 11 : Nat) := if_pos he
  have HL := Lib.hid (show s.extract 0 (s.size / 2) = gV (vV (loS s)) (fd s.size 0 : Nat) from tx1)
  have HH := Lib.hid (show s.extract (s.size / 2) s.size = gV (vV (hiS s)) (fd s.size 1 : Nat) from tx2)
  have HEV := Lib.hid heV
  clear tx1 tx2 z1 z2 heV hn
  generalize vV (loS s) = a at *
  generalize vV (hiS s) = b at *
  have HDG := Lib.hid fun r (hr : r ≤ 9) W => rdigits_any s.size r W (by omega) (by omega)
  have HFZ := Lib.hid fun r => fd_le (n := s.size) r h1 h2
  have HMK := Lib.hid fun r v (hr : r ≤ 9) hv W (h : RCip W c g n key t T) => rmask_fit (N := s.size) (r := r) (v := v) W k h h1 h2 hr hv
  have HMM := Lib.hid hM
  have HC := Lib.hid hC
  have hsz : ((s.size : Nat) : Int) ≤ 32 := by omega
  obtain ⟨u, hu⟩ : ∃ u, s.size / 2 = u := ⟨_, rfl⟩
  have hui : ((s.size : Nat) : Int) / 2 = (u : Nat) := by omega
  have hus : u ≤ s.size := by omega
  have hus2 : (u : Int) ≤ (s.size : Nat) := by omega
  rw [hu] at HL HH
  have HGO := Lib.hid fun k => fgo_in hM i0 i1 k
  have HNX := Lib.hid fun k => show fgo (fM n key t T s.size) s.size a b (k + 1) = ((fgo (fM n key t T s.size) s.size a b k).2, aV (fgo (fM n key t T s.size) s.size a b k).1 (fM n key t T s.size k (fgo (fM n key t T s.size) s.size a b k).2) (fd s.size k : Nat)) from rfl
  clear k hC hs he i0 i1 hM h1 h2 hu
  go_enter Tryz.func11, Tryz.ntmps11
  go_wp2_with (go_at_call 22; refine HN.out.mono ?_; rintro e w1 ⟨rfl, h1⟩; have H1 := Lib.hid h1; clear h1)
  rw [HL.out, HH.out]
  go_loopw [8, 9, 10] (fun p q i wr => ∃ j : Nat, j ≤ 10 ∧ i = .int .i64 (j : Nat) ∧ p = .string (gV (fgo (fM n key t T s.size) s.size a b j).1 (fd s.size j : Nat)) ∧ q = .string (gV (fgo (fM n key t T s.size) s.size a b j).2 (fd s.size (j + 1) : Nat)) ∧ Below w.heap.size w wr) (fun _ _ i _ => 10 - (intOf i).toNat)
  case atStart => exact ⟨0, by decide, rfl, rfl, rfl, H1.out⟩
  case round =>
    obtain ⟨j, hj, rfl, rfl, rfl, h1⟩ := hrel
    have H5 := Lib.hid h1
    clear h1
    obtain ⟨i2, i3⟩ := HGO.out j
    by_cases hlt : j < 10
    · have hji : (j : Int) < 10 := by omega
      have hnx := HNX.out j
      have hmi := HMM.out j (fgo (fM n key t T s.size) s.size a b j).2
      have HMJ := Lib.hid fun W h => HMK.out j (fgo (fM n key t T s.size) s.size a b j).2 (by omega) i3 W h
      have HDJ := Lib.hid fun W => HDG.out j (by omega) W
      have HJ1 := Lib.hid (show j + 1 ≤ 10 by omega)
      generalize (fgo (fM n key t T s.size) s.size a b j).1 = p at *
      generalize (fgo (fM n key t T s.size) s.size a b j).2 = q at *
      generalize fM n key t T s.size j q = y at *
      have hai := aV_in i2 hmi
      have HN1 := Lib.hid fun W => number_fit W i2
      have HN2 := Lib.hid fun W => number_fit W i3
      have HTX := Lib.hid fun W => text_fit W hai.2
      have HAD := Lib.hid fun W => show Calls Tryz.prog 25 #[.int .i64 p, .int .i64 y, .int .i64 (fd s.size j : Nat)] W (fun e w' => e = .returned (.tuple #[.int .i64 (aV p y (fd s.size j : Nat)), .int .i64 0]) ∧ W = w') from (qadd_any p y (fd s.size j : Nat) W).mono fun e w' ⟨he, hw⟩ => ⟨he.trans (by rw [tE_pos i2 hmi]), hw⟩
      have HNJ := Lib.hid hnx
      have HFJ := Lib.hid (fd_two s.size j)
      generalize aV p y (fd s.size j : Nat) = z at *
      clear hnx hmi hai i2 i3
      generalize hg1 : gV p (fd s.size j : Nat) = sp at *
      generalize hg2 : gV q (fd s.size (j + 1) : Nat) = sq at *
      have HG2 := Lib.hid hg2
      generalize hg3 : gV z (fd s.size j : Nat) = sz at *
      have HG3 := Lib.hid hg3
      clear hg1 hg2 hg3
      go_wp2_with fail
      refine (HDJ.out wr).mono ?_
      rintro e w5 ⟨rfl, rfl⟩
      go_wp2_with fail
      refine (HN1.out wr).mono ?_
      rintro e w6 ⟨rfl, n6, rfl⟩
      go_wp2_with fail
      refine (HN2.out _).mono ?_
      rintro e w7 ⟨rfl, n7, rfl⟩
      have H7 := Lib.hid (drawn H5.out (n6 + n7))
      go_wp2_with fail
      refine (HMJ.out _ (HC.out.keep H7.out)).mono ?_
      rintro e w8 ⟨rfl, h1⟩
      have H8 := Lib.hid (H7.out.trans (h1.mono H7.out.size))
      clear h1
      go_wp2_with fail
      refine (HAD.out w8).mono ?_
      rintro e w9 ⟨rfl, rfl⟩
      go_wp2_with fail
      refine (HTX.out w8).mono ?_
      rintro e w10 ⟨rfl, h1⟩
      have H10 := Lib.hid (H8.out.trans (h1.mono H8.out.size))
      clear h1
      go_wp2_with fail
      go_roundw
      case rel => exact ⟨j + 1, HJ1.out, by go_num, by rw [HNJ.out, ← HG2.out], by rw [HNJ.out, HFJ.out, ← HG3.out], H10.out⟩
      case measure => simp [intOf]; omega
    · obtain rfl : j = 10 := by omega
      have g1 := gV_size (fgo (fM n key t T s.size) s.size a b 10).1 (fd s.size 10 : Nat) (by have := HFZ.out 10; omega)
      have g2 := gV_size (fgo (fM n key t T s.size) s.size a b 10).2 (fd s.size (10 + 1) : Nat) (by have := HFZ.out (10 + 1); omega)
      rw [show fd s.size 11 = fd s.size (10 + 1) from rfl] at HEV
      generalize gV (fgo (fM n key t T s.size) s.size a b 10).1 (fd s.size 10 : Nat) = x at *
      generalize gV (fgo (fM n key t T s.size) s.size a b 10).2 (fd s.size (10 + 1) : Nat) = y at *
      clear i2 i3
      go_wp2_with fail
      go_ret2
      exact ⟨by rw [HEV.out]; rfl, H5.out⟩
theorem renc10_any (c g n : Nat) (key : Nat → Nat) (t : Nat) (T : Nat → Nat) (s : ByteArray) (w : World) (k : Kt n key t T) (hC : RCip w c g n key t T) (hs : s.size ≤ maxLen) :
    Calls Tryz.prog 11 #[.pointer (some ⟨c, 0, none⟩), .string s] w fun e w' => e = .returned (.tuple #[.string (encS n key t T s), .int .i64 (hE s)]) ∧ Below w.heap.size w w' := by
  by_cases he : hE s = 0
  · have hl : ¬ (s.size < 6 ∨ 32 < s.size) := fun hl => by rw [hE_one hl] at he; cases he
    rw [he]
    exact renc10_go c g n key t T s w k hC hs (by omega) (by omega) he
  · rw [show encS n key t T s = ⟨#[]⟩ from if_neg he]
    exact renc10_bad c s w hs he
theorem rdec10_bad (c : Nat) (s : ByteArray) (w : World) (hs : s.size ≤ maxLen) (h : ¬ hE s = 0) :
    Calls Tryz.prog 13 #[.pointer (some ⟨c, 0, none⟩), .string s] w fun e w' => e = .returned (.tuple #[.string ⟨#[]⟩, .int .i64 (hE s)]) ∧ Below w.heap.size w w' := by
  have HN := Lib.hid (rnum10_any s w hs)
  have g1 : (hE s != 0) = true := by simpa using h
  generalize hE s = r at *
  clear h hs
  go_enter Tryz.func13, Tryz.ntmps13
  go_wp2_with (go_at_call 22; refine HN.out.mono ?_; rintro e w1 ⟨rfl, h1⟩; have H1 := Lib.hid h1; clear h1)
  go_ret2
  exact ⟨rfl, H1.out⟩
set_option maxHeartbeats 4000000 in
theorem rdec10_go (c g n : Nat) (key : Nat → Nat) (t : Nat) (T : Nat → Nat) (s : ByteArray) (w : World) (k : Kt n key t T) (hC : RCip w c g n key t T) (hs : s.size ≤ maxLen) (h1 : 6 ≤ s.size) (h2 : s.size ≤ 32) (he : hE s = 0) :
    Calls Tryz.prog 13 #[.pointer (some ⟨c, 0, none⟩), .string s] w fun e w' => e = .returned (.tuple #[.string (decS n key t T s), .int .i64 0]) ∧ Below w.heap.size w w' := by
  obtain ⟨_, _, z1, z2, i0, i1⟩ := halves_in h1 h2 he
  obtain ⟨tx1, tx2⟩ := halves_text h1 h2 he
  have hn := rnum10_any s w hs
  rw [he] at hn
  have HN := Lib.hid hn
  have hM : MIn (fM n key t T s.size) s.size := fun k x => fM_in h1 h2 k x
  have heV : decS n key t T s = gV (fbk (fM n key t T s.size) s.size 10 (vV (loS s)) (vV (hiS s))).1 (fd s.size 0 : Nat) ++ gV (fbk (fM n key t T s.size) s.size 10 (vV (loS s)) (vV (hiS s))).2 (fd s.size 1 : Nat) := if_pos he
  have HL := Lib.hid (show s.extract 0 (s.size / 2) = gV (vV (loS s)) (fd s.size 0 : Nat) from tx1)
  have HH := Lib.hid (show s.extract (s.size / 2) s.size = gV (vV (hiS s)) (fd s.size 1 : Nat) from tx2)
  have HEV := Lib.hid heV
  clear tx1 tx2 z1 z2 heV hn
  generalize vV (loS s) = a at *
  generalize vV (hiS s) = b at *
  have HDG := Lib.hid fun r (hr : r ≤ 9) W => rdigits_any s.size r W (by omega) (by omega)
  have HFZ := Lib.hid fun r => fd_le (n := s.size) r h1 h2
  have HMK := Lib.hid fun r v (hr : r ≤ 9) hv W (h : RCip W c g n key t T) => rmask_fit (N := s.size) (r := r) (v := v) W k h h1 h2 hr hv
  have HMM := Lib.hid hM
  have HC := Lib.hid hC
  have hsz : ((s.size : Nat) : Int) ≤ 32 := by omega
  obtain ⟨u, hu⟩ : ∃ u, s.size / 2 = u := ⟨_, rfl⟩
  have hui : ((s.size : Nat) : Int) / 2 = (u : Nat) := by omega
  have hus : u ≤ s.size := by omega
  have hus2 : (u : Int) ≤ (s.size : Nat) := by omega
  rw [hu] at HL HH
  rw [show fd s.size 0 = fd s.size 10 from rfl] at i0
  rw [show fd s.size 1 = fd s.size (10 + 1) from rfl] at i1
  have HI := Lib.hid (show inP a (fd s.size 10 : Nat) = true ∧ inP b (fd s.size (10 + 1) : Nat) = true from ⟨i0, i1⟩)
  generalize hR : fbk (fM n key t T s.size) s.size 10 a b = R at *
  have HR := Lib.hid hR
  clear hR
  clear k hC hs he i0 i1 hM h1 h2 hu
  go_enter Tryz.func13, Tryz.ntmps13
  go_wp2_with (go_at_call 22; refine HN.out.mono ?_; rintro e w1 ⟨rfl, h1⟩; have H1 := Lib.hid h1; clear h1)
  rw [HL.out, HH.out]
  go_loopw [8, 9, 10] (fun p q i wr => ∃ (j : Nat) (x y : Int), j ≤ 10 ∧ i = .int .i64 ((j : Int) - 1) ∧ p = .string (gV x (fd s.size j : Nat)) ∧ q = .string (gV y (fd s.size (j + 1) : Nat)) ∧ inP x (fd s.size j : Nat) = true ∧ inP y (fd s.size (j + 1) : Nat) = true ∧ fbk (fM n key t T s.size) s.size j x y = R ∧ Below w.heap.size w wr) (fun _ _ i _ => (intOf i + 1).toNat)
  case atStart => exact ⟨10, a, b, by decide, by go_num, rfl, rfl, HI.out.1, HI.out.2, HR.out, H1.out⟩
  case round =>
    obtain ⟨j, p, q, hj, rfl, rfl, rfl, i2, i3, hfb, h1⟩ := hrel
    have H5 := Lib.hid h1
    clear h1
    cases j with
    | zero =>
      have hz : ((0 : Nat) : Int) - 1 = -1 := rfl
      have HFB := Lib.hid (show (p, q) = R from hfb)
      have g1 := gV_size p (fd s.size 0 : Nat) (by have := HFZ.out 0; omega)
      have g2 := gV_size q (fd s.size (0 + 1) : Nat) (by have := HFZ.out (0 + 1); omega)
      have HEW := Lib.hid (show decS n key t T s = gV p (fd s.size 0 : Nat) ++ gV q (fd s.size (0 + 1) : Nat) by rw [HEV.out, ← HFB.out])
      generalize gV p (fd s.size 0 : Nat) = x at *
      generalize gV q (fd s.size (0 + 1) : Nat) = y at *
      clear i2 i3 hfb
      rw [hz]
      go_wp2_with fail
      go_ret2
      exact ⟨by rw [HEW.out]; rfl, H5.out⟩
    | succ j =>
      have hz : ((j + 1 : Nat) : Int) - 1 = (j : Nat) := by omega
      have hji : (j : Int) ≤ 9 := by omega
      have i4 : inP q (fd s.size j : Nat) = true := by rw [← fd_two]; exact i3
      have HFB := Lib.hid (show fbk (fM n key t T s.size) s.size j (sV q (fM n key t T s.size j p) (fd s.size j : Nat)) p = R from hfb)
      have hmi := HMM.out j p
      have HMJ := Lib.hid fun W h => HMK.out j p (by omega) i2 W h
      have HDJ := Lib.hid fun W => HDG.out j (by omega) W
      have HJ1 := Lib.hid (show j ≤ 10 by omega)
      have HFJ := Lib.hid (fd_two s.size j)
      rw [show j + 1 + 1 = j + 2 from rfl, HFJ.out]
      generalize fM n key t T s.size j p = y at *
      have hai := sV_in i4 hmi
      have HN1 := Lib.hid fun W => number_fit W i4
      have HN2 := Lib.hid fun W => number_fit W i2
      have HTX := Lib.hid fun W => text_fit W hai
      have HAD := Lib.hid fun W => show Calls Tryz.prog 29 #[.int .i64 q, .int .i64 y, .int .i64 (fd s.size j : Nat)] W (fun e w' => e = .returned (.tuple #[.int .i64 (sV q y (fd s.size j : Nat)), .int .i64 0]) ∧ W = w') from (qsub_any q y (fd s.size j : Nat) W).mono fun e w' ⟨he, hw⟩ => ⟨he.trans (by rw [tE_pos i4 hmi]), hw⟩
      have HIZ := Lib.hid hai
      have HI2 := Lib.hid i2
      generalize sV q y (fd s.size j : Nat) = z at *
      clear hmi hai i2 i3 i4 hfb
      generalize hg1 : gV q (fd s.size j : Nat) = sq at *
      generalize hg2 : gV p (fd s.size (j + 1) : Nat) = sp at *
      have HG2 := Lib.hid hg2
      generalize hg3 : gV z (fd s.size j : Nat) = sz at *
      have HG3 := Lib.hid hg3
      clear hg1 hg2 hg3
      rw [hz]
      go_wp2_with fail
      refine (HDJ.out wr).mono ?_
      rintro e w5 ⟨rfl, rfl⟩
      go_wp2_with fail
      refine (HN1.out wr).mono ?_
      rintro e w6 ⟨rfl, n6, rfl⟩
      go_wp2_with fail
      refine (HN2.out _).mono ?_
      rintro e w7 ⟨rfl, n7, rfl⟩
      have H7 := Lib.hid (drawn H5.out (n6 + n7))
      go_wp2_with fail
      refine (HMJ.out _ (HC.out.keep H7.out)).mono ?_
      rintro e w8 ⟨rfl, h1⟩
      have H8 := Lib.hid (H7.out.trans (h1.mono H7.out.size))
      clear h1
      go_wp2_with fail
      refine (HAD.out w8).mono ?_
      rintro e w9 ⟨rfl, rfl⟩
      go_wp2_with fail
      refine (HTX.out w8).mono ?_
      rintro e w10 ⟨rfl, h1⟩
      have H10 := Lib.hid (H8.out.trans (h1.mono H8.out.size))
      clear h1
      go_wp2_with fail
      go_roundw
      case rel => exact ⟨j, z, p, HJ1.out, by go_num, by rw [← HG3.out], by rw [← HG2.out], HIZ.out, HI2.out, HFB.out, H10.out⟩
      case measure => simp [intOf]
theorem rdec10_any (c g n : Nat) (key : Nat → Nat) (t : Nat) (T : Nat → Nat) (s : ByteArray) (w : World) (k : Kt n key t T) (hC : RCip w c g n key t T) (hs : s.size ≤ maxLen) :
    Calls Tryz.prog 13 #[.pointer (some ⟨c, 0, none⟩), .string s] w fun e w' => e = .returned (.tuple #[.string (decS n key t T s), .int .i64 (hE s)]) ∧ Below w.heap.size w w' := by
  by_cases he : hE s = 0
  · have hl : ¬ (s.size < 6 ∨ 32 < s.size) := fun hl => by rw [hE_one hl] at he; cases he
    rw [he]
    exact rdec10_go c g n key t T s w k hC hs (by omega) (by omega) he
  · rw [show decS n key t T s = ⟨#[]⟩ from if_neg he]
    exact rdec10_bad c s w hs he
end Go.Proofs.YtniaelaolmjkaaaGreatDoor
/- Contracts of package ffx: a cipher is made, of new memory. -/
namespace Go.Proofs.YtniaelaolmjkaaaGreatDoor
set_option maxRecDepth 100000
open Go.RowKit

/-- all blocks of a cipher lie from base on -/
structure CipNew (w : World) (base c g t : Nat) : Prop where
  cn : base ≤ c
  gn : base ≤ g
  tw : ∀ A cap B o, w.cell? ⟨c, 1, none⟩ = some (.slice A t cap) → A = some ⟨B, o, none⟩ → base ≤ B
theorem fnew_all (A : Option Addr) (len n cap : Nat) (key : Nat → Nat) (A2 : Option Addr) (t c2 : Nat) (T : Nat → Nat) (w : World) (hn : n = 4 ∨ n = 8) (hl : 4 * n = len) (hA : SlB w A len key) (ht : t ≤ 16) (hA2 : SlB w A2 t T) (hnil : A2 = none → t = 0 ∧ c2 = 0) :
    Calls Tryz.prog 6 #[.slice A len cap, .slice A2 t c2] w fun e w' => ∃ c g, e = .returned (.tuple #[.pointer (some ⟨c, 0, none⟩), .int .i64 0]) ∧ Cip w' c g n key t T ∧ CipNew w' w.heap.size c g t ∧ Below w.heap.size w w' := by
  subst hl
  have HN := Lib.hid (new_any A n cap key w hn hA)
  have hb : decide ((16 : Int) < (t : Nat)) = false := by rw [decide_eq_false_iff_not]; omega
  have HA2 := Lib.hid hA2
  have HNIL := Lib.hid hnil
  have HT := Lib.hid ht
  clear hA hn hA2 hnil ht
  go_enter Tryz.func6, Tryz.ntmps6
  go_wp2_with (first | (go_at_call 14; refine HN.out.mono ?_; rintro e w1 ⟨g, rfl, h1, h2, h3⟩; have H1 := Lib.hid h1; have H2 := Lib.hid h2; have H3 := Lib.hid h3; clear h1 h2 h3) | (go_at_call 15; refine (clone_any A2 t c2 T w1 (by have := HT.out; omega) (HA2.out.keep H3.out) HNIL.out).mono ?_; rintro e w2 ⟨A3, c3, rfl, h4, h5, h6, h7, h8⟩; have H4 := Lib.hid h4; have H5 := Lib.hid h5; have H6 := Lib.hid h6; have H7 := Lib.hid h7; have H8 := Lib.hid h8; clear h4 h5 h6 h7 h8))
  go_ret2
  have hba := (Below.refl w2.heap.size w2).alloc (Nat.le_refl _) (.cells #[.pointer (some ⟨g, 0, none⟩), .slice A3 t c3] 44)
  have hgl : g < w1.heap.size := H2.out.lt
  have hc1 : (w2.alloc (.cells #[.pointer (some ⟨g, 0, none⟩), .slice A3 t c3] 44)).cell? ⟨w2.heap.size, 1, none⟩ = some (.slice A3 t c3) := (World.cell?_alloc_at _ _ _ _ rfl).trans rfl
  refine ⟨w2.heap.size, g, rfl, ⟨(H2.out.keep H8.out).keep hba, (World.cell?_alloc_at _ _ _ _ rfl).trans rfl, A3, c3, hc1, H4.out.keep hba, H5.out, H6.out, fun B o e => by have := H7.out B o e; omega⟩, ⟨Nat.le_trans H3.out.size H8.out.size, H1.out, fun A cap B o h e => ?_⟩, ?_⟩
  · rw [hc1] at h
    cases h
    exact Nat.le_trans H3.out.size (H7.out B o e)
  · exact H3.out.trans ((H8.out.mono H3.out.size).trans (hba.mono (Nat.le_trans H3.out.size H8.out.size)))
theorem Cip.chgS {S : Nat → Prop} {w w' : World} {c g n t base : Nat} {key T : Nat → Nat} (h : Cip w c g n key t T) (hN : CipNew w base c g t) (hc : ChgS S w w') (hS : ∀ k, S k → k < base) : Cip w' c g n key t T := by
  obtain ⟨A, cap, h1, h2, h3, h4, h5⟩ := h.tw
  have nS : ∀ k, base ≤ k → ¬ S k := fun k hk hs => by have := hS k hs; omega
  refine ⟨h.key.of_block (hc.block g h.key.lt (nS g hN.gn)), (hc.cell h.lt (nS c hN.cn)).trans h.ptr, A, cap, (hc.cell h.lt (nS c hN.cn)).trans h1, fun h0 => ?_, h3, h4, h5⟩
  obtain ⟨B, o, e, hB, hj⟩ := h2 h0
  exact ⟨B, o, e, Nat.lt_of_lt_of_le hB hc.size, fun j hj' => ⟨(hj j hj').1, (hc.cell hB (nS B (hN.tw A cap B o h1 e))).trans (hj j hj').2⟩⟩
theorem CipNew.alloc {w : World} {base c g t : Nat} (h : CipNew w base c g t) (hc : c < w.heap.size) (o : Obj) : CipNew (w.alloc o) base c g t :=
  ⟨h.cn, h.gn, fun A cap B o' h1 e => h.tw A cap B o' (((Below.refl w.heap.size w).alloc (Nat.le_refl _) o).cell (p := ⟨c, 1, none⟩) hc ▸ h1) e⟩
end Go.Proofs.YtniaelaolmjkaaaGreatDoor
namespace Go.Proofs.YtniaelaolmjkaaaGreatDoor
open Go.RowKit

theorem splice_full (n : Nat) (bs : Nat → Nat) : splice (List.replicate (n + 1) (Value.int .u8 0)) 0 (bytesL n bs) = bytesL (n + 1) (fun j => if j < n then bs j else 0) := by
  unfold splice bytesL
  rw [List.take_zero, List.nil_append, List.range_succ, List.map_append]
  congr 1
  · apply List.map_congr_left
    intro j hj
    show _ = Value.int .u8 ((if j < n then bs j else 0 : Nat) : Int)
    rw [if_pos (List.mem_range.1 hj)]
  · rw [List.length_map, List.length_range, Nat.zero_add, List.drop_replicate, show n + 1 - n = 1 by omega]
    simp
theorem row_of_bytesL {w : World} {g n : Nat} {f : Nat → Nat} (h : w.heap[g]? = some (.cells (bytesL n f).toArray 5 (0, 0))) : w.rowIs g 5 n (fun j => .int .u8 (f j : Nat)) := by
  refine ⟨_, h, by simp [bytesL], fun i hi => ?_⟩
  rw [List.getElem?_toArray]
  unfold bytesL
  rw [List.getElem?_map, List.getElem?_range hi]; rfl

set_option maxHeartbeats 800000 in
theorem lent_any (A : Option Addr) (len cap : Nat) (bs : Nat → Nat) (w : World) (hl : len ≤ 140737488351232) (hA : SlB w A len bs) :
    Calls Tryz.prog 5 #[.slice A len cap] w fun e w' => ∃ g, e = .returned (.slice (some ⟨g, 0, none⟩) len (len + 1)) ∧ w.heap.size ≤ g ∧
      w'.rowIs g 5 (len + 1) (fun j => .int .u8 (if j < len then bs j else 77 : Nat)) ∧ Below w.heap.size w w' := by
  obtain ⟨i, hi, hz, hsz, hb⟩ := info_parts info8
  have hmk : ∀ W : World, (Instr.makeSlice 22 (.int .i64 (len : Int)) (.int .i64 ((len : Int) + 1))).run Tryz.prog W = .ok (.slice (some ⟨W.heap.size, 0, none⟩) len (len + 1)) (W.alloc (.cells (madeCells #[.int .u8 0] (len + 1)) 5)) := fun W => by
    have := run_make (P := Tryz.prog) W 22 5 i (.int .u8 0) Tryz.underlying22 hi hz .i64 .i64 (len : Int) ((len : Int) + 1) (by omega) (by omega) (by rw [hb]; omega) (by omega)
    rw [this, hsz, Int.toNat_natCast, show ((len : Int) + 1).toNat = len + 1 by omega, Nat.mul_one]
    rfl
  have HA := Lib.hid hA
  clear hA hi hz hsz hb
  have HX := Lib.hid (SlB.keep HA.out ((Below.refl _ _).alloc (Nat.le_refl _) (.cells (madeCells #[.int .u8 0] (len + 1)) 5)))
  have HB1 := Lib.hid ((Below.refl w.heap.size w).alloc (Nat.le_refl _) (.cells (madeCells #[.int .u8 0] (len + 1)) 5))
  have HG := Lib.hid (show (w.alloc (.cells (madeCells #[.int .u8 0] (len + 1)) 5)).heap[w.heap.size]? = some (.cells (List.replicate (len + 1) (Value.int .u8 0)).toArray 5 (0, 0)) by
    rw [heap_alloc_new]
    congr 2
    apply Array.ext'
    rw [toList_madeCells_one])
  have hlen : (bytesL len bs).length = Nat.min len len := by simp [bytesL]
  have hfit : 0 + (bytesL len bs).length ≤ (List.replicate (len + 1) (Value.int .u8 0)).length := by simp [bytesL]
  have hone : ∀ v ∈ bytesL len bs, v.oneCell' = true := by
    intro u hu
    obtain ⟨j, hj⟩ := List.getElem?_of_mem hu
    obtain ⟨_, rfl⟩ := bytesL_get _ _ j u hj
    rfl
  have HPOS := Lib.hid (show 0 < (bytesL len bs).length → (some (⟨w.heap.size, 0, none⟩ : Addr)) = some ⟨w.heap.size, 0, none⟩ ∧ ∃ ad, A = some ad ∧ ∀ j v, (bytesL len bs)[j]? = some v → (w.alloc (.cells (madeCells #[.int .u8 0] (len + 1)) 5)).cell? (ad.add j) = some v from fun h => by
    have h0 : 0 < len := by simpa [bytesL] using h
    obtain ⟨B, o, hA, _, hc⟩ := HX.out h0
    refine ⟨rfl, _, hA, fun j v hj => ?_⟩
    obtain ⟨hjl, rfl⟩ := bytesL_get _ _ j v hj
    rw [Go.WideShapes.add_plain]
    exact (hc j hjl).2)
  have hsz1 : (Tryz.prog.info? 5).map (·.size) = some 1 := by kernel_rfl
  have HL := Lib.hid hlen
  have HF := Lib.hid hfit
  have HO := Lib.hid hone
  have HS := Lib.hid hsz1
  clear hlen hfit hone hsz1
  go_enter Tryz.func5, Tryz.ntmps5
  go_wp2_with (((refine wpList_copy_splice rfl (.tmp 10) (.tmp 11) 22 22 rfl 5 Tryz.underlying22 HS.out (some ⟨w.heap.size, 0, none⟩) A len (len + 1) len cap rfl rfl w.heap.size 0 _ 5 HG.out (bytesL len bs) HL.out HPOS.out HF.out HO.out w.heap.size w HB1.out (Nat.le_refl _) ?_); intro w2 HR hb2; rw [splice_full] at HR; have HR2 := Lib.hid (row_of_bytesL HR.out); have HB2 := Lib.hid hb2; have hc := HR2.out.cell (i := len) (Nat.lt_succ_self len); rw [if_neg (Nat.lt_irrefl len)] at hc; have hf := HR2.out.frozen len; clear HR hb2))
  go_ret
  exact ⟨w.heap.size, rfl, Nat.le_refl _, (HR2.out.set len (.int .u8 77)).congr fun j hj => by
    by_cases e : j = len
    · rw [if_pos e, if_neg (by omega)]; rfl
    · rw [if_neg e, if_pos (by omega), if_pos (by omega)], HB2.out.setCell (Nat.le_refl _) _⟩

set_option maxHeartbeats 800000 in
theorem kept_any (g : Nat) (A : Option Addr) (len cap : Nat) (bs : Nat → Nat) (w : World) (hl : len ≤ 140737488351232) (hA : SlB w A len bs)
    (hr : w.rowIs g 5 (len + 1) (fun j => .int .u8 (if j < len then bs j else 77 : Nat))) :
    Calls Tryz.prog 7 #[.slice (some ⟨g, 0, none⟩) len (len + 1), .slice A len cap] w fun e w' => e = .returned (.bool true) ∧ w = w' := by
  have hcv1 := convRowX (cap := len + 1) ((RowX.of_rowIs hr).less (Nat.le_succ len)) bs (Nat.le_refl _) (fun i hi => by rw [if_pos hi])
  have hcv2 := convSl (cap := cap) hA (Nat.le_refl len)
  have hc := hr.cell (i := len) (Nat.lt_succ_self len)
  rw [if_neg (Nat.lt_irrefl len)] at hc
  clear hr hA
  generalize strOf len bs = y at *
  go_enter Tryz.func7, Tryz.ntmps7
  go_wp2_with fail
  go_ret
  exact ⟨rfl, rfl⟩
end Go.Proofs.YtniaelaolmjkaaaGreatDoor
/- Bytes that were lent. -/
namespace Go.Proofs.YtniaelaolmjkaaaGreatDoor
open Go.RowKit
theorem lent_slB {w : World} {g len : Nat} {b : Nat → Nat} (h : w.rowIs g 5 (len + 1) (fun j => .int .u8 (if j < len then b j else 77 : Nat))) (hb : By len b) : SlB w (some ⟨g, 0, none⟩) len b :=
  SlB.of_rowX ((RowX.of_rowIs h).less (Nat.le_succ len)) fun j hj => ⟨hb j hj, by rw [if_pos hj]⟩
theorem lent_arr {w : World} {g len : Nat} {b : Nat → Nat} (h : w.rowIs g 5 (len + 1) (fun j => .int .u8 (if j < len then b j else 77 : Nat))) : Arr w g 0 (len + 1) (fun j => if j < len then b j else 77) :=
  RowX.arr (RowX.of_rowIs h)
end Go.Proofs.YtniaelaolmjkaaaGreatDoor
/- Owned: rows of bytes that may be written over, each by itself. -/
namespace Go.Proofs.YtniaelaolmjkaaaGreatDoor
open Go.RowKit

/-- what row j holds at place t when k rows and u places of the next one are written over -/
def ov (f : Nat → Nat → Nat) (k u j t : Nat) : Nat := if j < k ∨ (j = k ∧ t < u) then j + 1 else f j t
/-- two rows of bytes, known by a row of two slices -/
structure Rws (R : Nat) (w : World) (g3 : Nat) (A : Nat → Option Addr) (n c g : Nat → Nat) (f : Nat → Nat → Nat) (k u : Nat) : Prop where
  cells : ∀ j, j < R → w.cell? ⟨g3, j, none⟩ = some (.slice (A j) (n j) (c j))
  rows : ∀ j, j < R → 0 < c j → RowX w (g j) 5 (c j) (fun t => .int .u8 (ov f k u j t : Nat))
variable {A : Nat → Option Addr} {n c g : Nat → Nat} {f : Nat → Nat → Nat} {R g3 B : Nat}
theorem Rws.next {w : World} {k : Nat} (h : Rws R w g3 A n c g f k (c k)) : Rws R w g3 A n c g f (k + 1) 0 :=
  ⟨h.cells, fun j hj hc => (h.rows j hj hc).congr fun t ht => by
    congr 2
    unfold ov
    by_cases e : j < k ∨ (j = k ∧ t < c k)
    · rw [if_pos e, if_pos (by omega)]
    · rw [if_neg e, if_neg (by
        rintro (h1 | h1)
        · have : j = k := by omega
          subst this
          exact e (Or.inr ⟨rfl, ht⟩)
        · omega)]⟩
theorem Rws.drewN {w : World} {k u : Nat} (h : Rws R w g3 A n c g f k u) (m : Nat) : Rws R (w.drewN m) g3 A n c g f k u := ⟨h.cells, fun j hj hc => (h.rows j hj hc).drewN m⟩
theorem Rws.write {w : World} {k u : Nat} (h : Rws R w g3 A n c g f k u) (hk : k < R) (hc : 0 < c k) (hne : ∀ i j, i < R → j < R → i ≠ j → 0 < c i → 0 < c j → g i ≠ g j) (h3 : g3 ≠ g k) :
    Rws R (w.setCell ⟨g k, u, none⟩ (.int .u8 ((k : Int) + 1))) g3 A n c g f k (u + 1) :=
  ⟨fun j hj => (World.cell?_setCell_other w ⟨g k, u, none⟩ ⟨g3, j, none⟩ _ (fun e => h3 (congrArg Addr.block e).symm)).trans (h.cells j hj), fun j hj hcj => by
    by_cases e : j = k
    · subst e
      refine ((h.rows j hj hcj).set u _).congr fun t _ => ?_
      by_cases et : t = u
      · rw [if_pos et]; unfold ov; rw [if_pos (by omega)]; rfl
      · rw [if_neg et]
        congr 2
        unfold ov
        by_cases e2 : j < j ∨ (j = j ∧ t < u)
        · rw [if_pos e2, if_pos (by omega)]
        · rw [if_neg e2, if_neg (by omega)]
    · refine ((h.rows j hj hcj).setOther (a := ⟨g k, u, none⟩) (hne j k hj hk e hcj hc) _).congr fun t _ => ?_
      congr 2
      unfold ov
      by_cases e2 : j < k ∨ (j = k ∧ t < u)
      · rw [if_pos e2, if_pos (by omega)]
      · rw [if_neg e2, if_neg (by omega)]⟩

set_option maxHeartbeats 1600000 in
theorem owned_any (cap3 : Nat) (w : World) (hR : R ≤ 200) (h2 : Rws R w g3 A n c g f 0 0) (hA : ∀ j, j < R → 0 < c j → A j = some ⟨g j, 0, none⟩)
    (hne : ∀ i j, i < R → j < R → i ≠ j → 0 < c i → 0 < c j → g i ≠ g j) (h3 : ∀ j, j < R → 0 < c j → g3 ≠ g j) (hB : ∀ j, j < R → 0 < c j → B ≤ g j) (hcl : ∀ j, j < R → c j ≤ 140737488351300) :
    Calls Tryz.prog 8 #[.slice (some ⟨g3, 0, none⟩) R cap3] w fun e w' => e = .returned (.bool true) ∧ Below B w w' := by
  have H2 := Lib.hid h2
  have HA := Lib.hid hA
  have HN := Lib.hid hne
  have H3 := Lib.hid h3
  have HB := Lib.hid hB
  have HC := Lib.hid hcl
  clear h2 hA hne h3 hB hcl
  go_enter Tryz.func8, Tryz.ntmps8
  go_wp2_with fail
  go_loopw [3] (fun i wr => ∃ k : Nat, k ≤ R ∧ i = .int .i64 k ∧ Rws R wr g3 A n c g f k 0 ∧ Below B w wr) (fun i _ => R - (intOf i).toNat)
  case atStart => exact ⟨0, by omega, rfl, H2.out, Below.refl _ _⟩
  case round =>
    obtain ⟨k, hk, rfl, htw, hbl⟩ := hrel
    have HT := Lib.hid htw
    have HBL := Lib.hid hbl
    clear htw hbl
    by_cases hlt : k < R
    · have hlti : (k : Int) < R := by omega
      have hk0 : (0 : Int) ≤ (k : Nat) := by omega
      have hcell := HT.out.cells k hlt
      have hck : ((c k : Nat) : Int) ≤ (c k : Nat) := Int.le_refl _
      have hck0 : (0 : Int) ≤ (c k : Nat) := by omega
      have HCK := HC.out k hlt
      go_wp2_with fail
      go_quiet (fail)
      have HTq := Lib.hid (HT.out.drewN nq)
      have HBq := Lib.hid (drawn HBL.out nq)
      generalize wr.drewN nq = W at *
      by_cases hc0 : c k = 0
      · have e0 : ((c k : Nat) : Int) = 0 := by omega
        have HZ := Lib.hid hc0
        generalize hcc : c k = cc at *
        subst hc0
        clear hcell
        go_wp2_with fail
        go_loopw [5] (fun i wr => i = .int .i64 0 ∧ wr = W) (fun _ _ => 0)
        case atStart => exact ⟨rfl, rfl⟩
        case round =>
          obtain ⟨rfl, rfl⟩ := hrel
          go_wp2_with fail
          go_roundw
          case rel => exact ⟨k + 1, by omega, by go_num, Rws.next (by rw [hcc]; exact HTq.out), HBq.out⟩
          case measure => simp [intOf]; omega
      · have hpos : 0 < c k := by omega
        have hAk := HA.out k hlt hpos
        rw [hAk]
        go_wp2_with fail
        go_loopw [5] (fun i wr => ∃ t : Nat, t ≤ c k ∧ i = .int .i64 t ∧ Rws R wr g3 A n c g f k t ∧ Below B w wr) (fun i _ => c k - (intOf i).toNat)
        case atStart => exact ⟨0, Nat.zero_le _, rfl, HTq.out, HBq.out⟩
        case round =>
          obtain ⟨t, ht, rfl, htw, hbl⟩ := hrel
          have HT2 := Lib.hid htw
          have HB2 := Lib.hid hbl
          clear htw hbl
          by_cases htl : t < c k
          · have hcl := (HT2.out.rows k hlt hpos).cell htl
            have hfr := (HT2.out.rows k hlt hpos).frozen htl
            have HW2 := Lib.hid (HT2.out.write hlt hpos HN.out (H3.out k hlt hpos))
            have HB3 := Lib.hid (HB2.out.setCell (p := ⟨g k, t, none⟩) (HB.out k hlt hpos) (.int .u8 ((k : Int) + 1)))
            generalize ov f k t k t = old at hcl
            go_wp2_with fail
            go_roundw
            case rel => exact ⟨t + 1, by omega, by go_num, HW2.out, HB3.out⟩
            case measure => simp [intOf]; omega
          · obtain rfl : t = c k := by omega
            go_wp2_with fail
            go_roundw
            case rel => exact ⟨k + 1, by omega, by go_num, HT2.out.next, HB2.out⟩
            case measure => simp [intOf]; omega
    · have HK := Lib.hid (show k = R by omega)
      have hk2 : ¬ (k : Int) < R := by omega
      go_wp2_with fail
      go_loopw [6] (fun i wr => ∃ j : Nat, j ≤ R ∧ i = .int .i64 j ∧ Rws R wr g3 A n c g f k 0 ∧ Below B w wr) (fun i _ => R - (intOf i).toNat)
      case atStart => exact ⟨0, by omega, rfl, HT.out, HBL.out⟩
      case round =>
        obtain ⟨j, hj, rfl, htw, hbl⟩ := hrel
        have HT5 := Lib.hid htw
        have HB5 := Lib.hid hbl
        clear htw hbl
        by_cases hjl : j < R
        · have hjli : (j : Int) < R := by omega
          have hj0 : (0 : Int) ≤ (j : Nat) := by omega
          have hcell := HT5.out.cells j hjl
          have hck : ((c j : Nat) : Int) ≤ (c j : Nat) := Int.le_refl _
          have hck0 : (0 : Int) ≤ (c j : Nat) := by omega
          have HCK := HC.out j hjl
          go_wp2_with fail
          go_quiet (fail)
          have HTq := Lib.hid (HT5.out.drewN nq)
          have HBq := Lib.hid (drawn HB5.out nq)
          generalize hWW : World.drewN _ nq = W at *
          clear hWW
          by_cases hc0 : c j = 0
          · have HZ := Lib.hid hc0
            generalize hcc : c j = cc at *
            subst hc0
            clear hcell
            go_wp2_with fail
            go_loopw [8] (fun i wr => i = .int .i64 0 ∧ wr = W) (fun _ _ => 0)
            case atStart => exact ⟨rfl, rfl⟩
            case round =>
              obtain ⟨rfl, rfl⟩ := hrel
              go_wp2_with fail
              go_roundw
              case rel => exact ⟨j + 1, by omega, by go_num, HTq.out, HBq.out⟩
              case measure => simp [intOf]; omega
          · have hpos : 0 < c j := by omega
            have hAk := HA.out j hjl hpos
            rw [hAk]
            go_wp2_with fail
            go_loopw [8] (fun i wr => ∃ t : Nat, t ≤ c j ∧ i = .int .i64 t ∧ wr = W) (fun i _ => c j - (intOf i).toNat)
            case atStart => exact ⟨0, Nat.zero_le _, rfl, rfl⟩
            case round =>
              obtain ⟨t, ht, rfl, rfl⟩ := hrel
              by_cases htl : t < c j
              · have hcl := (HTq.out.rows j hjl hpos).cell htl
                have hov : ov f k 0 j t = j + 1 := by unfold ov; rw [if_pos (by have := HK.out; omega)]
                rw [hov] at hcl
                clear hov
                obtain ⟨j1, ej, hj1⟩ : ∃ j1 : Nat, (j : Int) + 1 = j1 ∧ j + 1 = j1 := ⟨j + 1, by omega, rfl⟩
                rw [hj1] at hcl
                have hj13 : j1 ≤ 200 := by omega
                clear hj1
                go_wp2_with fail
                go_roundw
                case rel => exact ⟨t + 1, by omega, by go_num, trivial⟩
                case measure => simp [intOf]; omega
              · obtain rfl : t = c j := by omega
                go_wp2_with fail
                go_roundw
                case rel => exact ⟨j + 1, by omega, by go_num, HTq.out, HBq.out⟩
                case measure => simp [intOf]; omega
        · obtain rfl : j = R := by omega
          go_wp2_with fail
          go_ret
          exact ⟨rfl, HB5.out⟩
end Go.Proofs.YtniaelaolmjkaaaGreatDoor
/- Owned, for rows of bytes that lie in blocks of any kind. -/
namespace Go.Proofs.YtniaelaolmjkaaaGreatDoor
open Go.RowKit

/-- the rows' blocks -/
def InR (R : Nat) (c g : Nat → Nat) (k : Nat) : Prop := ∃ j, j < R ∧ 0 < c j ∧ k = g j
/-- rows of bytes, known by a row of slices -/
structure RwsA (R : Nat) (w : World) (g3 : Nat) (A : Nat → Option Addr) (n c g : Nat → Nat) (f : Nat → Nat → Nat) (k u : Nat) : Prop where
  cells : ∀ j, j < R → w.cell? ⟨g3, j, none⟩ = some (.slice (A j) (n j) (c j))
  rows : ∀ j, j < R → 0 < c j → Arr w (g j) 0 (c j) (ov f k u j)
variable {A : Nat → Option Addr} {n c g : Nat → Nat} {f : Nat → Nat → Nat} {R g3 : Nat}
theorem RwsA.next {w : World} {k : Nat} (h : RwsA R w g3 A n c g f k (c k)) : RwsA R w g3 A n c g f (k + 1) 0 :=
  ⟨h.cells, fun j hj hc => (h.rows j hj hc).congr fun t ht => by
    unfold ov
    by_cases e : j < k ∨ (j = k ∧ t < c k)
    · rw [if_pos e, if_pos (by omega)]
    · rw [if_neg e, if_neg (by
        rintro (h1 | h1)
        · have : j = k := by omega
          subst this
          exact e (Or.inr ⟨rfl, ht⟩)
        · omega)]⟩
theorem RwsA.drewN {w : World} {k u : Nat} (h : RwsA R w g3 A n c g f k u) (m : Nat) : RwsA R (w.drewN m) g3 A n c g f k u := ⟨h.cells, fun j hj hc => (h.rows j hj hc).drewN m⟩
theorem RwsA.write {w : World} {k u : Nat} (h : RwsA R w g3 A n c g f k u) (hk : k < R) (hc : 0 < c k) (hu : u < c k) (hne : ∀ i j, i < R → j < R → i ≠ j → 0 < c i → 0 < c j → g i ≠ g j) (h3 : g3 ≠ g k) :
    RwsA R (w.setCell ⟨g k, u, none⟩ (.int .u8 ((k : Int) + 1))) g3 A n c g f k (u + 1) :=
  ⟨fun j hj => (World.cell?_setCell_other w ⟨g k, u, none⟩ ⟨g3, j, none⟩ _ (fun e => h3 (congrArg Addr.block e).symm)).trans (h.cells j hj), fun j hj hcj => by
    by_cases e : j = k
    · subst e
      refine ((h.rows j hj hcj).set hu (Nat.zero_add u).symm (j + 1) rfl).congr fun t _ => ?_
      by_cases et : t = u
      · rw [if_pos et]; unfold ov; rw [if_pos (by omega)]
      · rw [if_neg et]
        unfold ov
        by_cases e2 : j < j ∨ (j = j ∧ t < u)
        · rw [if_pos e2, if_pos (by omega)]
        · rw [if_neg e2, if_neg (by omega)]
    · refine ((h.rows j hj hcj).setOther (a := ⟨g k, u, none⟩) (hne j k hj hk e hcj hc) _).congr fun t _ => ?_
      unfold ov
      by_cases e2 : j < k ∨ (j = k ∧ t < u)
      · rw [if_pos e2, if_pos (by omega)]
      · rw [if_neg e2, if_neg (by omega)]⟩

set_option maxHeartbeats 1600000 in
theorem owned_arr (cap3 : Nat) (w : World) (hR : R ≤ 200) (h2 : RwsA R w g3 A n c g f 0 0) (hA : ∀ j, j < R → 0 < c j → A j = some ⟨g j, 0, none⟩)
    (hne : ∀ i j, i < R → j < R → i ≠ j → 0 < c i → 0 < c j → g i ≠ g j) (h3 : ∀ j, j < R → 0 < c j → g3 ≠ g j) (hcl : ∀ j, j < R → c j ≤ 140737488351300) :
    Calls Tryz.prog 8 #[.slice (some ⟨g3, 0, none⟩) R cap3] w fun e w' => e = .returned (.bool true) ∧ ChgS (InR R c g) w w' := by
  have H2 := Lib.hid h2
  have HA := Lib.hid hA
  have HN := Lib.hid hne
  have H3 := Lib.hid h3
  have HC := Lib.hid hcl
  clear h2 hA hne h3 hcl
  go_enter Tryz.func8, Tryz.ntmps8
  go_wp2_with fail
  go_loopw [3] (fun i wr => ∃ k : Nat, k ≤ R ∧ i = .int .i64 k ∧ RwsA R wr g3 A n c g f k 0 ∧ ChgS (InR R c g) w wr) (fun i _ => R - (intOf i).toNat)
  case atStart => exact ⟨0, by omega, rfl, H2.out, ChgS.refl _ _⟩
  case round =>
    obtain ⟨k, hk, rfl, htw, hbl⟩ := hrel
    have HT := Lib.hid htw
    have HBL := Lib.hid hbl
    clear htw hbl
    by_cases hlt : k < R
    · have hlti : (k : Int) < R := by omega
      have hk0 : (0 : Int) ≤ (k : Nat) := by omega
      have hcell := HT.out.cells k hlt
      have hck : ((c k : Nat) : Int) ≤ (c k : Nat) := Int.le_refl _
      have hck0 : (0 : Int) ≤ (c k : Nat) := by omega
      have HCK := HC.out k hlt
      go_wp2_with fail
      go_quiet (fail)
      have HTq := Lib.hid (HT.out.drewN nq)
      have HBq := Lib.hid (HBL.out.drewN nq)
      generalize wr.drewN nq = W at *
      by_cases hc0 : c k = 0
      · have e0 : ((c k : Nat) : Int) = 0 := by omega
        have HZ := Lib.hid hc0
        generalize hcc : c k = cc at *
        subst hc0
        clear hcell
        go_wp2_with fail
        go_loopw [5] (fun i wr => i = .int .i64 0 ∧ wr = W) (fun _ _ => 0)
        case atStart => exact ⟨rfl, rfl⟩
        case round =>
          obtain ⟨rfl, rfl⟩ := hrel
          go_wp2_with fail
          go_roundw
          case rel => exact ⟨k + 1, by omega, by go_num, RwsA.next (by rw [hcc]; exact HTq.out), HBq.out⟩
          case measure => simp [intOf]; omega
      · have hpos : 0 < c k := by omega
        have hAk := HA.out k hlt hpos
        rw [hAk]
        go_wp2_with fail
        go_loopw [5] (fun i wr => ∃ t : Nat, t ≤ c k ∧ i = .int .i64 t ∧ RwsA R wr g3 A n c g f k t ∧ ChgS (InR R c g) w wr) (fun i _ => c k - (intOf i).toNat)
        case atStart => exact ⟨0, Nat.zero_le _, rfl, HTq.out, HBq.out⟩
        case round =>
          obtain ⟨t, ht, rfl, htw, hbl⟩ := hrel
          have HT2 := Lib.hid htw
          have HB2 := Lib.hid hbl
          clear htw hbl
          by_cases htl : t < c k
          · have hcl := (HT2.out.rows k hlt hpos).cell htl (Nat.zero_add t).symm
            have hfr := (HT2.out.rows k hlt hpos).frozen htl (Nat.zero_add t).symm
            have HW2 := Lib.hid (HT2.out.write hlt hpos htl HN.out (H3.out k hlt hpos))
            have HB3 := Lib.hid (HB2.out.setCell (a := ⟨g k, t, none⟩) ⟨k, hlt, hpos, rfl⟩ (.int .u8 ((k : Int) + 1)))
            generalize ov f k t k t = old at hcl
            go_wp2_with fail
            go_roundw
            case rel => exact ⟨t + 1, by omega, by go_num, HW2.out, HB3.out⟩
            case measure => simp [intOf]; omega
          · obtain rfl : t = c k := by omega
            go_wp2_with fail
            go_roundw
            case rel => exact ⟨k + 1, by omega, by go_num, HT2.out.next, HB2.out⟩
            case measure => simp [intOf]; omega
    · have HK := Lib.hid (show k = R by omega)
      have hk2 : ¬ (k : Int) < R := by omega
      go_wp2_with fail
      go_loopw [6] (fun i wr => ∃ j : Nat, j ≤ R ∧ i = .int .i64 j ∧ RwsA R wr g3 A n c g f k 0 ∧ ChgS (InR R c g) w wr) (fun i _ => R - (intOf i).toNat)
      case atStart => exact ⟨0, by omega, rfl, HT.out, HBL.out⟩
      case round =>
        obtain ⟨j, hj, rfl, htw, hbl⟩ := hrel
        have HT5 := Lib.hid htw
        have HB5 := Lib.hid hbl
        clear htw hbl
        by_cases hjl : j < R
        · have hjli : (j : Int) < R := by omega
          have hj0 : (0 : Int) ≤ (j : Nat) := by omega
          have hcell := HT5.out.cells j hjl
          have hck : ((c j : Nat) : Int) ≤ (c j : Nat) := Int.le_refl _
          have hck0 : (0 : Int) ≤ (c j : Nat) := by omega
          have HCK := HC.out j hjl
          go_wp2_with fail
          go_quiet (fail)
          have HTq := Lib.hid (HT5.out.drewN nq)
          have HBq := Lib.hid (HB5.out.drewN nq)
          generalize hWW : World.drewN _ nq = W at *
          clear hWW
          by_cases hc0 : c j = 0
          · have HZ := Lib.hid hc0
            generalize hcc : c j = cc at *
            subst hc0
            clear hcell
            go_wp2_with fail
            go_loopw [8] (fun i wr => i = .int .i64 0 ∧ wr = W) (fun _ _ => 0)
            case atStart => exact ⟨rfl, rfl⟩
            case round =>
              obtain ⟨rfl, rfl⟩ := hrel
              go_wp2_with fail
              go_roundw
              case rel => exact ⟨j + 1, by omega, by go_num, HTq.out, HBq.out⟩
              case measure => simp [intOf]; omega
          · have hpos : 0 < c j := by omega
            have hAk := HA.out j hjl hpos
            rw [hAk]
            go_wp2_with fail
            go_loopw [8] (fun i wr => ∃ t : Nat, t ≤ c j ∧ i = .int .i64 t ∧ wr = W) (fun i _ => c j - (intOf i).toNat)
            case atStart => exact ⟨0, Nat.zero_le _, rfl, rfl⟩
            case round =>
              obtain ⟨t, ht, rfl, rfl⟩ := hrel
              by_cases htl : t < c j
              · have hcl := (HTq.out.rows j hjl hpos).cell htl (Nat.zero_add t).symm
                have hov : ov f k 0 j t = j + 1 := by unfold ov; rw [if_pos (by have := HK.out; omega)]
                rw [hov] at hcl
                clear hov
                obtain ⟨j1, ej, hj1⟩ : ∃ j1 : Nat, (j : Int) + 1 = j1 ∧ j + 1 = j1 := ⟨j + 1, by omega, rfl⟩
                rw [hj1] at hcl
                have hj13 : j1 ≤ 200 := by omega
                clear hj1
                go_wp2_with fail
                go_roundw
                case rel => exact ⟨t + 1, by omega, by go_num, trivial⟩
                case measure => simp [intOf]; omega
              · obtain rfl : t = c j := by omega
                go_wp2_with fail
                go_roundw
                case rel => exact ⟨j + 1, by omega, by go_num, HTq.out, HBq.out⟩
                case measure => simp [intOf]; omega
        · obtain rfl : j = R := by omega
          go_wp2_with fail
          go_ret
          exact ⟨rfl, HB5.out⟩
/-- one of three -/
def t3 {α : Type} (x y z : α) (j : Nat) : α := if j = 0 then x else if j = 1 then y else z
theorem ov_none (f : Nat → Nat → Nat) (j t : Nat) : ov f 0 0 j t = f j t := by unfold ov; rw [if_neg (by omega)]
/-- three rows, just put into a row -/
theorem owned_three (W : World) (A0 A1 A2 : Option Addr) (n0 n1 n2 c0 c1 c2 g0 g1 g2 : Nat) (f0 f1 f2 : Nat → Nat) (B : Nat)
    (h0 : 0 < c0 → A0 = some ⟨g0, 0, none⟩ ∧ Arr W g0 0 c0 f0 ∧ B ≤ g0) (h1 : 0 < c1 → A1 = some ⟨g1, 0, none⟩ ∧ Arr W g1 0 c1 f1 ∧ B ≤ g1) (h2 : 0 < c2 → A2 = some ⟨g2, 0, none⟩ ∧ Arr W g2 0 c2 f2 ∧ B ≤ g2)
    (n01 : 0 < c0 → 0 < c1 → g0 ≠ g1) (n02 : 0 < c0 → 0 < c2 → g0 ≠ g2) (n12 : 0 < c1 → 0 < c2 → g1 ≠ g2) (l0 : c0 ≤ 140737488351300) (l1 : c1 ≤ 140737488351300) (l2 : c2 ≤ 140737488351300) (hB : B ≤ W.heap.size) :
    Calls Tryz.prog 8 #[.slice (some ⟨W.heap.size, 0, none⟩) 3 3] (W.alloc (.cells #[.slice A0 n0 c0, .slice A1 n1 c1, .slice A2 n2 c2] 22)) fun e w' => e = .returned (.bool true) ∧ Below B W w' := by
  have hj3 : ∀ j, j < 3 → j = 0 ∨ j = 1 ∨ j = 2 := fun j hj => by omega
  refine (owned_arr (R := 3) (A := t3 A0 A1 A2) (n := t3 n0 n1 n2) (c := t3 c0 c1 c2) (g := t3 g0 g1 g2) (f := t3 f0 f1 f2) 3 _ (by decide) ⟨fun j hj => ?_, fun j hj hc => ?_⟩ ?_ ?_ ?_ ?_).mono ?_
  · rcases hj3 j hj with rfl | rfl | rfl <;> exact (World.cell?_alloc_at _ _ _ _ rfl).trans rfl
  · rcases hj3 j hj with rfl | rfl | rfl
    · exact ((h0 hc).2.1.alloc _).congr fun t _ => (ov_none (t3 f0 f1 f2) 0 t).symm
    · exact ((h1 hc).2.1.alloc _).congr fun t _ => (ov_none (t3 f0 f1 f2) 1 t).symm
    · exact ((h2 hc).2.1.alloc _).congr fun t _ => (ov_none (t3 f0 f1 f2) 2 t).symm
  · intro j hj hc
    rcases hj3 j hj with rfl | rfl | rfl
    · exact (h0 hc).1
    · exact (h1 hc).1
    · exact (h2 hc).1
  · intro i j hi hj hij ci cj
    rcases hj3 i hi with rfl | rfl | rfl <;> rcases hj3 j hj with rfl | rfl | rfl
    · exact absurd rfl hij
    · exact n01 ci cj
    · exact n02 ci cj
    · exact (n01 cj ci).symm
    · exact absurd rfl hij
    · exact n12 ci cj
    · exact (n02 cj ci).symm
    · exact (n12 cj ci).symm
    · exact absurd rfl hij
  · intro j hj hc
    rcases hj3 j hj with rfl | rfl | rfl
    · exact Nat.ne_of_gt ((h0 hc).2.1.lt hc)
    · exact Nat.ne_of_gt ((h1 hc).2.1.lt hc)
    · exact Nat.ne_of_gt ((h2 hc).2.1.lt hc)
  · intro j hj
    rcases hj3 j hj with rfl | rfl | rfl
    · exact l0
    · exact l1
    · exact l2
  rintro e w' ⟨he, h⟩
  refine ⟨he, ((Below.refl W.heap.size W).alloc (Nat.le_refl _) _ |>.mono hB).trans (h.below (by simp; omega) fun k hk => ?_)⟩
  obtain ⟨j, hj, hc, rfl⟩ := hk
  rcases hj3 j hj with rfl | rfl | rfl
  · exact (h0 hc).2.2
  · exact (h1 hc).2.2
  · exact (h2 hc).2.2
/-- one row, just put into a row -/
theorem owned_one (W : World) (g0 n0 c0 : Nat) (f0 : Nat → Nat) (h0 : Arr W g0 0 c0 f0) (l0 : c0 ≤ 140737488351300) :
    Calls Tryz.prog 8 #[.slice (some ⟨W.heap.size, 0, none⟩) 1 1] (W.alloc (.cells #[.slice (some ⟨g0, 0, none⟩) n0 c0] 22)) fun e w' => e = .returned (.bool true) ∧ Chg g0 W w' := by
  refine (owned_arr (R := 1) (A := fun _ => some ⟨g0, 0, none⟩) (n := fun _ => n0) (c := fun _ => c0) (g := fun _ => g0) (f := fun _ => f0) 1 _ (by decide) ⟨fun j hj => ?_, fun j hj hc => ?_⟩ ?_ ?_ ?_ ?_).mono ?_
  · obtain rfl : j = 0 := by omega
    exact (World.cell?_alloc_at _ _ _ _ rfl).trans rfl
  · exact (h0.alloc _).congr fun t _ => (ov_none (fun _ => f0) j t).symm
  · exact fun _ _ _ => rfl
  · intro i j hi hj hij _ _
    omega
  · intro j _ hc
    exact Nat.ne_of_gt (h0.lt hc)
  · exact fun _ _ => l0
  rintro e w' ⟨he, h⟩
  refine ⟨he, (Chg.of_below ((Below.refl W.heap.size W).alloc (Nat.le_refl _) _)).trans ⟨h.os, h.tape, h.output, h.size, fun k hk hn => h.block k hk fun hs => ?_⟩⟩
  obtain ⟨_, _, _, e⟩ := hs
  exact hn e
end Go.Proofs.YtniaelaolmjkaaaGreatDoor
/- Laws of layer 10: FfxCodes. -/
namespace Go.Proofs.YtniaelaolmjkaaaGreatDoor
set_option maxRecDepth 100000
open Go.RowKit

def p2 {α : Type} (a b : α) (j : Nat) : α := if j = 0 then a else b
theorem two_j {j : Nat} (h : j < 2) : j = 0 ∨ j = 1 := by omega
/-- two rows were spoilt, and nothing else -/
theorem owned_pair (W : World) (n0 n1 c0 c1 g0 g1 : Nat) (f0 f1 : Nat → Nat) (h0 : Arr W g0 0 c0 f0) (h1 : Arr W g1 0 c1 f1) (p0 : 0 < c0) (p1 : 0 < c1) (n01 : g0 ≠ g1) (l0 : c0 ≤ 140737488351300) (l1 : c1 ≤ 140737488351300) :
    Calls Tryz.prog 8 #[.slice (some ⟨W.heap.size, 0, none⟩) 2 2] (W.alloc (.cells #[.slice (some ⟨g0, 0, none⟩) n0 c0, .slice (some ⟨g1, 0, none⟩) n1 c1] 22)) fun e w' => e = .returned (.bool true) ∧ ChgS (fun k => k = g0 ∨ k = g1) W w' := by
  refine (owned_arr (R := 2) (A := p2 (some ⟨g0, 0, none⟩) (some ⟨g1, 0, none⟩)) (n := p2 n0 n1) (c := p2 c0 c1) (g := p2 g0 g1) (f := p2 f0 f1) 2 _ (by decide) ⟨fun j hj => ?_, fun j hj hc => ?_⟩ ?_ ?_ ?_ ?_).mono ?_
  · rcases two_j hj with rfl | rfl <;> exact (World.cell?_alloc_at _ _ _ _ rfl).trans rfl
  · rcases two_j hj with rfl | rfl
    · exact (h0.alloc _).congr fun t _ => (ov_none (p2 f0 f1) 0 t).symm
    · exact (h1.alloc _).congr fun t _ => (ov_none (p2 f0 f1) 1 t).symm
  · intro j hj hc
    rcases two_j hj with rfl | rfl <;> rfl
  · intro i j hi hj hij _ _
    rcases two_j hi with rfl | rfl <;> rcases two_j hj with rfl | rfl
    · exact absurd rfl hij
    · exact n01
    · exact n01.symm
    · exact absurd rfl hij
  · intro j hj _
    rcases two_j hj with rfl | rfl
    · exact Nat.ne_of_gt (h0.lt p0)
    · exact Nat.ne_of_gt (h1.lt p1)
  · intro j hj
    rcases two_j hj with rfl | rfl
    · exact l0
    · exact l1
  rintro e w' ⟨he, h⟩
  have hb := (Below.refl W.heap.size W).alloc (Nat.le_refl _) (.cells #[.slice (some ⟨g0, 0, none⟩) n0 c0, .slice (some ⟨g1, 0, none⟩) n1 c1] 22)
  refine ⟨he, (ChgS.of_below hb).trans ⟨h.os, h.tape, h.output, h.size, fun k hk hn => h.block k hk fun hs => ?_⟩⟩
  obtain ⟨j, hj, _, rfl⟩ := hs
  rcases two_j hj with rfl | rfl
  · exact hn (Or.inl rfl)
  · exact hn (Or.inr rfl)
/-- the row that was lent is as it was while nothing below is changed -/
abbrev LentR (w : World) (g len : Nat) (f : Nat → Nat) : Prop := w.rowIs g 5 (len + 1) (fun j => .int .u8 (if j < len then f j else 77 : Nat))
theorem LentR.keep {w w' : World} {g len : Nat} {f : Nat → Nat} (h : LentR w g len f) (hb : Below w.heap.size w w') : LentR w' g len f := h.of_block (hb.block g (RowX.lt (RowX.of_rowIs h)))
-- WAYS
theorem encR {w0 W : World} {c g n c' g' : Nat} {key : Nat → Nat} {t : Nat} {T : Nat → Nat} (k : Kt n key t T) (s : ByteArray) (hs : s.size ≤ maxLen) (h : Cu w0 c g n key t T W) (hr : RCip W c' g' n key t T) :
    Calls Tryz.prog 10 #[.pointer (some ⟨c, 0, none⟩), .string s] W fun e W' => e = .returned (.tuple #[.string (encS n key t T s), .int .i64 (hE s)]) ∧ Cu w0 c g n key t T W' ∧ RCip W' c' g' n key t T := by
  by_cases hl : s.size < 6 ∨ 32 < s.size
  · have he : encS n key t T s = ⟨#[]⟩ := if_neg (by rw [hE_one hl]; decide)
    refine (enc_bad c s W hs hl).mono ?_
    rintro e W' ⟨rfl, rfl⟩
    exact ⟨by rw [he, hE_one hl], h, hr⟩
  · by_cases he : hE s = 0
    · refine (fenc_any c g n key t T s W h.pws k.hn k.key h.cip k.t16 k.tw (by omega) (by omega) he).mono ?_
      rintro e W' ⟨rfl, h1, h2⟩
      exact ⟨by rw [he]; rfl, h.next k.hn h1 h2, hr.chg h2 h.cip.key.words⟩
    · have hx : encS n key t T s = ⟨#[]⟩ := if_neg he
      refine (enc_form c s W (by omega) (by omega) he).mono ?_
      rintro e W' ⟨rfl, m, rfl⟩
      exact ⟨by rw [hx], h.drewN m, hr.drewN m⟩
theorem decR {w0 W : World} {c g n c' g' : Nat} {key : Nat → Nat} {t : Nat} {T : Nat → Nat} (k : Kt n key t T) (s : ByteArray) (hs : s.size ≤ maxLen) (h : Cu w0 c g n key t T W) (hr : RCip W c' g' n key t T) :
    Calls Tryz.prog 12 #[.pointer (some ⟨c, 0, none⟩), .string s] W fun e W' => e = .returned (.tuple #[.string (decS n key t T s), .int .i64 (hE s)]) ∧ Cu w0 c g n key t T W' ∧ RCip W' c' g' n key t T := by
  by_cases hl : s.size < 6 ∨ 32 < s.size
  · have he : decS n key t T s = ⟨#[]⟩ := if_neg (by rw [hE_one hl]; decide)
    refine (dec_bad c s W hs hl).mono ?_
    rintro e W' ⟨rfl, rfl⟩
    exact ⟨by rw [he, hE_one hl], h, hr⟩
  · by_cases he : hE s = 0
    · refine (fdec_any c g n key t T s W h.pws k.hn k.key h.cip k.t16 k.tw (by omega) (by omega) he).mono ?_
      rintro e W' ⟨rfl, h1, h2⟩
      exact ⟨by rw [he]; rfl, h.next k.hn h1 h2, hr.chg h2 h.cip.key.words⟩
    · have hx : decS n key t T s = ⟨#[]⟩ := if_neg he
      refine (dec_form c s W (by omega) (by omega) he).mono ?_
      rintro e W' ⟨rfl, m, rfl⟩
      exact ⟨by rw [hx], h.drewN m, hr.drewN m⟩
set_option maxHeartbeats 4000000 in
theorem codes10_key (A0 A1 : Option Addr) (n0 n1 c0 c1 : Nat) (key T : Nat → Nat) (s : ByteArray) (w : World) (hp : Pws w) (hl : n0 ≠ 16) (hl2 : n0 ≠ 32) (_hc : n0 ≤ c0) (hl0 : n0 ≤ 140737488351232) (hl1 : n1 ≤ 140737488351232) (hA : SlB w A0 n0 key) (hB : SlB w A1 n1 T) (_hnil : A1 = none → n1 = 0 ∧ c1 = 0) (_hs : s.size ≤ maxLen) :
    Calls Tryz.prog 3 #[.slice A0 n0 c0, .slice A1 n1 c1, .string s] w fun e w' => e = .returned (.bool true) ∧ Below w.heap.size w w' := by
  have HS := Lib.hid (small10_any w hp)
  have HLK := Lib.hid fun W h => lent_any A0 n0 c0 key W hl0 h
  have HLT := Lib.hid fun W h => lent_any A1 n1 c1 T W hl1 h
  have HKK := Lib.hid fun gk W h1 h2 => kept_any gk A0 n0 c0 key W hl0 h1 h2
  have HKT := Lib.hid fun gt W h1 h2 => kept_any gt A1 n1 c1 T W hl1 h1 h2
  have HBK := Lib.hid (show By n0 key from fun j hj => hA.byte hj)
  have HBT := Lib.hid (show By n1 T from fun j hj => hB.byte hj)
  have HOW := Lib.hid fun W g0 g1 f0 f1 h0 h1 n01 => owned_pair W n0 n1 (n0 + 1) (n1 + 1) g0 g1 f0 f1 h0 h1 (Nat.succ_pos _) (Nat.succ_pos _) n01 (by omega) (by omega)
  have HN := Lib.hid fun gk gt W => fnew_short (some ⟨gk, 0, none⟩) n0 (n0 + 1) (some ⟨gt, 0, none⟩) n1 (n1 + 1) W hl hl2 hl0
  have HR := Lib.hid fun W => rnew10_short A0 n0 c0 A1 n1 c1 W hl hl2 hl0
  have HA := Lib.hid hA
  have HB := Lib.hid hB
  have HP := Lib.hid hp
  clear hp hl hl2 hA hB
  go_enter Tryz.func3, Tryz.ntmps3
  go_wp2_with fail
  refine HS.out.mono ?_
  rintro e w1 ⟨rfl, h1⟩
  have H1 := Lib.hid h1
  clear h1
  go_wp2_with fail
  refine (HLK.out w1 (HA.out.keep H1.out)).mono ?_
  rintro e w2 ⟨gk, rfl, h1, h2, h3⟩
  have GK := Lib.hid h1
  have K2 := Lib.hid (show LentR w2 gk n0 key from h2)
  have H2 := Lib.hid (H1.out.trans (h3.mono H1.out.size))
  clear h1 h2 h3
  go_wp2_with fail
  refine (HLT.out w2 (HB.out.keep H2.out)).mono ?_
  rintro e w3 ⟨gt, rfl, h1, h2, h3⟩
  have GT := Lib.hid h1
  have T3 := Lib.hid (show LentR w3 gt n1 T from h2)
  have K3 := Lib.hid (K2.out.keep h3)
  have H3 := Lib.hid (H2.out.trans (h3.mono H2.out.size))
  have LK := Lib.hid (show gk < w2.heap.size from (RowX.of_rowIs K2.out).lt)
  have LT := Lib.hid (show gt < w3.heap.size from (RowX.of_rowIs T3.out).lt)
  clear h1 h2 h3
  go_wp2_with fail
  refine (HN.out gk gt w3).mono ?_
  rintro e w4 ⟨rfl, h0⟩
  subst h0
  have K4 := K3
  have T4 := T3
  have H4 := H3
  go_wp2_with fail
  refine (HKK.out gk w3 (HA.out.keep H4.out) K4.out).mono ?_
  rintro e w5 ⟨rfl, h0⟩
  subst h0
  go_wp2_with fail
  refine (HKT.out gt w3 (HB.out.keep H4.out) T4.out).mono ?_
  rintro e w5 ⟨rfl, h0⟩
  subst h0
  go_wp2_with fail
  refine (HOW.out w3 gk gt _ _ (lent_arr K4.out) (lent_arr T4.out) (Nat.ne_of_lt (Nat.lt_of_lt_of_le LK.out GT.out))).mono ?_
  rintro e w5 ⟨rfl, h1⟩
  have S5 := Lib.hid h1
  have H5 := Lib.hid (H4.out.trans (h1.below H4.out.size fun k hk => by
    rcases hk with rfl | rfl
    · exact Nat.le_trans H1.out.size GK.out
    · exact Nat.le_trans H2.out.size GT.out))
  clear h1
  go_wp2_with fail
  refine (HR.out w5).mono ?_
  rintro e w6 ⟨rfl, h0⟩
  subst h0
  go_wp2_with fail
  go_ret
  exact ⟨rfl, H5.out⟩
set_option maxHeartbeats 4000000 in
theorem codes10_long (A0 A1 : Option Addr) (n0 n1 c0 c1 : Nat) (key T : Nat → Nat) (s : ByteArray) (w : World) (hp : Pws w) (n : Nat) (hn : n = 4 ∨ n = 8) (hl : 4 * n = n0) (ht : 16 < n1) (hc : n0 ≤ c0) (hl0 : n0 ≤ 140737488351232) (hl1 : n1 ≤ 140737488351232) (hA : SlB w A0 n0 key) (hB : SlB w A1 n1 T) (_hnil : A1 = none → n1 = 0 ∧ c1 = 0) (_hs : s.size ≤ maxLen) :
    Calls Tryz.prog 3 #[.slice A0 n0 c0, .slice A1 n1 c1, .string s] w fun e w' => e = .returned (.bool true) ∧ Below w.heap.size w w' := by
  have HS := Lib.hid (small10_any w hp)
  have HLK := Lib.hid fun W h => lent_any A0 n0 c0 key W hl0 h
  have HLT := Lib.hid fun W h => lent_any A1 n1 c1 T W hl1 h
  have HKK := Lib.hid fun gk W h1 h2 => kept_any gk A0 n0 c0 key W hl0 h1 h2
  have HKT := Lib.hid fun gt W h1 h2 => kept_any gt A1 n1 c1 T W hl1 h1 h2
  have HBK := Lib.hid (show By n0 key from fun j hj => hA.byte hj)
  have HBT := Lib.hid (show By n1 T from fun j hj => hB.byte hj)
  have HOW := Lib.hid fun W g0 g1 f0 f1 h0 h1 n01 => owned_pair W n0 n1 (n0 + 1) (n1 + 1) g0 g1 f0 f1 h0 h1 (Nat.succ_pos _) (Nat.succ_pos _) n01 (by omega) (by omega)
  have HN := Lib.hid fun gk gt W (h : SlB W (some ⟨gk, 0, none⟩) n0 key) => fnew_long (some ⟨gk, 0, none⟩) n0 n (n0 + 1) key (some ⟨gt, 0, none⟩) n1 (n1 + 1) W hn hl h ht
  have HR := Lib.hid fun W (h : SlB W A0 n0 key) => rnew10_long A0 n0 n c0 key A1 n1 c1 W hn hl hc h ht
  have HA := Lib.hid hA
  have HB := Lib.hid hB
  have HP := Lib.hid hp
  clear hp hn hl ht hc hA hB
  go_enter Tryz.func3, Tryz.ntmps3
  go_wp2_with fail
  refine HS.out.mono ?_
  rintro e w1 ⟨rfl, h1⟩
  have H1 := Lib.hid h1
  clear h1
  go_wp2_with fail
  refine (HLK.out w1 (HA.out.keep H1.out)).mono ?_
  rintro e w2 ⟨gk, rfl, h1, h2, h3⟩
  have GK := Lib.hid h1
  have K2 := Lib.hid (show LentR w2 gk n0 key from h2)
  have H2 := Lib.hid (H1.out.trans (h3.mono H1.out.size))
  clear h1 h2 h3
  go_wp2_with fail
  refine (HLT.out w2 (HB.out.keep H2.out)).mono ?_
  rintro e w3 ⟨gt, rfl, h1, h2, h3⟩
  have GT := Lib.hid h1
  have T3 := Lib.hid (show LentR w3 gt n1 T from h2)
  have K3 := Lib.hid (K2.out.keep h3)
  have H3 := Lib.hid (H2.out.trans (h3.mono H2.out.size))
  have LK := Lib.hid (show gk < w2.heap.size from (RowX.of_rowIs K2.out).lt)
  have LT := Lib.hid (show gt < w3.heap.size from (RowX.of_rowIs T3.out).lt)
  clear h1 h2 h3
  go_wp2_with fail
  refine (HN.out gk gt w3 (lent_slB K3.out HBK.out)).mono ?_
  rintro e w4 ⟨rfl, h1⟩
  have K4 := Lib.hid (K3.out.keep h1)
  have T4 := Lib.hid (T3.out.keep h1)
  have H4 := Lib.hid (H3.out.trans (h1.mono H3.out.size))
  clear h1
  go_wp2_with fail
  refine (HKK.out gk w4 (HA.out.keep H4.out) K4.out).mono ?_
  rintro e w5 ⟨rfl, h0⟩
  subst h0
  go_wp2_with fail
  refine (HKT.out gt w4 (HB.out.keep H4.out) T4.out).mono ?_
  rintro e w5 ⟨rfl, h0⟩
  subst h0
  go_wp2_with fail
  refine (HOW.out w4 gk gt _ _ (lent_arr K4.out) (lent_arr T4.out) (Nat.ne_of_lt (Nat.lt_of_lt_of_le LK.out GT.out))).mono ?_
  rintro e w5 ⟨rfl, h1⟩
  have S5 := Lib.hid h1
  have H5 := Lib.hid (H4.out.trans (h1.below H4.out.size fun k hk => by
    rcases hk with rfl | rfl
    · exact Nat.le_trans H1.out.size GK.out
    · exact Nat.le_trans H2.out.size GT.out))
  clear h1
  go_wp2_with fail
  refine (HR.out w5 (HA.out.keep H5.out)).mono ?_
  rintro e w6 ⟨rfl, h1⟩
  have H6 := Lib.hid (H5.out.trans (h1.mono H5.out.size))
  clear h1
  go_wp2_with fail
  go_ret
  exact ⟨rfl, H6.out⟩
set_option maxHeartbeats 4000000 in
theorem codes10_go (A0 A1 : Option Addr) (n0 n1 c0 c1 : Nat) (key T : Nat → Nat) (s : ByteArray) (w : World) (hp : Pws w) (n : Nat) (k : Kt n key n1 T) (hl : 4 * n = n0) (hc : n0 ≤ c0) (hl0 : n0 ≤ 140737488351232) (hl1 : n1 ≤ 140737488351232) (hA : SlB w A0 n0 key) (hB : SlB w A1 n1 T) (hnil : A1 = none → n1 = 0 ∧ c1 = 0) (hs : s.size ≤ maxLen) :
    Calls Tryz.prog 3 #[.slice A0 n0 c0, .slice A1 n1 c1, .string s] w fun e w' => e = .returned (.bool true) ∧ Below w.heap.size w w' := by
  have HS := Lib.hid (small10_any w hp)
  have HLK := Lib.hid fun W h => lent_any A0 n0 c0 key W hl0 h
  have HLT := Lib.hid fun W h => lent_any A1 n1 c1 T W hl1 h
  have HKK := Lib.hid fun gk W h1 h2 => kept_any gk A0 n0 c0 key W hl0 h1 h2
  have HKT := Lib.hid fun gt W h1 h2 => kept_any gt A1 n1 c1 T W hl1 h1 h2
  have HBK := Lib.hid (show By n0 key from fun j hj => hA.byte hj)
  have HBT := Lib.hid (show By n1 T from fun j hj => hB.byte hj)
  have HOW := Lib.hid fun W g0 g1 f0 f1 h0 h1 n01 => owned_pair W n0 n1 (n0 + 1) (n1 + 1) g0 g1 f0 f1 h0 h1 (Nat.succ_pos _) (Nat.succ_pos _) n01 (by omega) (by omega)
  have HN := Lib.hid fun gk gt W (h : SlB W (some ⟨gk, 0, none⟩) n0 key) (h2 : SlB W (some ⟨gt, 0, none⟩) n1 T) => fnew_all (some ⟨gk, 0, none⟩) n0 n (n0 + 1) key (some ⟨gt, 0, none⟩) n1 (n1 + 1) T W k.hn hl h k.t16 h2 (fun h => by cases h)
  have HR := Lib.hid fun W (h : SlB W A0 n0 key) (h2 : SlB W A1 n1 T) => rnew10_any A0 n0 n c0 key A1 n1 c1 T W k.hn hl hc h k.t16 h2 hnil
  have HEN := Lib.hid fun c g c' g' W (h : Cu w c g n key n1 T W) (hr : RCip W c' g' n key n1 T) => encR k s hs h hr
  have HDE := Lib.hid fun c g c' g' W (h : Cu w c g n key n1 T W) (hr : RCip W c' g' n key n1 T) => decR k s hs h hr
  have HRE := Lib.hid fun c' g' W (hr : RCip W c' g' n key n1 T) => renc10_any c' g' n key n1 T s W k hr hs
  have HRD := Lib.hid fun c' g' W (hr : RCip W c' g' n key n1 T) => rdec10_any c' g' n key n1 T s W k hr hs
  generalize encS n key n1 T s = x at *
  generalize decS n key n1 T s = y at *
  generalize hE s = r at *
  have HA := Lib.hid hA
  have HB := Lib.hid hB
  have HP := Lib.hid hp
  clear hp k hl hc hA hB hnil hs
  go_enter Tryz.func3, Tryz.ntmps3
  go_wp2_with fail
  refine HS.out.mono ?_
  rintro e w1 ⟨rfl, h1⟩
  have H1 := Lib.hid h1
  clear h1
  go_wp2_with fail
  refine (HLK.out w1 (HA.out.keep H1.out)).mono ?_
  rintro e w2 ⟨gk, rfl, h1, h2, h3⟩
  have GK := Lib.hid h1
  have K2 := Lib.hid (show LentR w2 gk n0 key from h2)
  have H2 := Lib.hid (H1.out.trans (h3.mono H1.out.size))
  clear h1 h2 h3
  go_wp2_with fail
  refine (HLT.out w2 (HB.out.keep H2.out)).mono ?_
  rintro e w3 ⟨gt, rfl, h1, h2, h3⟩
  have GT := Lib.hid h1
  have T3 := Lib.hid (show LentR w3 gt n1 T from h2)
  have K3 := Lib.hid (K2.out.keep h3)
  have H3 := Lib.hid (H2.out.trans (h3.mono H2.out.size))
  have LK := Lib.hid (show gk < w2.heap.size from (RowX.of_rowIs K2.out).lt)
  have LT := Lib.hid (show gt < w3.heap.size from (RowX.of_rowIs T3.out).lt)
  clear h1 h2 h3
  go_wp2_with fail
  refine (HN.out gk gt w3 (lent_slB K3.out HBK.out) (lent_slB T3.out HBT.out)).mono ?_
  rintro e w4 ⟨c, g, rfl, h1, h2, h3⟩
  have C4 := Lib.hid h1
  have N4 := Lib.hid h2
  have K4 := Lib.hid (K3.out.keep h3)
  have T4 := Lib.hid (T3.out.keep h3)
  have H4 := Lib.hid (H3.out.trans (h3.mono H3.out.size))
  clear h1 h2 h3
  go_wp2_with fail
  refine (HKK.out gk w4 (HA.out.keep H4.out) K4.out).mono ?_
  rintro e w5 ⟨rfl, h0⟩
  subst h0
  go_wp2_with fail
  refine (HKT.out gt w4 (HB.out.keep H4.out) T4.out).mono ?_
  rintro e w5 ⟨rfl, h0⟩
  subst h0
  go_wp2_with fail
  refine (HOW.out w4 gk gt _ _ (lent_arr K4.out) (lent_arr T4.out) (Nat.ne_of_lt (Nat.lt_of_lt_of_le LK.out GT.out))).mono ?_
  rintro e w5 ⟨rfl, h1⟩
  have S5 := Lib.hid h1
  have H5 := Lib.hid (H4.out.trans (h1.below H4.out.size fun k hk => by
    rcases hk with rfl | rfl
    · exact Nat.le_trans H1.out.size GK.out
    · exact Nat.le_trans H2.out.size GT.out))
  clear h1
  go_wp2_with fail
  have C5 := Lib.hid (C4.out.chgS N4.out S5.out fun k hk => by
    rcases hk with rfl | rfl
    · exact Nat.lt_of_lt_of_le LK.out (Nat.le_of_lt (Nat.lt_of_le_of_lt GT.out LT.out))
    · exact LT.out)
  refine (HR.out w5 (HA.out.keep H5.out) (HB.out.keep H5.out)).mono ?_
  rintro e w6 ⟨c', g', rfl, h1, h2⟩
  have R6 := Lib.hid h1
  have C6 := Lib.hid (show Cu w c g n key n1 T w6 from ⟨C5.out.keep h2, H5.out.trans (h2.mono H5.out.size), HP.out.keep (H5.out.trans (h2.mono H5.out.size)), Nat.le_trans H3.out.size N4.out.gn⟩)
  clear h1 h2
  go_wp2_with fail
  refine (HEN.out c g c' g' w6 C6.out R6.out).mono ?_
  rintro e w7 ⟨rfl, h1, h2⟩
  have C7 := Lib.hid h1
  have R7 := Lib.hid h2
  clear h1 h2
  go_wp2_with fail
  refine (HRE.out c' g' w7 R7.out).mono ?_
  rintro e w8 ⟨rfl, h1⟩
  have C8 := Lib.hid (C7.out.keep h1)
  have R8 := Lib.hid (R7.out.keep h1)
  clear h1
  go_wp2_with fail
  refine (HDE.out c g c' g' w8 C8.out R8.out).mono ?_
  rintro e w9 ⟨rfl, h1, h2⟩
  have C9 := Lib.hid h1
  have R9 := Lib.hid h2
  clear h1 h2
  go_wp2_with fail
  refine (HRD.out c' g' w9 R9.out).mono ?_
  rintro e w10 ⟨rfl, h1⟩
  have C10 := Lib.hid (C9.out.keep h1)
  clear h1
  go_wp2_with fail
  go_ret
  exact ⟨rfl, C10.out.below⟩
/-- FfxCodes answers true -/
theorem codes10_all (A0 A1 : Option Addr) (n0 n1 c0 c1 : Nat) (key T : Nat → Nat) (s : ByteArray) (w : World) (hp : Pws w) (hc : n0 ≤ c0) (hl0 : n0 ≤ 140737488351232) (hl1 : n1 ≤ 140737488351232) (hA : SlB w A0 n0 key) (hB : SlB w A1 n1 T) (hnil : A1 = none → n1 = 0 ∧ c1 = 0) (hs : s.size ≤ maxLen) :
    Calls Tryz.prog 3 #[.slice A0 n0 c0, .slice A1 n1 c1, .string s] w fun e w' => e = .returned (.bool true) ∧ Below w.heap.size w w' := by
  by_cases h : n0 = 16 ∨ n0 = 32
  · obtain ⟨n, hn, hl⟩ : ∃ n, (n = 4 ∨ n = 8) ∧ 4 * n = n0 := by
      rcases h with h | h
      · exact ⟨4, Or.inl rfl, by omega⟩
      · exact ⟨8, Or.inr rfl, by omega⟩
    by_cases ht16 : 16 < n1
    · exact codes10_long A0 A1 n0 n1 c0 c1 key T s w hp n hn hl ht16 hc hl0 hl1 hA hB hnil hs
    · exact codes10_go A0 A1 n0 n1 c0 c1 key T s w hp n ⟨hn, fun j hj => hA.byte (by omega), by omega, fun j hj => hB.byte hj⟩ hl hc hl0 hl1 hA hB hnil hs
  · exact codes10_key A0 A1 n0 n1 c0 c1 key T s w hp (by omega) (by omega) hc hl0 hl1 hA hB hnil hs
end Go.Proofs.YtniaelaolmjkaaaGreatDoor
