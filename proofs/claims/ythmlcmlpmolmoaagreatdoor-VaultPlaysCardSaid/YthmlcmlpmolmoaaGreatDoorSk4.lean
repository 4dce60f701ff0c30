/- 20 texts in one, in their order: what the cards need of them. -/
import Derived.Test.YthmlcmlpmolmoaaGreatDoorSk3
import Derived.Shelf.Strings.Search2
import Derived.Shelf.Strings.Repeat
import Derived.Shelf.Strconv.Itoa3
import Derived.Lib.SmallJoins
import Derived.Lib.QuietBelow
import Derived.Lib.ItoaLen
import Derived.Shelf.Strings.Prefix
import Derived.Shelf.Strconv.Clone
import Derived.Laws.StructEq
import Derived.Lib.Builder
namespace Go.Proofs.YthmlcmlpmolmoaaGreatDoor
set_option maxRecDepth 100000
open Go.RowKit
def encV (M : Nat → Int → Int) (s : ByteArray) : ByteArray := if hE s = 0 then fcat s.size (fgo M s.size (vV (loS s)) (vV (hiS s)) 10).1 (fgo M s.size (vV (loS s)) (vV (hiS s)) 10).2 else ⟨#[]⟩
def decV (M : Nat → Int → Int) (s : ByteArray) : ByteArray := if hE s = 0 then fcat s.size (fbk M s.size 10 (vV (loS s)) (vV (hiS s))).1 (fbk M s.size 10 (vV (loS s)) (vV (hiS s))).2 else ⟨#[]⟩
theorem halves_in {s : ByteArray} (h1 : 6 ≤ s.size) (h2 : s.size ≤ 32) (h : hE s = 0) : vE (loS s) = 0 ∧ vE (hiS s) = 0 ∧ (loS s).size = fd s.size 0 ∧ (hiS s).size = fd s.size 1 ∧ inP (vV (loS s)) (fd s.size 0 : Nat) = true ∧ inP (vV (hiS s)) (fd s.size 1 : Nat) = true := by
  unfold hE at h
  rw [if_neg (by omega)] at h
  have hs0 : (loS s).size = fd s.size 0 := by show (s.extract 0 (s.size / 2)).size = s.size / 2; rw [ByteArray.size_extract]; omega
  have hs1 : (hiS s).size = fd s.size 1 := by show (s.extract (s.size / 2) s.size).size = s.size - s.size / 2; rw [ByteArray.size_extract]; omega
  by_cases ha : vE (loS s) = 0
  · rw [if_neg (by rw [ha]; decide)] at h
    exact ⟨ha, h, hs0, hs1, hs0 ▸ (back_text ha).1, hs1 ▸ (back_text h).1⟩
  · rw [if_pos ha] at h
    exact absurd h ha
theorem inP_le {a m : Int} (h : inP a m = true) : 0 ≤ a ∧ a ≤ 10000000000000000 := by
  have := (inP_iff a m).1 h
  have := pw_le m
  omega
theorem enc_bad (c : Nat) (s : ByteArray) (w : World) (hs : s.size ≤ maxLen) (h : s.size < 6 ∨ 32 < s.size) :
    Calls Tryz.prog 34 #[.pointer (some ⟨c, 0, none⟩), .string s] w fun e w' => e = .returned (.tuple #[.string ⟨#[]⟩, .int .i64 1]) ∧ w = w' := by
  have HH := Lib.hid (halves_bad s w hs h)
  clear h hs
  go_enter Tryz.func34, Tryz.ntmps34
  go_wp2_with (go_at_call 64; refine HH.out.mono ?_; rintro e w1 ⟨rfl, rfl⟩)
  go_ret2
  exact ⟨rfl, rfl⟩
theorem enc_form (c : Nat) (s : ByteArray) (w : World) (h1 : 6 ≤ s.size) (h2 : s.size ≤ 32) (h : hE s ≠ 0) :
    Calls Tryz.prog 34 #[.pointer (some ⟨c, 0, none⟩), .string s] w fun e w' => e = .returned (.tuple #[.string ⟨#[]⟩, .int .i64 (hE s)]) ∧ ∃ n, w' = w.drewN n := by
  have hh := fhalves_any s w h1 h2
  rw [show hV s = #[.int .i64 0, .int .i64 0, .int .i64 (hE s)] from if_neg h] at hh
  have HH := Lib.hid hh
  have g1 : (hE s != 0) = true := by simpa using h
  clear h h1 h2 hh
  go_enter Tryz.func34, Tryz.ntmps34
  go_wp2_with (go_at_call 64; refine HH.out.mono ?_; rintro e w1 ⟨rfl, n1, rfl⟩)
  go_ret2
  exact ⟨rfl, n1, rfl⟩
set_option maxHeartbeats 1600000 in
theorem fenc_any (c g n : Nat) (key : Nat → Nat) (t : Nat) (T : Nat → Nat) (s : ByteArray) (w : World) (hp : Pws w) (hn : n = 4 ∨ n = 8) (hkey : By (4 * n) key) (hC : Cip w c g n key t T) (ht : t ≤ 16) (hT : By t T) (h1 : 6 ≤ s.size) (h2 : s.size ≤ 32) (h : hE s = 0) :
    Calls Tryz.prog 34 #[.pointer (some ⟨c, 0, none⟩), .string s] w (CipP c g n key t T (.tuple #[.string (encV (fM n key t T s.size) s), .int .i64 0]) w) := by
  have hh := fhalves_any s w h1 h2
  rw [show hV s = #[.int .i64 (vV (loS s)), .int .i64 (vV (hiS s)), .int .i64 0] from if_pos h] at hh
  have HH := Lib.hid hh
  have HE := Lib.hid (show encV (fM n key t T s.size) s = fcat s.size (fgo (fM n key t T s.size) s.size (vV (loS s)) (vV (hiS s)) 10).1 (fgo (fM n key t T s.size) s.size (vV (loS s)) (vV (hiS s)) 10).2 from if_pos h)
  obtain ⟨_, _, _, _, i0, i1⟩ := halves_in h1 h2 h
  generalize vV (loS s) = a at *
  generalize vV (hiS s) = b at *
  have HM := Lib.hid (show MIn (fM n key t T s.size) s.size from fun k x => fM_in h1 h2 k x)
  have HGO := Lib.hid fun k => fgo_in HM.out i0 i1 k
  have HMK := Lib.hid fun r x (hr : r ≤ 9) (hx : x ≤ 9223372036854775807) W (hp : Pws W) (hC : Cip W c g n key t T) => fmask_any c g n key t T s.size r x W hp hn hkey hC ht hT h1 h2 hr hx
  have HSZ := Lib.hid fun r (hr : r ≤ 9) W => sizes_any s.size r W (by omega) (by omega)
  have HJ := Lib.hid fun a b W (hp : Pws W) ha hb => fjoin_any s.size a b W hp h1 h2 ha hb
  have HP := Lib.hid hp
  have HC := Lib.hid hC
  have HN := Lib.hid hn
  have hsz : ((s.size : Nat) : Int) ≤ 32 := by omega
  clear hp hn hkey hC ht hT h1 h2 h hh i0 i1
  go_enter Tryz.func34, Tryz.ntmps34
  go_wp2_with (go_at_call 64; refine HH.out.mono ?_; rintro e w1 ⟨rfl, n1, rfl⟩)
  go_loopw [6, 7, 23] (fun u v i wr => ∃ k : Nat, k ≤ 10 ∧ i = .int .i64 (k : Nat) ∧ u = .int .i64 (fgo (fM n key t T s.size) s.size a b k).1 ∧ v = .int .i64 (fgo (fM n key t T s.size) s.size a b k).2 ∧ Pws wr ∧ Cip wr c g n key t T ∧ Chg g w wr) (fun _ _ i _ => 10 - (intOf i).toNat)
  case atStart => exact ⟨0, by decide, rfl, rfl, rfl, HP.out.drewN _, HC.out.drewN _, (Chg.refl _ _).drewN _⟩
  case round =>
    obtain ⟨k, hk, rfl, rfl, rfl, q1, q2, q3⟩ := hrel
    have Q1 := Lib.hid q1
    have Q2 := Lib.hid q2
    have Q3 := Lib.hid q3
    clear q1 q2 q3
    obtain ⟨i2, i3⟩ := HGO.out k
    have HNX := Lib.hid (show fgo (fM n key t T s.size) s.size a b (k + 1) = ((fgo (fM n key t T s.size) s.size a b k).2, aV (fgo (fM n key t T s.size) s.size a b k).1 (fM n key t T s.size k (fgo (fM n key t T s.size) s.size a b k).2) (fd s.size k : Nat)) from rfl)
    by_cases hlt : k < 10
    · have hki : (k : Int) < 10 := by omega
      have hb3 := inP_le i3
      generalize (fgo (fM n key t T s.size) s.size a b k).1 = u at *
      generalize (fgo (fM n key t T s.size) s.size a b k).2 = v at *
      obtain ⟨x, rfl⟩ := Int.eq_ofNat_of_zero_le hb3.1
      have HMK2 := Lib.hid (HMK.out k x (by omega) (by omega) wr Q1.out Q2.out)
      rw [show (fmk n key t T s.size k x : Int) = fM n key t T s.size k (x : Int) from rfl] at HMK2
      have HMI := Lib.hid (HM.out k x)
      have HSK := Lib.hid (HSZ.out k (by omega) wr)
      generalize fM n key t T s.size k (x : Int) = y at *
      generalize fd s.size k = z at *
      clear hb3 i2 i3
      go_wp2_with (first | (go_at_call 65; refine HSK.out.mono ?_; rintro e w1 ⟨rfl, rfl⟩) | (go_at_call 67; refine HMK2.out.mono ?_; rintro e w2 ⟨rfl, h1, h2⟩; have H1 := Lib.hid h1; have H2 := Lib.hid h2; have HP2 := Lib.hid (Q1.out.cip Q2.out HN.out h2); clear h1 h2) | (go_at_call 66; refine (xadd_any u y (z : Nat) w2 HP2.out).mono ?_; rintro e w3 ⟨rfl, h3⟩; have H3 := Lib.hid h3; clear h3))
      go_roundw
      case rel => exact ⟨k + 1, by omega, by go_num, by rw [HNX.out], by rw [HNX.out], HP2.out.keep H3.out, H1.out.keep H3.out, (Q3.out.trans H2.out).thenBelow H3.out⟩
      case measure => simp [intOf]; omega
    · obtain rfl : k = 10 := by omega
      have hb2 := inP_le i2
      have hb3 := inP_le i3
      generalize (fgo (fM n key t T s.size) s.size a b 10).1 = u at *
      generalize (fgo (fM n key t T s.size) s.size a b 10).2 = v at *
      have HJ2 := Lib.hid (HJ.out u v wr Q1.out (by omega) (by omega))
      clear hb2 hb3 i2 i3
      go_wp2_with (go_at_call 68; refine HJ2.out.mono ?_; rintro e w1 ⟨rfl, h1⟩; have H1 := Lib.hid h1; clear h1)
      go_ret2
      exact ⟨by rw [HE.out]; rfl, Q2.out.keep H1.out, Q3.out.thenBelow H1.out⟩
theorem dec_bad (c : Nat) (s : ByteArray) (w : World) (hs : s.size ≤ maxLen) (h : s.size < 6 ∨ 32 < s.size) :
    Calls Tryz.prog 87 #[.pointer (some ⟨c, 0, none⟩), .string s] w fun e w' => e = .returned (.tuple #[.string ⟨#[]⟩, .int .i64 1]) ∧ w = w' := by
  have HH := Lib.hid (halves_bad s w hs h)
  clear h hs
  go_enter Tryz.func87, Tryz.ntmps87
  go_wp2_with (go_at_call 64; refine HH.out.mono ?_; rintro e w1 ⟨rfl, rfl⟩)
  go_ret2
  exact ⟨rfl, rfl⟩
theorem dec_form (c : Nat) (s : ByteArray) (w : World) (h1 : 6 ≤ s.size) (h2 : s.size ≤ 32) (h : hE s ≠ 0) :
    Calls Tryz.prog 87 #[.pointer (some ⟨c, 0, none⟩), .string s] w fun e w' => e = .returned (.tuple #[.string ⟨#[]⟩, .int .i64 (hE s)]) ∧ ∃ n, w' = w.drewN n := by
  have hh := fhalves_any s w h1 h2
  rw [show hV s = #[.int .i64 0, .int .i64 0, .int .i64 (hE s)] from if_neg h] at hh
  have HH := Lib.hid hh
  have g1 : (hE s != 0) = true := by simpa using h
  clear h h1 h2 hh
  go_enter Tryz.func87, Tryz.ntmps87
  go_wp2_with (go_at_call 64; refine HH.out.mono ?_; rintro e w1 ⟨rfl, n1, rfl⟩)
  go_ret2
  exact ⟨rfl, n1, rfl⟩
set_option maxHeartbeats 1600000 in
theorem fdec_any (c g n : Nat) (key : Nat → Nat) (t : Nat) (T : Nat → Nat) (s : ByteArray) (w : World) (hp : Pws w) (hn : n = 4 ∨ n = 8) (hkey : By (4 * n) key) (hC : Cip w c g n key t T) (ht : t ≤ 16) (hT : By t T) (h1 : 6 ≤ s.size) (h2 : s.size ≤ 32) (h : hE s = 0) :
    Calls Tryz.prog 87 #[.pointer (some ⟨c, 0, none⟩), .string s] w (CipP c g n key t T (.tuple #[.string (decV (fM n key t T s.size) s), .int .i64 0]) w) := by
  have hh := fhalves_any s w h1 h2
  rw [show hV s = #[.int .i64 (vV (loS s)), .int .i64 (vV (hiS s)), .int .i64 0] from if_pos h] at hh
  have HH := Lib.hid hh
  have HE := Lib.hid (show decV (fM n key t T s.size) s = fcat s.size (fbk (fM n key t T s.size) s.size 10 (vV (loS s)) (vV (hiS s))).1 (fbk (fM n key t T s.size) s.size 10 (vV (loS s)) (vV (hiS s))).2 from if_pos h)
  obtain ⟨_, _, _, _, i0, i1⟩ := halves_in h1 h2 h
  generalize vV (loS s) = a at *
  generalize vV (hiS s) = b at *
  have HM := Lib.hid (show MIn (fM n key t T s.size) s.size from fun k x => fM_in h1 h2 k x)
  rw [show fd s.size 0 = fd s.size 10 from rfl] at i0
  rw [show fd s.size 1 = fd s.size (10 + 1) from rfl] at i1
  have HI := Lib.hid (show inP a (fd s.size 10 : Nat) = true ∧ inP b (fd s.size (10 + 1) : Nat) = true from ⟨i0, i1⟩)
  have HMK := Lib.hid fun r x (hr : r ≤ 9) (hx : x ≤ 9223372036854775807) W (hp : Pws W) (hC : Cip W c g n key t T) => fmask_any c g n key t T s.size r x W hp hn hkey hC ht hT h1 h2 hr hx
  have HSZ := Lib.hid fun r (hr : r ≤ 9) W => sizes_any s.size r W (by omega) (by omega)
  have HJ := Lib.hid fun a b W (hp : Pws W) ha hb => fjoin_any s.size a b W hp h1 h2 ha hb
  have HP := Lib.hid hp
  have HC := Lib.hid hC
  have HN := Lib.hid hn
  have hsz : ((s.size : Nat) : Int) ≤ 32 := by omega
  clear hp hn hkey hC ht hT h1 h2 h hh i0 i1
  go_enter Tryz.func87, Tryz.ntmps87
  go_wp2_with (go_at_call 64; refine HH.out.mono ?_; rintro e w1 ⟨rfl, n1, rfl⟩)
  generalize hR : fbk (fM n key t T s.size) s.size 10 a b = R at *
  have HR := Lib.hid hR
  clear hR
  go_loopw [6, 7, 9] (fun u v i wr => ∃ (k : Nat) (p q : Int), k ≤ 10 ∧ i = .int .i64 ((k : Int) - 1) ∧ u = .int .i64 p ∧ v = .int .i64 q ∧ inP p (fd s.size k : Nat) = true ∧ inP q (fd s.size (k + 1) : Nat) = true ∧ fbk (fM n key t T s.size) s.size k p q = R ∧ Pws wr ∧ Cip wr c g n key t T ∧ Chg g w wr) (fun _ _ i _ => (intOf i + 1).toNat)
  case atStart => exact ⟨10, a, b, by decide, by go_num, rfl, rfl, HI.out.1, HI.out.2, HR.out, HP.out.drewN _, HC.out.drewN _, (Chg.refl _ _).drewN _⟩
  case round =>
    obtain ⟨k, p, q, hk, rfl, rfl, rfl, i2, i3, hfb, q1, q2, q3⟩ := hrel
    have Q1 := Lib.hid q1
    have Q2 := Lib.hid q2
    have Q3 := Lib.hid q3
    clear q1 q2 q3
    cases k with
    | zero =>
      have hz : ((0 : Nat) : Int) - 1 = -1 := rfl
      have hb2 := inP_le i2
      have hb3 := inP_le i3
      have HFB := Lib.hid (show (p, q) = R from hfb)
      have HJ2 := Lib.hid (HJ.out p q wr Q1.out (by omega) (by omega))
      clear hb2 hb3 i2 i3 hfb
      rw [hz]
      go_wp2_with (go_at_call 68; refine HJ2.out.mono ?_; rintro e w1 ⟨rfl, h1⟩; have H1 := Lib.hid h1; clear h1)
      go_ret2
      exact ⟨by rw [HE.out, ← HFB.out]; rfl, Q2.out.keep H1.out, Q3.out.thenBelow H1.out⟩
    | succ k =>
      have hz : ((k + 1 : Nat) : Int) - 1 = (k : Nat) := by omega
      have hki : (k : Int) ≤ 9 := by omega
      have hb2 := inP_le i2
      have HI3 := Lib.hid (show inP q (fd s.size k : Nat) = true by rw [← fd_two]; exact i3)
      have HI2 := Lib.hid i2
      have HFB := Lib.hid (show fbk (fM n key t T s.size) s.size k (sV q (fM n key t T s.size k p) (fd s.size k : Nat)) p = R from hfb)
      obtain ⟨x, rfl⟩ := Int.eq_ofNat_of_zero_le hb2.1
      have HMK2 := Lib.hid (HMK.out k x (by omega) (by omega) wr Q1.out Q2.out)
      rw [show (fmk n key t T s.size k x : Int) = fM n key t T s.size k (x : Int) from rfl] at HMK2
      have HMI := Lib.hid (HM.out k x)
      have HSK := Lib.hid (HSZ.out k (by omega) wr)
      have HKL := Lib.hid (show k ≤ 10 by omega)
      generalize fM n key t T s.size k (x : Int) = y at *
      have HZ := Lib.hid (show fd s.size k = fd s.size k from rfl)
      obtain ⟨z, hz2⟩ : ∃ z, fd s.size k = z := ⟨_, rfl⟩
      rw [hz2] at HFB HSK
      have HZZ := Lib.hid hz2
      clear hb2 i2 i3 hfb hz2 HZ
      rw [hz]
      go_wp2_with (first | (go_at_call 65; refine HSK.out.mono ?_; rintro e w1 ⟨rfl, rfl⟩) | (go_at_call 67; refine HMK2.out.mono ?_; rintro e w2 ⟨rfl, h1, h2⟩; have H1 := Lib.hid h1; have H2 := Lib.hid h2; have HP2 := Lib.hid (Q1.out.cip Q2.out HN.out h2); clear h1 h2) | (go_at_call 128; refine (xsub_any q y (z : Nat) w2 HP2.out).mono ?_; rintro e w3 ⟨rfl, h3⟩; have H3 := Lib.hid h3; clear h3))
      go_roundw
      case rel => exact ⟨k, _, _, HKL.out, by go_num, rfl, rfl, by rw [← HZZ.out]; exact sV_in HI3.out HMI.out, HI2.out, HFB.out, HP2.out.keep H3.out, H1.out.keep H3.out, (Q3.out.trans H2.out).thenBelow H3.out⟩
      case measure => simp [intOf]
end Go.Proofs.YthmlcmlpmolmoaaGreatDoor
namespace Go.Proofs.YthmlcmlpmolmoaaGreatDoor
open Go.RowKit
theorem vE_dig {s : ByteArray} (h1 : 1 ≤ s.size) (h2 : s.size ≤ 16) (hd : s.data.toList.all isDig = true) : vE s = 0 := by
  unfold vE
  rw [if_neg (by omega), if_neg (by omega)]
  have hf : faultOf s.data.toList = 0 := fault_ok hd (by rw [Array.length_toList]; show s.size ≤ 999; omega)
  have ha := acc_lt s hd s.size
  have ht := ten_le s.size (by omega)
  unfold dnE
  rw [if_neg (by rw [hf]; decide), if_neg (by omega), if_neg (by omega)]
theorem dig_vE {s : ByteArray} (h : vE s = 0) : s.data.toList.all isDig = true := by
  unfold vE at h
  by_cases h0 : s.size = 0
  · rw [if_pos h0] at h; cases h
  · rw [if_neg h0] at h
    by_cases h1 : 16 < s.size
    · rw [if_pos h1] at h; cases h
    · rw [if_neg h1] at h
      by_cases hf : faultOf s.data.toList = 0
      · exact (fault_zero hf).1
      · unfold dnE at h; rw [if_pos hf] at h; exact absurd h hf
theorem vE_four {s : ByteArray} (h1 : 1 ≤ s.size) (h2 : s.size ≤ 16) (h : vE s ≠ 0) : vE s = 4 := by
  by_cases hd : s.data.toList.all isDig = true
  · exact absurd (vE_dig h1 h2 hd) h
  · unfold vE
    rw [if_neg (by omega), if_neg (by omega)]
    have hf : faultOf s.data.toList = 4 := by unfold faultOf; rw [if_neg hd]
    unfold dnE
    rw [hf, if_pos (by decide)]
theorem lo_hi (s : ByteArray) : loS s ++ hiS s = s := by
  unfold loS hiS
  rw [ByteArray.extract_append_extract, Nat.zero_min, Nat.max_eq_right (Nat.div_le_self _ _)]
  exact ByteArray.extract_zero_size
theorem lo_size {s : ByteArray} : (loS s).size = fd s.size 0 := by show (s.extract 0 (s.size / 2)).size = s.size / 2; rw [ByteArray.size_extract]; omega
theorem hi_size {s : ByteArray} : (hiS s).size = fd s.size 1 := by show (s.extract (s.size / 2) s.size).size = s.size - s.size / 2; rw [ByteArray.size_extract]; omega
theorem dig_cat (a b : ByteArray) : (a ++ b).data.toList.all isDig = (a.data.toList.all isDig && b.data.toList.all isDig) := by
  rw [ByteArray.data_append, Array.toList_append, List.all_append]
theorem hE_zero {s : ByteArray} (h1 : 6 ≤ s.size) (h2 : s.size ≤ 32) : hE s = 0 ↔ s.data.toList.all isDig = true := by
  have f0 := fd_le 0 h1 h2
  have f1 := fd_le 1 h1 h2
  constructor
  · intro h
    obtain ⟨a, b, _⟩ := halves_in h1 h2 h
    rw [← lo_hi s, dig_cat, dig_vE a, dig_vE b]; rfl
  · intro h
    rw [← lo_hi s, dig_cat, Bool.and_eq_true] at h
    unfold hE
    rw [if_neg (by omega), vE_dig (by rw [lo_size]; omega) (by rw [lo_size]; omega) h.1, if_neg (by decide)]
    exact vE_dig (by rw [hi_size]; omega) (by rw [hi_size]; omega) h.2
theorem hE_four {s : ByteArray} (h1 : 6 ≤ s.size) (h2 : s.size ≤ 32) (h : hE s ≠ 0) : hE s = 4 := by
  have f0 := fd_le 0 h1 h2
  have f1 := fd_le 1 h1 h2
  unfold hE at h ⊢
  rw [if_neg (by omega)] at h ⊢
  by_cases ha : vE (loS s) = 0
  · rw [if_neg (by rw [ha]; decide)] at h ⊢
    exact vE_four (by rw [hi_size]; omega) (by rw [hi_size]; omega) h
  · rw [if_pos ha] at h ⊢
    exact vE_four (by rw [lo_size]; omega) (by rw [lo_size]; omega) h
theorem fcat_in {N : Nat} {a b : Int} (h1 : 6 ≤ N) (h2 : N ≤ 32) (ha : inP a (fd N 0 : Nat) = true) (hb : inP b (fd N 1 : Nat) = true) :
    (fcat N a b).size = N ∧ hE (fcat N a b) = 0 ∧ vV (loS (fcat N a b)) = a ∧ vV (hiS (fcat N a b)) = b := by
  obtain ⟨e0, v0, s0, _⟩ := back_value ha
  obtain ⟨e1, v1, s1, _⟩ := back_value hb
  have z0 : (gV a (fd N 0 : Nat)).size = fd N 0 := by omega
  have z1 : (gV b (fd N 1 : Nat)).size = fd N 1 := by omega
  have q0 : fd N 0 = N / 2 := rfl
  have q1 : fd N 1 = N - N / 2 := rfl
  have hsz : (fcat N a b).size = N := by unfold fcat; rw [ByteArray.size_append, z0, z1]; omega
  have hl : loS (fcat N a b) = gV a (fd N 0 : Nat) := by
    unfold loS
    rw [hsz]
    exact ByteArray.extract_append_eq_left (by rw [z0, q0])
  have hh : hiS (fcat N a b) = gV b (fd N 1 : Nat) := by
    unfold hiS
    rw [hsz]
    exact ByteArray.extract_append_eq_right (by rw [z0, q0]) (by rw [z0, z1]; omega)
  refine ⟨hsz, ?_, by rw [hl, v0], by rw [hh, v1]⟩
  unfold hE
  rw [hsz, if_neg (by omega), hl, hh, e0, if_neg (by decide), e1]
theorem fcat_self {s : ByteArray} (h1 : 6 ≤ s.size) (h2 : s.size ≤ 32) (h : hE s = 0) : fcat s.size (vV (loS s)) (vV (hiS s)) = s := by
  obtain ⟨a, b, c, d, _⟩ := halves_in h1 h2 h
  unfold fcat
  rw [← c, ← d, (back_text a).2.1, (back_text b).2.1, lo_hi]
theorem encV_in {M : Nat → Int → Int} {s : ByteArray} (hM : MIn M s.size) (h1 : 6 ≤ s.size) (h2 : s.size ≤ 32) (h : hE s = 0) : (encV M s).size = s.size ∧ hE (encV M s) = 0 ∧ decV M (encV M s) = s := by
  obtain ⟨_, _, _, _, i0, i1⟩ := halves_in h1 h2 h
  obtain ⟨j0, j1⟩ := fgo_in hM i0 i1 10
  obtain ⟨k0, k1, k2, k3⟩ := fcat_in h1 h2 (show inP _ (fd s.size 0 : Nat) = true from j0) (show inP _ (fd s.size 1 : Nat) = true from j1)
  have e : encV M s = fcat s.size (fgo M s.size (vV (loS s)) (vV (hiS s)) 10).1 (fgo M s.size (vV (loS s)) (vV (hiS s)) 10).2 := if_pos h
  rw [e]
  refine ⟨k0, k1, ?_⟩
  unfold decV
  rw [if_pos k1, k0, k2, k3, fbk_fgo hM i0 i1 10]
  exact fcat_self h1 h2 h
theorem decV_in {M : Nat → Int → Int} {s : ByteArray} (hM : MIn M s.size) (h1 : 6 ≤ s.size) (h2 : s.size ≤ 32) (h : hE s = 0) : (decV M s).size = s.size ∧ hE (decV M s) = 0 ∧ encV M (decV M s) = s := by
  obtain ⟨_, _, _, _, i0, i1⟩ := halves_in h1 h2 h
  obtain ⟨j0, j1⟩ := fbk_in hM 10 _ _ i0 i1
  obtain ⟨k0, k1, k2, k3⟩ := fcat_in h1 h2 j0 j1
  have e : decV M s = fcat s.size (fbk M s.size 10 (vV (loS s)) (vV (hiS s))).1 (fbk M s.size 10 (vV (loS s)) (vV (hiS s))).2 := if_pos h
  rw [e]
  refine ⟨k0, k1, ?_⟩
  unfold encV
  rw [if_pos k1, k0, k2, k3, fgo_fbk hM 10 _ _ i0 i1]
  exact fcat_self h1 h2 h
end Go.Proofs.YthmlcmlpmolmoaaGreatDoor
namespace Go.Proofs.YthmlcmlpmolmoaaGreatDoor
set_option maxRecDepth 100000
open Go.RowKit
structure Cu (w0 : World) (c g n : Nat) (key : Nat → Nat) (t : Nat) (T : Nat → Nat) (W : World) : Prop where
  cip : Cip W c g n key t T
  below : Below w0.heap.size w0 W
  pws : Pws W
  new : w0.heap.size ≤ g
theorem Cu.keep {w0 W W' : World} {c g n : Nat} {key : Nat → Nat} {t : Nat} {T : Nat → Nat} (h : Cu w0 c g n key t T W) (hb : Below W.heap.size W W') : Cu w0 c g n key t T W' :=
  ⟨h.cip.keep hb, h.below.trans (hb.mono h.below.size), h.pws.keep hb, h.new⟩
theorem Cu.drewN {w0 W : World} {c g n : Nat} {key : Nat → Nat} {t : Nat} {T : Nat → Nat} (h : Cu w0 c g n key t T W) (k : Nat) : Cu w0 c g n key t T (W.drewN k) := ⟨h.cip.drewN k, drawn h.below k, h.pws.drewN k, h.new⟩
theorem Cu.next {w0 W W' : World} {c g n : Nat} {key : Nat → Nat} {t : Nat} {T : Nat → Nat} (h : Cu w0 c g n key t T W) (hn : n = 4 ∨ n = 8) (h1 : Cip W' c g n key t T) (h2 : Chg g W W') : Cu w0 c g n key t T W' :=
  ⟨h1, h.below.trans (h2.below h.below.size h.new), h.pws.cip h.cip hn h2, h.new⟩
structure Kt (n : Nat) (key : Nat → Nat) (t : Nat) (T : Nat → Nat) : Prop where
  hn : n = 4 ∨ n = 8
  key : By (4 * n) key
  t16 : t ≤ 16
  tw : By t T
def encS (n : Nat) (key : Nat → Nat) (t : Nat) (T : Nat → Nat) (s : ByteArray) : ByteArray := encV (fM n key t T s.size) s
def decS (n : Nat) (key : Nat → Nat) (t : Nat) (T : Nat → Nat) (s : ByteArray) : ByteArray := decV (fM n key t T s.size) s
theorem hE_one {s : ByteArray} (h : s.size < 6 ∨ 32 < s.size) : hE s = 1 := if_pos h
theorem encU {w0 W : World} {c g n : Nat} {key : Nat → Nat} {t : Nat} {T : Nat → Nat} (k : Kt n key t T) (s : ByteArray) (hs : s.size ≤ maxLen) (h : Cu w0 c g n key t T W) :
    Calls Tryz.prog 34 #[.pointer (some ⟨c, 0, none⟩), .string s] W fun e W' => e = .returned (.tuple #[.string (encS n key t T s), .int .i64 (hE s)]) ∧ Cu w0 c g n key t T W' := by
  by_cases hl : s.size < 6 ∨ 32 < s.size
  · have he : encS n key t T s = ⟨#[]⟩ := if_neg (by rw [hE_one hl]; decide)
    refine (enc_bad c s W hs hl).mono ?_
    rintro e W' ⟨rfl, rfl⟩
    exact ⟨by rw [he, hE_one hl], h⟩
  · by_cases he : hE s = 0
    · refine (fenc_any c g n key t T s W h.pws k.hn k.key h.cip k.t16 k.tw (by omega) (by omega) he).mono ?_
      rintro e W' ⟨rfl, h1, h2⟩
      exact ⟨by rw [he]; rfl, h.next k.hn h1 h2⟩
    · have hx : encS n key t T s = ⟨#[]⟩ := if_neg he
      refine (enc_form c s W (by omega) (by omega) he).mono ?_
      rintro e W' ⟨rfl, m, rfl⟩
      exact ⟨by rw [hx], h.drewN m⟩
theorem decU {w0 W : World} {c g n : Nat} {key : Nat → Nat} {t : Nat} {T : Nat → Nat} (k : Kt n key t T) (s : ByteArray) (hs : s.size ≤ maxLen) (h : Cu w0 c g n key t T W) :
    Calls Tryz.prog 87 #[.pointer (some ⟨c, 0, none⟩), .string s] W fun e W' => e = .returned (.tuple #[.string (decS n key t T s), .int .i64 (hE s)]) ∧ Cu w0 c g n key t T W' := by
  by_cases hl : s.size < 6 ∨ 32 < s.size
  · have he : decS n key t T s = ⟨#[]⟩ := if_neg (by rw [hE_one hl]; decide)
    refine (dec_bad c s W hs hl).mono ?_
    rintro e W' ⟨rfl, rfl⟩
    exact ⟨by rw [he, hE_one hl], h⟩
  · by_cases he : hE s = 0
    · refine (fdec_any c g n key t T s W h.pws k.hn k.key h.cip k.t16 k.tw (by omega) (by omega) he).mono ?_
      rintro e W' ⟨rfl, h1, h2⟩
      exact ⟨by rw [he]; rfl, h.next k.hn h1 h2⟩
    · have hx : decS n key t T s = ⟨#[]⟩ := if_neg he
      refine (dec_form c s W (by omega) (by omega) he).mono ?_
      rintro e W' ⟨rfl, m, rfl⟩
      exact ⟨by rw [hx], h.drewN m⟩
theorem newU {w0 W : World} (n len cap : Nat) (key : Nat → Nat) (t c2 : Nat) (T : Nat → Nat) (A A2 : Option Addr) (k : Kt n key t T) (hl : 4 * n = len) (hA : SlB W A len key) (hA2 : SlB W A2 t T) (hnil : A2 = none → t = 0 ∧ c2 = 0) (hb : Below w0.heap.size w0 W) (hp : Pws W) :
    Calls Tryz.prog 33 #[.slice A len cap, .slice A2 t c2] W fun e W' => ∃ c g, e = .returned (.tuple #[.pointer (some ⟨c, 0, none⟩), .int .i64 0]) ∧ Cu w0 c g n key t T W' := by
  refine (fnew_any A len n cap key A2 t c2 T W k.hn hl hA k.t16 hA2 hnil).mono ?_
  rintro e W' ⟨c, g, rfl, h1, h2, h3⟩
  exact ⟨c, g, rfl, h2, hb.trans (h3.mono hb.size), hp.keep h3, Nat.le_trans hb.size h1⟩
theorem enc_fine {n : Nat} {key : Nat → Nat} {t : Nat} {T : Nat → Nat} {s : ByteArray} (h : hE s = 0) : 6 ≤ s.size ∧ s.size ≤ 32 ∧ (encS n key t T s).size = s.size ∧ hE (encS n key t T s) = 0 ∧ decS n key t T (encS n key t T s) = s ∧ (decS n key t T s).size = s.size ∧ hE (decS n key t T s) = 0 ∧ encS n key t T (decS n key t T s) = s := by
  have hl : ¬ (s.size < 6 ∨ 32 < s.size) := fun hl => by rw [hE_one hl] at h; cases h
  have hM : MIn (fM n key t T s.size) s.size := fun k x => fM_in (by omega) (by omega) k x
  obtain ⟨a, b, c⟩ := encV_in hM (by omega) (by omega) h
  obtain ⟨a', b', c'⟩ := decV_in hM (by omega) (by omega) h
  refine ⟨by omega, by omega, a, b, ?_, a', b', ?_⟩
  · unfold decS encS; rw [a]; exact c
  · unfold encS decS; rw [a']; exact c'
end Go.Proofs.YthmlcmlpmolmoaaGreatDoor
namespace Go.Proofs.YthmlcmlpmolmoaaGreatDoor
open Go.Shelf Go.RowKit
def lays219_ren : Go.Shelf.Ren := ⟨fun | 219 => 162 | 217 => 195 | 225 => 196 | 224 => 197 | 267 => 198 | 266 => 218 | 314 => 219 | n => n, fun | 9 => 9 | 3 => 3 | 4 => 4 | 5 => 5 | 46 => 152 | 146 => 188 | 51 => 75 | n => n, fun | 1 => 3 | n => n⟩
theorem lays219 : Go.Proofs.Lays.n219 Tryz.prog lays219_ren := {
  mixed := by kernel_rfl
  f217 := Tryz.func195.trans (congrArg some (by kernel_rfl))
  f219 := Tryz.func162.trans (congrArg some (by kernel_rfl))
  f224 := Tryz.func197.trans (congrArg some (by kernel_rfl))
  f225 := Tryz.func196.trans (congrArg some (by kernel_rfl))
  f266 := Tryz.func218.trans (congrArg some (by kernel_rfl))
  f267 := Tryz.func198.trans (congrArg some (by kernel_rfl))
  f314 := Tryz.func219.trans (congrArg some (by kernel_rfl))
  t3 := Tryz.underlying3
  a3 := Tryz.isAgg3
  z3 := Tryz.sizeOf3
  v3 := Tryz.zeroValue3
  t4 := Tryz.underlying4
  a4 := Tryz.isAgg4
  z4 := Tryz.sizeOf4
  v4 := Tryz.zeroValue4
  t5 := Tryz.underlying5
  a5 := Tryz.isAgg5
  z5 := Tryz.sizeOf5
  v5 := Tryz.zeroValue5
  t9 := Tryz.underlying9
  a9 := Tryz.isAgg9
  z9 := Tryz.sizeOf9
  v9 := Tryz.zeroValue9
  t46 := Tryz.underlying152
  a46 := Tryz.isAgg152
  z46 := Tryz.sizeOf152
  v46 := Tryz.zeroValue152
  t51 := Tryz.underlying75
  a51 := Tryz.isAgg75
  z51 := Tryz.sizeOf75
  v51 := Tryz.zeroValue75
  t146 := Tryz.underlying188
  a146 := Tryz.isAgg188
  z146 := Tryz.sizeOf188
  v146 := Tryz.zeroValue188
  g1 := by kernel_rfl }
def fst (s : ByteArray) (c : UInt8) : Nat := if Lib.indexByte s.data.toList c = -1 then s.size else (Lib.indexByte s.data.toList c).toNat
def ahd (s : ByteArray) (c : UInt8) : ByteArray := s.extract 0 (fst s c)
def bhd (s : ByteArray) (c : UInt8) : ByteArray := s.extract (fst s c + 1) s.size
def hasB (s : ByteArray) (c : UInt8) : Bool := !(Lib.indexByte s.data.toList c == -1)
theorem indexByte_lt {l : List UInt8} {c : UInt8} (h : Lib.indexByte l c ≠ -1) : 0 ≤ Lib.indexByte l c ∧ (Lib.indexByte l c).toNat < l.length := by
  have hg := Lib.indexByte_ge l c
  have h0 : 0 ≤ Lib.indexByte l c := by omega
  refine ⟨h0, ?_⟩
  obtain ⟨k, hk⟩ : ∃ k : Nat, Lib.indexByte l c = k := ⟨(Lib.indexByte l c).toNat, by omega⟩
  have := (Lib.indexByte_some hk).1
  have h1 := (List.getElem?_eq_some_iff.1 this).1
  rw [hk]; exact h1
set_option maxRecDepth 100000 in
theorem slcut_any (s : ByteArray) (c : UInt8) (w : World) (hs : s.size ≤ maxLen) :
    Calls Tryz.prog 130 #[.string s, .string ⟨#[c]⟩] w fun e w' => e = .returned (.tuple #[.string (ahd s c), .string (bhd s c), .bool (hasB s c)]) ∧ ∃ n, w' = w.drewN n := by
  unfold maxLen at hs
  by_cases h : Lib.indexByte s.data.toList c = -1
  · have HA := Lib.hid (show ahd s c = s by unfold ahd fst; rw [if_pos h]; apply ByteArray.ext; simp)
    have HB := Lib.hid (show bhd s c = ⟨#[]⟩ by unfold bhd fst; rw [if_pos h]; apply ByteArray.ext; simp)
    have HC := Lib.hid (show hasB s c = false by unfold hasB; rw [h]; rfl)
    have HI := Lib.hid h
    clear h
    go_enter Tryz.func130, Tryz.ntmps130
    go_wp2_with (go_at_call 162; refine (Any.stringslite_Index_one lays219 s c _).mono ?_; rintro e w' ⟨rfl, hw⟩; rw [hw, HI.out])
    go_ret3
    exact ⟨by rw [HA.out, HB.out, HC.out]; rfl, 0, rfl⟩
  · obtain ⟨h0, hlt⟩ := indexByte_lt h
    obtain ⟨k, hk⟩ : ∃ k : Nat, Lib.indexByte s.data.toList c = k := ⟨(Lib.indexByte s.data.toList c).toNat, by omega⟩
    have hks : k < s.size := by rw [hk] at hlt; rw [Array.length_toList] at hlt; exact hlt
    have HA := Lib.hid (show ahd s c = s.extract 0 k by unfold ahd fst; rw [if_neg h, hk]; rfl)
    have HB := Lib.hid (show bhd s c = s.extract (k + 1) s.size by unfold bhd fst; rw [if_neg h, hk]; rfl)
    have HC := Lib.hid (show hasB s c = true by unfold hasB; rw [hk]; rw [beq_eq_false_iff_ne.2 (by omega)]; rfl)
    have HI := Lib.hid hk
    clear h h0 hlt hk
    obtain ⟨q, eq, hq⟩ : ∃ q : Nat, (k : Int) + 1 = q ∧ q = k + 1 := ⟨k + 1, by omega, rfl⟩
    have hqs : q ≤ s.size := by omega
    have hk0 : decide ((0 : Int) ≤ k) = true := by simp
    have HQ := Lib.hid hq
    clear hq
    go_enter Tryz.func130, Tryz.ntmps130
    go_wp2_with (go_at_call 162; refine (Any.stringslite_Index_one lays219 s c _).mono ?_; rintro e w' ⟨rfl, hw⟩; rw [hw, HI.out])
    go_quiet (fail)
    go_wp2_with fail
    go_ret3
    exact ⟨by rw [HA.out, HB.out, HC.out, ← HQ.out]; rfl, _, rfl⟩
theorem scut_any (s : ByteArray) (c : UInt8) (w : World) (hs : s.size ≤ maxLen) :
    Calls Tryz.prog 94 #[.string s, .string ⟨#[c]⟩] w fun e w' => e = .returned (.tuple #[.string (ahd s c), .string (bhd s c), .bool (hasB s c)]) ∧ ∃ n, w' = w.drewN n := by
  go_enter Tryz.func94, Tryz.ntmps94
  go_wp2_with (go_at_call 130; refine (slcut_any s c _ hs).mono ?_; rintro e w' ⟨rfl, n, rfl⟩)
  go_ret3
  exact ⟨rfl, n, rfl⟩
end Go.Proofs.YthmlcmlpmolmoaaGreatDoor
namespace Go.Proofs.YthmlcmlpmolmoaaGreatDoor
open Go.Shelf Go.RowKit
def laysM171_ren : Go.Shelf.Ren := ⟨fun | 171 => 72 | 243 => 115 | 246 => 147 | 283 => 176 | 284 => 177 | 285 => 178 | 286 => 179 | 129 => 169 | 317 => 204 | 318 => 205 | 319 => 206 | 320 => 207 | 337 => 228 | 338 => 229 | n => n, fun | 3 => 3 | 9 => 9 | 2 => 2 | 4 => 4 | 171 => 234 | 0 => 0 | 53 => 190 | 37 => 22 | 5 => 5 | 173 => 236 | 212 => 254 | 51 => 75 | 20 => 20 | 213 => 255 | 46 => 152 | 232 => 125 | 233 => 194 | n => n, fun | 17 => 5 | 18 => 6 | 19 => 7 | n => n⟩
theorem laysM171 : Go.Proofs.LaysM.n171 Tryz.prog laysM171_ren := {
  mixed := by kernel_rfl
  f129 := Tryz.func169.trans (congrArg some (by kernel_rfl))
  f171 := Tryz.func72.trans (congrArg some (by kernel_rfl))
  f243 := Tryz.func115.trans (congrArg some (by kernel_rfl))
  f246 := Tryz.func147.trans (congrArg some (by kernel_rfl))
  f283 := Tryz.func176.trans (congrArg some (by kernel_rfl))
  f284 := Tryz.func177.trans (congrArg some (by kernel_rfl))
  f285 := Tryz.func178.trans (congrArg some (by kernel_rfl))
  f286 := Tryz.func179.trans (congrArg some (by kernel_rfl))
  f317 := Tryz.func204.trans (congrArg some (by kernel_rfl))
  f318 := Tryz.func205.trans (congrArg some (by kernel_rfl))
  f319 := Tryz.func206.trans (congrArg some (by kernel_rfl))
  f320 := Tryz.func207.trans (congrArg some (by kernel_rfl))
  f337 := Tryz.func228.trans (congrArg some (by kernel_rfl))
  f338 := Tryz.func229.trans (congrArg some (by kernel_rfl))
  t0 := Tryz.underlying0
  a0 := Tryz.isAgg0
  z0 := Tryz.sizeOf0
  v0 := Tryz.zeroValue0
  t2 := Tryz.underlying2
  a2 := Tryz.isAgg2
  z2 := Tryz.sizeOf2
  v2 := Tryz.zeroValue2
  t3 := Tryz.underlying3
  a3 := Tryz.isAgg3
  z3 := Tryz.sizeOf3
  v3 := Tryz.zeroValue3
  t4 := Tryz.underlying4
  a4 := Tryz.isAgg4
  z4 := Tryz.sizeOf4
  v4 := Tryz.zeroValue4
  t5 := Tryz.underlying5
  a5 := Tryz.isAgg5
  z5 := Tryz.sizeOf5
  v5 := Tryz.zeroValue5
  t9 := Tryz.underlying9
  a9 := Tryz.isAgg9
  z9 := Tryz.sizeOf9
  v9 := Tryz.zeroValue9
  t20 := Tryz.underlying20
  a20 := Tryz.isAgg20
  z20 := Tryz.sizeOf20
  v20 := Tryz.zeroValue20
  t37 := Tryz.underlying22
  a37 := Tryz.isAgg22
  z37 := Tryz.sizeOf22
  v37 := Tryz.zeroValue22
  t46 := Tryz.underlying152
  a46 := Tryz.isAgg152
  z46 := Tryz.sizeOf152
  v46 := Tryz.zeroValue152
  t51 := Tryz.underlying75
  a51 := Tryz.isAgg75
  z51 := Tryz.sizeOf75
  v51 := Tryz.zeroValue75
  t53 := Tryz.underlying190
  a53 := Tryz.isAgg190
  z53 := Tryz.sizeOf190
  v53 := Tryz.zeroValue190
  t171 := Tryz.underlying234
  a171 := Tryz.isAgg234
  z171 := Tryz.sizeOf234
  v171 := Tryz.zeroValue234
  t173 := Tryz.underlying236
  a173 := Tryz.isAgg236
  z173 := Tryz.sizeOf236
  v173 := Tryz.zeroValue236
  t212 := Tryz.underlying254
  a212 := Tryz.isAgg254
  z212 := Tryz.sizeOf254
  v212 := Tryz.zeroValue254
  t213 := Tryz.underlying255
  a213 := Tryz.isAgg255
  z213 := Tryz.sizeOf255
  t232 := Tryz.underlying125
  a232 := Tryz.isAgg125
  z232 := Tryz.sizeOf125
  v232 := Tryz.zeroValue125
  t233 := Tryz.underlying194
  a233 := Tryz.isAgg194
  z233 := Tryz.sizeOf194
  v233 := Tryz.zeroValue194
  g17 := by kernel_rfl
  g18 := by kernel_rfl
  g19 := by kernel_rfl
  i0 := by kernel_rfl
  i2 := by kernel_rfl
  i3 := by kernel_rfl
  i4 := by kernel_rfl
  i5 := by kernel_rfl
  i9 := by kernel_rfl
  i20 := by kernel_rfl
  i37 := by kernel_rfl
  i46 := by kernel_rfl
  i51 := by kernel_rfl
  i53 := by kernel_rfl
  i171 := by kernel_rfl
  i173 := by kernel_rfl
  i212 := by kernel_rfl
  i232 := by kernel_rfl
  i233 := by kernel_rfl
  m17 := by kernel_rfl
  m18 := by kernel_rfl
  m19 := by kernel_rfl }
def itoaB (n : Int) : ByteArray := ⟨(Lib.itoa n).toArray⟩
def P10 (w : World) : Prop := Lib.TabIs Tryz.prog w "internal/strconv.uint64pow10" .u64 Lib.pow10Tab
theorem gP10 : Tryz.prog.globalNamed "internal/strconv.uint64pow10" = some 5 := by kernel_rfl
theorem P10.lt {w : World} (h : P10 w) : 5 < w.heap.size := block_lt (h.cell gP10 0 (by decide))
theorem P10.keep {w w' : World} (h : P10 w) (hb : Below w.heap.size w w') : P10 w' := Joins.tab_stays gP10 h hb (Nat.le_refl _)
theorem itoa_any (n : Int) (w : World) (h0 : -9223372036854775808 ≤ n) (h1 : n ≤ 9223372036854775807) (hp : P10 w) :
    Calls Tryz.prog 72 #[.int .i64 n] w fun e w' => e = .returned (.string (itoaB n)) ∧ Below w.heap.size w w' :=
  (Any.strconv_Itoa laysM171 n h0 h1 w hp).mono fun _ _ ⟨he, k, os, hw⟩ => ⟨he, hw ▸ below_regrown w (w.drawn + k) os⟩
end Go.Proofs.YthmlcmlpmolmoaaGreatDoor
namespace Go.Proofs.YthmlcmlpmolmoaaGreatDoor
open Go.RowKit
theorem itoaB_size (n : Int) (h0 : -9223372036854775808 ≤ n) (h1 : n ≤ 9223372036854775807) : (itoaB n).size ≤ 21 := by
  unfold itoaB
  show ((Lib.itoa n).toArray).size ≤ 21
  rw [List.size_toArray]
  exact Lib.itoa_length_le n h0 h1
theorem app_list (a b : ByteArray) : (a ++ b).data.toList = a.data.toList ++ b.data.toList := by rw [ByteArray.data_append, Array.toList_append]
theorem ba_ext {a b : ByteArray} (h : a.data.toList = b.data.toList) : a = b := by
  apply ByteArray.ext; exact Array.ext' h
theorem itoaB_nat (n : Nat) : itoaB n = ⟨(Lib.decDigits n).toArray⟩ := by unfold itoaB; rw [Lib.itoa_nonneg]
end Go.Proofs.YthmlcmlpmolmoaaGreatDoor
namespace Go.Proofs.YthmlcmlpmolmoaaGreatDoor
open Go.RowKit
def shp (s : ByteArray) : Bool := s.data.toList.all isDig && (decide (16 ≤ s.size) && decide (s.size ≤ 19))
def pB (s : ByteArray) : ByteArray := if shp s then s.extract 0 6 else ⟨#[]⟩
def pM (s : ByteArray) : ByteArray := if shp s then s.extract 6 (s.size - 4) else ⟨#[]⟩
def pL (s : ByteArray) : ByteArray := if shp s then s.extract (s.size - 4) s.size else ⟨#[]⟩
theorem shp_parts {s : ByteArray} (h : shp s = true) : s.data.toList.all isDig = true ∧ 16 ≤ s.size ∧ s.size ≤ 19 := by
  unfold shp at h
  simp only [Bool.and_eq_true, decide_eq_true_eq] at h
  exact h
theorem shp_of {s : ByteArray} (h : s.data.toList.all isDig = true) (h1 : 16 ≤ s.size) (h2 : s.size ≤ 19) : shp s = true := by
  unfold shp; rw [h, decide_eq_true h1, decide_eq_true h2]; rfl
theorem pB_yes {s : ByteArray} (h : shp s = true) : pB s = s.extract 0 6 := by unfold pB; rw [if_pos h]
theorem pM_yes {s : ByteArray} (h : shp s = true) : pM s = s.extract 6 (s.size - 4) := by unfold pM; rw [if_pos h]
theorem pL_yes {s : ByteArray} (h : shp s = true) : pL s = s.extract (s.size - 4) s.size := by unfold pL; rw [if_pos h]
theorem pB_no {s : ByteArray} (h : shp s = false) : pB s = ⟨#[]⟩ := by unfold pB; rw [h]; rfl
theorem pM_no {s : ByteArray} (h : shp s = false) : pM s = ⟨#[]⟩ := by unfold pM; rw [h]; rfl
theorem pL_no {s : ByteArray} (h : shp s = false) : pL s = ⟨#[]⟩ := by unfold pL; rw [h]; rfl
theorem pB_size {s : ByteArray} (h : shp s = true) : (pB s).size = 6 := by
  obtain ⟨_, h1, h2⟩ := shp_parts h
  rw [pB_yes h, ByteArray.size_extract]; omega
theorem pM_size {s : ByteArray} (h : shp s = true) : (pM s).size = s.size - 10 := by
  obtain ⟨_, h1, h2⟩ := shp_parts h
  rw [pM_yes h, ByteArray.size_extract]; omega
theorem pL_size {s : ByteArray} (h : shp s = true) : (pL s).size = 4 := by
  obtain ⟨_, h1, h2⟩ := shp_parts h
  rw [pL_yes h, ByteArray.size_extract]; omega
theorem pB_le (s : ByteArray) : (pB s).size ≤ 6 := by
  cases h : shp s with
  | true => rw [pB_size h]; exact Nat.le_refl _
  | false => rw [pB_no h]; decide
theorem pM_le (s : ByteArray) : (pM s).size ≤ 9 := by
  cases h : shp s with
  | true => obtain ⟨_, h1, h2⟩ := shp_parts h; rw [pM_size h]; omega
  | false => rw [pM_no h]; decide
theorem pL_le (s : ByteArray) : (pL s).size ≤ 4 := by
  cases h : shp s with
  | true => rw [pL_size h]; exact Nat.le_refl _
  | false => rw [pL_no h]; decide
theorem extract_join (s : ByteArray) (a b c : Nat) (h : a ≤ b) (h' : b ≤ c) (_hc : c ≤ s.size) : s.extract a b ++ s.extract b c = s.extract a c := by
  apply ByteArray.ext
  rw [ByteArray.data_append, ByteArray.data_extract, ByteArray.data_extract, ByteArray.data_extract, Array.extract_append_extract]
  congr 1 <;> omega
theorem extract_all (s : ByteArray) : s.extract 0 s.size = s := by
  apply ByteArray.ext
  rw [ByteArray.data_extract]
  exact Array.extract_size
theorem whole_eq {s : ByteArray} (h : shp s = true) : pB s ++ pM s ++ pL s = s := by
  obtain ⟨_, h1, h2⟩ := shp_parts h
  rw [pB_yes h, pM_yes h, pL_yes h, extract_join _ _ _ _ (by omega) (by omega) (by omega), extract_join _ _ _ _ (by omega) (by omega) (by omega), extract_all]
def verN (s : ByteArray) : Int := if Lib.hasPrefix s.data.toList [48] then 0 else dnV s
def tkA (t : ByteArray) : ByteArray := ahd t 46
def tkN (t : ByteArray) : Int := verN (bhd t 46)
def isTk (t : ByteArray) : Bool := shp (tkA t) && (decide (1 ≤ tkN t) && decide (tkN t ≤ 255))
theorem isTk_parts {t : ByteArray} (h : isTk t = true) : shp (tkA t) = true ∧ 1 ≤ tkN t ∧ tkN t ≤ 255 := by
  unfold isTk at h
  simp only [Bool.and_eq_true, decide_eq_true_eq] at h
  exact h
def tkS (s : ByteArray) (v : Int) : ByteArray := s ++ ⟨#[46]⟩ ++ itoaB v
def tokE (s : ByteArray) (v : Int) : Int := if shp s then (if v < 1 ∨ 255 < v then 1 else 0) else 10
def tokV (s : ByteArray) (v : Int) : ByteArray := if tokE s v = 0 then tkS s v else ⟨#[]⟩
def splE (t : ByteArray) : Int := if isTk t then 0 else 11
def splV (t : ByteArray) : ByteArray := if isTk t then tkA t else ⟨#[]⟩
def splN (t : ByteArray) : Int := if isTk t then tkN t else 0
def cutE (s : ByteArray) : Int := if shp s then 0 else 10
end Go.Proofs.YthmlcmlpmolmoaaGreatDoor
namespace Go.Proofs.YthmlcmlpmolmoaaGreatDoor
open Go.RowKit
theorem at_list (t : ByteArray) (k : Nat) (h : k < t.size) : t.data.toList[k]? = some t[k] := by
  rw [List.getElem?_eq_getElem (by simpa using h)]; rfl
theorem fst_at {t : ByteArray} {k : Nat} (hk : k < t.size) (h : t[k] = 46) (hn : ∀ j (hj : j < k), t[j]'(Nat.lt_trans hj hk) ≠ 46) : hasB t 46 = true ∧ fst t 46 = k := by
  have h0 : Lib.indexByte t.data.toList 46 ≠ -1 := by
    intro hc
    exact Lib.indexByte_none hc k (by rw [at_list t k hk, h])
  obtain ⟨g0, glt⟩ := indexByte_lt h0
  obtain ⟨o, ho⟩ : ∃ o : Nat, Lib.indexByte t.data.toList 46 = o := ⟨(Lib.indexByte t.data.toList 46).toNat, by omega⟩
  obtain ⟨h1, h2⟩ := Lib.indexByte_some ho
  have hol : o < t.size := by rw [ho, Array.length_toList] at glt; exact glt
  have e : o = k := by
    rcases Nat.lt_trichotomy o k with hlt | he | hgt
    · exfalso
      rw [at_list t o hol] at h1
      exact hn o hlt (Option.some.inj h1)
    · exact he
    · exact absurd (by rw [at_list t k hk, h]) (h2 k hgt)
  refine ⟨?_, ?_⟩
  · unfold hasB; rw [ho, beq_eq_false_iff_ne.2 (by omega)]; rfl
  · unfold fst; rw [if_neg h0, ho, e]; rfl
theorem fst_none {t : ByteArray} (hn : ∀ j (hj : j < t.size), t[j] ≠ 46) : hasB t 46 = false ∧ fst t 46 = t.size := by
  have h0 : Lib.indexByte t.data.toList 46 = -1 := by
    by_cases h : Lib.indexByte t.data.toList 46 = -1
    · exact h
    · exfalso
      obtain ⟨g0, glt⟩ := indexByte_lt h
      obtain ⟨o, ho⟩ : ∃ o : Nat, Lib.indexByte t.data.toList 46 = o := ⟨(Lib.indexByte t.data.toList 46).toNat, by omega⟩
      have h1 := (Lib.indexByte_some ho).1
      have hol : o < t.size := by rw [ho, Array.length_toList] at glt; exact glt
      rw [at_list t o hol] at h1
      exact hn o hol (Option.some.inj h1)
  exact ⟨by unfold hasB; rw [h0]; rfl, by unfold fst; rw [if_pos h0]⟩
theorem fst_has {t : ByteArray} (h : hasB t 46 = true) : ∃ hk : fst t 46 < t.size, t[fst t 46] = 46 := by
  have h0 : Lib.indexByte t.data.toList 46 ≠ -1 := by
    intro hc; unfold hasB at h; rw [hc] at h; exact absurd h (by decide)
  obtain ⟨g0, glt⟩ := indexByte_lt h0
  obtain ⟨o, ho⟩ : ∃ o : Nat, Lib.indexByte t.data.toList 46 = o := ⟨(Lib.indexByte t.data.toList 46).toNat, by omega⟩
  have h1 := (Lib.indexByte_some ho).1
  have hol : o < t.size := by rw [ho, Array.length_toList] at glt; exact glt
  have e : fst t 46 = o := by unfold fst; rw [if_neg h0, ho]; rfl
  rw [at_list t o hol] at h1
  have h2 := Option.some.inj h1
  simp only [e]
  exact ⟨hol, h2⟩
theorem ext_list (s : ByteArray) (a b : Nat) : (s.extract a b).data.toList = (s.data.toList.drop a).take (b - a) := Lib.extract_data s a b
theorem join_parts {t : ByteArray} (h : hasB t 46 = true) : tkA t ++ ⟨#[46]⟩ ++ bhd t 46 = t := by
  obtain ⟨hk, he⟩ := fst_has h
  apply ba_ext
  unfold tkA ahd bhd
  rw [app_list, app_list, ext_list, ext_list]
  have hl : t.data.toList.length = t.size := Array.length_toList
  rw [List.drop_zero, Nat.sub_zero]
  have e1 : t.data.toList.take (fst t 46) ++ [46] = t.data.toList.take (fst t 46 + 1) := by
    rw [List.take_succ_eq_append_getElem (by omega)]
    congr 2
    exact he.symm
  show t.data.toList.take (fst t 46) ++ [46] ++ _ = _
  rw [e1, List.take_of_length_le (l := t.data.toList.drop (fst t 46 + 1)) (by rw [List.length_drop]; omega), List.take_append_drop]
theorem bhd_none {t : ByteArray} (h : hasB t 46 = false) : bhd t 46 = ⟨#[]⟩ := by
  have h0 : Lib.indexByte t.data.toList 46 = -1 := by
    unfold hasB at h
    simpa using h
  unfold bhd fst
  rw [if_pos h0]
  apply ByteArray.ext; simp
theorem verN_empty : verN ⟨#[]⟩ = 0 := by decide
def dl (n : Nat) : List UInt8 := if n < 10 then [UInt8.ofNat (48 + n)] else if n < 100 then [UInt8.ofNat (48 + n / 10), UInt8.ofNat (48 + n % 10)] else [UInt8.ofNat (48 + n / 100), UInt8.ofNat (48 + n / 10 % 10), UInt8.ofNat (48 + n % 10)]
theorem dec_dl (n : Nat) (h : n < 1000) : Lib.decDigits n = dl n := by
  unfold dl
  by_cases h1 : n < 10
  · rw [if_pos h1, Lib.decDigits_one h1]
  · rw [if_neg h1]
    by_cases h2 : n < 100
    · rw [if_pos h2, Lib.decDigits_two h1 h2]
    · rw [if_neg h2, Lib.decDigits, dif_neg h1, Lib.decDigits_two (by omega) (by omega), Nat.div_div_eq_div_mul]; rfl
theorem itoaB_dl (n : Nat) (h : n < 1000) : itoaB n = ⟨(dl n).toArray⟩ := by rw [itoaB_nat, dec_dl n h]
theorem dl_back : ∀ n : Fin 256, 1 ≤ n.val → verN ⟨(dl n.val).toArray⟩ = (n.val : Int) ∧ dnE ⟨(dl n.val).toArray⟩ = 0 ∧ dnV ⟨(dl n.val).toArray⟩ = (n.val : Int) := by decide +kernel
theorem itoa_back {v : Int} (h1 : 1 ≤ v) (h2 : v ≤ 255) : verN (itoaB v) = v ∧ dnE (itoaB v) = 0 ∧ dnV (itoaB v) = v := by
  obtain ⟨n, rfl⟩ : ∃ n : Nat, v = n := ⟨v.toNat, by omega⟩
  rw [itoaB_dl n (by omega)]
  exact dl_back ⟨n, by omega⟩ (by show 1 ≤ n; omega)
theorem dec_acc (s : ByteArray) (hd : s.data.toList.all isDig = true) (hp : 1 ≤ dg s 0) : ∀ k, k + 1 ≤ s.size → 1 ≤ acc s (k + 1) ∧ Lib.decDigits (acc s (k + 1)) = s.data.toList.take (k + 1)
  | 0, h => by
    have hl : s.data.toList.length = s.size := Array.length_toList
    have h9 := dg_le s 0 hd
    have e : acc s 1 = dg s 0 := by simp [acc]
    refine ⟨by rw [e]; exact hp, ?_⟩
    rw [e, Lib.decDigits_one (by omega), List.take_succ_eq_append_getElem (by omega), List.take_zero, List.nil_append]
    congr 1
    have h1 := dig_at s 0 (by omega) hd
    have h2 := dg_eq s 0 (by omega)
    show _ = s[0]
    rw [h2, show 48 + (s[0].toNat - 48) = s[0].toNat by omega]
    exact UInt8.ofNat_toNat
  | k + 1, h => by
    obtain ⟨ih1, ih2⟩ := dec_acc s hd hp k (by omega)
    have hl : s.data.toList.length = s.size := Array.length_toList
    have h9 := dg_le s (k + 1) hd
    have e : acc s (k + 1 + 1) = 10 * acc s (k + 1) + dg s (k + 1) := rfl
    refine ⟨by rw [e]; omega, ?_⟩
    rw [e, Lib.decDigits, dif_neg (by omega), show (10 * acc s (k + 1) + dg s (k + 1)) / 10 = acc s (k + 1) by omega, show (10 * acc s (k + 1) + dg s (k + 1)) % 10 = dg s (k + 1) by omega, ih2,
      List.take_succ_eq_append_getElem (i := k + 1) (by omega)]
    congr 2
    have h1 := dig_at s (k + 1) (by omega) hd
    have h2 := dg_eq s (k + 1) (by omega)
    show _ = s[k + 1]
    rw [h2, show 48 + (s[k + 1].toNat - 48) = s[k + 1].toNat by omega]
    exact UInt8.ofNat_toNat
theorem dnV_parts {s : ByteArray} (h : 1 ≤ dnV s) : dnE s = 0 ∧ s.data.toList.all isDig = true ∧ 0 < s.size ∧ dnV s = acc s s.size := by
  have he : dnE s = 0 := by
    by_cases he : dnE s = 0
    · exact he
    · exfalso; unfold dnV at h; rw [if_neg he] at h; omega
  refine ⟨he, ?_⟩
  have hv : dnV s = acc s s.size := by unfold dnV; rw [if_pos he]
  unfold dnE at he
  split at he
  · exact absurd he ‹_›
  · rename_i hf
    refine ⟨(fault_zero (by simpa using hf)).1, ?_, hv⟩
    split at he
    · omega
    · omega
theorem ver_text {s : ByteArray} (h : 1 ≤ verN s) : dnE s = 0 ∧ dnV s = verN s ∧ itoaB (verN s) = s := by
  unfold verN at h ⊢
  cases hp : Lib.hasPrefix s.data.toList [48] with
  | true => rw [hp, if_pos rfl] at h; omega
  | false =>
    rw [hp] at h
    have h' : 1 ≤ dnV s := h
    obtain ⟨he, hd, hz, hv⟩ := dnV_parts h'
    refine ⟨he, rfl, ?_⟩
    show itoaB (dnV s) = s
    rw [hv, itoaB_nat]
    have hl : s.data.toList.length = s.size := Array.length_toList
    have h0 : 1 ≤ dg s 0 := by
      rw [dg_eq s 0 hz]
      have h1 := dig_at s 0 hz hd
      have h2 : s[0].toNat ≠ 48 := by
        intro hc
        have h3 : s.data.toList = s[0] :: s.data.toList.drop 1 := by
          have := List.drop_eq_getElem_cons (l := s.data.toList) (i := 0) (by omega)
          rw [List.drop_zero] at this
          exact this
        rw [h3, show s[0] = 48 from UInt8.toNat_inj.1 hc] at hp
        simp [Lib.hasPrefix] at hp
      omega
    obtain ⟨k, hk⟩ : ∃ k, s.size = k + 1 := ⟨s.size - 1, by omega⟩
    have h2 := (dec_acc s hd h0 k (by omega)).2
    rw [hk, h2, List.take_of_length_le (by omega)]
theorem tk_has {t : ByteArray} (h : isTk t = true) : hasB t 46 = true := by
  cases hb : hasB t 46 with
  | true => rfl
  | false =>
    exfalso
    have h1 := (isTk_parts h).2.1
    unfold tkN at h1
    rw [bhd_none hb, verN_empty] at h1
    omega
theorem tk_join {t : ByteArray} (h : isTk t = true) : tkS (tkA t) (tkN t) = t := by
  obtain ⟨_, h1, h2⟩ := isTk_parts h
  unfold tkS
  rw [show itoaB (tkN t) = bhd t 46 from (ver_text h1).2.2, join_parts (tk_has h)]
theorem tk_of {s : ByteArray} {v : Int} (hs : shp s = true) (h1 : 1 ≤ v) (h2 : v ≤ 255) : tkA (tkS s v) = s ∧ tkN (tkS s v) = v ∧ isTk (tkS s v) = true := by
  obtain ⟨hd, _, _⟩ := shp_parts hs
  have hz : (tkS s v).size = s.size + 1 + (itoaB v).size := by unfold tkS; rw [ByteArray.size_append, ByteArray.size_append]; rfl
  have hl : (tkS s v).data.toList = s.data.toList ++ 46 :: (itoaB v).data.toList := by
    unfold tkS; rw [app_list, app_list, List.append_assoc]; rfl
  have hsl : s.data.toList.length = s.size := Array.length_toList
  have hk : s.size < (tkS s v).size := by omega
  have e1 : (tkS s v)[s.size] = 46 := by
    have h := at_list (tkS s v) s.size hk
    rw [hl, List.getElem?_append_right (by omega), hsl, Nat.sub_self] at h
    exact (Option.some.inj h).symm
  have e2 : ∀ j (hj : j < s.size), (tkS s v)[j]'(Nat.lt_trans hj hk) ≠ 46 := by
    intro j hj hc
    have h := at_list (tkS s v) j (Nat.lt_trans hj hk)
    rw [hl, List.getElem?_append_left (by omega), at_list s j hj, hc] at h
    have h3 := dig_at s j hj hd
    rw [Option.some.inj h] at h3
    exact absurd h3.1 (by decide)
  obtain ⟨f1, f2⟩ := fst_at hk e1 e2
  have ea : tkA (tkS s v) = s := by
    unfold tkA ahd
    rw [f2]
    apply ba_ext
    rw [ext_list, hl, List.drop_zero, Nat.sub_zero, List.take_left' hsl]
  have eb : bhd (tkS s v) 46 = itoaB v := by
    unfold bhd
    rw [f2]
    apply ba_ext
    have hil : (itoaB v).data.toList.length = (itoaB v).size := Array.length_toList
    rw [ext_list, hl, List.drop_append, List.drop_eq_nil_of_le (by omega), hsl, Nat.add_sub_cancel_left]
    show List.take _ (itoaB v).data.toList = _
    rw [List.take_of_length_le (by omega)]
  have en : tkN (tkS s v) = v := by unfold tkN; rw [eb]; exact (itoa_back h1 h2).1
  refine ⟨ea, en, ?_⟩
  unfold isTk
  rw [ea, en, hs, decide_eq_true h1, decide_eq_true h2]; rfl
end Go.Proofs.YthmlcmlpmolmoaaGreatDoor
namespace Go.Proofs.YthmlcmlpmolmoaaGreatDoor
open Go.RowKit
theorem app_size (a b : ByteArray) : (a ++ b).size = a.size + b.size := ByteArray.size_append
theorem ext_left (a b : ByteArray) (k : Nat) (h : a.size = k) : (a ++ b).extract 0 k = a := by
  apply ba_ext
  rw [ext_list, app_list, List.drop_zero, Nat.sub_zero]
  exact List.take_left' (by rw [Array.length_toList]; exact h)
theorem ext_right (a b : ByteArray) (k n : Nat) (h : a.size = k) (hn : (a ++ b).size = n) : (a ++ b).extract k n = b := by
  apply ba_ext
  have h1 : a.data.toList.length = k := by rw [Array.length_toList]; exact h
  have h2 : b.data.toList.length = b.size := Array.length_toList
  rw [app_size] at hn
  rw [ext_list, app_list, List.drop_left' h1, List.take_of_length_le (by omega)]
end Go.Proofs.YthmlcmlpmolmoaaGreatDoor
namespace Go.Proofs.YthmlcmlpmolmoaaGreatDoor
open Go.RowKit
def wtab (i : Nat) : Int := if i < 10 then i else if 2 * (i - 10) ≤ 9 then 2 * (i - 10 : Nat) else 2 * (i - 10 : Nat) - 9
def Wts (w : World) : Prop := ∀ i, i < 20 → w.cell? ⟨0, i, none⟩ = some (.int .i64 (wtab i))
def wt (pos d : Nat) : Nat := if pos % 2 = 0 then d else if 2 * d ≤ 9 then 2 * d else 2 * d - 9
def psum (N f : Nat) (s : ByteArray) : Nat → Nat
  | 0 => 0
  | k + 1 => psum N f s k + wt (N - 1 - k + f) (dg s k)
theorem wt_odd (p d : Nat) (h : p % 2 = 1) : wt p d = wt 1 d := by unfold wt; simp only [h, if_neg (show ¬ (1 = 0) by decide)]
theorem wt_even (p d : Nat) (h : p % 2 = 0) : wt p d = d := by unfold wt; rw [if_pos h]
theorem wtab_lo (d : Nat) (h : d < 10) : wtab d = (d : Int) := by unfold wtab; rw [if_pos h]
theorem wtab_hi (d : Nat) (_h : d < 10) : wtab (10 + d) = (wt 1 d : Nat) := by
  unfold wtab wt; rw [if_neg (by omega), if_neg (show ¬ (1 % 2 = 0) by decide), Nat.add_sub_cancel_left]; split <;> omega
theorem wt_le (p d : Nat) (h : d ≤ 9) : wt p d ≤ 9 := by unfold wt; split; omega; split <;> omega
theorem psum_le (N f : Nat) (s : ByteArray) (hd : s.data.toList.all isDig = true) (k : Nat) : psum N f s k ≤ 9 * k := by
  induction k with
  | zero => simp [psum]
  | succ k ih => have := wt_le (N - 1 - k + f) (dg s k) (dg_le s k hd); simp only [psum]; omega
set_option maxHeartbeats 800000 in
theorem luhnSum_any (s : ByteArray) (f : Int) (w : World) (hs : s.size ≤ 1000) (hf : 0 ≤ f) (hf' : f ≤ 1) (hd : s.data.toList.all isDig = true) (hw : Wts w) :
    Calls Tryz.prog 93 #[.string s, .int .i64 f] w fun e w' => e = .returned (.int .i64 (psum s.size f.toNat s s.size)) ∧ ∃ n, w' = w.drewN n := by
  have HD := Lib.hid hd
  have HW := Lib.hid hw
  clear hd hw
  go_enter Tryz.func93, Tryz.ntmps93
  go_wp2
  go_loopw [5, 10] (fun t i wr => ∃ k : Nat, k ≤ s.size ∧ i = .int .i64 k ∧ t = .int .i64 (psum s.size f.toNat s k) ∧ ∃ n, wr = w.drewN n) (fun _ i _ => s.size - (intOf i).toNat)
  case atStart => exact ⟨0, Nat.zero_le _, rfl, rfl, 0, rfl⟩
  case round =>
    obtain ⟨k, hk, rfl, rfl, hn⟩ := hrel
    have HN := Lib.hid hn
    clear hn
    by_cases hlt : k < s.size
    · obtain ⟨hb1, hb2⟩ := dig_at s k hlt HD.out
      have hps := psum_le s.size f.toNat s HD.out k
      obtain ⟨d, e0, hd9⟩ : ∃ d : Nat, (s[k].toNat : Int) - 48 = d ∧ d < 10 := ⟨s[k].toNat - 48, by omega, by omega⟩
      have e0' : s[k].toNat - 48 = d := by omega
      have HS := Lib.hid (show psum s.size f.toNat s (k+1) = psum s.size f.toNat s k + wt (s.size - 1 - k + f.toNat) d by rw [← e0', ← dg_eq s k hlt]; rfl)
      clear e0'
      have hd9' : (d : Int) < 10 := by omega
      rcases (show ((s.size : Int) - 1 - k + f) % 2 = 0 ∨ ((s.size : Int) - 1 - k + f) % 2 = 1 by omega) with h | h
      · have e1 : ((s.size : Int) - 1 - k + f).tmod 2 = 0 := by rw [Int.tmod_eq_emod_of_nonneg (by omega)]; exact h
        have HT := Lib.hid (show wt (s.size - 1 - k + f.toNat) d = d from wt_even _ _ (by omega))
        have hc : wr.cell? ⟨0, d, none⟩ = some (.int .i64 d) := by
          obtain ⟨n, hn⟩ := HN.out
          rw [hn]
          exact (HW.out d (by omega)).trans (by rw [wtab_lo d hd9])
        clear h
        go_wp2
        go_quiet ((go_at_call 129; exact Calls.quiet_of_same ((value_any _ _ (by omega) (by omega)).mono fun _ _ h => ⟨h.1, h.2.symm⟩)))
        go_wp2
        go_roundw
        case rel => exact ⟨k + 1, by omega, by go_num, fin1 HS.out rfl (by rw [HT.out]), drawn_more HN.out nq⟩
        case measure => simp [intOf]; omega
      · have e1 : ((s.size : Int) - 1 - k + f).tmod 2 = 1 := by rw [Int.tmod_eq_emod_of_nonneg (by omega)]; exact h
        have hc : wr.cell? ⟨0, 10 + d, none⟩ = some (.int .i64 (wt 1 d)) := by
          obtain ⟨n, hn⟩ := HN.out
          rw [hn]
          exact (HW.out (10 + d) (by omega)).trans (by rw [wtab_hi d hd9])
        have HT := Lib.hid (show wt (s.size - 1 - k + f.toNat) d = wt 1 d from wt_odd _ _ (by omega))
        have hwl := wt_le 1 d (by omega)
        clear h
        go_wp2
        go_quiet ((go_at_call 129; exact Calls.quiet_of_same ((value_any _ _ (by omega) (by omega)).mono fun _ _ h => ⟨h.1, h.2.symm⟩)))
        go_wp2
        go_roundw
        case rel => exact ⟨k + 1, by omega, by go_num, fin1 HS.out rfl (by rw [HT.out]), drawn_more HN.out nq⟩
        case measure => simp [intOf]; omega
    · have e : k = s.size := by omega
      subst e
      go_wp2
      go_ret
      exact ⟨rfl, HN.out⟩
def luhnOf (s : ByteArray) : Int := ((10 - (psum s.size 1 s s.size) % 10) % 10 : Nat)
def validB (s : ByteArray) : Bool := decide (0 < s.size) && (decide (faultOf s.data.toList = 0) && decide (psum s.size 0 s s.size % 10 = 0))
set_option maxHeartbeats 400000 in
theorem luhn_bad (s : ByteArray) (w : World) (hs : s.size ≤ maxLen) (hb : ¬ faultOf s.data.toList = 0) :
    Calls Tryz.prog 91 #[.string s] w fun e w' => e = .returned (.tuple #[.int .i64 0, .int .i64 (faultOf s.data.toList)]) ∧ w = w' := by
  have hb' : (faultOf s.data.toList != 0) = true := by simpa using hb
  go_enter Tryz.func91, Tryz.ntmps91
  go_wp2_with (go_at_call 92; refine (fault_any _ _ hs).mono ?_; rintro e w' ⟨rfl, rfl⟩)
  go_ret2
  exact ⟨rfl, rfl⟩
set_option maxHeartbeats 400000 in
theorem luhn_ok (s : ByteArray) (w : World) (hd : s.data.toList.all isDig = true) (hl : s.size ≤ 999) (hw : Wts w) :
    Calls Tryz.prog 91 #[.string s] w fun e w' => e = .returned (.tuple #[.int .i64 (luhnOf s), .int .i64 0]) ∧ ∃ n, w' = w.drewN n := by
  have HD := Lib.hid hd
  have HW := Lib.hid hw
  have HF := Lib.hid (fault_ok hd (by simpa using hl))
  have hp := psum_le s.size 1 s hd s.size
  clear hd hw
  go_enter Tryz.func91, Tryz.ntmps91
  go_wp2_with (go_at_call 92; refine (fault_any _ _ (by unfold maxLen; omega)).mono ?_; rintro e w' ⟨rfl, rfl⟩; rw [HF.out])
  go_wp2_with (go_at_call 93; refine (luhnSum_any _ _ _ (by omega) (by omega) (by omega) HD.out HW.out).mono ?_; rintro e w' ⟨rfl, n, rfl⟩)
  go_ret2
  exact ⟨ret_two (by unfold luhnOf; show _ = ((_ : Nat) : Int); omega), n, rfl⟩
set_option maxHeartbeats 400000 in
theorem valid_any (s : ByteArray) (w : World) (hs : s.size ≤ maxLen) (hw : Wts w) :
    Calls Tryz.prog 51 #[.string s] w fun e w' => e = .returned (.bool (validB s)) ∧ ∃ n, w' = w.drewN n := by
  have HW := Lib.hid hw
  clear hw
  by_cases h0 : s.size = 0
  · have e1 : s.toList.isEmpty = true := by
      rw [ByteArray.toList_eq, List.isEmpty_iff_length_eq_zero]; exact Array.length_toList.trans h0
    have HB := Lib.hid (show validB s = false by unfold validB; rw [decide_eq_false (by omega)]; simp)
    clear h0
    go_enter Tryz.func51, Tryz.ntmps51
    go_wp2
    go_ret
    exact ⟨by rw [HB.out]; rfl, 0, rfl⟩
  · have e1 := toList_of_size (s := s) (by omega)
    by_cases hf : faultOf s.data.toList = 0
    · obtain ⟨hd, hl⟩ := fault_zero hf
      have hl' : s.size ≤ 999 := by rw [Array.length_toList] at hl; exact hl
      have HD := Lib.hid hd
      have HF := Lib.hid hf
      have hp := psum_le s.size 0 s hd s.size
      have HB := Lib.hid (show validB s = ((psum s.size 0 s s.size : Int) % 10 == 0) by
        unfold validB; rw [decide_eq_true (show 0 < s.size by omega), hf]; simp only [Bool.true_and, decide_true]; rw [Bool.eq_iff_iff]; simp; omega)
      clear hf hd hl h0
      go_enter Tryz.func51, Tryz.ntmps51
      go_wp2_with (first | (go_at_call 92; refine (fault_any s _ hs).mono ?_; rintro e w' ⟨rfl, rfl⟩; rw [HF.out]) | (go_at_call 93; refine (luhnSum_any s 0 _ (by omega) (by omega) (by omega) HD.out HW.out).mono ?_; rintro e w' ⟨rfl, n, rfl⟩))
      go_ret
      exact ⟨by rw [HB.out]; rfl, _, rfl⟩
    · have hf' : (faultOf s.data.toList == 0) = false := by simpa using hf
      have HB := Lib.hid (show validB s = false by unfold validB; rw [decide_eq_false hf]; simp)
      clear hf h0
      go_enter Tryz.func51, Tryz.ntmps51
      go_wp2_with (go_at_call 92; refine (fault_any s _ hs).mono ?_; rintro e w' ⟨rfl, rfl⟩)
      go_ret
      exact ⟨by rw [HB.out]; rfl, 0, rfl⟩
end Go.Proofs.YthmlcmlpmolmoaaGreatDoor
namespace Go.Proofs.YthmlcmlpmolmoaaGreatDoor
open Go.Shelf Go.RowKit
def lays99_ren : Go.Shelf.Ren := ⟨fun | 99 => 97 | 206 => 134 | n => n, fun | 9 => 9 | 4 => 4 | 3 => 3 | n => n, fun | n => n⟩
theorem lays99 : Go.Proofs.Lays.n99 Tryz.prog lays99_ren := {
  mixed := by kernel_rfl
  f99 := Tryz.func97.trans (congrArg some (by kernel_rfl))
  f206 := Tryz.func134.trans (congrArg some (by kernel_rfl))
  t3 := Tryz.underlying3
  a3 := Tryz.isAgg3
  z3 := Tryz.sizeOf3
  v3 := Tryz.zeroValue3
  t4 := Tryz.underlying4
  a4 := Tryz.isAgg4
  z4 := Tryz.sizeOf4
  v4 := Tryz.zeroValue4
  t9 := Tryz.underlying9
  a9 := Tryz.isAgg9
  z9 := Tryz.sizeOf9
  v9 := Tryz.zeroValue9 }
theorem prefix_any (s p : ByteArray) (w : World) :
    Calls Tryz.prog 97 #[.string s, .string p] w fun e w' => e = .returned (.bool (Lib.hasPrefix s.data.toList p.data.toList)) ∧ w = w' :=
  (Any.strings_HasPrefix lays99 s p w).mono fun _ _ ⟨a, b⟩ => ⟨a, b.symm⟩
end Go.Proofs.YthmlcmlpmolmoaaGreatDoor
namespace Go.Proofs.YthmlcmlpmolmoaaGreatDoor
open Go.Shelf Go.RowKit
def laysM316_ren : Go.Shelf.Ren := ⟨fun | 316 => 103 | n => n, fun | 9 => 9 | 3 => 3 | 4 => 4 | 37 => 22 | 0 => 0 | 127 => 193 | 5 => 5 | n => n, fun | n => n⟩
theorem laysM316 : Go.Proofs.LaysM.n316 Tryz.prog laysM316_ren := {
  mixed := by kernel_rfl
  f316 := Tryz.func103.trans (congrArg some (by kernel_rfl))
  t0 := Tryz.underlying0
  a0 := Tryz.isAgg0
  z0 := Tryz.sizeOf0
  v0 := Tryz.zeroValue0
  t3 := Tryz.underlying3
  a3 := Tryz.isAgg3
  z3 := Tryz.sizeOf3
  v3 := Tryz.zeroValue3
  t4 := Tryz.underlying4
  a4 := Tryz.isAgg4
  z4 := Tryz.sizeOf4
  v4 := Tryz.zeroValue4
  t9 := Tryz.underlying9
  a9 := Tryz.isAgg9
  z9 := Tryz.sizeOf9
  v9 := Tryz.zeroValue9
  t37 := Tryz.underlying22
  a37 := Tryz.isAgg22
  z37 := Tryz.sizeOf22
  v37 := Tryz.zeroValue22
  t127 := Tryz.underlying193
  a127 := Tryz.isAgg193
  z127 := Tryz.sizeOf193
  v127 := Tryz.zeroValue193
  t5 := Tryz.underlying5
  a5 := Tryz.isAgg5
  z5 := Tryz.sizeOf5
  v5 := Tryz.zeroValue5
  i0 := by kernel_rfl
  i3 := by kernel_rfl
  i4 := by kernel_rfl
  i5 := by kernel_rfl
  i9 := by kernel_rfl
  i37 := by kernel_rfl
  i127 := by kernel_rfl }
theorem sclone_any (s : ByteArray) (w : World) (hl : s.size ≤ 281474976710656) :
    Calls Tryz.prog 58 #[.string s] w fun e w' => e = .returned (.string s) ∧ Below w.heap.size w w' := by
  go_enter Tryz.func58, Tryz.ntmps58
  go_wp2_with (go_at_call 103; refine (Any.stringslite_Clone laysM316 s _ hl).mono ?_; rintro e w' ⟨rfl, hb⟩)
  go_ret
  exact ⟨rfl, hb⟩
end Go.Proofs.YthmlcmlpmolmoaaGreatDoor
namespace Go.Proofs.YthmlcmlpmolmoaaGreatDoor
open Go.RowKit
def parts (a b c : ByteArray) : Value := .agg #[.string a, .string b, .string c]
def cutV (s : ByteArray) : Value := .agg #[.string (pB s), .string (pM s), .string (pL s)]
theorem luhn_all (s : ByteArray) (w : World) (hs : s.size ≤ maxLen) (hw : Wts w) :
    Calls Tryz.prog 91 #[.string s] w fun e w' => (∃ x, e = .returned (.tuple #[.int .i64 x, .int .i64 (faultOf s.data.toList)])) ∧ ∃ n, w' = w.drewN n := by
  by_cases h : faultOf s.data.toList = 0
  · obtain ⟨hd, hl⟩ := fault_zero h
    exact (luhn_ok s w hd (by rw [Array.length_toList] at hl; exact hl) hw).mono fun e w' ⟨he, hn⟩ => ⟨⟨_, by rw [h]; exact he⟩, hn⟩
  · exact (luhn_bad s w hs h).mono fun e w' ⟨he, hn⟩ => ⟨⟨_, he⟩, 0, hn.symm⟩
set_option maxHeartbeats 800000 in
theorem cut_any (s : ByteArray) (w : World) (hs : s.size ≤ maxLen) (hw : Wts w) :
    Calls Tryz.prog 50 #[.string s] w fun e w' => e = .returned (cutV s) ∧ Below w.heap.size w w' := by
  have HW := Lib.hid (hw)
  have HS := Lib.hid hs
  unfold maxLen at hs
  clear hw
  by_cases hl : s.size < 16 ∨ 19 < s.size
  · have hz : shp s = false := by
      unfold shp
      rcases hl with h | h
      · rw [decide_eq_false (show ¬ 16 ≤ s.size by omega)]; simp
      · rw [decide_eq_false (show ¬ s.size ≤ 19 by omega)]; simp
    have HV := Lib.hid (show cutV s = .agg #[.string ⟨#[]⟩, .string ⟨#[]⟩, .string ⟨#[]⟩] by unfold cutV; rw [pB_no hz, pM_no hz, pL_no hz])
    clear hz
    rcases hl with h | h
    · have h1 : decide ((s.size : Int) < 16) = true := by simp; omega
      go_enter Tryz.func50, Tryz.ntmps50
      go_wp2_with fail
      exact bodyPost_ret (v := .agg #[.string ⟨#[]⟩, .string ⟨#[]⟩, .string ⟨#[]⟩]) (by simp [results, Tryz.results50, go_sem]) rfl ⟨by rw [HV.out], (Below.refl _ _).alloc (Nat.le_refl _) _⟩
    · have h1 : decide ((s.size : Int) < 16) = false := by simp; omega
      have h2 : decide ((19 : Int) < s.size) = true := by simp; omega
      go_enter Tryz.func50, Tryz.ntmps50
      go_wp2_with fail
      exact bodyPost_ret (v := .agg #[.string ⟨#[]⟩, .string ⟨#[]⟩, .string ⟨#[]⟩]) (by simp [results, Tryz.results50, go_sem]) rfl ⟨by rw [HV.out], (Below.refl _ _).alloc (Nat.le_refl _) _⟩
  · have h1 : decide ((s.size : Int) < 16) = false := by simp; omega
    have h2 : decide ((19 : Int) < s.size) = false := by simp; omega
    obtain ⟨n, hn, hn2⟩ : ∃ n : Nat, (s.size : Int) - 4 = n ∧ n = s.size - 4 := ⟨s.size - 4, by omega, rfl⟩
    by_cases hf : faultOf s.data.toList = 0
    · have hns : n ≤ s.size := by omega
      have hn6 : 6 ≤ n := by omega
      have hd := (fault_zero hf).1
      have hz := shp_of hd (by omega) (by omega)
      have HV := Lib.hid (show cutV s = .agg #[.string (s.extract 0 6), .string (s.extract 6 n), .string (s.extract n s.size)] by unfold cutV; rw [pB_yes hz, pM_yes hz, pL_yes hz, hn2])
      have HF := Lib.hid hf
      clear hf hd hz hn2
      go_enter Tryz.func50, Tryz.ntmps50
      go_wp2_with (go_at_call 91; refine (luhn_all s _ HS.out (fun i hi => ((Below.refl w.heap.size w).alloc (Nat.le_refl _) _).cell (block_lt (HW.out i hi)) |>.trans (HW.out i hi))).mono ?_; rintro e w1 ⟨⟨x, rfl⟩, m, rfl⟩; rw [HF.out])
      go_region
      go_wp2_with fail
      exact bodyPost_ret (v := .agg #[.string (s.extract 0 6), .string (s.extract 6 n), .string (s.extract n s.size)]) (by simp [results, Tryz.results50, go_sem]) rfl ⟨by rw [HV.out], (((drawn ((Below.refl _ _).alloc (Nat.le_refl _) _) _).setCell (Nat.le_refl _) _).setCell (Nat.le_refl _) _).setCell (Nat.le_refl _) _⟩
    · have hz : shp s = false := by
        cases h : shp s with
        | false => rfl
        | true => exact absurd (fault_ok (shp_parts h).1 (by rw [Array.length_toList]; show s.size ≤ 999; omega)) hf
      have HV := Lib.hid (show cutV s = .agg #[.string ⟨#[]⟩, .string ⟨#[]⟩, .string ⟨#[]⟩] by unfold cutV; rw [pB_no hz, pM_no hz, pL_no hz])
      have hf' : (faultOf s.data.toList != 0) = true := by simpa using hf
      clear hf hz
      go_enter Tryz.func50, Tryz.ntmps50
      go_wp2_with fail
      refine (luhn_all s _ HS.out (fun i hi => ((Below.refl w.heap.size w).alloc (Nat.le_refl _) _).cell (block_lt (HW.out i hi)) |>.trans (HW.out i hi))).mono ?_
      rintro e w1 ⟨⟨x, rfl⟩, m, rfl⟩
      go_wp2_with fail
      exact bodyPost_ret (v := .agg #[.string ⟨#[]⟩, .string ⟨#[]⟩, .string ⟨#[]⟩]) (by simp [results, Tryz.results50, go_sem]) rfl ⟨by rw [HV.out], (((drawn ((Below.refl _ _).alloc (Nat.le_refl _) _) _).setCell (Nat.le_refl _) _).setCell (Nat.le_refl _) _).setCell (Nat.le_refl _) _⟩
theorem wrong_any (v : Int) (w : World) :
    Calls Tryz.prog 77 #[.int .i64 v] w fun e w' => e = .returned (.bool (decide (v < 1) || decide (255 < v))) ∧ w = w' := by
  go_enter Tryz.func77, Tryz.ntmps77
  by_cases h1 : v < 1
  · have h1' : decide (v < 1) = true := by simpa using h1
    clear h1
    go_wp2
    go_ret
    exact ⟨by rw [h1']; rfl, rfl⟩
  · have h1' : decide (v < 1) = false := by simpa using h1
    clear h1
    go_wp2
    go_ret
    exact ⟨by rw [h1']; rfl, rfl⟩
theorem number11_any (s : ByteArray) (w : World) (hs : s.size ≤ maxLen) :
    Calls Tryz.prog 95 #[.string s] w fun e w' => e = .returned (.int .i64 (verN s)) ∧ ∃ n, w' = w.drewN n := by
  cases hp : Lib.hasPrefix s.data.toList [48] with
  | true =>
    have HV := Lib.hid (show verN s = 0 by unfold verN; rw [hp]; rfl)
    have HP := Lib.hid hp
    clear hp
    go_enter Tryz.func95, Tryz.ntmps95
    go_wp2_with (go_at_call 97; refine (prefix_any s _ _).mono ?_; rintro e w' ⟨rfl, rfl⟩; rw [show ((⟨#[48]⟩ : ByteArray).data.toList) = [48] from rfl, HP.out])
    go_ret
    exact ⟨by rw [HV.out]; rfl, 0, rfl⟩
  | false =>
    have HV := Lib.hid (show verN s = dnV s by unfold verN; rw [hp]; rfl)
    have HP := Lib.hid hp
    clear hp
    go_enter Tryz.func95, Tryz.ntmps95
    go_wp2_with (first
      | (go_at_call 97; refine (prefix_any s _ _).mono ?_; rintro e w' ⟨rfl, rfl⟩; rw [show ((⟨#[48]⟩ : ByteArray).data.toList) = [48] from rfl, HP.out])
      | (go_at_call 131; refine (number_any s _ hs).mono ?_; rintro e w' ⟨rfl, n, rfl⟩))
    go_ret
    exact ⟨by rw [HV.out]; rfl, n, rfl⟩
theorem join11_any (s : ByteArray) (v : Int) (w : World) (hs : s.size ≤ 1000) (h0 : -9223372036854775808 ≤ v) (h1 : v ≤ 9223372036854775807) (hp : P10 w) :
    Calls Tryz.prog 55 #[.string s, .int .i64 v] w fun e w' => e = .returned (.string (tkS s v)) ∧ Below w.heap.size w w' := by
  have HT := Lib.hid (show tkS s v = s ++ ⟨#[46]⟩ ++ itoaB v from rfl)
  have hz := itoaB_size v h0 h1
  have hz1 : (s ++ (⟨#[46]⟩ : ByteArray)).size ≤ 1001 := by rw [ByteArray.size_append]; show s.size + 1 ≤ 1001; omega
  have hz2 : (⟨#[46]⟩ : ByteArray).size ≤ 1 := Nat.le_refl _
  go_enter Tryz.func55, Tryz.ntmps55
  go_wp2_with fail
  refine (itoa_any v _ h0 h1 hp).mono ?_
  rintro e w' ⟨rfl, hb⟩
  generalize itoaB v = t at *
  go_wp2_with fail
  go_ret
  exact ⟨by rw [HT.out]; rfl, hb⟩
end Go.Proofs.YthmlcmlpmolmoaaGreatDoor
namespace Go.Proofs.YthmlcmlpmolmoaaGreatDoor
open Go.RowKit
theorem clone_regrown (W : World) (s : ByteArray) (hl : s.size ≤ 281474976710656) (d : Nat) (os : Array Obj) :
    Calls Tryz.prog 58 #[.string s] (Go.Sort.grow (redrawn W d) os) fun e w'' => e = .returned (.string s) ∧ ∃ p : Regrown, w'' = Go.Sort.grow (redrawn W p.d) p.os :=
  Calls.regrown_of (sclone_any s _ hl)
set_option maxHeartbeats 800000 in
theorem whole_any (a b c : ByteArray) (w : World) (ha : a.size ≤ 1000) (hb : b.size ≤ 1000) (hc : c.size ≤ 1000) :
    Calls Tryz.prog 53 #[.agg #[.string a, .string b, .string c]] w fun e w' => e = .returned (.string (a ++ b ++ c)) ∧ Below w.heap.size w w' := by
  have hz1 : (a ++ b).size ≤ 2000 := by rw [ByteArray.size_append]; omega
  have hz2 : (a ++ b ++ c).size ≤ 3000 := by rw [ByteArray.size_append, ByteArray.size_append]; omega
  go_enter Tryz.func53, Tryz.ntmps53
  go_wp2_with fail
  go_ret
  exact ⟨rfl, (Below.refl w.heap.size w).alloc (Nat.le_refl _) _⟩
def isV (s : ByteArray) : Bool := shp s && validB s
set_option maxHeartbeats 800000 in
theorem is11_any (s : ByteArray) (w : World) (hs : s.size ≤ maxLen) (hw : Wts w) (hwk : ∀ w', Below w.heap.size w w' → Wts w') :
    Calls Tryz.prog 25 #[.string s] w fun e w' => e = .returned (.bool (isV s)) ∧ Below w.heap.size w w' := by
  have HK := Lib.hid hwk
  have HW := Lib.hid hw
  clear hwk hw
  cases hz : shp s with
  | true =>
    have HV := Lib.hid (show isV s = validB s by unfold isV; rw [hz]; rfl)
    have hC : cutV s = .agg #[.string (pB s), .string (pM s), .string (pL s)] := rfl
    have e1 : ¬ (pB s).toList = [] := by
      have := toList_of_size (s := pB s) (by rw [pB_size hz]; decide)
      intro h; rw [h] at this; exact absurd this (by decide)
    clear hz
    go_enter Tryz.func25, Tryz.ntmps25
    go_wp2_with fail
    refine (cut_any s _ hs HW.out).mono ?_
    rintro e w1 ⟨rfl, hb1⟩
    rw [hC]
    have HB1 := Lib.hid hb1
    clear hb1 hC
    generalize pB s = a at *
    generalize pM s = b at *
    generalize pL s = c at *
    go_wp2_with fail
    refine (valid_any s _ hs (HK.out _ HB1.out)).mono ?_
    rintro e w2 ⟨rfl, n, rfl⟩
    go_wp2_with fail
    go_ret
    exact ⟨by rw [HV.out]; rfl, drawn HB1.out n⟩
  | false =>
    have HV := Lib.hid (show isV s = false by unfold isV; rw [hz]; rfl)
    have hC : cutV s = .agg #[.string ⟨#[]⟩, .string ⟨#[]⟩, .string ⟨#[]⟩] := by unfold cutV; rw [pB_no hz, pM_no hz, pL_no hz]
    clear hz
    go_enter Tryz.func25, Tryz.ntmps25
    go_wp2_with fail
    refine (cut_any s _ hs HW.out).mono ?_
    rintro e w1 ⟨rfl, hb1⟩
    rw [hC]
    have HB1 := Lib.hid hb1
    clear hb1 hC
    go_wp2_with fail
    go_ret
    exact ⟨by rw [HV.out]; rfl, HB1.out⟩
end Go.Proofs.YthmlcmlpmolmoaaGreatDoor
namespace Go.Proofs.YthmlcmlpmolmoaaGreatDoor
open Go.RowKit
theorem Wts.below {w w' : World} {B : Nat} (h : Wts w) (hb : Below B w w') (hB : 0 < B) : Wts w' := fun i hi => (hb.cell (p := ⟨_, i, none⟩) hB).trans (h i hi)
theorem Wts.lt {w : World} (h : Wts w) : 0 < w.heap.size := block_lt (h 0 (by omega))
theorem Wts.drewN {w : World} (h : Wts w) (n : Nat) : Wts (w.drewN n) := h
theorem Wts.keep {w w' : World} (h : Wts w) (hb : Below w.heap.size w w') : Wts w' := h.below hb h.lt
end Go.Proofs.YthmlcmlpmolmoaaGreatDoor
namespace Go.Proofs.YthmlcmlpmolmoaaGreatDoor
open Go.RowKit
structure PT (w : World) : Prop where
  wts : Wts w
  p10 : P10 w
theorem PT.keep {w w' : World} (h : PT w) (hb : Below w.heap.size w w') : PT w' := ⟨h.wts.keep hb, h.p10.keep hb⟩
theorem no_list {s : ByteArray} (h : 0 < s.size) : ¬ s.toList = [] := by
  have := toList_of_size h
  intro h; rw [h] at this; exact absurd this (by decide)
set_option maxHeartbeats 1600000 in
theorem cut11_any (s : ByteArray) (w : World) (hs : s.size ≤ maxLen) (hw : PT w) :
    Calls Tryz.prog 29 #[.string s] w fun e w' => e = .returned (.tuple #[.string (pB s), .string (pM s), .string (pL s), .int .i64 (cutE s)]) ∧ Below w.heap.size w w' := by
  have HW := Lib.hid hw
  clear hw
  cases hz : shp s with
  | true =>
    have HE := Lib.hid (show cutE s = 0 by unfold cutE; rw [hz]; rfl)
    have hC : cutV s = .agg #[.string (pB s), .string (pM s), .string (pL s)] := rfl
    have e1 := no_list (s := pB s) (by rw [pB_size hz]; decide)
    have hB := pB_le s
    have hM := pM_le s
    have hL := pL_le s
    clear hz
    go_enter Tryz.func29, Tryz.ntmps29
    go_wp2_with fail
    refine (cut_any s _ hs HW.out.wts).mono ?_
    rintro e w1 ⟨rfl, hb1⟩
    rw [hC]
    have HB1 := Lib.hid hb1
    clear hb1 hC
    generalize hpa : pB s = a at *
    generalize hpb : pM s = b at *
    generalize hpc : pL s = c at *
    have HP := Lib.hid (show pB s = a ∧ pM s = b ∧ pL s = c from ⟨hpa, hpb, hpc⟩)
    clear hpa hpb hpc
    have cA := fun W => clone_regrown W a (by omega)
    have cB := fun W => clone_regrown W b (by omega)
    have cC := fun W => clone_regrown W c (by omega)
    have hw1 : (w1.alloc (.cells #[.string a, .string b, .string c] 99)).cell? ⟨w1.heap.size, 0, none⟩ = some (.string a) := (World.cell?_alloc_at _ _ _ _ rfl).trans rfl
    have hw2 : (w1.alloc (.cells #[.string a, .string b, .string c] 99)).cell? ⟨w1.heap.size, 1, none⟩ = some (.string b) := (World.cell?_alloc_at _ _ _ _ rfl).trans rfl
    have hw3 : (w1.alloc (.cells #[.string a, .string b, .string c] 99)).cell? ⟨w1.heap.size, 2, none⟩ = some (.string c) := (World.cell?_alloc_at _ _ _ _ rfl).trans rfl
    have k1 := cell_regrown hw1
    have k2 := cell_regrown hw2
    have k3 := cell_regrown hw3
    have HB2 := Lib.hid (HB1.out.alloc HB1.out.size (.cells #[.string a, .string b, .string c] 99))
    clear hw1 hw2 hw3
    go_wp2_with fail
    generalize w1.alloc (.cells #[.string a, .string b, .string c] 99) = W at *
    have cA := cA W
    have cB := cB W
    have cC := cC W
    refine wp_region_quiet_below (by kernel_rfl) (by kernel_rfl) ?_
    repeat (quiet_step (first | (with_reducible exact cA _ _) | (with_reducible exact cB _ _) | (with_reducible exact cC _ _)))
    refine wpQuiet_nil ?_
    intro _ hw'
    obtain ⟨⟨dq, osq⟩, hw''⟩ := hw'
    subst hw''
    have HB3 := Lib.hid (HB2.out.trans ((below_regrown W dq osq).mono HB2.out.size))
    generalize Go.Sort.grow (redrawn W dq) osq = W2 at *
    go_wp2_with fail
    exact bodyPost_ret (v := .tuple #[.string a, .string b, .string c, .int .i64 0]) (by simp [results, Tryz.results29, go_sem]) rfl ⟨by rw [HE.out, HP.out.1, HP.out.2.1, HP.out.2.2], HB3.out⟩
  | false =>
    have HE := Lib.hid (show cutE s = 10 by unfold cutE; rw [hz]; rfl)
    have hC : cutV s = .agg #[.string ⟨#[]⟩, .string ⟨#[]⟩, .string ⟨#[]⟩] := by unfold cutV; rw [pB_no hz, pM_no hz, pL_no hz]
    have HV := Lib.hid (show pB s = ⟨#[]⟩ ∧ pM s = ⟨#[]⟩ ∧ pL s = ⟨#[]⟩ from ⟨pB_no hz, pM_no hz, pL_no hz⟩)
    clear hz
    go_enter Tryz.func29, Tryz.ntmps29
    go_wp2_with fail
    refine (cut_any s _ hs HW.out.wts).mono ?_
    rintro e w1 ⟨rfl, hb1⟩
    rw [hC]
    have HB1 := Lib.hid hb1
    clear hb1 hC
    go_wp2_with fail
    exact bodyPost_ret (v := .tuple #[.string ⟨#[]⟩, .string ⟨#[]⟩, .string ⟨#[]⟩, .int .i64 10]) (by simp [results, Tryz.results29, go_sem]) rfl ⟨by rw [HE.out, HV.out.1, HV.out.2.1, HV.out.2.2], HB1.out.alloc HB1.out.size _⟩
def rdA (t : ByteArray) : ByteArray := if isTk t then pB (tkA t) else ⟨#[]⟩
def rdB (t : ByteArray) : ByteArray := if isTk t then pM (tkA t) else ⟨#[]⟩
def rdC (t : ByteArray) : ByteArray := if isTk t then pL (tkA t) else ⟨#[]⟩
def rdV (t : ByteArray) : Value := .agg #[.string (rdA t), .string (rdB t), .string (rdC t), .int .i64 (splN t)]
theorem tkA_le (t : ByteArray) : (tkA t).size ≤ t.size := by
  unfold tkA ahd; rw [ByteArray.size_extract]; omega
theorem bhd_le (t : ByteArray) (c : UInt8) : (bhd t c).size ≤ t.size := by
  unfold bhd; rw [ByteArray.size_extract]; omega
set_option maxHeartbeats 3200000 in
theorem read_any (t : ByteArray) (w : World) (hs : t.size ≤ maxLen) (hw : PT w) :
    Calls Tryz.prog 52 #[.string t] w fun e w' => e = .returned (rdV t) ∧ Below w.heap.size w w' := by
  have HW := Lib.hid hw
  clear hw
  have HS := Lib.hid (show (tkA t).size ≤ maxLen from Nat.le_trans (tkA_le t) hs)
  have HS2 := Lib.hid (show (bhd t 46).size ≤ maxLen from Nat.le_trans (bhd_le t 46) hs)
  obtain ⟨v, hv0⟩ : ∃ v, tkN t = v := ⟨_, rfl⟩
  cases hz : shp (tkA t) with
  | false =>
    have hn : isTk t = false := by unfold isTk; rw [hz]; rfl
    have HV := Lib.hid (show rdV t = .agg #[.string ⟨#[]⟩, .string ⟨#[]⟩, .string ⟨#[]⟩, .int .i64 0] by
      unfold rdV rdA rdB rdC splN; rw [hn]; rfl)
    have hC : cutV (tkA t) = .agg #[.string ⟨#[]⟩, .string ⟨#[]⟩, .string ⟨#[]⟩] := by unfold cutV; rw [pB_no hz, pM_no hz, pL_no hz]
    clear hz hn
    go_enter Tryz.func52, Tryz.ntmps52
    go_wp2_with fail
    refine (scut_any t 46 _ hs).mono ?_
    rintro e w1 ⟨rfl, n1, hw1⟩
    have HB1 := Lib.hid (show Below w.heap.size w w1 from hw1 ▸ drawn ((Below.refl w.heap.size w).alloc (Nat.le_refl _) (.cells #[.string ⟨#[]⟩, .string ⟨#[]⟩, .string ⟨#[]⟩, .int .i64 0] 102)) n1)
    have HK1 := Lib.hid (show w1.heap[w.heap.size]? = some (.cells #[.string ⟨#[]⟩, .string ⟨#[]⟩, .string ⟨#[]⟩, .int .i64 0] 102 (0, 0)) by
      rw [hw1]; show (w.heap.push _)[w.heap.size]? = _; simp)
    clear hw1
    go_wp2_with fail
    refine (cut_any (tkA t) _ HS.out (HW.out.keep HB1.out).wts).mono ?_
    rintro e w2 ⟨rfl, hb2⟩
    rw [hC]
    go_wp2_with fail
    refine (number11_any (bhd t 46) _ HS2.out).mono ?_
    rintro e w3 ⟨rfl, n3, hw3⟩
    have hlt : w.heap.size < w1.heap.size := by
      rcases Nat.lt_or_ge w.heap.size w1.heap.size with h | h
      · exact h
      · have := HK1.out; rw [Array.getElem?_eq_none h] at this; cases this
    have HB3 := Lib.hid (show Below w1.heap.size w1 w3 from hw3 ▸ drawn hb2 n3)
    have hk3 : w3.heap[w.heap.size]? = some (.cells #[.string ⟨#[]⟩, .string ⟨#[]⟩, .string ⟨#[]⟩, .int .i64 0] 102 (0, 0)) := (HB3.out.block _ hlt).trans HK1.out
    have hk4 := (Below.heap_alloc w3 (.cells #[.string ⟨#[]⟩, .string ⟨#[]⟩, .string ⟨#[]⟩] 99) w.heap.size (Nat.lt_of_lt_of_le hlt HB3.out.size)).trans hk3
    have c0 := Lib.cell_of_heap hk4 0
    have c1 := Lib.cell_of_heap hk4 1
    have c2 := Lib.cell_of_heap hk4 2
    have c3 := Lib.cell_of_heap hk4 3
    have f0 := Lib.frozen_of_heap hk4 0
    have f1 := Lib.frozen_of_heap hk4 1
    have f2 := Lib.frozen_of_heap hk4 2
    have f3 := Lib.frozen_of_heap hk4 3
    have HB4 := Lib.hid ((HB1.out.trans (HB3.out.mono HB1.out.size)).alloc (Nat.le_trans HB1.out.size HB3.out.size) (.cells #[.string ⟨#[]⟩, .string ⟨#[]⟩, .string ⟨#[]⟩] 99))
    have hv : verN (bhd t 46) = v := hv0
    rw [hv]
    clear hb2 hk3 hk4 hw3 hv hv0 hC
    go_wp2_with fail
    exact bodyPost_ret (v := .agg #[.string ⟨#[]⟩, .string ⟨#[]⟩, .string ⟨#[]⟩, .int .i64 0]) (by simp [results, Tryz.results52, go_sem, c0, c1, c2, c3]) rfl ⟨by rw [HV.out], (((HB4.out.setCell (Nat.le_refl _) _).setCell (Nat.le_refl _) _).setCell (Nat.le_refl _) _).setCell (Nat.le_refl _) _⟩
  | true =>
    have e1 := no_list (s := pB (tkA t)) (by rw [pB_size hz]; decide)
    obtain ⟨a, ha⟩ : ∃ a, pB (tkA t) = a := ⟨_, rfl⟩
    obtain ⟨b, hb⟩ : ∃ b, pM (tkA t) = b := ⟨_, rfl⟩
    obtain ⟨c, hc⟩ : ∃ c, pL (tkA t) = c := ⟨_, rfl⟩
    have hC : cutV (tkA t) = .agg #[.string a, .string b, .string c] := by unfold cutV; rw [ha, hb, hc]
    rw [ha] at e1
    by_cases hv : 1 ≤ v ∧ v ≤ 255
    · have hn : isTk t = true := by unfold isTk; rw [hz, hv0, decide_eq_true hv.1, decide_eq_true hv.2]; rfl
      have HV := Lib.hid (show rdV t = .agg #[.string a, .string b, .string c, .int .i64 v] by
        unfold rdV rdA rdB rdC splN; rw [hn, ha, hb, hc, hv0]; rfl)
      have HN := Lib.hid (show (decide (v < 1) || decide (255 < v)) = false by rw [decide_eq_false (by omega), decide_eq_false (by omega)]; rfl)
      clear hz hn ha hb hc hv
      go_enter Tryz.func52, Tryz.ntmps52
      go_wp2_with fail
      refine (scut_any t 46 _ hs).mono ?_
      rintro e w1 ⟨rfl, n1, hw1⟩
      have HB1 := Lib.hid (show Below w.heap.size w w1 from hw1 ▸ drawn ((Below.refl w.heap.size w).alloc (Nat.le_refl _) (.cells #[.string ⟨#[]⟩, .string ⟨#[]⟩, .string ⟨#[]⟩, .int .i64 0] 102)) n1)
      have HK1 := Lib.hid (show w1.heap[w.heap.size]? = some (.cells #[.string ⟨#[]⟩, .string ⟨#[]⟩, .string ⟨#[]⟩, .int .i64 0] 102 (0, 0)) by
        rw [hw1]; show (w.heap.push _)[w.heap.size]? = _; simp)
      clear hw1
      go_wp2_with fail
      refine (cut_any (tkA t) _ HS.out (HW.out.keep HB1.out).wts).mono ?_
      rintro e w2 ⟨rfl, hb2⟩
      rw [hC]
      go_wp2_with fail
      refine (number11_any (bhd t 46) _ HS2.out).mono ?_
      rintro e w3 ⟨rfl, n3, hw3⟩
      have hlt : w.heap.size < w1.heap.size := by
        rcases Nat.lt_or_ge w.heap.size w1.heap.size with h | h
        · exact h
        · have := HK1.out; rw [Array.getElem?_eq_none h] at this; cases this
      have HB3 := Lib.hid (show Below w1.heap.size w1 w3 from hw3 ▸ drawn hb2 n3)
      have hk3 : w3.heap[w.heap.size]? = some (.cells #[.string ⟨#[]⟩, .string ⟨#[]⟩, .string ⟨#[]⟩, .int .i64 0] 102 (0, 0)) := (HB3.out.block _ hlt).trans HK1.out
      have hk4 := (Below.heap_alloc w3 (.cells #[.string a, .string b, .string c] 99) w.heap.size (Nat.lt_of_lt_of_le hlt HB3.out.size)).trans hk3
      have c0 := Lib.cell_of_heap hk4 0
      have c1 := Lib.cell_of_heap hk4 1
      have c2 := Lib.cell_of_heap hk4 2
      have c3 := Lib.cell_of_heap hk4 3
      have f0 := Lib.frozen_of_heap hk4 0
      have f1 := Lib.frozen_of_heap hk4 1
      have f2 := Lib.frozen_of_heap hk4 2
      have f3 := Lib.frozen_of_heap hk4 3
      have HB4 := Lib.hid ((HB1.out.trans (HB3.out.mono HB1.out.size)).alloc (Nat.le_trans HB1.out.size HB3.out.size) (.cells #[.string a, .string b, .string c] 99))
      have hv : verN (bhd t 46) = v := hv0
      rw [hv]
      clear hb2 hk3 hk4 hw3 hv hv0 hC
      go_wp2_with (go_at_call 77; refine (wrong_any v _).mono ?_; rintro e w5 ⟨rfl, rfl⟩; rw [HN.out])
      exact bodyPost_ret (v := .agg #[.string a, .string b, .string c, .int .i64 v]) (by simp [results, Tryz.results52, go_sem, c0, c1, c2, c3]) rfl ⟨by rw [HV.out], (((HB4.out.setCell (Nat.le_refl _) _).setCell (Nat.le_refl _) _).setCell (Nat.le_refl _) _).setCell (Nat.le_refl _) _⟩
    · have hn : isTk t = false := by
        unfold isTk; rw [hz, hv0]
        rcases (show ¬ 1 ≤ v ∨ ¬ v ≤ 255 by omega) with h | h
        · rw [decide_eq_false h]; rfl
        · rw [decide_eq_false h, Bool.and_false]; rfl
      have HV := Lib.hid (show rdV t = .agg #[.string ⟨#[]⟩, .string ⟨#[]⟩, .string ⟨#[]⟩, .int .i64 0] by
        unfold rdV rdA rdB rdC splN; rw [hn]; rfl)
      have HN := Lib.hid (show (decide (v < 1) || decide (255 < v)) = true by
        rcases (show v < 1 ∨ 255 < v by omega) with h | h
        · rw [decide_eq_true h]; rfl
        · rw [decide_eq_true h, Bool.or_true])
      clear hz hn ha hb hc hv
      go_enter Tryz.func52, Tryz.ntmps52
      go_wp2_with fail
      refine (scut_any t 46 _ hs).mono ?_
      rintro e w1 ⟨rfl, n1, hw1⟩
      have HB1 := Lib.hid (show Below w.heap.size w w1 from hw1 ▸ drawn ((Below.refl w.heap.size w).alloc (Nat.le_refl _) (.cells #[.string ⟨#[]⟩, .string ⟨#[]⟩, .string ⟨#[]⟩, .int .i64 0] 102)) n1)
      have HK1 := Lib.hid (show w1.heap[w.heap.size]? = some (.cells #[.string ⟨#[]⟩, .string ⟨#[]⟩, .string ⟨#[]⟩, .int .i64 0] 102 (0, 0)) by
        rw [hw1]; show (w.heap.push _)[w.heap.size]? = _; simp)
      clear hw1
      go_wp2_with fail
      refine (cut_any (tkA t) _ HS.out (HW.out.keep HB1.out).wts).mono ?_
      rintro e w2 ⟨rfl, hb2⟩
      rw [hC]
      go_wp2_with fail
      refine (number11_any (bhd t 46) _ HS2.out).mono ?_
      rintro e w3 ⟨rfl, n3, hw3⟩
      have hlt : w.heap.size < w1.heap.size := by
        rcases Nat.lt_or_ge w.heap.size w1.heap.size with h | h
        · exact h
        · have := HK1.out; rw [Array.getElem?_eq_none h] at this; cases this
      have HB3 := Lib.hid (show Below w1.heap.size w1 w3 from hw3 ▸ drawn hb2 n3)
      have hk3 : w3.heap[w.heap.size]? = some (.cells #[.string ⟨#[]⟩, .string ⟨#[]⟩, .string ⟨#[]⟩, .int .i64 0] 102 (0, 0)) := (HB3.out.block _ hlt).trans HK1.out
      have hk4 := (Below.heap_alloc w3 (.cells #[.string a, .string b, .string c] 99) w.heap.size (Nat.lt_of_lt_of_le hlt HB3.out.size)).trans hk3
      have c0 := Lib.cell_of_heap hk4 0
      have c1 := Lib.cell_of_heap hk4 1
      have c2 := Lib.cell_of_heap hk4 2
      have c3 := Lib.cell_of_heap hk4 3
      have f0 := Lib.frozen_of_heap hk4 0
      have f1 := Lib.frozen_of_heap hk4 1
      have f2 := Lib.frozen_of_heap hk4 2
      have f3 := Lib.frozen_of_heap hk4 3
      have HB4 := Lib.hid ((HB1.out.trans (HB3.out.mono HB1.out.size)).alloc (Nat.le_trans HB1.out.size HB3.out.size) (.cells #[.string a, .string b, .string c] 99))
      have hv : verN (bhd t 46) = v := hv0
      rw [hv]
      clear hb2 hk3 hk4 hw3 hv hv0 hC
      go_wp2_with (go_at_call 77; refine (wrong_any v _).mono ?_; rintro e w5 ⟨rfl, rfl⟩; rw [HN.out])
      exact bodyPost_ret (v := .agg #[.string ⟨#[]⟩, .string ⟨#[]⟩, .string ⟨#[]⟩, .int .i64 0]) (by simp [results, Tryz.results52, go_sem, c0, c1, c2, c3]) rfl ⟨by rw [HV.out], (((HB4.out.setCell (Nat.le_refl _) _).setCell (Nat.le_refl _) _).setCell (Nat.le_refl _) _).setCell (Nat.le_refl _) _⟩
end Go.Proofs.YthmlcmlpmolmoaaGreatDoor
namespace Go.Proofs.YthmlcmlpmolmoaaGreatDoor
open Go.RowKit
theorem isc_any (s : ByteArray) (w : World) (hs : s.size ≤ maxLen) (hw : PT w) :
    Calls Tryz.prog 25 #[.string s] w fun e w' => e = .returned (.bool (isV s)) ∧ Below w.heap.size w w' :=
  is11_any s w hs hw.wts fun _ hb => hw.wts.keep hb
end Go.Proofs.YthmlcmlpmolmoaaGreatDoor
namespace Go.Proofs.YthmlcmlpmolmoaaGreatDoor
open Go.RowKit
def twS (s : ByteArray) : ByteArray := pB s ++ pL s
def vEn (k : Nat → Nat) (s : ByteArray) : ByteArray := pB s ++ encS 8 k (twS s).size (by_ (twS s)) (pM s) ++ pL s
def vDe (k : Nat → Nat) (s : ByteArray) : ByteArray := pB s ++ decS 8 k (twS s).size (by_ (twS s)) (pM s) ++ pL s
theorem mid_parts {s M : ByteArray} (hz : shp s = true) (hM : M.size = (pM s).size) (hd : M.data.toList.all isDig = true) :
    shp (pB s ++ M ++ pL s) = true ∧ pB (pB s ++ M ++ pL s) = pB s ∧ pM (pB s ++ M ++ pL s) = M ∧ pL (pB s ++ M ++ pL s) = pL s ∧ (pB s ++ M ++ pL s).size = s.size := by
  obtain ⟨hall, h1, h2⟩ := shp_parts hz
  have s1 := pB_size hz
  have s2 := pM_size hz
  have s3 := pL_size hz
  have hu : (pB s ++ M ++ pL s).size = s.size := by rw [app_size, app_size]; omega
  have hB : (pB s).data.toList.all isDig = true := by
    rw [pB_yes hz, ext_list]
    rw [List.all_eq_true] at hall ⊢
    exact fun x hx => hall x (List.mem_of_mem_drop (List.mem_of_mem_take hx))
  have hL : (pL s).data.toList.all isDig = true := by
    rw [pL_yes hz, ext_list]
    rw [List.all_eq_true] at hall ⊢
    exact fun x hx => hall x (List.mem_of_mem_drop (List.mem_of_mem_take hx))
  have hzu : shp (pB s ++ M ++ pL s) = true := shp_of (by rw [app_list, app_list, List.all_append, List.all_append, hB, hd, hL]; rfl) (by omega) (by omega)
  have e1 : pB (pB s ++ M ++ pL s) = pB s := by
    rw [pB_yes hzu, ByteArray.append_assoc]
    exact ext_left _ _ 6 s1
  have e3 : pL (pB s ++ M ++ pL s) = pL s := by
    rw [pL_yes hzu]
    exact ext_right _ _ _ _ (by rw [app_size, hu]; omega) rfl
  have e2 : pM (pB s ++ M ++ pL s) = M := by
    have h := whole_eq hzu
    rw [e1, e3] at h
    have h4 := congrArg (fun x : ByteArray => x.data.toList) h
    simp only [app_list, List.append_assoc] at h4
    have h5 := List.append_cancel_left h4
    exact ba_ext (List.append_cancel_right h5)
  exact ⟨hzu, e1, e2, e3, hu⟩
theorem mid_hE {s : ByteArray} (hz : shp s = true) : hE (pM s) = 0 := by
  obtain ⟨hall, h1, h2⟩ := shp_parts hz
  have s2 := pM_size hz
  refine (hE_zero (by omega) (by omega)).2 ?_
  rw [pM_yes hz, ext_list]
  rw [List.all_eq_true] at hall ⊢
  exact fun x hx => hall x (List.mem_of_mem_drop (List.mem_of_mem_take hx))
theorem vEn_parts (k : Nat → Nat) {s : ByteArray} (hz : shp s = true) :
    shp (vEn k s) = true ∧ pB (vEn k s) = pB s ∧ pM (vEn k s) = encS 8 k (twS s).size (by_ (twS s)) (pM s) ∧ pL (vEn k s) = pL s ∧ (vEn k s).size = s.size := by
  obtain ⟨l1, l2, h1, h2, _⟩ := enc_fine (n := 8) (key := k) (t := (twS s).size) (T := by_ (twS s)) (mid_hE hz)
  exact mid_parts hz h1 ((hE_zero (by omega) (by omega)).1 h2)
theorem vDe_parts (k : Nat → Nat) {s : ByteArray} (hz : shp s = true) :
    shp (vDe k s) = true ∧ pB (vDe k s) = pB s ∧ pM (vDe k s) = decS 8 k (twS s).size (by_ (twS s)) (pM s) ∧ pL (vDe k s) = pL s ∧ (vDe k s).size = s.size := by
  obtain ⟨l1, l2, _, _, _, h1, h2, _⟩ := enc_fine (n := 8) (key := k) (t := (twS s).size) (T := by_ (twS s)) (mid_hE hz)
  exact mid_parts hz h1 ((hE_zero (by omega) (by omega)).1 h2)
theorem vDe_vEn (k : Nat → Nat) {s : ByteArray} (hz : shp s = true) : vDe k (vEn k s) = s := by
  obtain ⟨_, e1, e2, e3, _⟩ := vEn_parts k hz
  obtain ⟨_, _, _, _, h5, _⟩ := enc_fine (n := 8) (key := k) (t := (twS s).size) (T := by_ (twS s)) (mid_hE hz)
  unfold vDe
  have et : twS (vEn k s) = twS s := by unfold twS; rw [e1, e3]
  rw [et, e1, e2, e3, h5]
  exact whole_eq hz
def vtE (s : ByteArray) : Int := if isV s = true then 0 else 10
def vtV (K : Int → Nat → Nat) (V : Int) (s : ByteArray) : ByteArray := if isV s = true then tkS (vEn (K V) s) V else ⟨#[]⟩
def vbE (K : Int → Nat → Nat) (V : Int) (t : ByteArray) : Int := if isTk t = true then (if V < tkN t then 12 else if isV (vDe (K (tkN t)) (tkA t)) = true then 0 else 11) else 11
def vbV (K : Int → Nat → Nat) (V : Int) (t : ByteArray) : ByteArray := if vbE K V t = 0 then vDe (K (tkN t)) (tkA t) else ⟨#[]⟩
def vrV (K : Int → Nat → Nat) (V : Int) (t : ByteArray) : ByteArray := if vbE K V t = 0 then vtV K V (vbV K V t) else ⟨#[]⟩
theorem isV_shp {s : ByteArray} (h : isV s = true) : shp s = true := by
  unfold isV at h
  rw [Bool.and_eq_true] at h
  exact h.1
theorem vt_tk {K : Int → Nat → Nat} {V : Int} {s : ByteArray} (hs : isV s = true) (h1 : 1 ≤ V) (h2 : V ≤ 255) :
    vtV K V s = tkS (vEn (K V) s) V ∧ tkA (vtV K V s) = vEn (K V) s ∧ tkN (vtV K V s) = V ∧ isTk (vtV K V s) = true := by
  have e : vtV K V s = tkS (vEn (K V) s) V := if_pos hs
  obtain ⟨a, b, c⟩ := tk_of (vEn_parts (K V) (isV_shp hs)).1 h1 h2
  rw [e]
  exact ⟨rfl, a, b, c⟩
theorem vb_vt {K : Int → Nat → Nat} {V W : Int} {s : ByteArray} (hs : isV s = true) (h1 : 1 ≤ V) (h2 : V ≤ 255) (hW : V ≤ W) : vbE K W (vtV K V s) = 0 ∧ vbV K W (vtV K V s) = s := by
  obtain ⟨_, a, b, c⟩ := vt_tk (K := K) hs h1 h2
  have e : vbE K W (vtV K V s) = 0 := by
    unfold vbE
    rw [c, a, b, vDe_vEn _ (isV_shp hs), hs, if_pos rfl, if_neg (by omega), if_pos rfl]
  refine ⟨e, ?_⟩
  unfold vbV
  rw [if_pos e, a, b, vDe_vEn _ (isV_shp hs)]
theorem vb_ok {K : Int → Nat → Nat} {V : Int} {t : ByteArray} (h : vbE K V t = 0) : isTk t = true ∧ tkN t ≤ V ∧ isV (vbV K V t) = true ∧ vbV K V t = vDe (K (tkN t)) (tkA t) := by
  have e : vbV K V t = vDe (K (tkN t)) (tkA t) := if_pos h
  rw [e]
  unfold vbE at h
  cases h1 : isTk t with
  | false => rw [h1] at h; simp at h
  | true =>
    rw [h1, if_pos rfl] at h
    by_cases h2 : V < tkN t
    · rw [if_pos h2] at h; simp at h
    · rw [if_neg h2] at h
      cases h3 : isV (vDe (K (tkN t)) (tkA t)) with
      | false => rw [h3] at h; simp at h
      | true => exact ⟨rfl, by omega, rfl, rfl⟩
end Go.Proofs.YthmlcmlpmolmoaaGreatDoor
namespace Go.Proofs.YthmlcmlpmolmoaaGreatDoor
open Go.RowKit
theorem clone_any (A : Option Addr) (n c : Nat) (f : Nat → Nat) (w : World) (hn : n ≤ 100000000000000) (hA : SlB w A n f) (hnil : A = none → n = 0 ∧ c = 0) :
    Calls Tryz.prog 59 #[.slice A n c] w fun e w' => (∃ v, e = .returned v ∧ OwnB w' w.heap.size v n f) ∧ Below w.heap.size w w' := by
  have q8 : ∀ (w : World) (a : Option Addr) (n c : Nat), (binOp .eql 22 (.slice a n c) (.slice none 0 0)).run Tryz.prog w = .ok (.bool a.isNone) w := fun w a n c => Lib.run_eql_slice_nil w _ _ a n c 0 0 Tryz.underlying22
  cases A with
  | none =>
    obtain ⟨rfl, rfl⟩ := hnil rfl
    clear hnil hA hn
    go_enter Tryz.func59, Tryz.ntmps59
    go_wp2_with fail
    go_ret
    exact ⟨⟨_, rfl, OwnB.nil _ _ _⟩, Below.refl _ _⟩
  | some ad =>
    have HA := Lib.hid (hA.keep (alloc_below w (.cells #[] 5)))
    have HF := Lib.hid (fun j (hj : j < n) => hA.byte hj)
    have HO := Lib.hid (OwnB.empty w w.heap.size f (Nat.le_refl _))
    have HB := Lib.hid (alloc_below w (.cells #[] 5))
    have HN := Lib.hid hn
    clear hnil hA hn
    go_enter Tryz.func59, Tryz.ntmps59
    go_wp2_with (refine wpList_appO rfl (.tmp 5) (.tmp 6) rfl w.heap.size _ 0 f rfl HO.out (some ad) n c f rfl HA.out (fun h => by cases h) (by have := HN.out; omega) HB.out.size (fun j hj => absurd hj (Nat.not_lt_zero j)) HF.out ?_; intro A' c' w2 h1 _ _ h4; have H1 := Lib.hid h1; have H4 := Lib.hid h4; clear h1 h4)
    go_ret
    refine ⟨⟨_, rfl, ?_⟩, HB.out.trans H4.out⟩
    have := H1.out
    rw [Nat.zero_add] at this
    exact this.congr fun j _ => rfl
end Go.Proofs.YthmlcmlpmolmoaaGreatDoor
namespace Go.Proofs.YthmlcmlpmolmoaaGreatDoor
open Go.MuLone
set_option maxRecDepth 100000 in
set_option maxHeartbeats 1600000 in
theorem slow_mac (b off : Nat) (rv : Value) (w : World) (h : OnceAt w b off 0 0) (R : World → Prop)
    (hF : Calls Tryz.prog 138 #[rv] (w.setCell ⟨b, off + 1, none⟩ (.int .i32 1)) fun e w' => e = .returned (.tuple #[]) ∧ R w') (hR : ∀ w', R w' → OnceAt w' b off 0 1) :
    Calls Tryz.prog 119 #[.pointer (some ⟨b, off, none⟩), .func (.func 138) #[rv] #[]] w fun e w' => e = .returned (.tuple #[]) ∧
      ∃ w1, R w1 ∧ w' = (w1.drew.setCell ⟨b, off, none⟩ (.int .u32 1)).setCell ⟨b, off + 1, none⟩ (.int .i32 0) := by
  have hl := run_call_load (P := Tryz.prog) Tryz.func149 (by kernel_rfl) (by kernel_rfl) (by kernel_rfl) .u32 (by kernel_rfl) (w := w.setCell ⟨b, off + 1, none⟩ (.int .i32 1)) (a := ⟨b, off, none⟩) (x := 0) ((World.cell?_setCell_other _ ⟨b, off + 1, none⟩ ⟨b, off, none⟩ _ (by simp)).trans h.done)
  have hnot : ∀ (x : Bool) (w : World), (Op.unary .not (.bool x)).run Tryz.prog w = .ok (.bool (!x)) w := fun _ _ => rfl
  have HR := Lib.hid hR
  have HF := Lib.hid hF
  have H := Lib.hid h
  clear hR hF h
  go_enter_defers Tryz.func119, Tryz.ntmps119
  go_wp2_with (first | (go_at_call 150; refine (lock_free muLib ⟨b, off + 1, none⟩ _ H.out.lock H.out.flock).mono ?_; rintro e w' ⟨rfl, rfl⟩) | (go_at_call 118; go_in) | (go_at_call 138; refine HF.out.mono ?_; rintro e w' ⟨rfl, hw⟩; have HW := Lib.hid hw; clear hw))
  have h1 := HR.out _ HW.out
  refine leaves_cons (f := 152) (args := #[.pointer (some ⟨b, off, none⟩), .bool true]) (by simp) (by simp [go_sem]) ?_
  refine (store_deferred ⟨b, off, none⟩ (.int .u32 0) .returning _ h1.done h1.fdone).mono ?_
  rintro e u' w'' ⟨rfl, rfl, rfl⟩
  refine leaves_cons (f := 151) (args := #[.pointer (some ⟨b, off + 1, none⟩)]) (by simp [settle]) (by simp [go_sem]) ?_
  refine (unlock_deferred muLib ⟨b, off + 1, none⟩ _ _ ?_ (by simp [h1.flock])).mono ?_
  · refine (World.cell?_setCell_other _ ⟨b, off, none⟩ ⟨b, off + 1, none⟩ _ (by simp)).trans ?_
    rw [World.cell?_drew]
    exact h1.lock
  rintro e u' w'' ⟨rfl, rfl, rfl⟩
  exact ⟨_, results_none rfl _ _ _, rfl, w', HW.out, rfl⟩
theorem do_first_mac (b off : Nat) (rv : Value) (w : World) (h : OnceAt w b off 0 0) (R : World → Prop)
    (hF : Calls Tryz.prog 138 #[rv] (w.setCell ⟨b, off + 1, none⟩ (.int .i32 1)) fun e w' => e = .returned (.tuple #[]) ∧ R w') (hR : ∀ w', R w' → OnceAt w' b off 0 1) :
    Calls Tryz.prog 78 #[.pointer (some ⟨b, off, none⟩), .func (.func 138) #[rv] #[]] w fun e w' => e = .returned (.tuple #[]) ∧
      ∃ w1, R w1 ∧ w' = (w1.drew.setCell ⟨b, off, none⟩ (.int .u32 1)).setCell ⟨b, off + 1, none⟩ (.int .i32 0) := by
  have hl := run_call_load (P := Tryz.prog) Tryz.func149 (by kernel_rfl) (by kernel_rfl) (by kernel_rfl) .u32 (by kernel_rfl) h.done
  have hnot : ∀ (x : Bool) (w : World), (Op.unary .not (.bool x)).run Tryz.prog w = .ok (.bool (!x)) w := fun _ _ => rfl
  have HS := Lib.hid (slow_mac b off rv w h R hF hR)
  clear hR hF h
  go_enter Tryz.func78, Tryz.ntmps78
  go_wp2_with (first | (go_at_call 119; refine HS.out.mono ?_; rintro e w' ⟨rfl, hw⟩; have HW := Lib.hid hw; clear hw) | (go_at_call 118; go_in))
  go_end0
  exact ⟨rfl, HW.out⟩
end Go.Proofs.YthmlcmlpmolmoaaGreatDoor
