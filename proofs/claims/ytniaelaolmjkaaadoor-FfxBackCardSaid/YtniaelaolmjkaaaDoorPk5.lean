/- 12 texts in one, in their order. -/
import Derived.Test.YtniaelaolmjkaaaDoorPk4
import Derived.SliceStrings
import Derived.Maps.AppendAt
/- Laws of layer 10: a cipher as laws use it. -/
namespace Go.Proofs.YtniaelaolmjkaaaDoor
set_option maxRecDepth 100000
open Go.RowKit

/-- a cipher that was made since w0 -/
structure Cu (w0 : World) (c g n : Nat) (key : Nat → Nat) (t : Nat) (T : Nat → Nat) (W : World) : Prop where
  cip : Cip W c g n key t T
  below : Below w0.heap.size w0 W
  pws : Pws W
  new : w0.heap.size ≤ g
theorem Cu.keep {w0 W W' : World} {c g n : Nat} {key : Nat → Nat} {t : Nat} {T : Nat → Nat} (h : Cu w0 c g n key t T W) (hb : Below W.heap.size W W') : Cu w0 c g n key t T W' :=
  ⟨h.cip.keep hb, h.below.trans (hb.mono h.below.size), h.pws.keep hb, h.new⟩
theorem Cu.drewN {w0 W : World} {c g n : Nat} {key : Nat → Nat} {t : Nat} {T : Nat → Nat} (h : Cu w0 c g n key t T W) (k : Nat) : Cu w0 c g n key t T (W.drewN k) := ⟨h.cip.drewN k, drawn h.below k, h.pws.drewN k, h.new⟩
theorem Cu.next {w0 W W' : World} {c g n : Nat} {key : Nat → Nat} {t : Nat} {T : Nat → Nat} (h : Cu w0 c g n key t T W) (hn : n = 4 ∨ n = 8) (h1 : Cip W' c g n key t T) (h2 : Chg g W W') : Cu w0 c g n key t T W' :=
  ⟨h1, h.below.trans (h2.below h.below.size h.new), h.pws.cip h.cip hn h2, h.new⟩
/-- what a key and a tweak must be -/
structure Kt (n : Nat) (key : Nat → Nat) (t : Nat) (T : Nat → Nat) : Prop where
  hn : n = 4 ∨ n = 8
  key : By (4 * n) key
  t16 : t ≤ 16
  tw : By t T
/-- any text, encrypted -/
def encS (n : Nat) (key : Nat → Nat) (t : Nat) (T : Nat → Nat) (s : ByteArray) : ByteArray := encV (fM n key t T s.size) s
def decS (n : Nat) (key : Nat → Nat) (t : Nat) (T : Nat → Nat) (s : ByteArray) : ByteArray := decV (fM n key t T s.size) s
theorem hE_one {s : ByteArray} (h : s.size < 6 ∨ 32 < s.size) : hE s = 1 := if_pos h
theorem encU {w0 W : World} {c g n : Nat} {key : Nat → Nat} {t : Nat} {T : Nat → Nat} (k : Kt n key t T) (s : ByteArray) (hs : s.size ≤ maxLen) (h : Cu w0 c g n key t T W) :
    Calls Tryd.prog 12 #[.pointer (some ⟨c, 0, none⟩), .string s] W fun e W' => e = .returned (.tuple #[.string (encS n key t T s), .int .i64 (hE s)]) ∧ Cu w0 c g n key t T W' := by
  by_cases hl : s.size < 6 ∨ 32 < s.size
  · have he : encS n key t T s = ⟨#[]⟩ := if_neg (by rw [hE_one hl]; decide)
    refine (enc_bad c s W hs hl).mono ?_
    rintro e W' ⟨rfl, rfl⟩
    exact ⟨by rw [he, hE_one hl], h⟩
  · by_cases he : hE s = 0
    · refine (fenc_any c g n key t T s W h.pws k.hn k.key h.cip k.t16 k.tw (by omega) (by omega) he).mono ?_
      rintro e W' ⟨rfl, h1, h2⟩
      exact ⟨by rw [he]; rfl, h.next k.hn h1 h2⟩
    · have hx : encS n key t T s = ⟨#[]⟩ := if_neg he
      refine (enc_form c s W (by omega) (by omega) he).mono ?_
      rintro e W' ⟨rfl, m, rfl⟩
      exact ⟨by rw [hx], h.drewN m⟩
theorem decU {w0 W : World} {c g n : Nat} {key : Nat → Nat} {t : Nat} {T : Nat → Nat} (k : Kt n key t T) (s : ByteArray) (hs : s.size ≤ maxLen) (h : Cu w0 c g n key t T W) :
    Calls Tryd.prog 14 #[.pointer (some ⟨c, 0, none⟩), .string s] W fun e W' => e = .returned (.tuple #[.string (decS n key t T s), .int .i64 (hE s)]) ∧ Cu w0 c g n key t T W' := by
  by_cases hl : s.size < 6 ∨ 32 < s.size
  · have he : decS n key t T s = ⟨#[]⟩ := if_neg (by rw [hE_one hl]; decide)
    refine (dec_bad c s W hs hl).mono ?_
    rintro e W' ⟨rfl, rfl⟩
    exact ⟨by rw [he, hE_one hl], h⟩
  · by_cases he : hE s = 0
    · refine (fdec_any c g n key t T s W h.pws k.hn k.key h.cip k.t16 k.tw (by omega) (by omega) he).mono ?_
      rintro e W' ⟨rfl, h1, h2⟩
      exact ⟨by rw [he]; rfl, h.next k.hn h1 h2⟩
    · have hx : decS n key t T s = ⟨#[]⟩ := if_neg he
      refine (dec_form c s W (by omega) (by omega) he).mono ?_
      rintro e W' ⟨rfl, m, rfl⟩
      exact ⟨by rw [hx], h.drewN m⟩
theorem newU {w0 W : World} (n len cap : Nat) (key : Nat → Nat) (t c2 : Nat) (T : Nat → Nat) (A A2 : Option Addr) (k : Kt n key t T) (hl : 4 * n = len) (hA : SlB W A len key) (hA2 : SlB W A2 t T) (hnil : A2 = none → t = 0 ∧ c2 = 0) (hb : Below w0.heap.size w0 W) (hp : Pws W) :
    Calls Tryd.prog 8 #[.slice A len cap, .slice A2 t c2] W fun e W' => ∃ c g, e = .returned (.tuple #[.pointer (some ⟨c, 0, none⟩), .int .i64 0]) ∧ Cu w0 c g n key t T W' := by
  refine (fnew_any A len n cap key A2 t c2 T W k.hn hl hA k.t16 hA2 hnil).mono ?_
  rintro e W' ⟨c, g, rfl, h1, h2, h3⟩
  exact ⟨c, g, rfl, h2, hb.trans (h3.mono hb.size), hp.keep h3, Nat.le_trans hb.size h1⟩

theorem kt0 : Kt 4 K0 0 T0 := ⟨Or.inl rfl, K0_by _, by decide, fun j hj => absurd hj (Nat.not_lt_zero _)⟩
theorem encU0 {w0 W : World} {c g : Nat} (h : Cu w0 c g 4 K0 0 T0 W) : Calls Tryd.prog 12 #[.pointer (some ⟨c, 0, none⟩), .string ⟨#[48, 49, 50, 51, 52, 53, 54, 55, 56, 57]⟩] W fun e W' => e = .returned (.tuple #[.string ⟨#[50, 52, 51, 51, 52, 55, 55, 52, 56, 52]⟩, .int .i64 0]) ∧ Cu w0 c g 4 K0 0 T0 W' :=
  (encU kt0 s0 (by decide) h).mono fun e W' ⟨h1, h2⟩ => ⟨h1.trans (by rw [show encS 4 K0 0 T0 s0 = s1 from small_enc, s0_ok]; rfl), h2⟩
theorem decU0 {w0 W : World} {c g : Nat} (h : Cu w0 c g 4 K0 0 T0 W) : Calls Tryd.prog 14 #[.pointer (some ⟨c, 0, none⟩), .string ⟨#[50, 52, 51, 51, 52, 55, 55, 52, 56, 52]⟩] W fun e W' => e = .returned (.tuple #[.string ⟨#[48, 49, 50, 51, 52, 53, 54, 55, 56, 57]⟩, .int .i64 0]) ∧ Cu w0 c g 4 K0 0 T0 W' :=
  (decU kt0 s1 (by decide) h).mono fun e W' ⟨h1, h2⟩ => ⟨h1.trans (by rw [show decS 4 K0 0 T0 s1 = s0 from small_dec.2, small_dec.1]; rfl), h2⟩
set_option maxHeartbeats 1600000 in
theorem small10_any (w : World) (hp : Pws w) : Calls Tryd.prog 7 #[] w fun e w' => e = .returned (.bool true) ∧ Below w.heap.size w w' := by
  have kc := fun (w : World) C n c => kconv w C n c w.heap.size rfl
  have HK := Lib.hid (show SlB (w.alloc (.cells (List.map (fun x => Value.int .u8 ((x : Nat) : Int)) [43, 126, 21, 22, 40, 174, 210, 166, 171, 247, 21, 136, 9, 207, 79, 60]).toArray 5 (16, 17))) (some ⟨w.heap.size, 0, none⟩) 16 K0 from lit_slB w 5 (16, 17) [43, 126, 21, 22, 40, 174, 210, 166, 171, 247, 21, 136, 9, 207, 79, 60] fun j => K0_by (j + 1) j (Nat.lt_succ_self j))
  have HB := Lib.hid (alloc_below w (.cells (List.map (fun x => Value.int .u8 ((x : Nat) : Int)) [43, 126, 21, 22, 40, 174, 210, 166, 171, 247, 21, 136, 9, 207, 79, 60]).toArray 5 (16, 17)))
  have HP := Lib.hid (hp.keep HB.out)
  clear hp
  go_enter Tryd.func7, Tryd.ntmps7
  go_wp2_with fail
  clear kc
  refine (newU (w0 := w) 4 16 16 K0 0 0 T0 _ none kt0 rfl HK.out (SlB.nil _ _) (fun _ => ⟨rfl, rfl⟩) HB.out HP.out).mono ?_
  rintro e w2 ⟨c, g, rfl, h1⟩
  have H1 := Lib.hid h1
  clear h1
  go_wp2_with fail
  refine (encU0 H1.out).mono ?_
  rintro e w3 ⟨rfl, h1⟩
  have H2 := Lib.hid h1
  clear h1
  go_wp2_with fail
  refine (decU0 H2.out).mono ?_
  rintro e w4 ⟨rfl, h1⟩
  have H3 := Lib.hid h1
  clear h1
  go_wp2_with fail
  go_ret
  exact ⟨rfl, H3.out.below⟩
end Go.Proofs.YtniaelaolmjkaaaDoor
/- Laws of layer 10: numerals. -/
namespace Go.Proofs.YtniaelaolmjkaaaDoor
set_option maxRecDepth 100000
open Go.RowKit

theorem hE_bad {s : ByteArray} (h : s.data.toList.all isDig = false) : hE s ≠ 0 := fun he => by
  by_cases hl : s.size < 6 ∨ 32 < s.size
  · rw [hE_one hl] at he; cases he
  · rw [(hE_zero (by omega) (by omega)).1 he] at h; cases h
/-- are these bytes numerals? -/
theorem numerals_any (s : ByteArray) (w : World) (hs : s.size ≤ maxLen) :
    Calls Tryd.prog 13 #[.string s] w fun e w' => e = .returned (.bool (decide (hE s = 0))) ∧ w = w' := by
  unfold maxLen at hs
  go_enter Tryd.func13, Tryd.ntmps13
  go_wp2
  go_loop [3] (fun i => ∃ k : Nat, k ≤ s.size ∧ i = .int .i64 k ∧ (s.data.toList.take k).all isDig = true) (fun i => s.size - (intOf i).toNat)
  case atStart => exact ⟨0, Nat.zero_le _, rfl, rfl⟩
  case round =>
    obtain ⟨k, hk, rfl, ha⟩ := hrel
    by_cases hlt : k < s.size
    · by_cases h1 : (s[k].toNat : Int) < 48
      · have HB := Lib.hid (hE_bad (all_bad s k hlt (by unfold isDig; simp; omega)))
        go_wp2
        go_ret
        exact ⟨by rw [decide_eq_false HB.out]; rfl, rfl⟩
      · by_cases h2 : (57 : Int) < s[k].toNat
        · have HB := Lib.hid (hE_bad (all_bad s k hlt (by unfold isDig; simp; omega)))
          go_wp2
          go_ret
          exact ⟨by rw [decide_eq_false HB.out]; rfl, rfl⟩
        · have HB := Lib.hid (all_snoc s k hlt ha (by unfold isDig; simp; omega))
          clear ha
          go_wp2
          go_round
          case rel => exact ⟨k + 1, by omega, by go_num, HB.out⟩
          case measure => simp [intOf]; omega
    · have e : k = s.size := by omega
      subst e
      have HA := Lib.hid (show s.data.toList.all isDig = true by rw [List.take_of_length_le (by simp)] at ha; exact ha)
      clear ha
      by_cases hl : s.size < 6
      · have hb : decide (6 ≤ ((s.size : Nat) : Int)) = false := by rw [decide_eq_false_iff_not]; omega
        have HE := Lib.hid (show hE s ≠ 0 by rw [hE_one (Or.inl hl)]; decide)
        go_wp2
        go_ret
        exact ⟨by rw [decide_eq_false HE.out]; rfl, rfl⟩
      · have hb : decide (6 ≤ ((s.size : Nat) : Int)) = true := by rw [decide_eq_true_eq]; omega
        by_cases hl2 : 32 < s.size
        · have hb2 : decide (((s.size : Nat) : Int) ≤ 32) = false := by rw [decide_eq_false_iff_not]; omega
          have HE := Lib.hid (show hE s ≠ 0 by rw [hE_one (Or.inr hl2)]; decide)
          go_wp2
          go_ret
          exact ⟨by rw [decide_eq_false HE.out]; rfl, rfl⟩
        · have hb2 : decide (((s.size : Nat) : Int) ≤ 32) = true := by rw [decide_eq_true_eq]; omega
          have HE := Lib.hid ((hE_zero (by omega) (by omega)).2 HA.out)
          go_wp2
          go_ret
          exact ⟨by rw [decide_eq_true HE.out]; rfl, rfl⟩
end Go.Proofs.YtniaelaolmjkaaaDoor
/- Laws of layer 10: FfxBack. -/
namespace Go.Proofs.YtniaelaolmjkaaaDoor
set_option maxRecDepth 100000
open Go.RowKit

theorem str_eq (s t : ByteArray) : (s.toList == t.toList) = decide (s = t) := by
  rw [Bool.eq_iff_iff, beq_iff_eq, decide_eq_true_eq]
  refine ⟨fun h => ?_, fun h => by rw [h]⟩
  rw [ByteArray.toList_eq, ByteArray.toList_eq] at h
  exact ByteArray.ext (Array.ext' h)
theorem enc_fine {n : Nat} {key : Nat → Nat} {t : Nat} {T : Nat → Nat} {s : ByteArray} (h : hE s = 0) : 6 ≤ s.size ∧ s.size ≤ 32 ∧ (encS n key t T s).size = s.size ∧ hE (encS n key t T s) = 0 ∧ decS n key t T (encS n key t T s) = s ∧ (decS n key t T s).size = s.size ∧ hE (decS n key t T s) = 0 ∧ encS n key t T (decS n key t T s) = s := by
  have hl : ¬ (s.size < 6 ∨ 32 < s.size) := fun hl => by rw [hE_one hl] at h; cases h
  have hM : MIn (fM n key t T s.size) s.size := fun k x => fM_in (by omega) (by omega) k x
  obtain ⟨a, b, c⟩ := encV_in hM (by omega) (by omega) h
  obtain ⟨a', b', c'⟩ := decV_in hM (by omega) (by omega) h
  refine ⟨by omega, by omega, a, b, ?_, a', b', ?_⟩
  · unfold decS encS; rw [a]; exact c
  · unfold encS decS; rw [a']; exact c'
theorem encS_bad {n : Nat} {key : Nat → Nat} {t : Nat} {T : Nat → Nat} {s : ByteArray} (h : ¬ hE s = 0) : encS n key t T s = ⟨#[]⟩ := if_neg h
theorem decS_bad {n : Nat} {key : Nat → Nat} {t : Nat} {T : Nat → Nat} {s : ByteArray} (h : ¬ hE s = 0) : decS n key t T s = ⟨#[]⟩ := if_neg h

set_option maxHeartbeats 1600000 in
theorem back10_key (A0 A1 : Option Addr) (n0 n1 c0 c1 : Nat) (s t : ByteArray) (w : World) (hp : Pws w) (hl : n0 ≠ 16) (hl2 : n0 ≠ 32) (hl3 : n0 ≤ 140737488351232) :
    Calls Tryd.prog 4 #[.slice A0 n0 c0, .slice A1 n1 c1, .string s, .string t] w fun e w' => e = .returned (.bool true) ∧ Below w.heap.size w w' := by
  have HS := Lib.hid (small10_any w hp)
  have HN := Lib.hid fun W => fnew_short A0 n0 c0 A1 n1 c1 W hl hl2 hl3
  clear hp hl hl2
  go_enter Tryd.func4, Tryd.ntmps4
  go_wp2_with fail
  refine HS.out.mono ?_
  rintro e w1 ⟨rfl, h1⟩
  have H1 := Lib.hid h1
  clear h1
  go_wp2_with fail
  refine (HN.out w1).mono ?_
  rintro e w2 ⟨rfl, rfl⟩
  go_wp2_with fail
  go_ret
  exact ⟨rfl, H1.out⟩
set_option maxHeartbeats 1600000 in
theorem back10_long (A0 A1 : Option Addr) (n0 n n1 c0 c1 : Nat) (key : Nat → Nat) (s t : ByteArray) (w : World) (hp : Pws w) (hn : n = 4 ∨ n = 8) (hl : 4 * n = n0) (hA : SlB w A0 n0 key) (ht : 16 < n1) (ht2 : n1 ≤ 140737488351232) :
    Calls Tryd.prog 4 #[.slice A0 n0 c0, .slice A1 n1 c1, .string s, .string t] w fun e w' => e = .returned (.bool true) ∧ Below w.heap.size w w' := by
  have HS := Lib.hid (small10_any w hp)
  have HN := Lib.hid fun W (h : SlB W A0 n0 key) => fnew_long A0 n0 n c0 key A1 n1 c1 W hn hl h ht
  have HA := Lib.hid hA
  have hb : decide ((16 : Int) < (n1 : Nat)) = true := by rw [decide_eq_true_eq]; omega
  clear hp hn hA hl
  go_enter Tryd.func4, Tryd.ntmps4
  go_wp2_with fail
  refine HS.out.mono ?_
  rintro e w1 ⟨rfl, h1⟩
  have H1 := Lib.hid h1
  clear h1
  go_wp2_with fail
  refine (HN.out w1 (HA.out.keep H1.out)).mono ?_
  rintro e w2 ⟨rfl, h2⟩
  have H2 := Lib.hid (H1.out.trans (h2.mono H1.out.size))
  clear h2
  go_wp2_with fail
  go_ret
  exact ⟨rfl, H2.out⟩
set_option maxHeartbeats 4000000 in
theorem back10_dd (A0 A1 : Option Addr) (n0 n n1 c0 c1 : Nat) (key T : Nat → Nat) (s t : ByteArray) (w : World) (hp : Pws w) (k : Kt n key n1 T) (hl : 4 * n = n0) (hA : SlB w A0 n0 key) (hB : SlB w A1 n1 T) (hnil : A1 = none → n1 = 0 ∧ c1 = 0) (hs : s.size ≤ maxLen) (ht : t.size ≤ maxLen) (hes : hE s = 0) (het : hE t = 0) :
    Calls Tryd.prog 4 #[.slice A0 n0 c0, .slice A1 n1 c1, .string s, .string t] w fun e w' => e = .returned (.bool true) ∧ Below w.heap.size w w' := by
  have HS := Lib.hid (small10_any w hp)
  have HN := Lib.hid fun W (h1 : SlB W A0 n0 key) (h2 : SlB W A1 n1 T) h3 h4 => newU (w0 := w) n n0 c0 key n1 c1 T A0 A1 k hl h1 h2 hnil h3 h4
  have HES := Lib.hid fun W c g (h : Cu w c g n key n1 T W) => encU k s hs h
  have HET := Lib.hid fun W c g (h : Cu w c g n key n1 T W) => encU k t ht h
  have HNS := Lib.hid fun W => numerals_any s W hs
  have HNT := Lib.hid fun W => numerals_any t W ht
  have HA := Lib.hid hA
  have HB := Lib.hid hB
  have HP := Lib.hid hp
  rw [hes] at HES
  rw [decide_eq_true hes] at HNS
  rw [het] at HET
  rw [decide_eq_true het] at HNT
  obtain ⟨l1, l2, x1, x2, x3, d1, d2, d3⟩ := enc_fine (n := n) (key := key) (t := n1) (T := T) hes
  obtain ⟨_, _, y1, y2, y3, _⟩ := enc_fine (n := n) (key := key) (t := n1) (T := T) het
  have hiff : (encS n key n1 T s = encS n key n1 T t) ↔ s = t := by
    constructor
    · intro h
      have hz : s.size = t.size := by rw [← x1, ← y1, h]
      rw [← x3, ← y3, h]
    · intro h; rw [h]
  have hq : ((encS n key n1 T s).toList == (encS n key n1 T t).toList) = (s.toList == t.toList) := by rw [str_eq, str_eq]; exact decide_eq_decide.2 hiff
  clear hiff
  have hxm : (encS n key n1 T s).size ≤ maxLen := by unfold maxLen; omega
  have hdm : (decS n key n1 T s).size ≤ maxLen := by unfold maxLen; omega
  have HDX := Lib.hid fun W c g (h : Cu w c g n key n1 T W) => decU k (encS n key n1 T s) hxm h
  have HDS := Lib.hid fun W c g (h : Cu w c g n key n1 T W) => decU k s hs h
  have HED := Lib.hid fun W c g (h : Cu w c g n key n1 T W) => encU k (decS n key n1 T s) hdm h
  have HNX := Lib.hid fun W => numerals_any (encS n key n1 T s) W hxm
  rw [x2, x3] at HDX
  rw [hes] at HDS
  rw [d2, d3] at HED
  rw [decide_eq_true x2] at HNX
  have hs32 : ((s.size : Nat) : Int) ≤ 32 := by omega
  generalize encS n key n1 T s = x at *
  generalize decS n key n1 T s = d at *
  clear x2 x3 d2 d3 l1 l2 hxm hdm
  generalize encS n key n1 T t = y at *
  clear y1 y2 y3
  clear hA hB hp hnil hs ht hes het k hl
  go_enter Tryd.func4, Tryd.ntmps4
  go_wp2_with fail
  refine HS.out.mono ?_
  rintro e w1 ⟨rfl, h1⟩
  have H1 := Lib.hid h1
  clear h1
  go_wp2_with fail
  refine (HN.out w1 (HA.out.keep H1.out) (HB.out.keep H1.out) H1.out (HP.out.keep H1.out)).mono ?_
  rintro e w2 ⟨c, g, rfl, h1⟩
  have H2 := Lib.hid h1
  clear h1
  go_wp2_with fail
  refine (HES.out w2 c g H2.out).mono ?_
  rintro e w3 ⟨rfl, h1⟩
  have H3 := Lib.hid h1
  clear h1
  go_wp2_with fail
  refine (HET.out w3 c g H3.out).mono ?_
  rintro e w4 ⟨rfl, h1⟩
  have H4 := Lib.hid h1
  clear h1
  go_wp2_with fail
  refine (HNS.out w4).mono ?_
  rintro e w5 ⟨rfl, rfl⟩
  go_wp2_with fail
  refine (HNT.out w4).mono ?_
  rintro e w6 ⟨rfl, rfl⟩
  go_wp2_with fail
  refine (HDX.out w4 c g H4.out).mono ?_
  rintro e w7 ⟨rfl, h1⟩
  have H7 := Lib.hid h1
  clear h1
  go_wp2_with fail
  refine (HDS.out w7 c g H7.out).mono ?_
  rintro e w8 ⟨rfl, h1⟩
  have H8 := Lib.hid h1
  clear h1
  go_wp2_with fail
  refine (HED.out w8 c g H8.out).mono ?_
  rintro e w9 ⟨rfl, h1⟩
  have H9 := Lib.hid h1
  clear h1
  go_wp2_with fail
  refine (HNX.out w9).mono ?_
  rintro e w10 ⟨rfl, rfl⟩
  go_wp2_with fail
  go_ret
  exact ⟨rfl, H9.out.below⟩
set_option maxHeartbeats 4000000 in
theorem back10_dx (A0 A1 : Option Addr) (n0 n n1 c0 c1 : Nat) (key T : Nat → Nat) (s t : ByteArray) (w : World) (hp : Pws w) (k : Kt n key n1 T) (hl : 4 * n = n0) (hA : SlB w A0 n0 key) (hB : SlB w A1 n1 T) (hnil : A1 = none → n1 = 0 ∧ c1 = 0) (hs : s.size ≤ maxLen) (ht : t.size ≤ maxLen) (hes : hE s = 0) (het : ¬ hE t = 0) :
    Calls Tryd.prog 4 #[.slice A0 n0 c0, .slice A1 n1 c1, .string s, .string t] w fun e w' => e = .returned (.bool true) ∧ Below w.heap.size w w' := by
  have HS := Lib.hid (small10_any w hp)
  have HN := Lib.hid fun W (h1 : SlB W A0 n0 key) (h2 : SlB W A1 n1 T) h3 h4 => newU (w0 := w) n n0 c0 key n1 c1 T A0 A1 k hl h1 h2 hnil h3 h4
  have HES := Lib.hid fun W c g (h : Cu w c g n key n1 T W) => encU k s hs h
  have HET := Lib.hid fun W c g (h : Cu w c g n key n1 T W) => encU k t ht h
  have HNS := Lib.hid fun W => numerals_any s W hs
  have HNT := Lib.hid fun W => numerals_any t W ht
  have HA := Lib.hid hA
  have HB := Lib.hid hB
  have HP := Lib.hid hp
  rw [hes] at HES
  rw [decide_eq_true hes] at HNS
  rw [encS_bad het] at HET
  rw [decide_eq_false het] at HNT
  have gt : (hE t == 0) = false := by simpa using het
  obtain ⟨l1, l2, x1, x2, x3, d1, d2, d3⟩ := enc_fine (n := n) (key := key) (t := n1) (T := T) hes
  have hxm : (encS n key n1 T s).size ≤ maxLen := by unfold maxLen; omega
  have hdm : (decS n key n1 T s).size ≤ maxLen := by unfold maxLen; omega
  have HDX := Lib.hid fun W c g (h : Cu w c g n key n1 T W) => decU k (encS n key n1 T s) hxm h
  have HDS := Lib.hid fun W c g (h : Cu w c g n key n1 T W) => decU k s hs h
  have HED := Lib.hid fun W c g (h : Cu w c g n key n1 T W) => encU k (decS n key n1 T s) hdm h
  have HNX := Lib.hid fun W => numerals_any (encS n key n1 T s) W hxm
  rw [x2, x3] at HDX
  rw [hes] at HDS
  rw [d2, d3] at HED
  rw [decide_eq_true x2] at HNX
  have hs32 : ((s.size : Nat) : Int) ≤ 32 := by omega
  generalize encS n key n1 T s = x at *
  generalize decS n key n1 T s = d at *
  clear x2 x3 d2 d3 l1 l2 hxm hdm

  clear hA hB hp hnil hs ht hes het k hl
  go_enter Tryd.func4, Tryd.ntmps4
  go_wp2_with fail
  refine HS.out.mono ?_
  rintro e w1 ⟨rfl, h1⟩
  have H1 := Lib.hid h1
  clear h1
  go_wp2_with fail
  refine (HN.out w1 (HA.out.keep H1.out) (HB.out.keep H1.out) H1.out (HP.out.keep H1.out)).mono ?_
  rintro e w2 ⟨c, g, rfl, h1⟩
  have H2 := Lib.hid h1
  clear h1
  go_wp2_with fail
  refine (HES.out w2 c g H2.out).mono ?_
  rintro e w3 ⟨rfl, h1⟩
  have H3 := Lib.hid h1
  clear h1
  go_wp2_with fail
  refine (HET.out w3 c g H3.out).mono ?_
  rintro e w4 ⟨rfl, h1⟩
  have H4 := Lib.hid h1
  clear h1
  go_wp2_with fail
  refine (HNS.out w4).mono ?_
  rintro e w5 ⟨rfl, rfl⟩
  go_wp2_with fail
  refine (HNT.out w4).mono ?_
  rintro e w6 ⟨rfl, rfl⟩
  go_wp2_with fail
  refine (HDX.out w4 c g H4.out).mono ?_
  rintro e w7 ⟨rfl, h1⟩
  have H7 := Lib.hid h1
  clear h1
  go_wp2_with fail
  refine (HDS.out w7 c g H7.out).mono ?_
  rintro e w8 ⟨rfl, h1⟩
  have H8 := Lib.hid h1
  clear h1
  go_wp2_with fail
  refine (HED.out w8 c g H8.out).mono ?_
  rintro e w9 ⟨rfl, h1⟩
  have H9 := Lib.hid h1
  clear h1
  go_wp2_with fail
  refine (HNX.out w9).mono ?_
  rintro e w10 ⟨rfl, rfl⟩
  go_wp2_with fail
  go_ret
  exact ⟨rfl, H9.out.below⟩
set_option maxHeartbeats 4000000 in
theorem back10_xd (A0 A1 : Option Addr) (n0 n n1 c0 c1 : Nat) (key T : Nat → Nat) (s t : ByteArray) (w : World) (hp : Pws w) (k : Kt n key n1 T) (hl : 4 * n = n0) (hA : SlB w A0 n0 key) (hB : SlB w A1 n1 T) (hnil : A1 = none → n1 = 0 ∧ c1 = 0) (hs : s.size ≤ maxLen) (ht : t.size ≤ maxLen) (hes : ¬ hE s = 0) (het : hE t = 0) :
    Calls Tryd.prog 4 #[.slice A0 n0 c0, .slice A1 n1 c1, .string s, .string t] w fun e w' => e = .returned (.bool true) ∧ Below w.heap.size w w' := by
  have HS := Lib.hid (small10_any w hp)
  have HN := Lib.hid fun W (h1 : SlB W A0 n0 key) (h2 : SlB W A1 n1 T) h3 h4 => newU (w0 := w) n n0 c0 key n1 c1 T A0 A1 k hl h1 h2 hnil h3 h4
  have HES := Lib.hid fun W c g (h : Cu w c g n key n1 T W) => encU k s hs h
  have HET := Lib.hid fun W c g (h : Cu w c g n key n1 T W) => encU k t ht h
  have HNS := Lib.hid fun W => numerals_any s W hs
  have HNT := Lib.hid fun W => numerals_any t W ht
  have HA := Lib.hid hA
  have HB := Lib.hid hB
  have HP := Lib.hid hp
  rw [encS_bad hes] at HES
  rw [decide_eq_false hes] at HNS
  have gs : (hE s == 0) = false := by simpa using hes
  rw [het] at HET
  rw [decide_eq_true het] at HNT
  clear hA hB hp hnil hs ht hes het k hl
  go_enter Tryd.func4, Tryd.ntmps4
  go_wp2_with fail
  refine HS.out.mono ?_
  rintro e w1 ⟨rfl, h1⟩
  have H1 := Lib.hid h1
  clear h1
  go_wp2_with fail
  refine (HN.out w1 (HA.out.keep H1.out) (HB.out.keep H1.out) H1.out (HP.out.keep H1.out)).mono ?_
  rintro e w2 ⟨c, g, rfl, h1⟩
  have H2 := Lib.hid h1
  clear h1
  go_wp2_with fail
  refine (HES.out w2 c g H2.out).mono ?_
  rintro e w3 ⟨rfl, h1⟩
  have H3 := Lib.hid h1
  clear h1
  go_wp2_with fail
  refine (HET.out w3 c g H3.out).mono ?_
  rintro e w4 ⟨rfl, h1⟩
  have H4 := Lib.hid h1
  clear h1
  go_wp2_with fail
  refine (HNS.out w4).mono ?_
  rintro e w5 ⟨rfl, rfl⟩
  go_wp2_with fail
  refine (HNT.out w4).mono ?_
  rintro e w6 ⟨rfl, rfl⟩
  go_wp2_with fail
  go_ret
  exact ⟨rfl, H4.out.below⟩
set_option maxHeartbeats 4000000 in
theorem back10_xx (A0 A1 : Option Addr) (n0 n n1 c0 c1 : Nat) (key T : Nat → Nat) (s t : ByteArray) (w : World) (hp : Pws w) (k : Kt n key n1 T) (hl : 4 * n = n0) (hA : SlB w A0 n0 key) (hB : SlB w A1 n1 T) (hnil : A1 = none → n1 = 0 ∧ c1 = 0) (hs : s.size ≤ maxLen) (ht : t.size ≤ maxLen) (hes : ¬ hE s = 0) (het : ¬ hE t = 0) :
    Calls Tryd.prog 4 #[.slice A0 n0 c0, .slice A1 n1 c1, .string s, .string t] w fun e w' => e = .returned (.bool true) ∧ Below w.heap.size w w' := by
  have HS := Lib.hid (small10_any w hp)
  have HN := Lib.hid fun W (h1 : SlB W A0 n0 key) (h2 : SlB W A1 n1 T) h3 h4 => newU (w0 := w) n n0 c0 key n1 c1 T A0 A1 k hl h1 h2 hnil h3 h4
  have HES := Lib.hid fun W c g (h : Cu w c g n key n1 T W) => encU k s hs h
  have HET := Lib.hid fun W c g (h : Cu w c g n key n1 T W) => encU k t ht h
  have HNS := Lib.hid fun W => numerals_any s W hs
  have HNT := Lib.hid fun W => numerals_any t W ht
  have HA := Lib.hid hA
  have HB := Lib.hid hB
  have HP := Lib.hid hp
  rw [encS_bad hes] at HES
  rw [decide_eq_false hes] at HNS
  have gs : (hE s == 0) = false := by simpa using hes
  rw [encS_bad het] at HET
  rw [decide_eq_false het] at HNT
  have gt : (hE t == 0) = false := by simpa using het
  clear hA hB hp hnil hs ht hes het k hl
  go_enter Tryd.func4, Tryd.ntmps4
  go_wp2_with fail
  refine HS.out.mono ?_
  rintro e w1 ⟨rfl, h1⟩
  have H1 := Lib.hid h1
  clear h1
  go_wp2_with fail
  refine (HN.out w1 (HA.out.keep H1.out) (HB.out.keep H1.out) H1.out (HP.out.keep H1.out)).mono ?_
  rintro e w2 ⟨c, g, rfl, h1⟩
  have H2 := Lib.hid h1
  clear h1
  go_wp2_with fail
  refine (HES.out w2 c g H2.out).mono ?_
  rintro e w3 ⟨rfl, h1⟩
  have H3 := Lib.hid h1
  clear h1
  go_wp2_with fail
  refine (HET.out w3 c g H3.out).mono ?_
  rintro e w4 ⟨rfl, h1⟩
  have H4 := Lib.hid h1
  clear h1
  go_wp2_with fail
  refine (HNS.out w4).mono ?_
  rintro e w5 ⟨rfl, rfl⟩
  go_wp2_with fail
  refine (HNT.out w4).mono ?_
  rintro e w6 ⟨rfl, rfl⟩
  go_wp2_with fail
  go_ret
  exact ⟨rfl, H4.out.below⟩
/-- FfxBack answers true -/
theorem back10_all (A0 A1 : Option Addr) (n0 n1 c0 c1 : Nat) (key T : Nat → Nat) (s t : ByteArray) (w : World) (hp : Pws w) (hl0 : n0 ≤ 140737488351232) (hl1 : n1 ≤ 140737488351232) (hA : SlB w A0 n0 key) (hB : SlB w A1 n1 T) (hnil : A1 = none → n1 = 0 ∧ c1 = 0) (hs : s.size ≤ maxLen) (ht : t.size ≤ maxLen) :
    Calls Tryd.prog 4 #[.slice A0 n0 c0, .slice A1 n1 c1, .string s, .string t] w fun e w' => e = .returned (.bool true) ∧ Below w.heap.size w w' := by
  by_cases h : n0 = 16 ∨ n0 = 32
  · obtain ⟨n, hn, hl⟩ : ∃ n, (n = 4 ∨ n = 8) ∧ 4 * n = n0 := by
      rcases h with h | h
      · exact ⟨4, Or.inl rfl, by omega⟩
      · exact ⟨8, Or.inr rfl, by omega⟩
    by_cases ht16 : 16 < n1
    · exact back10_long A0 A1 n0 n n1 c0 c1 key s t w hp hn hl hA ht16 hl1
    · have k : Kt n key n1 T := ⟨hn, fun j hj => hA.byte (by omega), by omega, fun j hj => hB.byte hj⟩
      by_cases hes : hE s = 0
      · by_cases het : hE t = 0
        · exact back10_dd A0 A1 n0 n n1 c0 c1 key T s t w hp k hl hA hB hnil hs ht hes het
        · exact back10_dx A0 A1 n0 n n1 c0 c1 key T s t w hp k hl hA hB hnil hs ht hes het
      · by_cases het : hE t = 0
        · exact back10_xd A0 A1 n0 n n1 c0 c1 key T s t w hp k hl hA hB hnil hs ht hes het
        · exact back10_xx A0 A1 n0 n n1 c0 c1 key T s t w hp k hl hA hB hnil hs ht hes het
  · exact back10_key A0 A1 n0 n1 c0 c1 s t w hp (by omega) (by omega) hl0
end Go.Proofs.YtniaelaolmjkaaaDoor
/- Contracts of package ffx: Mask. -/
namespace Go.Proofs.YtniaelaolmjkaaaDoor
set_option maxRecDepth 100000
open Go.RowKit

theorem fMask_bad (c : Nat) (N r v : Int) (w : World) (h : N < 6 ∨ 32 < N ∨ r < 0 ∨ 10 ≤ r) :
    Calls Tryd.prog 10 #[.pointer (some ⟨c, 0, none⟩), .int .i64 N, .int .i64 r, .int .i64 v] w fun e w' => e = .returned (.tuple #[.int .i64 0, .int .i64 1]) ∧ w = w' := by
  have HWL := Lib.hid (wrongL_any N w)
  obtain ⟨b, hb⟩ : ∃ b, (decide (N < 6) || decide (32 < N)) = b := ⟨_, rfl⟩
  rw [hb] at HWL
  cases b with
  | true =>
    clear hb h
    go_enter Tryd.func10, Tryd.ntmps10
    go_wp2_with (go_at_call 21; refine HWL.out.mono ?_; rintro e w1 ⟨rfl, rfl⟩)
    go_ret2
    exact ⟨rfl, rfl⟩
  | false =>
    have hb' : ¬ N < 6 ∧ ¬ 32 < N := by simpa [Bool.or_eq_false_iff] using hb
    by_cases hr : r < 0
    · have h1 : decide (r < 0) = true := by simpa using hr
      clear hb hb' h hr
      go_enter Tryd.func10, Tryd.ntmps10
      go_wp2_with (go_at_call 21; refine HWL.out.mono ?_; rintro e w1 ⟨rfl, rfl⟩)
      go_ret2
      exact ⟨rfl, rfl⟩
    · have h1 : decide (r < 0) = false := by simpa using hr
      have h2 : decide (10 ≤ r) = true := by rw [decide_eq_true_eq]; omega
      clear hb hb' h hr
      go_enter Tryd.func10, Tryd.ntmps10
      go_wp2_with (go_at_call 21; refine HWL.out.mono ?_; rintro e w1 ⟨rfl, rfl⟩)
      go_ret2
      exact ⟨rfl, rfl⟩
theorem fMask_far (c N r : Nat) (v : Int) (w : World) (hp : Pws w) (hN : 6 ≤ N) (hN2 : N ≤ 32) (hr : r ≤ 9) (h : v < 0 ∨ ((10 ^ fd N (r + 1) : Nat) : Int) ≤ v) :
    Calls Tryd.prog 10 #[.pointer (some ⟨c, 0, none⟩), .int .i64 (N : Nat), .int .i64 (r : Nat), .int .i64 v] w fun e w' => e = .returned (.tuple #[.int .i64 0, .int .i64 1]) ∧ w = w' := by
  have HWL := Lib.hid (wrongL_any N w)
  rw [show (decide ((N : Int) < 6) || decide (32 < (N : Int))) = false by rw [Bool.or_eq_false_iff, decide_eq_false_iff_not, decide_eq_false_iff_not]; omega] at HWL
  have HSR := Lib.hid (sizes_any N r w (by omega) (by omega))
  have hfd := fd_le (r + 1) hN hN2
  have HPW := Lib.hid (xpower_any (fd N (r + 1) : Nat) w hp)
  rw [pw_at (by omega) (by omega)] at HPW
  have h1 : decide ((r : Int) < 0) = false := by rw [decide_eq_false_iff_not]; omega
  have h2 : decide (10 ≤ (r : Int)) = false := by rw [decide_eq_false_iff_not]; omega
  generalize 10 ^ fd N (r + 1) = P at *
  generalize fd N (r + 1) = y at *
  by_cases hv : v < 0
  · have h3 : decide (v < 0) = true := by simpa using hv
    clear h hv hp hN hN2 hr
    go_enter Tryd.func10, Tryd.ntmps10
    go_wp2_with (first | (go_at_call 21; refine HWL.out.mono ?_; rintro e w1 ⟨rfl, rfl⟩) | (go_at_call 22; refine HSR.out.mono ?_; rintro e w1 ⟨rfl, rfl⟩))
    go_ret2
    exact ⟨rfl, rfl⟩
  · have h3 : decide (v < 0) = false := by simpa using hv
    have h4 : decide ((P : Int) ≤ v) = true := by rw [decide_eq_true_eq]; omega
    clear h hv hp hN hN2 hr
    go_enter Tryd.func10, Tryd.ntmps10
    go_wp2_with (first | (go_at_call 21; refine HWL.out.mono ?_; rintro e w1 ⟨rfl, rfl⟩) | (go_at_call 22; refine HSR.out.mono ?_; rintro e w1 ⟨rfl, rfl⟩) | (go_at_call 23; refine HPW.out.mono ?_; rintro e w1 ⟨rfl, rfl⟩))
    go_ret2
    exact ⟨rfl, rfl⟩
theorem fMask_any (c g n : Nat) (key : Nat → Nat) (t : Nat) (T : Nat → Nat) (N r x : Nat) (w : World) (hp : Pws w) (hn : n = 4 ∨ n = 8) (hkey : By (4 * n) key) (hC : Cip w c g n key t T) (ht : t ≤ 16) (hT : By t T) (hN : 6 ≤ N) (hN2 : N ≤ 32) (hr : r ≤ 9) (hx : x < 10 ^ fd N (r + 1)) :
    Calls Tryd.prog 10 #[.pointer (some ⟨c, 0, none⟩), .int .i64 (N : Nat), .int .i64 (r : Nat), .int .i64 (x : Nat)] w (CipP c g n key t T (.tuple #[.int .i64 (fmk n key t T N r x : Nat), .int .i64 0]) w) := by
  have hfd := fd_le (r + 1) hN hN2
  have hx2 := ten_le (fd N (r + 1)) (by omega)
  have HM := Lib.hid (fmask_any c g n key t T N r x w hp hn hkey hC ht hT hN hN2 hr (by omega))
  have HWL := Lib.hid (wrongL_any N w)
  rw [show (decide ((N : Int) < 6) || decide (32 < (N : Int))) = false by rw [Bool.or_eq_false_iff, decide_eq_false_iff_not, decide_eq_false_iff_not]; omega] at HWL
  have HSR := Lib.hid (sizes_any N r w (by omega) (by omega))
  have HPW := Lib.hid (xpower_any (fd N (r + 1) : Nat) w hp)
  rw [pw_at (by omega) (by omega)] at HPW
  have h1 : decide ((r : Int) < 0) = false := by rw [decide_eq_false_iff_not]; omega
  have h2 : decide (10 ≤ (r : Int)) = false := by rw [decide_eq_false_iff_not]; omega
  have h3 : decide ((x : Int) < 0) = false := by rw [decide_eq_false_iff_not]; omega
  generalize 10 ^ fd N (r + 1) = P at *
  have h4 : decide (P ≤ x) = false := by rw [decide_eq_false_iff_not]; omega
  generalize fd N (r + 1) = y at *
  clear hp hn hkey hC ht hT hN hN2 hr hx hx2 hfd
  go_enter Tryd.func10, Tryd.ntmps10
  go_wp2_with (first | (go_at_call 21; refine HWL.out.mono ?_; rintro e w1 ⟨rfl, rfl⟩) | (go_at_call 22; refine HSR.out.mono ?_; rintro e w1 ⟨rfl, rfl⟩) | (go_at_call 23; refine HPW.out.mono ?_; rintro e w1 ⟨rfl, rfl⟩) | (go_at_call 24; refine HM.out.mono ?_; rintro e w1 ⟨rfl, h5, h6⟩; have H5 := Lib.hid h5; have H6 := Lib.hid h6; clear h5 h6))
  go_ret2
  exact ⟨rfl, H5.out, H6.out⟩
end Go.Proofs.YtniaelaolmjkaaaDoor
/- Laws of layer 10: FfxRounds. -/
namespace Go.Proofs.YtniaelaolmjkaaaDoor
set_option maxRecDepth 100000
open Go.RowKit

set_option maxHeartbeats 1600000 in
theorem rounds10_key (A0 A1 : Option Addr) (n0 n1 c0 c1 : Nat) (s : ByteArray) (w : World) (hp : Pws w) (hl : n0 ≠ 16) (hl2 : n0 ≠ 32) (hl3 : n0 ≤ 140737488351232) (hs : s.size ≤ maxLen) :
    Calls Tryd.prog 5 #[.slice A0 n0 c0, .slice A1 n1 c1, .string s] w fun e w' => e = .returned (.bool true) ∧ Below w.heap.size w w' := by
  have HS := Lib.hid (small10_any w hp)
  have HN := Lib.hid fun W => fnew_short A0 n0 c0 A1 n1 c1 W hl hl2 hl3
  have HNS := Lib.hid fun W => numerals_any s W hs
  generalize decide (hE s = 0) = b at *
  clear hp hl hl2
  go_enter Tryd.func5, Tryd.ntmps5
  go_wp2_with fail
  refine HS.out.mono ?_
  rintro e w1 ⟨rfl, h1⟩
  have H1 := Lib.hid h1
  clear h1
  go_wp2_with fail
  refine (HN.out w1).mono ?_
  rintro e w2 ⟨rfl, rfl⟩
  go_wp2_with fail
  refine (HNS.out w1).mono ?_
  rintro e w2 ⟨rfl, rfl⟩
  go_wp2_with fail
  go_ret
  exact ⟨rfl, H1.out⟩
set_option maxHeartbeats 1600000 in
theorem rounds10_long (A0 A1 : Option Addr) (n0 n n1 c0 c1 : Nat) (key : Nat → Nat) (s : ByteArray) (w : World) (hp : Pws w) (hn : n = 4 ∨ n = 8) (hl : 4 * n = n0) (hA : SlB w A0 n0 key) (ht : 16 < n1) (hs : s.size ≤ maxLen) :
    Calls Tryd.prog 5 #[.slice A0 n0 c0, .slice A1 n1 c1, .string s] w fun e w' => e = .returned (.bool true) ∧ Below w.heap.size w w' := by
  have HS := Lib.hid (small10_any w hp)
  have HN := Lib.hid fun W (h : SlB W A0 n0 key) => fnew_long A0 n0 n c0 key A1 n1 c1 W hn hl h ht
  have HNS := Lib.hid fun W => numerals_any s W hs
  generalize decide (hE s = 0) = b at *
  have HA := Lib.hid hA
  clear hp hn hA hl ht
  go_enter Tryd.func5, Tryd.ntmps5
  go_wp2_with fail
  refine HS.out.mono ?_
  rintro e w1 ⟨rfl, h1⟩
  have H1 := Lib.hid h1
  clear h1
  go_wp2_with fail
  refine (HN.out w1 (HA.out.keep H1.out)).mono ?_
  rintro e w2 ⟨rfl, h2⟩
  have H2 := Lib.hid (H1.out.trans (h2.mono H1.out.size))
  clear h2
  go_wp2_with fail
  refine (HNS.out w2).mono ?_
  rintro e w3 ⟨rfl, rfl⟩
  go_wp2_with fail
  go_ret
  exact ⟨rfl, H2.out⟩
set_option maxHeartbeats 1600000 in
theorem rounds10_bad (A0 A1 : Option Addr) (n0 n n1 c0 c1 : Nat) (key T : Nat → Nat) (s : ByteArray) (w : World) (hp : Pws w) (k : Kt n key n1 T) (hl : 4 * n = n0) (hA : SlB w A0 n0 key) (hB : SlB w A1 n1 T) (hnil : A1 = none → n1 = 0 ∧ c1 = 0) (hs : s.size ≤ maxLen) (he : ¬ hE s = 0) :
    Calls Tryd.prog 5 #[.slice A0 n0 c0, .slice A1 n1 c1, .string s] w fun e w' => e = .returned (.bool true) ∧ Below w.heap.size w w' := by
  have HS := Lib.hid (small10_any w hp)
  have HN := Lib.hid fun W (h1 : SlB W A0 n0 key) (h2 : SlB W A1 n1 T) h3 h4 => newU (w0 := w) n n0 c0 key n1 c1 T A0 A1 k hl h1 h2 hnil h3 h4
  have HNS := Lib.hid fun W => numerals_any s W hs
  rw [decide_eq_false he] at HNS
  have HA := Lib.hid hA
  have HB := Lib.hid hB
  have HP := Lib.hid hp
  clear hp k hl hA hB hnil hs he
  go_enter Tryd.func5, Tryd.ntmps5
  go_wp2_with fail
  refine HS.out.mono ?_
  rintro e w1 ⟨rfl, h1⟩
  have H1 := Lib.hid h1
  clear h1
  go_wp2_with fail
  refine (HN.out w1 (HA.out.keep H1.out) (HB.out.keep H1.out) H1.out (HP.out.keep H1.out)).mono ?_
  rintro e w2 ⟨c, g, rfl, h1⟩
  have H2 := Lib.hid h1
  clear h1
  go_wp2_with fail
  refine (HNS.out w2).mono ?_
  rintro e w3 ⟨rfl, rfl⟩
  go_wp2_with fail
  go_ret
  exact ⟨rfl, H2.out.below⟩
theorem digits_fit {x m : Int} (w : World) (hp : Pws w) (h : inP x m = true) :
    Calls Tryd.prog 17 #[.int .i64 x, .int .i64 m] w fun e w' => e = .returned (.tuple #[.string (gV x m), .int .i64 0]) ∧ Below w.heap.size w w' :=
  (xdigits_any x m w (by have := inP_le h; omega) hp).mono fun e w' ⟨he, hb⟩ => ⟨he.trans (by rw [gE_pos h]), hb⟩
theorem add_fit {a b m : Int} (w : World) (hp : Pws w) (h : inP a m = true) (h' : inP b m = true) :
    Calls Tryd.prog 16 #[.int .i64 a, .int .i64 b, .int .i64 m] w fun e w' => e = .returned (.tuple #[.int .i64 (aV a b m), .int .i64 0]) ∧ Below w.heap.size w w' :=
  (xadd_any a b m w hp).mono fun e w' ⟨he, hb⟩ => ⟨he.trans (by rw [tE_pos h h']), hb⟩
theorem maskU {w0 W : World} {c g n : Nat} {key : Nat → Nat} {t : Nat} {T : Nat → Nat} (k : Kt n key t T) {N r : Nat} {v : Int} (hN : 6 ≤ N) (hN2 : N ≤ 32) (hr : r ≤ 9) (hv : inP v (fd N (r + 1) : Nat) = true) (h : Cu w0 c g n key t T W) :
    Calls Tryd.prog 10 #[.pointer (some ⟨c, 0, none⟩), .int .i64 (N : Nat), .int .i64 (r : Nat), .int .i64 v] W fun e W' => e = .returned (.tuple #[.int .i64 (fM n key t T N r v), .int .i64 0]) ∧ Cu w0 c g n key t T W' := by
  have hfd := fd_le (r + 1) hN hN2
  obtain ⟨x, rfl⟩ := Int.eq_ofNat_of_zero_le (inP_le hv).1
  have hx := (inP_nat (by omega) (by omega)).1 hv
  refine (fMask_any c g n key t T N r x W h.pws k.hn k.key h.cip k.t16 k.tw hN hN2 hr hx).mono ?_
  rintro e W' ⟨rfl, h1, h2⟩
  exact ⟨rfl, h.next k.hn h1 h2⟩
set_option maxHeartbeats 4000000 in
theorem rounds10_go (A0 A1 : Option Addr) (n0 n n1 c0 c1 : Nat) (key T : Nat → Nat) (s : ByteArray) (w : World) (hp : Pws w) (k : Kt n key n1 T) (hl : 4 * n = n0) (hA : SlB w A0 n0 key) (hB : SlB w A1 n1 T) (hnil : A1 = none → n1 = 0 ∧ c1 = 0) (hs : s.size ≤ maxLen) (he : hE s = 0) :
    Calls Tryd.prog 5 #[.slice A0 n0 c0, .slice A1 n1 c1, .string s] w fun e w' => e = .returned (.bool true) ∧ Below w.heap.size w w' := by
  obtain ⟨l1, l2, _⟩ := enc_fine (n := n) (key := key) (t := n1) (T := T) he
  obtain ⟨v1, v2, z1, z2, i0, i1⟩ := halves_in l1 l2 he
  have HS := Lib.hid (small10_any w hp)
  have HN := Lib.hid fun W (h1 : SlB W A0 n0 key) (h2 : SlB W A1 n1 T) h3 h4 => newU (w0 := w) n n0 c0 key n1 c1 T A0 A1 k hl h1 h2 hnil h3 h4
  have HNS := Lib.hid fun W => numerals_any s W hs
  rw [decide_eq_true he] at HNS
  have HES := Lib.hid fun W c g (h : Cu w c g n key n1 T W) => encU k s hs h
  have hM : MIn (fM n key n1 T s.size) s.size := fun k x => fM_in l1 l2 k x
  have heV : encS n key n1 T s = gV (fgo (fM n key n1 T s.size) s.size (vV (loS s)) (vV (hiS s)) 10).1 (fd s.size 0 : Nat) ++ gV (fgo (fM n key n1 T s.size) s.size (vV (loS s)) (vV (hiS s)) 10).2 (fd s.size 1 : Nat) := if_pos he
  rw [he, heV] at HES
  have HV1 := Lib.hid fun W => xvalue_any (loS s) W (by unfold maxLen; have := fd_le 0 l1 l2; omega)
  have HV2 := Lib.hid fun W => xvalue_any (hiS s) W (by unfold maxLen; have := fd_le 1 l1 l2; omega)
  rw [v1] at HV1
  rw [v2] at HV2
  have HL := Lib.hid (show s.extract 0 (s.size / 2) = loS s from rfl)
  have HH := Lib.hid (show s.extract (s.size / 2) s.size = hiS s from rfl)
  generalize vV (loS s) = a at *
  generalize vV (hiS s) = b at *
  generalize loS s = sl at *
  generalize hiS s = sh at *
  have HGO := Lib.hid fun k => fgo_in hM i0 i1 k
  have HMM := Lib.hid hM
  have HMK := Lib.hid fun r v (hr : r ≤ 9) hv W c g (h : Cu w c g n key n1 T W) => maskU (w0 := w) k (N := s.size) (r := r) (v := v) l1 l2 hr hv h
  have HNX := Lib.hid fun k => show fgo (fM n key n1 T s.size) s.size a b (k + 1) = ((fgo (fM n key n1 T s.size) s.size a b k).2, aV (fgo (fM n key n1 T s.size) s.size a b k).1 (fM n key n1 T s.size k (fgo (fM n key n1 T s.size) s.size a b k).2) (fd s.size k : Nat)) from rfl
  have HA := Lib.hid hA
  have HB := Lib.hid hB
  have HP := Lib.hid hp
  have HFD := Lib.hid fun i => show fd s.size i = if i % 2 = 0 then s.size / 2 else s.size - s.size / 2 from rfl
  have hsz : ((s.size : Nat) : Int) ≤ 32 := by omega
  obtain ⟨u, hu⟩ : ∃ u, s.size / 2 = u := ⟨_, rfl⟩
  obtain ⟨v, hv⟩ : ∃ v, s.size - u = v := ⟨_, rfl⟩
  have hui : ((s.size : Nat) : Int) / 2 = (u : Nat) := by omega
  have hvi : ((s.size : Nat) : Int) - (u : Nat) = (v : Nat) := by omega
  have hus : u ≤ s.size := by omega
  have hus2 : (u : Int) ≤ (s.size : Nat) := by omega
  rw [hu] at HL HH HFD
  rw [hv] at HFD
  have HF0 := Lib.hid (show fd s.size 0 = u from HFD.out 0)
  have HF1 := Lib.hid (show fd s.size 1 = v from HFD.out 1)
  clear hp k hl hA hB hnil hs he v1 v2 z1 z2 i0 i1 hM l1 l2 heV hu hv
  go_enter Tryd.func5, Tryd.ntmps5
  go_wp2_with fail
  refine HS.out.mono ?_
  rintro e w1 ⟨rfl, h1⟩
  have H1 := Lib.hid h1
  clear h1
  go_wp2_with fail
  refine (HN.out w1 (HA.out.keep H1.out) (HB.out.keep H1.out) H1.out (HP.out.keep H1.out)).mono ?_
  rintro e w2 ⟨c, g, rfl, h1⟩
  have H2 := Lib.hid h1
  clear h1
  go_wp2_with fail
  refine (HNS.out w2).mono ?_
  rintro e w3 ⟨rfl, rfl⟩
  go_wp2_with fail
  rw [HL.out]
  refine (HV1.out w2).mono ?_
  rintro e w3 ⟨rfl, n3, rfl⟩
  go_wp2_with fail
  rw [HH.out]
  refine (HV2.out _).mono ?_
  rintro e w4 ⟨rfl, n4, rfl⟩
  have H4 := Lib.hid (H2.out.drewN (n3 + n4))
  go_wp2_with fail
  go_loopw [12, 14, 16] (fun p q i wr => ∃ j : Nat, j ≤ 10 ∧ i = .int .i64 (j : Nat) ∧ p = .int .i64 (fgo (fM n key n1 T s.size) s.size a b j).1 ∧ q = .int .i64 (fgo (fM n key n1 T s.size) s.size a b j).2 ∧ Cu w c g n key n1 T wr) (fun _ _ i _ => 10 - (intOf i).toNat)
  case atStart => exact ⟨0, by decide, rfl, rfl, rfl, H4.out⟩
  case round =>
    obtain ⟨j, hj, rfl, rfl, rfl, h1⟩ := hrel
    have H5 := Lib.hid h1
    clear h1
    obtain ⟨i2, i3⟩ := HGO.out j
    by_cases hlt : j < 10
    · have hji : (j : Int) < 10 := by omega
      have hnx := HNX.out j
      have HMI := Lib.hid (HMM.out j (fgo (fM n key n1 T s.size) s.size a b j).2)
      have HMJ := Lib.hid (HMK.out j (fgo (fM n key n1 T s.size) s.size a b j).2 (by omega) i3 wr c g H5.out)
      have HI2 := Lib.hid i2
      have hfd := HFD.out j
      generalize (fgo (fM n key n1 T s.size) s.size a b j).1 = p at *
      generalize (fgo (fM n key n1 T s.size) s.size a b j).2 = q at *
      generalize fM n key n1 T s.size j q = y at *
      rcases (show ((j : Int) % 2 == 1) = false ∧ fd s.size j = u ∨ ((j : Int) % 2 == 1) = true ∧ fd s.size j = v from by
        by_cases h : j % 2 = 0
        · rw [if_pos h] at hfd; left; exact ⟨by simp; omega, hfd⟩
        · rw [if_neg h] at hfd; right; exact ⟨by simp; omega, hfd⟩) with ⟨hb, hfe⟩ | ⟨hb, hfe⟩
      all_goals
        rw [hfe] at HMI HI2 hnx
        have HNJ := Lib.hid hnx
        clear hnx hfd hfe i2 i3
        go_wp2_with fail
        refine HMJ.out.mono ?_
        rintro e w5 ⟨rfl, h1⟩
        have H6 := Lib.hid h1
        clear h1
        go_wp2_with fail
        refine (add_fit w5 H6.out.pws HI2.out HMI.out).mono ?_
        rintro e w6 ⟨rfl, h1⟩
        have H7 := Lib.hid (H6.out.keep h1)
        clear h1
        go_wp2_with fail
        go_roundw
        case rel => exact ⟨j + 1, by omega, by go_num, by rw [HNJ.out], by rw [HNJ.out], H7.out⟩
        case measure => simp [intOf]; omega
    · obtain rfl : j = 10 := by omega
      rw [show fd s.size 10 = fd s.size 0 from rfl, HF0.out] at i2
      rw [show fd s.size (10 + 1) = fd s.size 1 from rfl, HF1.out] at i3
      rw [HF0.out, HF1.out] at HES
      have HD1 := Lib.hid fun W h => digits_fit (x := (fgo (fM n key n1 T s.size) s.size a b 10).1) (m := (u : Nat)) W h i2
      have HD2 := Lib.hid fun W h => digits_fit (x := (fgo (fM n key n1 T s.size) s.size a b 10).2) (m := (v : Nat)) W h i3
      have g1 := gV_size (fgo (fM n key n1 T s.size) s.size a b 10).1 (u : Nat) (by omega)
      have g2 := gV_size (fgo (fM n key n1 T s.size) s.size a b 10).2 (v : Nat) (by omega)
      generalize gV (fgo (fM n key n1 T s.size) s.size a b 10).1 (u : Nat) = x at *
      generalize gV (fgo (fM n key n1 T s.size) s.size a b 10).2 (v : Nat) = y at *
      generalize (fgo (fM n key n1 T s.size) s.size a b 10).1 = p at *
      generalize (fgo (fM n key n1 T s.size) s.size a b 10).2 = q at *
      clear i2 i3
      go_wp2_with fail
      refine (HD1.out wr H5.out.pws).mono ?_
      rintro e w5 ⟨rfl, h1⟩
      have H6 := Lib.hid (H5.out.keep h1)
      clear h1
      go_wp2_with fail
      refine (HD2.out w5 H6.out.pws).mono ?_
      rintro e w6 ⟨rfl, h1⟩
      have H7 := Lib.hid (H6.out.keep h1)
      clear h1
      go_wp2_with fail
      refine (HES.out w6 c g H7.out).mono ?_
      rintro e w7 ⟨rfl, h1⟩
      have H8 := Lib.hid h1
      clear h1
      go_wp2_with fail
      go_ret
      exact ⟨rfl, H8.out.below⟩
/-- FfxRounds answers true -/
theorem rounds10_all (A0 A1 : Option Addr) (n0 n1 c0 c1 : Nat) (key T : Nat → Nat) (s : ByteArray) (w : World) (hp : Pws w) (hl0 : n0 ≤ 140737488351232) (hA : SlB w A0 n0 key) (hB : SlB w A1 n1 T) (hnil : A1 = none → n1 = 0 ∧ c1 = 0) (hs : s.size ≤ maxLen) :
    Calls Tryd.prog 5 #[.slice A0 n0 c0, .slice A1 n1 c1, .string s] w fun e w' => e = .returned (.bool true) ∧ Below w.heap.size w w' := by
  by_cases h : n0 = 16 ∨ n0 = 32
  · obtain ⟨n, hn, hl⟩ : ∃ n, (n = 4 ∨ n = 8) ∧ 4 * n = n0 := by
      rcases h with h | h
      · exact ⟨4, Or.inl rfl, by omega⟩
      · exact ⟨8, Or.inr rfl, by omega⟩
    by_cases ht16 : 16 < n1
    · exact rounds10_long A0 A1 n0 n n1 c0 c1 key s w hp hn hl hA ht16 hs
    · have k : Kt n key n1 T := ⟨hn, fun j hj => hA.byte (by omega), by omega, fun j hj => hB.byte hj⟩
      by_cases he : hE s = 0
      · exact rounds10_go A0 A1 n0 n n1 c0 c1 key T s w hp k hl hA hB hnil hs he
      · exact rounds10_bad A0 A1 n0 n n1 c0 c1 key T s w hp k hl hA hB hnil hs he
  · exact rounds10_key A0 A1 n0 n1 c0 c1 s w hp (by omega) (by omega) hl0 hs
end Go.Proofs.YtniaelaolmjkaaaDoor
/- Rows of strings. -/
namespace Go.Proofs.YtniaelaolmjkaaaDoor
open Go.RowKit
/-- strings, known by a row -/
def StrsAt (w : World) (B o L : Nat) (s : Nat → ByteArray) : Prop := ∀ j, j < L → w.cell? ⟨B, o + j, none⟩ = some (.string (s j))
theorem StrsAt.keep {w w' : World} {B o L : Nat} {s : Nat → ByteArray} (h : StrsAt w B o L s) (hb : Below w.heap.size w w') : StrsAt w' B o L s := fun j hj => (hb.cell (p := ⟨B, o + j, none⟩) (block_lt (a := ⟨B, o + j, none⟩) (h j hj))).trans (h j hj)
theorem StrsAt.drewN {w : World} {B o L : Nat} {s : Nat → ByteArray} (h : StrsAt w B o L s) (n : Nat) : StrsAt (w.drewN n) B o L s := h
/-- the strings of a slice that came in -/
def SlS (w : World) (A : Option Addr) (L : Nat) (s : Nat → ByteArray) : Prop := 0 < L → ∃ B o, A = some ⟨B, o, none⟩ ∧ B < w.heap.size ∧ StrsAt w B o L s
theorem SlS.keep {w w' : World} {A : Option Addr} {L : Nat} {s : Nat → ByteArray} (h : SlS w A L s) (hb : Below w.heap.size w w') : SlS w' A L s := fun hL => by
  obtain ⟨B, o, hA, hB, hs⟩ := h hL
  exact ⟨B, o, hA, Nat.lt_of_lt_of_le hB hb.size, hs.keep hb⟩
end Go.Proofs.YtniaelaolmjkaaaDoor
/- Laws of layer 10: FfxAgain. -/
namespace Go.Proofs.YtniaelaolmjkaaaDoor
set_option maxRecDepth 100000
open Go.RowKit

set_option maxHeartbeats 1600000 in
theorem again10_key (A0 A1 A2 : Option Addr) (n0 n1 n2 c0 c1 c2 : Nat) (s : ByteArray) (w : World) (hp : Pws w) (hl : n0 ≠ 16) (hl2 : n0 ≠ 32) (hl3 : n0 ≤ 140737488351232) :
    Calls Tryd.prog 6 #[.slice A0 n0 c0, .slice A1 n1 c1, .slice A2 n2 c2, .string s] w fun e w' => e = .returned (.bool true) ∧ Below w.heap.size w w' := by
  have HS := Lib.hid (small10_any w hp)
  have HN := Lib.hid fun W => fnew_short A0 n0 c0 A1 n1 c1 W hl hl2 hl3
  clear hp hl hl2
  go_enter Tryd.func6, Tryd.ntmps6
  go_wp2_with fail
  refine HS.out.mono ?_
  rintro e w1 ⟨rfl, h1⟩
  have H1 := Lib.hid h1
  clear h1
  go_wp2_with fail
  refine (HN.out w1).mono ?_
  rintro e w2 ⟨rfl, rfl⟩
  go_wp2_with fail
  go_ret
  exact ⟨rfl, H1.out⟩
set_option maxHeartbeats 1600000 in
theorem again10_long (A0 A1 A2 : Option Addr) (n0 n n1 n2 c0 c1 c2 : Nat) (key : Nat → Nat) (s : ByteArray) (w : World) (hp : Pws w) (hn : n = 4 ∨ n = 8) (hl : 4 * n = n0) (hA : SlB w A0 n0 key) (ht : 16 < n1) :
    Calls Tryd.prog 6 #[.slice A0 n0 c0, .slice A1 n1 c1, .slice A2 n2 c2, .string s] w fun e w' => e = .returned (.bool true) ∧ Below w.heap.size w w' := by
  have HS := Lib.hid (small10_any w hp)
  have HN := Lib.hid fun W (h : SlB W A0 n0 key) => fnew_long A0 n0 n c0 key A1 n1 c1 W hn hl h ht
  have HA := Lib.hid hA
  clear hp hn hA hl ht
  go_enter Tryd.func6, Tryd.ntmps6
  go_wp2_with fail
  refine HS.out.mono ?_
  rintro e w1 ⟨rfl, h1⟩
  have H1 := Lib.hid h1
  clear h1
  go_wp2_with fail
  refine (HN.out w1 (HA.out.keep H1.out)).mono ?_
  rintro e w2 ⟨rfl, h2⟩
  have H2 := Lib.hid (H1.out.trans (h2.mono H1.out.size))
  clear h2
  go_wp2_with fail
  go_ret
  exact ⟨rfl, H2.out⟩
set_option maxHeartbeats 1600000 in
theorem again10_go (A0 A1 A2 : Option Addr) (n0 n n1 n2 c0 c1 c2 : Nat) (key T : Nat → Nat) (rs : Nat → ByteArray) (s : ByteArray) (w : World) (hp : Pws w) (k : Kt n key n1 T) (hl : 4 * n = n0) (hA : SlB w A0 n0 key) (hB : SlB w A1 n1 T) (hnil : A1 = none → n1 = 0 ∧ c1 = 0) (hR : SlS w A2 n2 rs) (hrs : ∀ j, (rs j).size ≤ maxLen) (hn2 : n2 ≤ 140737488351232) (hs : s.size ≤ maxLen) :
    Calls Tryd.prog 6 #[.slice A0 n0 c0, .slice A1 n1 c1, .slice A2 n2 c2, .string s] w fun e w' => e = .returned (.bool true) ∧ Below w.heap.size w w' := by
  have HS := Lib.hid (small10_any w hp)
  have HN := Lib.hid fun W (h1 : SlB W A0 n0 key) (h2 : SlB W A1 n1 T) h3 h4 => newU (w0 := w) n n0 c0 key n1 c1 T A0 A1 k hl h1 h2 hnil h3 h4
  have HES := Lib.hid fun W c g (h : Cu w c g n key n1 T W) => encU k s hs h
  have HER := Lib.hid fun j W c g (h : Cu w c g n key n1 T W) => encU k (rs j) (hrs j) h
  have HDR := Lib.hid fun j W c g (h : Cu w c g n key n1 T W) => decU k (rs j) (hrs j) h
  have HA := Lib.hid hA
  have HB := Lib.hid hB
  have HP := Lib.hid hp
  have HR := Lib.hid hR
  have hni : ((n2 : Nat) : Int) ≤ 140737488351232 := by omega
  generalize encS n key n1 T s = x at *
  generalize hE s = r at *
  clear hp k hl hA hB hnil hR hrs hs
  go_enter Tryd.func6, Tryd.ntmps6
  go_wp2_with fail
  refine HS.out.mono ?_
  rintro e w1 ⟨rfl, h1⟩
  have H1 := Lib.hid h1
  clear h1
  go_wp2_with fail
  refine (HN.out w1 (HA.out.keep H1.out) (HB.out.keep H1.out) H1.out (HP.out.keep H1.out)).mono ?_
  rintro e w2 ⟨c, g, rfl, h1⟩
  have H2 := Lib.hid h1
  clear h1
  go_wp2_with fail
  refine (HES.out w2 c g H2.out).mono ?_
  rintro e w3 ⟨rfl, h1⟩
  have H3 := Lib.hid h1
  clear h1
  go_wp2_with fail
  go_loopw [14] (fun i wr => ∃ j : Nat, j ≤ 6 ∧ i = .int .i64 (j : Nat) ∧ Cu w c g n key n1 T wr) (fun i _ => 6 - (intOf i).toNat)
  case atStart => exact ⟨0, by decide, rfl, H3.out⟩
  case round =>
    obtain ⟨j, hj, rfl, h1⟩ := hrel
    have H4 := Lib.hid h1
    clear h1
    by_cases hlt : j < n2 ∧ j < 6
    · have q1 : decide (j < n2) = true := by rw [decide_eq_true_eq]; exact hlt.1
      have q2 : decide ((j : Int) < 6) = true := by rw [decide_eq_true_eq]; omega
      have hji : (j : Int) ≤ 6 := by omega
      have hjn : j < n2 := hlt.1
      have hj6 : j < 6 := hlt.2
      obtain ⟨B, o, rfl, hB, hs⟩ := HR.out (by omega)
      have HC := Lib.hid fun W (h : Cu w c g n key n1 T W) => show W.cell? ⟨B, o + j, none⟩ = some (.string (rs j)) from (h.below.cell (p := ⟨B, o + j, none⟩) hB).trans (hs j hjn)
      have e4 := HC.out wr H4.out
      have HE4 := Lib.hid (HER.out j wr c g H4.out)
      have HD4 := Lib.hid fun W h => HDR.out j W c g h
      generalize rs j = y at *
      clear hlt hs
      go_wp2_with fail
      refine HE4.out.mono ?_
      rintro e w5 ⟨rfl, h1⟩
      have H5 := Lib.hid h1
      have e5 := HC.out w5 h1
      clear h1
      go_wp2_with fail
      refine (HD4.out w5 H5.out).mono ?_
      rintro e w6 ⟨rfl, h1⟩
      have H6 := Lib.hid h1
      clear h1
      go_wp2_with fail
      go_roundw
      case rel => exact ⟨j + 1, by omega, by go_num, H6.out⟩
      case measure => simp [intOf]; omega
    · by_cases hjn : j < n2
      · have q1 : decide (j < n2) = true := by rw [decide_eq_true_eq]; exact hjn
        have q2 : decide ((j : Int) < 6) = false := by rw [decide_eq_false_iff_not]; omega
        clear hlt hjn
        go_wp2_with fail
        refine (HES.out wr c g H4.out).mono ?_
        rintro e w5 ⟨rfl, h1⟩
        have H5 := Lib.hid h1
        clear h1
        go_wp2_with fail
        go_ret
        exact ⟨rfl, H5.out.below⟩
      · have q1 : decide (j < n2) = false := by rw [decide_eq_false_iff_not]; exact hjn
        clear hlt hjn
        go_wp2_with fail
        refine (HES.out wr c g H4.out).mono ?_
        rintro e w5 ⟨rfl, h1⟩
        have H5 := Lib.hid h1
        clear h1
        go_wp2_with fail
        go_ret
        exact ⟨rfl, H5.out.below⟩
/-- FfxAgain answers true -/
theorem again10_all (A0 A1 A2 : Option Addr) (n0 n1 n2 c0 c1 c2 : Nat) (key T : Nat → Nat) (rs : Nat → ByteArray) (s : ByteArray) (w : World) (hp : Pws w) (hl0 : n0 ≤ 140737488351232) (hA : SlB w A0 n0 key) (hB : SlB w A1 n1 T) (hnil : A1 = none → n1 = 0 ∧ c1 = 0) (hR : SlS w A2 n2 rs) (hrs : ∀ j, (rs j).size ≤ maxLen) (hn2 : n2 ≤ 140737488351232) (hs : s.size ≤ maxLen) :
    Calls Tryd.prog 6 #[.slice A0 n0 c0, .slice A1 n1 c1, .slice A2 n2 c2, .string s] w fun e w' => e = .returned (.bool true) ∧ Below w.heap.size w w' := by
  by_cases h : n0 = 16 ∨ n0 = 32
  · obtain ⟨n, hn, hl⟩ : ∃ n, (n = 4 ∨ n = 8) ∧ 4 * n = n0 := by
      rcases h with h | h
      · exact ⟨4, Or.inl rfl, by omega⟩
      · exact ⟨8, Or.inr rfl, by omega⟩
    by_cases ht16 : 16 < n1
    · exact again10_long A0 A1 A2 n0 n n1 n2 c0 c1 c2 key s w hp hn hl hA ht16
    · exact again10_go A0 A1 A2 n0 n n1 n2 c0 c1 c2 key T rs s w hp ⟨hn, fun j hj => hA.byte (by omega), by omega, fun j hj => hB.byte hj⟩ hl hA hB hnil hR hrs hn2 hs
  · exact again10_key A0 A1 A2 n0 n1 n2 c0 c1 c2 s w hp (by omega) (by omega) hl0
end Go.Proofs.YtniaelaolmjkaaaDoor
/- A []string parameter, opened. -/
namespace Go.Proofs.YtniaelaolmjkaaaDoor
set_option maxRecDepth 100000
open Go.RowKit
open Go.ChangeShapes Go.WideShapes Go.ChangeAt in
theorem open_strs {H : Type} {enc : TypeId × Value → H} {W : World} {base : Nat} {v : Value} {d : DataW H} {p : List MemPlace}
    (hval : Value.okWide Tryd.prog W .any base 41 v) (h : DataW.Trod enc Tryd.prog W 0 (fun _ => true) true 41 v d p) :
    ∃ A n c s, v = .slice A n c ∧ SlS W A n s ∧ (n ≤ c ∧ (A = none → n = 0 ∧ c = 0) ∧ ∃ els sp, (d = .slice els sp ∧ els.length + sp.length = c) ∨ (d = .nil ∧ c = 0)) := by
  obtain ⟨a0, len, cap, rfl⟩ := okWide_slice Tryd.underlying41 hval
  obtain ⟨fuel, hf⟩ := h
  rcases Go.ChangeShapes.open_strings Tryd.underlying41 Tryd.underlying9 (show Tryd.prog.cellsOf 9 = 1 by kernel_rfl) hf with ⟨hcs, hx⟩ | ⟨a, len', cap', ss, hcs, _, hl, hm, hz, hx, hcell, _⟩
  · simp only [Value.cells] at hcs
    injection hcs with hcs
    injection hcs with h1 h2 h3
    subst h1 h2 h3
    injection hx with hd _
    exact ⟨none, 0, 0, fun _ => ByteArray.empty, rfl, fun h => absurd h (Nat.lt_irrefl 0), Nat.le_refl _, fun _ => ⟨rfl, rfl⟩, [], [], Or.inr ⟨hd, rfl⟩⟩
  · simp only [Value.cells] at hcs
    injection hcs with hcs
    injection hcs with h1 h2 h3
    subst h1 h2 h3
    injection hx with hd _
    have hz' : ss.length = cap := by simpa using hz
    refine ⟨some a, len, cap, fun j => ss.getD j ByteArray.empty, rfl, fun hn => ?_, hl, (fun h => by cases h), strs (ss.take len), strs (ss.drop len), Or.inl ⟨hd, by simp [strs]; omega⟩⟩
    obtain ⟨b, off, spot⟩ := a
    have hspot : spot = none := by simpa [Addr.add] using World.cell?_spot (hcell 0 (by omega))
    subst hspot
    refine ⟨b, off, rfl, block_lt (hcell 0 (by omega)), fun j hj => ?_⟩
    have := hcell j (by omega)
    by_cases h0 : j = 0
    · subst h0; simpa [Addr.add] using this
    · simpa [Addr.add, h0] using this
open Go.ChangeShapes Go.WideShapes Go.ChangeAt in
theorem open_strm {H : Type} {enc : TypeId × Value → H} {W : World} {base : Nat} {v : Value} {d : DataW H} {p : List MemPlace}
    (hval : Value.okWide Tryd.prog W .any base 41 v) (h : DataW.Trod enc Tryd.prog W 0 (fun _ => true) true 41 v d p) :
    ∃ A n c s, v = .slice A n c ∧ SlS W A n s ∧ (∀ j, (s j).size ≤ maxLen) ∧ (n ≤ c ∧ (A = none → n = 0 ∧ c = 0) ∧ ∃ els sp, (d = .slice els sp ∧ els.length + sp.length = c) ∨ (d = .nil ∧ c = 0)) := by
  obtain ⟨a0, len, cap, rfl⟩ := okWide_slice Tryd.underlying41 hval
  obtain ⟨fuel, hf⟩ := h
  rcases Go.ChangeShapes.open_strings Tryd.underlying41 Tryd.underlying9 (show Tryd.prog.cellsOf 9 = 1 by kernel_rfl) hf with ⟨hcs, hx⟩ | ⟨a, len', cap', ss, hcs, _, hl, hm, hz, hx, hcell, hsz⟩
  · simp only [Value.cells] at hcs
    injection hcs with hcs
    injection hcs with h1 h2 h3
    subst h1 h2 h3
    injection hx with hd _
    exact ⟨none, 0, 0, fun _ => ByteArray.empty, rfl, fun h => absurd h (Nat.lt_irrefl 0), fun _ => (by decide : ByteArray.empty.size ≤ maxLen), Nat.le_refl _, fun _ => ⟨rfl, rfl⟩, [], [], Or.inr ⟨hd, rfl⟩⟩
  · simp only [Value.cells] at hcs
    injection hcs with hcs
    injection hcs with h1 h2 h3
    subst h1 h2 h3
    injection hx with hd _
    have hz' : ss.length = cap := by simpa using hz
    refine ⟨some a, len, cap, fun j => ss.getD j ByteArray.empty, rfl, fun hn => ?_, fun j => ?_, hl, (fun h => by cases h), strs (ss.take len), strs (ss.drop len), Or.inl ⟨hd, by simp [strs]; omega⟩⟩
    rotate_left
    · show (ss.getD j ByteArray.empty).size ≤ maxLen
      rw [List.getD_eq_getElem?_getD]
      cases hj : ss[j]? with
      | none => exact (by decide : ByteArray.empty.size ≤ maxLen)
      | some y => exact hsz y (List.mem_of_getElem? hj)
    obtain ⟨b, off, spot⟩ := a
    have hspot : spot = none := by simpa [Addr.add] using World.cell?_spot (hcell 0 (by omega))
    subst hspot
    refine ⟨b, off, rfl, block_lt (hcell 0 (by omega)), fun j hj => ?_⟩
    have := hcell j (by omega)
    by_cases h0 : j = 0
    · subst h0; simpa [Addr.add] using this
    · simpa [Addr.add, h0] using this
open Go.ChangeShapes Go.WideShapes Go.ChangeAt in
theorem strs_len {H : Type} {ts : List TypeId} {ds : List (DataW H)} (h : (DataW.weightsEach Tryd.prog ts ds).all (· ≤ reachBytes) = true) {j : Nat} {d : DataW H} (ht : ts[j]? = some 41) (hd : ds[j]? = some d)
    {n c : Nat} {X : Prop} (z : n ≤ c ∧ X ∧ ∃ els sp, (d = .slice els sp ∧ els.length + sp.length = c) ∨ (d = .nil ∧ c = 0)) : n ≤ 140737488351232 := by
  obtain ⟨h1, _, els, sp, h2⟩ := z
  rcases h2 with ⟨rfl, h2⟩ | ⟨_, h2⟩
  · have h3 := sized_slice h ht hd Tryd.underlying41
    rw [show Tryd.prog.bytesOf 9 = 16 by kernel_rfl] at h3
    have : reachBytes = 140737488351232 := rfl
    omega
  · omega
end Go.Proofs.YtniaelaolmjkaaaDoor
/- Two rows of bytes that grow in turn. -/
namespace Go.Proofs.YtniaelaolmjkaaaDoor
open Go.RowKit
/-- two rows do not share a block -/
def Apart (v1 v2 : Value) : Prop := ∀ g, v1.ownBlock = some g → v2.ownBlock ≠ some g
theorem Apart.symm {v1 v2 : Value} (h : Apart v1 v2) : Apart v2 v1 := fun g h2 h1 => h g h1 h2
theorem Apart.nil (v : Value) : Apart (.slice none 0 0) v := fun g h => by simp [Value.ownBlock] at h
theorem OwnB.grown {w w' : World} {base n : Nat} {v v1 : Value} {f : Nat → Nat} (h : OwnB w base v n f) (hg : w.grownBy w' v1.ownBlock) (ha : Apart v1 v) : OwnB w' base v n f := by
  refine World.ownsRow.kept h hg ?_
  cases e : v.ownBlock with
  | none => exact Or.inl rfl
  | some g => exact Or.inr fun e1 => ha g e1.symm e
/-- append, where another row grows too -/
theorem wpList_appW {ops : Array Oper} {rest : List Oper} {o : Oper} {a : Act} {Q : Exit → Act → World → Prop} {w : World} (hgd : o.guard = none) (s x : Operand)
    (ho : o.op = .call { callee := .builtin .append, args := #[s, x], argTypes := #[22, 22] })
    (base : Nat) (v : Value) (n : Nat) (f : Nat → Nat) (hs : a.eval s = v) (hown : OwnB w base v n f)
    (A : Option Addr) (m cap : Nat) (g : Nat → Nat) (hx : a.eval x = .slice A m cap) (hA : SlB w A m g) (hnil : A = none → m = 0 ∧ cap = 0) (hn : n + m ≤ 100000000000000) (hbase : base ≤ w.heap.size)
    (v2 : Value) (n2 : Nat) (f2 : Nat → Nat) (h2 : OwnB w base v2 n2 f2) (hap : Apart v v2)
    (h : ∀ v' w', OwnB w' base v' (n + m) (catB n f g) → OwnB w' base v2 n2 f2 → Apart v' v2 → Below base w w' → wpList Tryd.prog ops Q rest (a.put o.dst v') w') : wpList Tryd.prog ops Q (o :: rest) a w := by
  obtain ⟨i, hi, hz, hsz, hb⟩ := info_parts info8
  cases A with
  | none =>
    obtain ⟨rfl, rfl⟩ := hnil rfl
    refine wpList_append_own_none hgd s x 22 ho base 5 i 1 Tryd.underlying22 hi v n _ hs hown hx ?_
    refine h v w ?_ h2 hap (Below.refl _ _)
    exact OwnB.congr hown fun j hj => by unfold catB; rw [if_pos (show j < n from hj)]
  | some ad =>
    refine wpList_append_own_at w hgd s x 22 ho base 5 i (.int .u8 0) 1 1 Tryd.underlying22 hi hz hsz hb rfl (by decide) v n _ hs hown ad m cap (bytesL m g) hx (by simp [bytesL]) ?_ (bytes_one m g) (by unfold maxLen; omega) (by omega) hbase ?_
    · intro j u hj
      obtain ⟨hjm, rfl⟩ := bytesL_get m g j u hj
      obtain ⟨B, off, e, _, hc⟩ := hA (by omega)
      obtain rfl : ad = ⟨B, off, none⟩ := Option.some.inj e
      rw [Go.WideShapes.add_plain]
      exact (hc j hjm).2
    · intro v' w' h1 hg _ hat
      rw [bytesL_cat] at h1
      refine h v' w' h1 (h2.grown hg hap) ?_ ((Below.refl base w).grown hg hbase fun k hk => (hown.lt k hk).1)
      rcases hat with e | e
      · intro b hb'
        rw [e] at hb'
        exact hap b hb'
      · intro b hb' hb2
        rw [e] at hb'
        injection hb' with hb'
        have := (World.ownsRow.lt h2 b hb2).2
        omega
/-- append, where another row stays as it is, as a run -/
theorem run_appW (w : World) (base : Nat) (v : Value) (n : Nat) (f : Nat → Nat) (hown : OwnB w base v n f) (ad : Addr) (m cap : Nat) (g : Nat → Nat) (hA : SlB w (some ad) m g) (hn : n + m ≤ 100000000000000) (hbase : base ≤ w.heap.size)
    (v2 : Value) (n2 : Nat) (f2 : Nat → Nat) (h2 : OwnB w base v2 n2 f2) (hap : Apart v v2) :
    ∃ v' w', (Builtin.append_ #[22, 22] 22 #[v, .slice (some ad) m cap]).run Tryd.prog w = .ok v' w' ∧ OwnB w' base v' (n + m) (catB n f g) ∧ OwnB w' base v2 n2 f2 ∧ Apart v' v2 ∧ Below base w w' := by
  obtain ⟨i, hi, hz, hsz, hb⟩ := info_parts info8
  obtain ⟨v', w', hr, h1, hg, _, hat⟩ := run_append_own_at (P := Tryd.prog) w base 22 22 5 i (.int .u8 0) 1 1 Tryd.underlying22 hi hz hsz hb rfl (by decide) v n _ hown ad m cap (bytesL m g) (by simp [bytesL])
    (fun j u hj => by
      obtain ⟨hjm, rfl⟩ := bytesL_get m g j u hj
      obtain ⟨B, off, e, _, hc⟩ := hA (by omega)
      obtain rfl : ad = ⟨B, off, none⟩ := Option.some.inj e
      rw [Go.WideShapes.add_plain]
      exact (hc j hjm).2) (bytes_one m g) (by unfold maxLen; omega) (by omega) hbase
  rw [bytesL_cat] at h1
  refine ⟨v', w', hr, h1, h2.grown hg hap, ?_, (Below.refl base w).grown hg hbase fun k hk => (hown.lt k hk).1⟩
  rcases hat with e | e
  · intro b hb'
    rw [e] at hb'
    exact hap b hb'
  · intro b hb' hb2
    rw [e] at hb'
    injection hb' with hb'
    have := (World.ownsRow.lt h2 b hb2).2
    omega
/-- append in a region that draws its order, where another row stays as it is -/
theorem step_appW {ops : Array Oper} {o : Oper} {a : Act} {w : World} {K : Act → World → Prop} {Q : Exit → Act → World → Prop} {E : Prop} (s x : Operand)
    (ho : o.op = .call { callee := .builtin .append, args := #[s, x], argTypes := #[22, 22] }) (ht : o.type = 22) (hw : Region.wanted o (yielded ops a.tmps) = true)
    (base : Nat) (v : Value) (n : Nat) (f : Nat → Nat) (hs : a.eval s = v) (hown : OwnB w base v n f)
    (ad : Addr) (m cap : Nat) (g : Nat → Nat) (hx : a.eval x = .slice (some ad) m cap) (hA : SlB w (some ad) m g) (hn : n + m ≤ 100000000000000) (hbase : base ≤ w.heap.size)
    (v2 : Value) (n2 : Nat) (f2 : Nat → Nat) (h2 : OwnB w base v2 n2 f2) (hap : Apart v v2)
    (h : ∀ v' w', OwnB w' base v' (n + m) (catB n f g) → OwnB w' base v2 n2 f2 → Apart v' v2 → Below base w w' → K (a.put o.dst v') w') :
    if Region.wanted o (yielded ops a.tmps) = true then Oper.wp Tryd.prog o a w K Q else E := by
  rw [if_pos hw]
  obtain ⟨v', w', hr, h1, h3, h4, h5⟩ := run_appW w base v n f hown ad m cap g hA hn hbase v2 n2 f2 h2 hap
  unfold Oper.wp
  simp [execOp, ho, ht, resolve, invoke, builtin, hs, hx, hr, Result.andThen]
  exact h v' w' h1 h3 h4 h5
/-- a row known whole, as one that may grow -/
theorem RowB.own {w : World} {g n base : Nat} {f : Nat → Nat} (h : RowB w g n f) (hb : base ≤ g) (hn : n ≤ maxLen) : OwnB w base (.slice (some ⟨g, 0, none⟩) n n) n f :=
  ⟨by simp [bytesL], Or.inr ⟨g, n, (bytesL n f).toArray, rfl, hb, h, Nat.le_refl _, hn, by simp [bytesL], by rw [Nat.mul_one, List.toList_toArray]; exact List.take_of_length_le (by simp [bytesL])⟩⟩
theorem OwnB.at0 {w : World} {base n st c : Nat} {f : Nat → Nat} (h : OwnB w base (.slice (some ⟨st, 0, none⟩) n c) n f) (hf : ∀ j, j < n → f j < 256) {j : Nat} (hj : j < n) : w.cell? ⟨st, j, none⟩ = some (.int .u8 (f j : Nat)) := by
  obtain ⟨A, c', e, hs⟩ := OwnB.slice h hf
  cases e
  obtain ⟨B, o, e, _, hc⟩ := hs (by omega)
  cases e
  have := (hc j hj).2
  rwa [Nat.zero_add] at this
theorem ownBlock_at (g n c : Nat) : (Value.slice (some ⟨g, 0, none⟩) n c).ownBlock = some g := rfl
end Go.Proofs.YtniaelaolmjkaaaDoor
/- The reference of layer 10: ciphers, numbers in bytes. -/
namespace Go.Proofs.YtniaelaolmjkaaaDoor
set_option maxRecDepth 100000
open Go.RowKit

/-- a cipher of the reference's, at c -/
structure RCip (w : World) (c g n : Nat) (key : Nat → Nat) (t : Nat) (T : Nat → Nat) : Prop where
  key : RKey w g n key
  ptr : w.cell? ⟨c, 0, none⟩ = some (.pointer (some ⟨g, 0, none⟩))
  tw : ∃ A cap, w.cell? ⟨c, 1, none⟩ = some (.slice A t cap) ∧ SlB w A t T ∧ t ≤ cap ∧ (A = none → t = 0 ∧ cap = 0) ∧ ∀ B o, A = some ⟨B, o, none⟩ → o = 0
theorem RCip.lt {w : World} {c g n t : Nat} {key T : Nat → Nat} (h : RCip w c g n key t T) : c < w.heap.size := block_lt h.ptr
theorem RCip.keep {w w' : World} {c g n t : Nat} {key T : Nat → Nat} (h : RCip w c g n key t T) (hb : Below w.heap.size w w') : RCip w' c g n key t T := by
  obtain ⟨A, cap, h1, h2, h3, h4⟩ := h.tw
  exact ⟨h.key.keep hb, (hb.cell (p := ⟨c, 0, none⟩) h.lt).trans h.ptr, A, cap, (hb.cell (p := ⟨c, 1, none⟩) h.lt).trans h1, h2.keep hb, h3, h4⟩
theorem RCip.chg {w w' : World} {c g n t K : Nat} {z : Int} {key T : Nat → Nat} (h : RCip w c g n key t T) (hc : Chg K w w') (hK : w.cell? ⟨K, 0, none⟩ = some (.int .i64 z)) : RCip w' c g n key t T := by
  obtain ⟨A, cap, h1, h2, h3, h4, h5⟩ := h.tw
  have hne : c ≠ K := fun e => by
    have hp := h.ptr
    rw [e, hK] at hp
    cases hp
  refine ⟨h.key.chg hc hK, (hc.cell h.lt hne).trans h.ptr, A, cap, (hc.cell h.lt hne).trans h1, fun h0 => ?_, h3, h4, h5⟩
  obtain ⟨B, o, e, hB, hj⟩ := h2 h0
  obtain rfl := h5 B o e
  have hBK : B ≠ K := fun e => by
    have hp := (hj 0 h0).2
    rw [e, hK] at hp
    cases hp
  exact ⟨B, 0, e, Nat.lt_of_lt_of_le hB hc.size, fun j hj' => ⟨(hj j hj').1, (hc.cell hB hBK).trans (hj j hj').2⟩⟩
theorem RCip.drewN {w : World} {c g n t : Nat} {key T : Nat → Nat} (h : RCip w c g n key t T) (k : Nat) : RCip (w.drewN k) c g n key t T := by
  obtain ⟨A, cap, h1, h2, h3, h4⟩ := h.tw
  obtain ⟨L, cp, G, C, r1, r2, r3⟩ := h.key.rounds
  obtain ⟨B, b1, b2⟩ := h.key.box
  obtain ⟨U, u1, u2⟩ := h.key.unbox
  exact ⟨⟨⟨L, cp, G, C, r1, r2, fun j hj => ⟨(r3 j hj).1, (r3 j hj).2.drewN k⟩⟩, ⟨B, b1, b2.drewN k⟩, ⟨U, u1, u2.drewN k⟩⟩, h.ptr, A, cap, h1, h2.drewN k, h3, h4⟩
theorem rnew10_short (A : Option Addr) (len cap : Nat) (A2 : Option Addr) (t c2 : Nat) (w : World) (hl : len ≠ 16) (hl2 : len ≠ 32) (hl3 : len ≤ 140737488351232) :
    Calls Tryd.prog 9 #[.slice A len cap, .slice A2 t c2] w fun e w' => e = .returned (.tuple #[.pointer none, .int .i64 1]) ∧ w = w' := by
  have HN := Lib.hid (rnew_short A len cap w hl hl2 hl3)
  clear hl hl2 hl3
  go_enter Tryd.func9, Tryd.ntmps9
  go_wp2_with (go_at_call 20; refine HN.out.mono ?_; rintro e w1 ⟨rfl, rfl⟩)
  go_ret2
  exact ⟨rfl, rfl⟩
theorem rnew10_long (A : Option Addr) (len n cap : Nat) (key : Nat → Nat) (A2 : Option Addr) (t c2 : Nat) (w : World) (hn : n = 4 ∨ n = 8) (hl : 4 * n = len) (hc : len ≤ cap) (hA : SlB w A len key) (ht : 16 < t) :
    Calls Tryd.prog 9 #[.slice A len cap, .slice A2 t c2] w fun e w' => e = .returned (.tuple #[.pointer none, .int .i64 2]) ∧ Below w.heap.size w w' := by
  have HN := Lib.hid (rnew_at A len n cap key w hl hn hc hA)
  have hb : decide ((16 : Int) < (t : Nat)) = true := by rw [decide_eq_true_eq]; omega
  clear hA hn ht hl hc
  go_enter Tryd.func9, Tryd.ntmps9
  go_wp2_with (go_at_call 20; refine HN.out.mono ?_; rintro e w1 ⟨g, rfl, h1, h2, h3⟩; have H3 := Lib.hid h3; clear h1 h2 h3)
  go_ret2
  exact ⟨rfl, H3.out⟩
set_option maxHeartbeats 800000 in
theorem rnew10_any (A : Option Addr) (len n cap : Nat) (key : Nat → Nat) (A2 : Option Addr) (t c2 : Nat) (T : Nat → Nat) (w : World) (hn : n = 4 ∨ n = 8) (hl : 4 * n = len) (hc : len ≤ cap) (hA : SlB w A len key) (ht : t ≤ 16) (hA2 : SlB w A2 t T) (hnil : A2 = none → t = 0 ∧ c2 = 0) :
    Calls Tryd.prog 9 #[.slice A len cap, .slice A2 t c2] w fun e w' => ∃ c g, e = .returned (.tuple #[.pointer (some ⟨c, 0, none⟩), .int .i64 0]) ∧ RCip w' c g n key t T ∧ Below w.heap.size w w' := by
  have HN := Lib.hid (rnew_at A len n cap key w hl hn hc hA)
  have hb : decide ((16 : Int) < (t : Nat)) = false := by rw [decide_eq_false_iff_not]; omega
  have HA2 := Lib.hid hA2
  have HBB := Lib.hid (show ∀ j, j < t → T j < 256 from fun j hj => hA2.byte hj)
  have HNIL := Lib.hid hnil
  have HT := Lib.hid ht
  clear hA hn hA2 hnil ht hl hc
  go_enter Tryd.func9, Tryd.ntmps9
  go_wp2_with (first | (go_at_call 20; refine HN.out.mono ?_; rintro e w1 ⟨g, rfl, h1, h2, h3⟩; have H1 := Lib.hid h1; have H2 := Lib.hid h2; have H3 := Lib.hid h3; have HE := Lib.hid (OwnB.empty w1 w1.heap.size (fun _ => 0) (Nat.le_refl _)); have HB := Lib.hid ((Below.refl w1.heap.size w1).alloc (Nat.le_refl _) (.cells #[] 5)); clear h1 h2 h3) | (at_builtin; refine wpList_appO rfl (.tmp 19) (.tmp 20) rfl w1.heap.size _ 0 (fun _ => 0) rfl HE.out A2 t c2 T rfl ((HA2.out.keep H3.out).keep HB.out) HNIL.out (by have := HT.out; omega) HB.out.size (fun j hj => absurd hj (Nat.not_lt_zero _)) HBB.out ?_; intro A3 c3 w2 ho2 hs2 hn2 hb2; rw [Nat.zero_add] at ho2 hs2 hn2 ⊢; have HO2 := Lib.hid ho2; have HS2 := Lib.hid hs2; have HN2 := Lib.hid hn2; have HB2 := Lib.hid (HB.out.trans hb2); clear ho2 hs2 hn2 hb2))
  go_ret2
  have hba := (Below.refl w2.heap.size w2).alloc (Nat.le_refl _) (.cells #[.pointer (some ⟨g, 0, none⟩), .slice A3 t c3] 55)
  have hS : SlB w2 A3 t T := fun h => by
    obtain ⟨B', o', e', l', c'⟩ := HS2.out h
    exact ⟨B', o', e', l', fun j hj => by have := c' j hj; unfold catB at this; rw [if_neg (Nat.not_lt_zero _), Nat.sub_zero] at this; exact this⟩
  refine ⟨w2.heap.size, g, rfl, ⟨(H2.out.keep HB2.out).keep hba, (World.cell?_alloc_at _ _ _ _ rfl).trans rfl, A3, c3, (World.cell?_alloc_at _ _ _ _ rfl).trans rfl, hS.keep hba, HN2.out.1, HN2.out.2.2, fun B o e => by
    subst e
    rcases HO2.out.2 with ⟨e, _⟩ | ⟨_, _, _, e, _⟩
    · cases e
    · cases e; rfl⟩, ?_⟩
  exact H3.out.trans ((HB2.out.mono H3.out.size).trans (hba.mono (Nat.le_trans H3.out.size HB2.out.size)))

/-- byte j of a number in k bytes -/
def bK (k x j : Nat) : Nat := x / 256 ^ (k - 1 - j) % 256
theorem bK_lt (k x j : Nat) : bK k x j < 256 := Nat.mod_lt _ (by decide)
set_option maxHeartbeats 800000 in
theorem rbytes_any (x k : Nat) (w : World) (hx : x ≤ 9223372036854775807) (hk : k ≤ 8) :
    Calls Tryd.prog 42 #[.int .i64 (x : Nat), .int .i64 (k : Nat)] w fun e w' => ∃ A c, e = .returned (.slice A k c) ∧ OwnB w' w.heap.size (.slice A k c) k (bK k x) ∧ Below w.heap.size w w' := by
  have hxi : (x : Int) ≤ 9223372036854775807 := by omega
  have hki : (k : Int) ≤ 8 := by omega
  go_enter Tryd.func42, Tryd.ntmps42
  go_wp2_with fail
  go_loopw [5, 6] (fun v t wr => ∃ (j : Nat) (A c : _), j ≤ k ∧ t = .int .i64 ((k : Int) - 1 - (j : Int)) ∧ v = .slice A j c ∧ OwnB wr w.heap.size (.slice A j c) j (bK k x) ∧ Below w.heap.size w wr) (fun _ t _ => (intOf t + 1).toNat)
  case atStart => exact ⟨0, none, 0, Nat.zero_le _, by go_num, rfl, OwnB.nil _ _ _, Below.refl _ _⟩
  case round =>
    obtain ⟨j, A5, c5, hj, rfl, rfl, h1, h2⟩ := hrel
    have G1 := Lib.hid h1
    have G2 := Lib.hid h2
    clear h1 h2
    by_cases hjk : j < k
    · obtain ⟨q, hq⟩ : ∃ q, q = k - 1 - j := ⟨_, rfl⟩
      obtain ⟨q8, hq8⟩ : ∃ q8, q8 = 8 * q := ⟨_, rfl⟩
      have eq : (k : Int) - 1 - j = q := by omega
      have eq8 : (8 : Int) * q = q8 := by omega
      have hqi : (q : Int) ≤ 7 := by omega
      have hq8i : (q8 : Int) ≤ 56 := by omega
      obtain ⟨y, hy⟩ : ∃ y, y = x / 2 ^ q8 := ⟨_, rfl⟩
      have hyx : y ≤ x := by rw [hy]; exact Nat.div_le_self _ _
      have ey : (x : Int) / 2 ^ q8 = y := by rw [hy]; simp
      obtain ⟨z, hz⟩ : ∃ z, z = y % 256 := ⟨_, rfl⟩
      have ez : (y : Int) % 256 = z := by omega
      have lz : z < 256 := by omega
      have HZP := Lib.hid (show z = bK k x j by unfold bK; rw [hz, hy, hq8, ← hq, Nat.pow_mul])
      have HZ1 := Lib.hid fun W => one_sl W z lz
      have hyi : (y : Int) ≤ 9223372036854775807 := by omega
      have HEQ := Lib.hid eq
      have HJK := Lib.hid (show j + 1 ≤ k by omega)
      clear hq hq8 hy hz
      rw [eq]
      have HO3 := Lib.hid (G1.out.alloc (.cells #[.int .u8 (z : Nat)] 5))
      have HB3 := Lib.hid (G2.out.alloc G2.out.size (.cells #[.int .u8 (z : Nat)] 5))
      go_wp2_with (refine wpList_appO rfl (.tmp 13) (.tmp 19) rfl w.heap.size _ j (bK k x) rfl HO3.out (some ⟨_, 0, none⟩) 1 1 (fun _ => z) rfl (HZ1.out _) (fun h => by cases h) (by omega) HB3.out.size (fun i _ => bK_lt k x i) (fun _ _ => lz) ?_; intro A4 c4 w4 h1 h2 h3 h4; have HO4 := Lib.hid (OwnB.congr (g := bK k x) h1 fun i hi => by unfold catB; by_cases e : i < j; rw [if_pos e]; rw [if_neg e, HZP.out, show i = j by omega]); have HB4 := Lib.hid (HB3.out.trans h4); clear h1 h2 h3 h4)
      exact ⟨⟨j + 1, A4, c4, HJK.out, congrArg _ (by have := HEQ.out; omega), rfl, HO4.out, HB4.out⟩, by simp [intOf]⟩
    · obtain rfl : j = k := by omega
      have et : (j : Int) - 1 - (j : Nat) = -1 := by omega
      rw [et]
      clear et
      go_wp2_with fail
      go_ret
      exact ⟨A5, c5, rfl, G1.out, G2.out⟩
theorem rdigits_any (n i : Nat) (w : World) (hn : n ≤ 1000000) (hi : i ≤ 1000000) :
    Calls Tryd.prog 26 #[.int .i64 (n : Nat), .int .i64 (i : Nat)] w fun e w' => e = .returned (.int .i64 (fd n i : Nat)) ∧ w = w' := by
  have hni : (n : Int) ≤ 1000000 := by omega
  have hii : (i : Int) ≤ 1000000 := by omega
  by_cases h : i % 2 = 0
  · have hb : ((i : Int) % 2 == 0) = true := by simp; omega
    have E1 := Lib.hid (show fd n i = n / 2 from if_pos h)
    clear h
    go_enter Tryd.func26, Tryd.ntmps26
    go_wp2_with fail
    go_ret
    exact ⟨by rw [E1.out]; simp, rfl⟩
  · have hb : ((i : Int) % 2 == 0) = false := by simp; omega
    have E1 := Lib.hid (show fd n i = n - n / 2 from if_neg h)
    clear h
    go_enter Tryd.func26, Tryd.ntmps26
    go_wp2_with fail
    go_ret
    exact ⟨by rw [E1.out]; simp; omega, rfl⟩
end Go.Proofs.YtniaelaolmjkaaaDoor
/- The reference of layer 9: Power, Width. -/
namespace Go.Proofs.YtniaelaolmjkaaaDoor
open Go.RowKit

set_option maxHeartbeats 400000 in
theorem qpower_any (m : Int) (w : World) :
    Calls Tryd.prog 25 #[.int .i64 m] w fun e w' => e = .returned (.int .i64 (pw m : Nat)) ∧ w = w' := by
  by_cases h1 : m < 1
  · have HZ := Lib.hid (pw_none (Or.inl h1))
    go_enter Tryd.func25, Tryd.ntmps25
    go_wp2_with fail
    go_ret
    exact ⟨by rw [HZ.out]; rfl, rfl⟩
  · by_cases h2 : 16 < m
    · have HZ := Lib.hid (pw_none (Or.inr h2))
      go_enter Tryd.func25, Tryd.ntmps25
      go_wp2_with fail
      go_ret
      exact ⟨by rw [HZ.out]; rfl, rfl⟩
    · obtain ⟨K, rfl⟩ : ∃ K : Nat, m = (K : Int) := ⟨m.toNat, by omega⟩
      have HZ := Lib.hid (pw_at (k := K) (by omega) (by omega))
      go_enter Tryd.func25, Tryd.ntmps25
      go_wp2_with fail
      go_loop [3, 4] (fun p i => ∃ k : Nat, k ≤ K ∧ i = .int .i64 k ∧ p = .int .i64 (10 ^ k : Nat)) (fun _ i => K - (intOf i).toNat)
      case atStart => exact ⟨0, Nat.zero_le _, rfl, rfl⟩
      case round =>
        obtain ⟨k, hk, rfl, rfl⟩ := hrel
        by_cases hlt : k < K
        · have hb := ten_le k (by omega)
          have HS := Lib.hid (show 10 ^ (k + 1) = 10 * 10 ^ k by rw [Nat.pow_succ, Nat.mul_comm])
          generalize 10 ^ k = q at *
          go_wp2_with fail
          go_round
          case rel => exact ⟨k + 1, by omega, by go_num, by rw [HS.out]; go_num⟩
          case measure => simp [intOf]; omega
        · obtain rfl : k = K := by omega
          generalize 10 ^ k = q at *
          go_wp2_with fail
          go_ret
          exact ⟨by rw [HZ.out]; rfl, rfl⟩

set_option maxHeartbeats 400000 in
theorem qwidth_any (m : Int) (w : World) :
    Calls Tryd.prog 41 #[.int .i64 m] w fun e w' => e = .returned (.int .i64 (wd m : Nat)) ∧ w = w' := by
  have HC := Lib.hid (qpower_any m w)
  have hle := pw_le m
  by_cases h : pw m = 0
  · have HZ := Lib.hid (wd_none h)
    rw [h] at HC
    clear h hle
    go_enter Tryd.func41, Tryd.ntmps41
    go_wp2_with fail
    refine HC.out.mono ?_
    rintro e w' ⟨rfl, rfl⟩
    go_wp2_with fail
    go_loop [3, 4] (fun n p => n = .int .i64 0 ∧ p = .int .i64 (-1)) (fun _ _ => 0)
    case atStart => exact ⟨rfl, rfl⟩
    case round =>
      obtain ⟨rfl, rfl⟩ := hrel
      go_wp2_with fail
      go_ret
      exact ⟨by rw [HZ.out]; rfl, rfl⟩
  · have HL := Lib.hid (pw_lt8 m)
    obtain ⟨q, hq⟩ : ∃ q : Nat, pw m = q + 1 := ⟨pw m - 1, by omega⟩
    have HW := Lib.hid (show wd m = cntW 8 q by unfold wd; rw [hq]; rfl)
    rw [hq] at HC HL hle
    have hs : ((q + 1 : Nat) : Int) - 1 = q := by omega
    clear h hq
    generalize ((q + 1 : Nat) : Int) = p at *
    go_enter Tryd.func41, Tryd.ntmps41
    go_wp2_with fail
    refine HC.out.mono ?_
    rintro e w' ⟨rfl, rfl⟩
    go_wp2_with fail
    go_loop [3, 4] (fun n p => ∃ (c f x : Nat), c + f = 8 ∧ n = .int .i64 c ∧ p = .int .i64 x ∧ x ≤ 10000000000000000 ∧ x < 256 ^ f ∧ c + cntW f x = cntW 8 q) (fun _ p => (intOf p).toNat)
    case atStart => exact ⟨0, 8, q, rfl, rfl, rfl, by omega, by have := HL.out; rw [Nat.add_sub_cancel] at this; exact this, Nat.zero_add _⟩
    case round =>
      obtain ⟨c, f, x, hcf, rfl, rfl, hx, hxf, hcnt⟩ := hrel
      have HX := Lib.hid hxf
      have HN := Lib.hid hcnt
      clear hxf hcnt
      by_cases h0 : x = 0
      · subst h0
        have HE := Lib.hid (show wd m = c by rw [HW.out, ← HN.out, cnt_zero]; rfl)
        go_wp2_with fail
        go_ret
        exact ⟨by rw [HE.out]; rfl, rfl⟩
      · obtain ⟨f, rfl⟩ : ∃ f', f = f' + 1 := by
          cases f with
          | zero => have := HX.out; rw [Nat.pow_zero] at this; omega
          | succ f => exact ⟨f, rfl⟩
        have HY := Lib.hid (show x / 256 < 256 ^ f by rw [Nat.div_lt_iff_lt_mul (by decide)]; have := HX.out; rw [Nat.pow_succ] at this; exact this)
        have HM := Lib.hid (show c + 1 + cntW f (x / 256) = cntW 8 q by have := HN.out; rw [cnt_step h0] at this; omega)
        go_wp2_with fail
        go_round
        case rel => exact ⟨c + 1, f, x / 256, by omega, by go_num, by go_num, by omega, HY.out, HM.out⟩
        case measure => simp [intOf]; omega

end Go.Proofs.YtniaelaolmjkaaaDoor
/- The reference of layer 9: Rest. -/
namespace Go.Proofs.YtniaelaolmjkaaaDoor
open Go.RowKit

set_option maxHeartbeats 400000 in
theorem qrest_any (A : Option Addr) (len cap : Nat) (bs : Nat → Nat) (m : Int) (w : World) (hl : len ≤ 9223372036854775807) (hA : SlB w A len bs) :
    Calls Tryd.prog 44 #[.slice A len cap, .int .i64 m] w fun e w' => e = .returned (.tuple #[.int .i64 (rV len bs m), .int .i64 (rE len m)]) ∧ ∃ n, w' = w.drewN n := by
  have HM := Lib.hid (qpower_any m w)
  have HA := Lib.hid hA
  clear hA
  by_cases h : pw m = 0
  · rw [h] at HM
    have HE := Lib.hid (rE_low (len := len) h)
    have HV := Lib.hid (rV_bad (len := len) (b := bs) (m := m) (by rw [HE.out]; decide))
    clear h
    go_enter Tryd.func44, Tryd.ntmps44
    go_wp2_with fail
    refine HM.out.mono ?_
    rintro e w' ⟨rfl, rfl⟩
    go_wp2_with fail
    go_ret2
    exact ⟨by rw [HE.out, HV.out]; rfl, 0, rfl⟩
  · have hne : (((pw m : Nat) : Int) == 0) = false := by simp; omega
    by_cases h64 : 64 < len
    · have HE := Lib.hid (rE_long h h64)
      have HV := Lib.hid (rV_bad (len := len) (b := bs) (m := m) (by rw [HE.out]; decide))
      have h64' : (64 : Int) < len := by omega
      clear h
      generalize pw m = p at *
      go_enter Tryd.func44, Tryd.ntmps44
      go_wp2_with fail
      refine HM.out.mono ?_
      rintro e w' ⟨rfl, rfl⟩
      go_wp2_with fail
      go_ret2
      exact ⟨by rw [HE.out, HV.out]; rfl, 0, rfl⟩
    · have HE := Lib.hid (rE_ok (m := m) (len := len) h (by omega))
      have HV := Lib.hid (rV_ok (b := bs) HE.out)
      have h64' : (len : Int) ≤ 64 := by omega
      have hle := pw_le m
      have hpos : 0 < pw m := by omega
      have hpos' : (0 : Int) < (pw m : Nat) := by omega
      clear h
      generalize pw m = p at *
      go_enter Tryd.func44, Tryd.ntmps44
      go_wp2_with fail
      refine HM.out.mono ?_
      rintro e w' ⟨rfl, rfl⟩
      go_wp2_with fail
      go_loopw [7, 8] (fun r i wr => ∃ k : Nat, k ≤ len ∧ i = .int .i64 k ∧ r = .int .i64 (restN p bs k : Nat) ∧ ∃ n, wr = w.drewN n) (fun _ i _ => len - (intOf i).toNat)
      case atStart => exact ⟨0, Nat.zero_le _, rfl, rfl, 0, rfl⟩
      case round =>
        obtain ⟨k, hk, rfl, rfl, hn⟩ := hrel
        have HN := Lib.hid hn
        clear hn
        by_cases hlt : k < len
        · obtain ⟨B, o, rfl, hB, hcells⟩ := HA.out (by omega)
          obtain ⟨hx, hcell⟩ := hcells k hlt
          have hr := restN_lt hpos bs k
          have HS := Lib.hid (show restN p bs (k + 1) = (256 * restN p bs k + bs k) % p from rfl)
          have hc : wr.cell? ⟨B, o + k, none⟩ = some (.int .u8 (bs k : Nat)) := by
            obtain ⟨n, hn⟩ := HN.out
            rw [hn]; exact hcell
          clear hcell hcells
          generalize bs k = x at *
          generalize restN p bs k = r at *
          go_wp2_with fail
          go_roundw
          case rel => exact ⟨k + 1, by omega, by go_num, by rw [HS.out]; go_num, HN.out⟩
          case measure => simp [intOf]; omega
        · obtain rfl : k = len := by omega
          go_wp2_with fail
          go_ret2
          exact ⟨by rw [HE.out, HV.out]; rfl, HN.out⟩
end Go.Proofs.YtniaelaolmjkaaaDoor
