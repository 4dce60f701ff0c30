/- The reference of layer 7: Xor. -/
import Derived.Test.YtgfdnhpfdbaddaaRef07
import Derived.Test.YtgfdnhpfdbaddaaApt
namespace Go.Proofs.Ytgfdnhpfdbaddaa
open Go.RowKit
set_option maxRecDepth 100000 in
theorem rxor_arg (A P : Option Addr) (len cap m c : Nat) (key : Nat → Nat) (N T : Int) (w : World) (hl : len ≤ 140737488351232) (hc : len ≤ cap) (hA : SlB w A len key) (h : wrong len N T) :
    Calls Try.prog 11 #[.slice A len cap, .int .i64 N, .int .i64 T, .slice P m c] w fun e w' => e = .returned (.tuple #[.slice none 0 0, .int .i64 1]) ∧ Below w.heap.size w w' := by
  by_cases hk : len ≠ 16 ∧ len ≠ 32
  · have HS := Lib.hid (rnew_short A len cap w hk.1 hk.2 hl)
    clear h hk hA
    go_enter Try.func11, Try.ntmps11
    go_wp2_with (go_at_call 18; refine HS.out.mono ?_; rintro e w1 ⟨rfl, rfl⟩)
    go_ret2
    exact ⟨rfl, Below.refl _ _⟩
  · obtain ⟨n, hn, hl4⟩ : ∃ n, (n = 4 ∨ n = 8) ∧ 4 * n = len := by
      by_cases h : len = 16
      · exact ⟨4, Or.inl rfl, by omega⟩
      · exact ⟨8, Or.inr rfl, by omega⟩
    have HS := Lib.hid (rnew_at A len n cap key w hl4 hn hc hA)
    have hb : decide (N < 0) = true ∨ (decide (N < 0) = false ∧ decide (T < 0) = true) := by
      unfold wrong at h
      by_cases hN : N < 0
      · exact Or.inl (by simpa using hN)
      · exact Or.inr ⟨by simpa using hN, by rw [decide_eq_true_eq]; omega⟩
    clear h hk hA hn hl4
    rcases hb with hb1 | ⟨hb1, hb2⟩
    all_goals
      go_enter Try.func11, Try.ntmps11
      go_wp2_with (go_at_call 18; refine HS.out.mono ?_; rintro e w1 ⟨g, rfl, _, _, h3⟩; have H3 := Lib.hid h3; clear h3)
      go_ret2
      exact ⟨rfl, H3.out⟩
set_option maxRecDepth 100000 in
theorem rxor_long (A P : Option Addr) (len n cap m c N T : Nat) (key : Nat → Nat) (w : World) (hn : n = 4 ∨ n = 8) (hl : 4 * n = len) (hc : len ≤ cap) (hA : SlB w A len key) (hm : m ≤ 140737488351232) (h : 65536 < m ∨ 1099511627776 < T) :
    Calls Try.prog 11 #[.slice A len cap, .int .i64 (N : Nat), .int .i64 (T : Nat), .slice P m c] w fun e w' => e = .returned (.tuple #[.slice none 0 0, .int .i64 2]) ∧ Below w.heap.size w w' := by
  have HS := Lib.hid (rnew_at A len n cap key w hl hn hc hA)
  have hdN : decide ((N : Int) < 0) = false := by simp
  have hdT : decide ((T : Int) < 0) = false := by simp
  have hb : decide ((65536 : Int) < (m : Nat)) = true ∨ (decide ((65536 : Int) < (m : Nat)) = false ∧ decide ((1099511627776 : Int) < (T : Nat)) = true) := by
    by_cases h1 : 65536 < m
    · exact Or.inl (by rw [decide_eq_true_eq]; omega)
    · exact Or.inr ⟨by rw [decide_eq_false_iff_not]; omega, by rw [decide_eq_true_eq]; omega⟩
  clear hA hn hl h hc
  rcases hb with hb1 | ⟨hb1, hb2⟩
  all_goals
    go_enter Try.func11, Try.ntmps11
    go_wp2_with (go_at_call 18; refine HS.out.mono ?_; rintro e w1 ⟨g, rfl, _, _, h3⟩; have H3 := Lib.hid h3; clear h3)
    go_ret2
    exact ⟨rfl, H3.out⟩
/-- a round's beginning -/
structure RXorR (w1 : World) (n : Nat) (key : Nat → Nat) (N T : Nat) (p : Nat → Nat) (wr : World) (k : Nat) (v u : Value) : Prop where
  own : OwnB wr w1.heap.size v k (xorf n key N T p)
  pad : (k = 0 ∧ u = .slice none 0 0) ∨ ∃ st, u = .slice (some ⟨st, 0, none⟩) 16 16 ∧ 0 < k ∧ OwnB wr w1.heap.size (.slice (some ⟨st, 0, none⟩) 16 16) 16 (padk n key N ((T + k - 1) / 16)) ∧ Apart v (.slice (some ⟨st, 0, none⟩) 16 16)
  below : Below w1.heap.size w1 wr
/-- what the reference's Xor leaves -/
def RXorP (n : Nat) (key : Nat → Nat) (N T m : Nat) (p : Nat → Nat) (w : World) (e : Ending) (w' : World) : Prop :=
  ∃ A c, e = .returned (.tuple #[.slice A m c, .int .i64 0]) ∧ m ≤ c ∧ SlB w' A m (xorf n key N T p) ∧ Below w.heap.size w w'
set_option maxRecDepth 100000 in
set_option maxHeartbeats 3200000 in
theorem rxor_any (A P : Option Addr) (len n cap m c N T : Nat) (key p : Nat → Nat) (w : World) (hn : n = 4 ∨ n = 8) (hl : 4 * n = len) (hc : len ≤ cap) (hA : SlB w A len key) (hP : SlB w P m p) (hN : N ≤ 9223372036854775807) (hT : T ≤ 1099511627776) (hm : m ≤ 65536) :
    Calls Try.prog 11 #[.slice A len cap, .int .i64 (N : Nat), .int .i64 (T : Nat), .slice P m c] w (RXorP n key N T m p w) := by
  have HS := Lib.hid (rnew_at A len n cap key w hl hn hc hA)
  have HY := Lib.hid (show By (4 * n) key from fun j hj => hA.byte (by omega))
  have HPY := Lib.hid (show By m p from fun j hj => hP.byte hj)
  have HP := Lib.hid hP
  have HN := Lib.hid hn
  have HNN := Lib.hid hN
  have hdN : decide ((N : Int) < 0) = false := by simp
  have hdT : decide ((T : Int) < 0) = false := by simp
  have hd : decide ((65536 : Int) < (m : Nat)) = false := by rw [decide_eq_false_iff_not]; omega
  have hd2 : decide ((1099511627776 : Int) < (T : Nat)) = false := by rw [decide_eq_false_iff_not]; omega
  have hTi : (T : Int) ≤ 1099511627776 := by omega
  have hT0 : (0 : Int) ≤ (T : Nat) := by omega
  have hmi : (m : Int) ≤ 65536 := by omega
  clear hA hP hn hl hN hT hm hc
  go_enter Try.func11, Try.ntmps11
  go_wp2_with (go_at_call 18; refine HS.out.mono ?_; rintro e w1 ⟨g, rfl, h1, h2, h3⟩; have H2 := Lib.hid h2; have H3 := Lib.hid h3; clear h1 h2 h3)
  have HP1 := Lib.hid (HP.out.keep H3.out)
  clear HS HP hdN hdT hd hd2
  go_loopw [12, 13, 14] (fun v12 v13 v14 wr => ∃ k : Nat, k ≤ m ∧ v14 = .int .i64 (k : Nat) ∧ RXorR w1 n key N T p wr k v12 v13) (fun _ _ v14 _ => m - (intOf v14).toNat)
  case atStart => exact ⟨0, Nat.zero_le _, rfl, OwnB.nil _ _ _, Or.inl ⟨rfl, rfl⟩, Below.refl _ _⟩
  case round =>
    obtain ⟨k, hk, rfl, hr⟩ := hrel
    have HR := Lib.hid hr
    clear hr
    by_cases hlt : k < m
    · obtain ⟨e, he, hei⟩ : ∃ e, T + k = e ∧ (T : Int) + (k : Nat) = (e : Nat) := ⟨T + k, rfl, by omega⟩
      obtain ⟨q, hq, hqi⟩ : ∃ q, e % 16 = q ∧ (e : Int) % 16 = (q : Nat) := ⟨e % 16, rfl, by omega⟩
      obtain ⟨E, hE, hEi⟩ : ∃ E, e / 16 = E ∧ (e : Int) / 16 = (E : Nat) := ⟨e / 16, rfl, by omega⟩
      have hq16 : q < 16 := by rw [← hq]; exact Nat.mod_lt _ (by decide)
      have hel : (e : Int) ≤ 1099511700000 := by omega
      have hEl : (E : Int) ≤ 1099511700000 := by omega
      have HE := Lib.hid he
      have HQ := Lib.hid hq
      have HEE := Lib.hid hE
      have HEM := Lib.hid (show E ≤ 9223372036854775807 by omega)
      have hwr : (IntKind.i64.wrap (e : Int)).tmod 16 = (q : Nat) := by rw [IntWalk.i64_in _ (by omega), Int.tmod_eq_emod_of_nonneg (by omega)]; exact hqi
      have hki : (k : Int) < (m : Nat) := by omega
      have hk0 : (0 : Int) ≤ (k : Nat) := by omega
      have hq0 : (0 : Int) ≤ (q : Nat) := by omega
      have hqi16 : (q : Int) < 16 := by omega
      obtain ⟨PB, o, hPe, hPl, hPc⟩ := HP1.out (by omega)
      have HPC := Lib.hid (hPc k hlt)
      have HPL := Lib.hid hPl
      clear hPc hPl HP1 he hq hE
      subst hPe
      by_cases hnew : k = 0 ∨ q = 0
      · have hb : (((k : Int) == 0) = true) ∨ (((k : Int) == 0) = false ∧ ((q : Int) == 0) = true) := by
          by_cases h : k = 0
          · exact Or.inl (by simp [h])
          · exact Or.inr ⟨by simp [h], by simp; omega⟩
        clear hnew
        rcases hb with hb1 | ⟨hb1, hb2⟩
        all_goals
          go_wp2_with fail
          refine (eight_any N wr HNN.out).mono ?_
          rintro e' w2 ⟨A2, c2, rfl, h1, h2⟩
          have HO2 := Lib.hid h1
          have HB2 := Lib.hid h2
          clear h1 h2
          go_wp2_with fail
          refine (eight_any E w2 HEM.out).mono ?_
          rintro e' w3 ⟨A3, c3, rfl, h1, h2⟩
          have HO3 := Lib.hid (HO2.out.keep h2)
          have HB3 := Lib.hid (HB2.out.trans (h2.mono HB2.out.size))
          obtain ⟨A3', c3', e3, hs3⟩ := OwnB.slice h1 (fun j _ => len8_lt E j)
          obtain ⟨A3'', c3'', e3', _, _, hn3⟩ := OwnB.cap_le h1
          cases e3
          cases e3'
          have HS3 := Lib.hid hs3
          have HN3 := Lib.hid hn3
          clear h1 h2 hs3 hn3
          go_wp2_with (refine wpList_appO rfl (.tmp 55) (.tmp 60) rfl wr.heap.size _ 8 (len8 N) rfl HO3.out A3 8 c3 (len8 E) rfl HS3.out HN3.out (by decide) HB3.out.size (fun j _ => len8_lt N j) (fun j _ => len8_lt E j) ?_; intro A4 c4 w4 h1 h2 h3 h4; have HS4 := Lib.hid (show SlB w4 A4 16 (cb N E) from h2); have HB4 := Lib.hid (HB3.out.trans h4); clear h1 h2 h3 h4)
          refine (renc_any g n key (cb N E) A4 c4 w4 HN.out HY.out (H2.out.keep (HR.out.below.trans (HB4.out.mono HR.out.below.size))) HS4.out).mono ?_
          rintro e' w5 ⟨st, rfl, h1, h2, h3⟩
          have HBW := Lib.hid (HB4.out.trans (h3.mono HB4.out.size))
          have HBel := Lib.hid (HR.out.below.trans (HBW.out.mono HR.out.below.size))
          have HOwn := Lib.hid (HR.out.own.keep HBW.out)
          have HPad := Lib.hid (show OwnB w5 w1.heap.size (.slice (some ⟨st, 0, none⟩) 16 16) 16 (padk n key N E) from RowB.own (base := w1.heap.size) h2 (Nat.le_trans HR.out.below.size (Nat.le_trans HB4.out.size h1)) (by unfold maxLen; decide))
          have HAp := Lib.hid (show Apart u12 (.slice (some ⟨st, 0, none⟩) 16 16) from fun b hb hb2 => by
            rw [ownBlock_at] at hb2
            injection hb2 with hb2
            have := (World.ownsRow.lt HR.out.own b hb).2
            have := HB4.out.size
            omega)
          clear h1 h2 h3 HO2 HB2 HO3 HB3 HS3 HN3 HS4 HB4 HBW
          have hcp := (HBel.out.cell (p := ⟨PB, o + k, none⟩) HPL.out).trans HPC.out.2
          have hcq := OwnB.at0 HPad.out (padk_by HN.out HY.out N E) hq16
          have hx8 := HPC.out.1
          have hy8 := padk_by HN.out HY.out N E q hq16
          have HXF := Lib.hid (show xorf n key N T p k = p k ^^^ padk n key N E q by unfold xorf; rw [HE.out, HEE.out, HQ.out])
          have HPE := Lib.hid (show padk n key N ((T + (k + 1) - 1) / 16) = padk n key N E by rw [show T + (k + 1) - 1 = e by have := HE.out; omega, HEE.out])
          generalize padk n key N E = pd at *
          generalize p k = x at *
          generalize pd q = y at *
          have b1 : bits BinOp.xor .u8 (x : Int) (y : Int) = ((x ^^^ y : Nat) : Int) := u8_xor_nat x y hx8 hy8
          have hz8 := xor_lt8 hx8 hy8
          generalize x ^^^ y = z at *
          have HOd := Lib.hid (show OwnB (w5.alloc (.cells #[.int .u8 (z : Nat)] 5)).drew w1.heap.size u12 k (xorf n key N T p) from HOwn.out.alloc _)
          have HPd := Lib.hid (show OwnB (w5.alloc (.cells #[.int .u8 (z : Nat)] 5)).drew w1.heap.size (.slice (some ⟨st, 0, none⟩) 16 16) 16 pd from HPad.out.alloc _)
          have HSd := Lib.hid (show SlB (w5.alloc (.cells #[.int .u8 (z : Nat)] 5)).drew (some ⟨w5.heap.size, 0, none⟩) 1 (fun _ => z) from one_sl w5 z hz8)
          have HBd := Lib.hid (HBel.out.alloc HBel.out.size (.cells #[.int .u8 (z : Nat)] 5)).drew
          clear HOwn HPad HBel
          go_wp2_with fail
          go_region_law ((refine step_appW (.tmp 65) (.tmp 78) rfl rfl rfl w1.heap.size _ k (xorf n key N T p) rfl HOd.out _ 1 1 (fun _ => z) rfl HSd.out (by omega) HBd.out.size _ 16 pd HPd.out HAp.out ?_); intro v6 w6 h1 h2 h3 h4; have HO6 := Lib.hid h1; have HP6 := Lib.hid h2; have HA6 := Lib.hid h3; have HB6 := Lib.hid (HBd.out.trans h4); clear h1 h2 h3 h4)
          all_goals
            go_wp2_with fail
            go_roundw
            case rel => exact ⟨k + 1, by omega, by go_num, HO6.out.congr fun j hj => by
                unfold catB
                by_cases h : j < k
                · rw [if_pos h]
                · rw [if_neg h, show j = k by omega, HXF.out], Or.inr ⟨st, rfl, Nat.succ_pos k, by rw [HPE.out]; exact HP6.out, HA6.out⟩, HB6.out⟩
            case measure => simp [intOf]; omega
      · have hb1 : ((k : Int) == 0) = false := by simp; omega
        have hb2 : ((q : Int) == 0) = false := by simp; omega
        have HPQ := Lib.hid (show ∃ st, u13 = .slice (some ⟨st, 0, none⟩) 16 16 ∧ OwnB wr w1.heap.size (.slice (some ⟨st, 0, none⟩) 16 16) 16 (padk n key N E) ∧ Apart u12 (.slice (some ⟨st, 0, none⟩) 16 16) from by
          rcases HR.out.pad with ⟨h, _⟩ | ⟨st, h1, h2, h3, h4⟩
          · exact absurd (Or.inl h) hnew
          · refine ⟨st, h1, ?_, h4⟩
            have : (T + k - 1) / 16 = E := by
              have := HE.out
              have := HQ.out
              have := HEE.out
              omega
            rw [← this]
            exact h3)
        obtain ⟨st, hu, HPad, HAp⟩ := HPQ.out
        subst hu
        have HPad := Lib.hid HPad
        have HAp := Lib.hid HAp
        have HOwn := Lib.hid HR.out.own
        have HBel := Lib.hid HR.out.below
        clear hnew HPQ
        have hcp := (HBel.out.cell (p := ⟨PB, o + k, none⟩) HPL.out).trans HPC.out.2
        have hcq := OwnB.at0 HPad.out (padk_by HN.out HY.out N E) hq16
        have hx8 := HPC.out.1
        have hy8 := padk_by HN.out HY.out N E q hq16
        have HXF := Lib.hid (show xorf n key N T p k = p k ^^^ padk n key N E q by unfold xorf; rw [HE.out, HEE.out, HQ.out])
        have HPE := Lib.hid (show padk n key N ((T + (k + 1) - 1) / 16) = padk n key N E by rw [show T + (k + 1) - 1 = e by have := HE.out; omega, HEE.out])
        generalize padk n key N E = pd at *
        generalize p k = x at *
        generalize pd q = y at *
        have b1 : bits BinOp.xor .u8 (x : Int) (y : Int) = ((x ^^^ y : Nat) : Int) := u8_xor_nat x y hx8 hy8
        have hz8 := xor_lt8 hx8 hy8
        generalize x ^^^ y = z at *
        have HOd := Lib.hid (show OwnB (wr.alloc (.cells #[.int .u8 (z : Nat)] 5)).drew w1.heap.size u12 k (xorf n key N T p) from HOwn.out.alloc _)
        have HPd := Lib.hid (show OwnB (wr.alloc (.cells #[.int .u8 (z : Nat)] 5)).drew w1.heap.size (.slice (some ⟨st, 0, none⟩) 16 16) 16 pd from HPad.out.alloc _)
        have HSd := Lib.hid (show SlB (wr.alloc (.cells #[.int .u8 (z : Nat)] 5)).drew (some ⟨wr.heap.size, 0, none⟩) 1 (fun _ => z) from one_sl wr z hz8)
        have HBd := Lib.hid (HBel.out.alloc HBel.out.size (.cells #[.int .u8 (z : Nat)] 5)).drew
        clear HOwn HPad HBel
        go_wp2_with fail
        go_region_law ((refine step_appW (.tmp 65) (.tmp 78) rfl rfl rfl w1.heap.size _ k (xorf n key N T p) rfl HOd.out _ 1 1 (fun _ => z) rfl HSd.out (by omega) HBd.out.size _ 16 pd HPd.out HAp.out ?_); intro v6 w6 h1 h2 h3 h4; have HO6 := Lib.hid h1; have HP6 := Lib.hid h2; have HA6 := Lib.hid h3; have HB6 := Lib.hid (HBd.out.trans h4); clear h1 h2 h3 h4)
        all_goals
          go_wp2_with fail
          go_roundw
          case rel => exact ⟨k + 1, by omega, by go_num, HO6.out.congr fun j hj => by
              unfold catB
              by_cases h : j < k
              · rw [if_pos h]
              · rw [if_neg h, show j = k by omega, HXF.out], Or.inr ⟨st, rfl, Nat.succ_pos k, by rw [HPE.out]; exact HP6.out, HA6.out⟩, HB6.out⟩
          case measure => simp [intOf]; omega
    · obtain rfl : k = m := by omega
      obtain ⟨A9, c9, e9, hs9⟩ := OwnB.slice HR.out.own (xorf_lt HN.out HY.out HPY.out)
      obtain ⟨A9', c9', e9', hc9, _, _⟩ := OwnB.cap_le HR.out.own
      subst e9
      cases e9'
      have HS9 := Lib.hid hs9
      have HBel := Lib.hid HR.out.below
      have HC9 := Lib.hid hc9
      clear hs9 hc9
      go_wp2_with fail
      go_ret2
      exact ⟨A9, c9, rfl, HC9.out, HS9.out, H3.out.trans (HBel.out.mono H3.out.size)⟩
end Go.Proofs.Ytgfdnhpfdbaddaa
