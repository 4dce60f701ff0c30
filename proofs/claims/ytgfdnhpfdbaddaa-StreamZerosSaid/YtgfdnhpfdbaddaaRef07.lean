/- The reference of layer 7: Pad, Xor. -/
import Derived.Test.YtgfdnhpfdbaddaaStrD
import Derived.Test.YtgfdnhpfdbaddaaEight
import Derived.Test.YtgfdnhpfdbaddaaKeyL
namespace Go.Proofs.Ytgfdnhpfdbaddaa
open Go.RowKit
set_option maxRecDepth 100000 in
theorem rpad_arg (A : Option Addr) (len cap : Nat) (key : Nat → Nat) (N T : Int) (w : World) (hl : len ≤ 140737488351232) (hc : len ≤ cap) (hA : SlB w A len key) (h : wrong len N T) :
    Calls Try.prog 15 #[.slice A len cap, .int .i64 N, .int .i64 T] w fun e w' => e = .returned (.tuple #[.slice none 0 0, .int .i64 1]) ∧ Below w.heap.size w w' := by
  by_cases hk : len ≠ 16 ∧ len ≠ 32
  · have HS := Lib.hid (rnew_short A len cap w hk.1 hk.2 hl)
    clear h hk hA
    go_enter Try.func15, Try.ntmps15
    go_wp2_with (go_at_call 18; refine HS.out.mono ?_; rintro e w1 ⟨rfl, rfl⟩)
    go_ret2
    exact ⟨rfl, Below.refl _ _⟩
  · obtain ⟨n, hn, hl4⟩ : ∃ n, (n = 4 ∨ n = 8) ∧ 4 * n = len := by
      by_cases h : len = 16
      · exact ⟨4, Or.inl rfl, by omega⟩
      · exact ⟨8, Or.inr rfl, by omega⟩
    have HS := Lib.hid (rnew_at A len n cap key w hl4 hn hc hA)
    have hb : decide (N < 0) = true ∨ (decide (N < 0) = false ∧ decide (T < 0) = true) := by
      unfold wrong at h
      by_cases hN : N < 0
      · exact Or.inl (by simpa using hN)
      · exact Or.inr ⟨by simpa using hN, by rw [decide_eq_true_eq]; omega⟩
    clear h hk hA hn hl4
    rcases hb with hb1 | ⟨hb1, hb2⟩
    all_goals
      go_enter Try.func15, Try.ntmps15
      go_wp2_with (go_at_call 18; refine HS.out.mono ?_; rintro e w1 ⟨g, rfl, _, _, h3⟩; have H3 := Lib.hid h3; clear h3)
      go_ret2
      exact ⟨rfl, H3.out⟩
/-- what the reference's Pad leaves -/
def RPadP (n : Nat) (key : Nat → Nat) (N T : Nat) (w : World) (e : Ending) (w' : World) : Prop :=
  ∃ st, e = .returned (.tuple #[.slice (some ⟨st, 0, none⟩) 16 16, .int .i64 0]) ∧ w.heap.size ≤ st ∧ RowB w' st 16 (padk n key N T) ∧ Below w.heap.size w w'
set_option maxRecDepth 100000 in
set_option maxHeartbeats 1600000 in
theorem rpad_any (A : Option Addr) (len n cap N T : Nat) (key : Nat → Nat) (w : World) (hN : N ≤ 9223372036854775807) (hT : T ≤ 9223372036854775807) (hn : n = 4 ∨ n = 8) (hl : 4 * n = len) (hc : len ≤ cap) (hA : SlB w A len key) :
    Calls Try.prog 15 #[.slice A len cap, .int .i64 (N : Nat), .int .i64 (T : Nat)] w (RPadP n key N T w) := by
  have HS := Lib.hid (rnew_at A len n cap key w hl hn hc hA)
  have HY := Lib.hid (show By (4 * n) key from fun j hj => hA.byte (by omega))
  have HN := Lib.hid hn
  have HNN := Lib.hid hN
  have HTT := Lib.hid hT
  have hd : decide ((N : Int) < 0) = false := by simp
  have hd2 : decide ((T : Int) < 0) = false := by simp
  clear hA hn hl hN hT
  go_enter Try.func15, Try.ntmps15
  go_wp2_with fail
  refine HS.out.mono ?_
  rintro e w1 ⟨g, rfl, h1, h2, h3⟩
  have H1 := Lib.hid h1
  have H2 := Lib.hid h2
  have H3 := Lib.hid h3
  clear h1 h2 h3
  go_wp2_with fail
  refine (eight_any N w1 HNN.out).mono ?_
  rintro e w2 ⟨A2, c2, rfl, h1, h2⟩
  have HO2 := Lib.hid h1
  have HB2 := Lib.hid h2
  clear h1 h2
  go_wp2_with fail
  refine (eight_any T w2 HTT.out).mono ?_
  rintro e w3 ⟨A3, c3, rfl, h1, h2⟩
  have HO3 := Lib.hid (HO2.out.keep h2)
  have HB3 := Lib.hid (HB2.out.trans (h2.mono HB2.out.size))
  obtain ⟨A3', c3', e3, hs3⟩ := OwnB.slice h1 (fun j _ => len8_lt T j)
  obtain ⟨A3'', c3'', e3', _, _, hn3⟩ := OwnB.cap_le h1
  cases e3
  cases e3'
  have HS3 := Lib.hid hs3
  have HN3 := Lib.hid hn3
  clear h1 h2 hs3 hn3
  go_wp2_with (refine wpList_appO rfl (.tmp 27) (.tmp 29) rfl w1.heap.size _ 8 (len8 N) rfl HO3.out A3 8 c3 (len8 T) rfl HS3.out HN3.out (by decide) HB3.out.size (fun j _ => len8_lt N j) (fun j _ => len8_lt T j) ?_; intro A4 c4 w4 h1 h2 h3 h4; have HS4 := Lib.hid (show SlB w4 A4 16 (cb N T) from h2); have HB4 := Lib.hid (HB3.out.trans h4); clear h1 h2 h3 h4)
  refine (renc_any g n key (cb N T) A4 c4 w4 HN.out HY.out (H2.out.keep HB4.out) HS4.out).mono ?_
  rintro e w5 ⟨st, rfl, h1, h2, h3⟩
  have H6 := Lib.hid h2
  have H7 := Lib.hid (HB4.out.trans (h3.mono HB4.out.size))
  have H8 := Lib.hid h1
  clear h1 h2 h3
  go_wp2_with fail
  go_ret2
  exact ⟨st, rfl, Nat.le_trans H3.out.size (Nat.le_trans HB4.out.size H8.out), H6.out, H3.out.trans (H7.out.mono H3.out.size)⟩
end Go.Proofs.Ytgfdnhpfdbaddaa
