/- Contracts of package stream: the key, a pad. -/
import Derived.Test.YtgfdnhpfdbaddaaStrB
namespace Go.Proofs.Ytgfdnhpfdbaddaa
open Go.RowKit
/-- what is refused at once -/
def wrong (len : Nat) (N T : Int) : Prop := (len ≠ 16 ∧ len ≠ 32) ∨ N < 0 ∨ T < 0
theorem right_of {len : Nat} {N T : Int} (h : ¬ wrong len N T) : ∃ n N' T' : Nat, (n = 4 ∨ n = 8) ∧ 4 * n = len ∧ N = (N' : Nat) ∧ T = (T' : Nat) := by
  unfold wrong at h
  by_cases h16 : len = 16
  · exact ⟨4, N.toNat, T.toNat, Or.inl rfl, by omega, by omega, by omega⟩
  · exact ⟨8, N.toNat, T.toNat, Or.inr rfl, by omega, by omega, by omega⟩
set_option maxRecDepth 100000 in
theorem keyfor_arg (A : Option Addr) (len cap : Nat) (N T : Int) (w : World) (hl : len ≤ 140737488351232) (h : wrong len N T) :
    Calls Try.prog 16 #[.slice A len cap, .int .i64 N, .int .i64 T] w fun e w' => e = .returned (.tuple #[.pointer none, .int .i64 1]) ∧ w = w' := by
  by_cases hN : N < 0
  · have hd : decide (N < 0) = true := by simpa using hN
    clear h hN
    go_enter Try.func16, Try.ntmps16
    go_wp2_with fail
    go_ret2
    exact ⟨rfl, rfl⟩
  · have hd : decide (N < 0) = false := by simpa using hN
    by_cases hT : T < 0
    · have hd2 : decide (T < 0) = true := by simpa using hT
      clear h hN hT
      go_enter Try.func16, Try.ntmps16
      go_wp2_with fail
      go_ret2
      exact ⟨rfl, rfl⟩
    · have hd2 : decide (T < 0) = false := by simpa using hT
      have hs : len ≠ 16 ∧ len ≠ 32 := by unfold wrong at h; omega
      have HS := Lib.hid (new_short A len cap w hs.1 hs.2 hl)
      clear h hN hT hs
      go_enter Try.func16, Try.ntmps16
      go_wp2_with (go_at_call 21; refine HS.out.mono ?_; rintro e w1 ⟨rfl, rfl⟩)
      go_ret2
      exact ⟨rfl, rfl⟩
set_option maxRecDepth 100000 in
theorem keyfor_any (A : Option Addr) (len n cap N T : Nat) (key : Nat → Nat) (w : World) (hn : n = 4 ∨ n = 8) (hl : 4 * n = len) (hA : SlB w A len key) :
    Calls Try.prog 16 #[.slice A len cap, .int .i64 (N : Nat), .int .i64 (T : Nat)] w fun e w' => ∃ g, e = .returned (.tuple #[.pointer (some ⟨g, 0, none⟩), .int .i64 0]) ∧ w.heap.size ≤ g ∧ KeyAt w' g n key ∧ Below w.heap.size w w' := by
  subst hl
  have HS := Lib.hid (new_any A n cap key w hn hA)
  have hd : decide ((N : Int) < 0) = false := by simp
  have hd2 : decide ((T : Int) < 0) = false := by simp
  clear hA
  go_enter Try.func16, Try.ntmps16
  go_wp2_with (go_at_call 21; refine HS.out.mono ?_; rintro e w1 ⟨g, rfl, h1, h2, h3⟩; have H1 := Lib.hid h1; have H2 := Lib.hid h2; have H3 := Lib.hid h3; clear h1 h2 h3)
  go_ret2
  exact ⟨g, rfl, H1.out, H2.out, H3.out⟩
set_option maxRecDepth 100000 in
theorem pad_arg (A : Option Addr) (len cap : Nat) (N T : Int) (w : World) (hl : len ≤ 140737488351232) (h : wrong len N T) :
    Calls Try.prog 14 #[.slice A len cap, .int .i64 N, .int .i64 T] w fun e w' => e = .returned (.tuple #[.slice none 0 0, .int .i64 1]) ∧ w = w' := by
  have HS := Lib.hid (keyfor_arg A len cap N T w hl h)
  clear h
  go_enter Try.func14, Try.ntmps14
  go_wp2_with (go_at_call 16; refine HS.out.mono ?_; rintro e w1 ⟨rfl, rfl⟩)
  go_ret2
  exact ⟨rfl, rfl⟩
/-- what Pad leaves -/
def PadP (n : Nat) (key : Nat → Nat) (N T : Nat) (w : World) (e : Ending) (w' : World) : Prop :=
  ∃ st, e = .returned (.tuple #[.slice (some ⟨st, 0, none⟩) 16 16, .int .i64 0]) ∧ w.heap.size ≤ st ∧ Arr w' st 0 16 (padk n key N T) ∧ Below w.heap.size w w'
set_option maxRecDepth 100000 in
theorem pad_any (A : Option Addr) (len n cap N T : Nat) (key : Nat → Nat) (w : World) (hN : N ≤ 9223372036854775807) (hT : T ≤ 9223372036854775807) (hn : n = 4 ∨ n = 8) (hl : 4 * n = len) (hA : SlB w A len key) :
    Calls Try.prog 14 #[.slice A len cap, .int .i64 (N : Nat), .int .i64 (T : Nat)] w (PadP n key N T w) := by
  have HS := Lib.hid (keyfor_any A len n cap N T key w hn hl hA)
  have HY := Lib.hid (show By (4 * n) key from fun j hj => hA.byte (by omega))
  have HN := Lib.hid hn
  have HNN := Lib.hid hN
  have HTT := Lib.hid hT
  clear hA hn hl hN hT
  go_enter Try.func14, Try.ntmps14
  go_wp2_with (first | (go_at_call 16; refine HS.out.mono ?_; rintro e w1 ⟨g, rfl, h1, h2, h3⟩; have H1 := Lib.hid h1; have H2 := Lib.hid h2; have H3 := Lib.hid h3; clear h1 h2 h3) | (go_at_call 17; refine (stream_any g n key N T w1 H2.out).mono ?_; rintro e w2 ⟨sK, sN, sB, rfl, h1, h2, h3⟩; have H4 := Lib.hid h1; have H5 := Lib.hid h2; have H6 := Lib.hid (H3.out.trans (h3.mono H3.out.size)); clear h1 h2 h3) | (go_at_call 22; refine (next_any g n key N T sK sN sB w2 HN.out HY.out HNN.out HTT.out H5.out).mono ?_; rintro e w3 ⟨st, h⟩; obtain ⟨rfl, h1, h2, h3, h4⟩ := h; have H7 := Lib.hid h1; have H8 := Lib.hid h2; have H9 := Lib.hid h4; clear h1 h2 h3 h4))
  go_ret2
  exact ⟨st, rfl, Nat.le_trans H6.out.size H7.out, H8.out, H6.out.trans (H9.out.below H6.out.size fun k hk => by have := H1.out; have := H5.out.gK; have := H5.out.gN; have := H5.out.gB; rcases hk with rfl | rfl <;> omega)⟩
end Go.Proofs.Ytgfdnhpfdbaddaa
