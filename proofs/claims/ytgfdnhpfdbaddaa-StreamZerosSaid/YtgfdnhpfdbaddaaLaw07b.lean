/- StreamPads, StreamZeros. -/
import Derived.Test.YtgfdnhpfdbaddaaLaw07a
import Derived.Test.YtgfdnhpfdbaddaaRef07
namespace Go.Proofs.Ytgfdnhpfdbaddaa
open Go.RowKit
set_option maxRecDepth 100000 in
set_option maxHeartbeats 1600000 in
theorem pads_wrong (A : Option Addr) (len cap : Nat) (key : Nat → Nat) (N T : Int) (w : World) (hl : len ≤ 140737488351232) (hc : len ≤ cap) (hA : SlB w A len key) (h : wrong len N T) :
    Calls Try.prog 4 #[.slice A len cap, .int .i64 N, .int .i64 T] w fun e w' => e = .returned (.bool true) ∧ Below w.heap.size w w' := by
  have HA := Lib.hid hA
  have HW := Lib.hid h
  have HL := Lib.hid hl
  have HC := Lib.hid hc
  clear hA h hl hc
  go_enter Try.func4, Try.ntmps4
  go_wp2_with fail
  refine (small7_any _).mono ?_
  rintro e w1 ⟨rfl, h1⟩
  have H1 := Lib.hid h1
  clear h1
  go_wp2_with fail
  refine (pad_arg A len cap N T w1 HL.out HW.out).mono ?_
  rintro e w2 ⟨rfl, rfl⟩
  go_wp2_with fail
  refine (rpad_arg A len cap key N T w1 HL.out HC.out (HA.out.keep H1.out) HW.out).mono ?_
  rintro e w3 ⟨rfl, h3⟩
  have H3 := Lib.hid (H1.out.trans (h3.mono H1.out.size))
  clear h3
  have hcn := run_convert_bytes_nil (P := Try.prog) w3 22 5 Try.underlying22 Try.underlying5 0 0 9 Try.underlying9
  go_wp2_with fail
  go_ret
  exact ⟨rfl, H3.out⟩
set_option maxRecDepth 100000 in
set_option maxHeartbeats 1600000 in
theorem pads_right (A : Option Addr) (len n cap N T : Nat) (key : Nat → Nat) (w : World) (hN : N ≤ 9223372036854775807) (hT : T ≤ 9223372036854775807) (hn : n = 4 ∨ n = 8) (hl : 4 * n = len) (hc : len ≤ cap) (hA : SlB w A len key) :
    Calls Try.prog 4 #[.slice A len cap, .int .i64 (N : Nat), .int .i64 (T : Nat)] w fun e w' => e = .returned (.bool true) ∧ Below w.heap.size w w' := by
  have HA := Lib.hid hA
  have HN := Lib.hid hn
  have HL := Lib.hid hl
  have HC := Lib.hid hc
  have HNN := Lib.hid hN
  have HTT := Lib.hid hT
  have HPB := Lib.hid (padk_by (key := key) hn (fun j hj => hA.byte (by omega)) N T)
  clear hA hn hl hc hN hT
  go_enter Try.func4, Try.ntmps4
  go_wp2_with fail
  refine (small7_any _).mono ?_
  rintro e w1 ⟨rfl, h1⟩
  have H1 := Lib.hid h1
  clear h1
  go_wp2_with fail
  refine (pad_any A len n cap N T key w1 HNN.out HTT.out HN.out HL.out (HA.out.keep H1.out)).mono ?_
  rintro e w2 ⟨st, rfl, h1, h2, h3⟩
  have H2 := Lib.hid (H1.out.trans (h3.mono H1.out.size))
  have HP2 := Lib.hid h2
  clear h1 h2 h3
  go_wp2_with fail
  refine (rpad_any A len n cap N T key w2 HNN.out HTT.out HN.out HL.out HC.out (HA.out.keep H2.out)).mono ?_
  rintro e w3 ⟨sr, rfl, h1, h2, h3⟩
  have H3 := Lib.hid (H2.out.trans (h3.mono H2.out.size))
  have hcp := convSl (cap := 16) ((HP2.out.keep h3).slB HPB.out) (Nat.le_refl 16)
  have hcr := convSl (cap := 16) (h2.slB0 (Nat.le_refl 16) HPB.out) (Nat.le_refl 16)
  obtain ⟨X, hX⟩ : ∃ X, strOf 16 (padk n key N T) = X := ⟨_, rfl⟩
  rw [hX] at hcp hcr
  clear h1 h2 h3 hX
  go_wp2_with fail
  go_ret
  exact ⟨rfl, H3.out⟩
theorem pads_all (A : Option Addr) (len cap : Nat) (key : Nat → Nat) (N T : Int) (w : World) (hl : len ≤ 140737488351232) (hc : len ≤ cap) (hA : SlB w A len key) (hN : N ≤ 9223372036854775807) (hT : T ≤ 9223372036854775807) :
    Calls Try.prog 4 #[.slice A len cap, .int .i64 N, .int .i64 T] w fun e w' => e = .returned (.bool true) ∧ Below w.heap.size w w' := by
  by_cases h : wrong len N T
  · exact pads_wrong A len cap key N T w hl hc hA h
  · obtain ⟨n, N', T', hn, hl4, rfl, rfl⟩ := right_of h
    exact pads_right A len n cap N' T' key w (by omega) (by omega) hn hl4 hc hA
/-- zeroes become the pad -/
theorem xorf_zero {n N B : Nat} {key : Nat → Nat} (j : Nat) (hj : j < 16) : xorf n key N (16 * B) (fun _ => 0) j = padk n key N B j := by
  unfold xorf
  rw [show (16 * B + j) / 16 = B by omega, show (16 * B + j) % 16 = j by omega, Nat.zero_xor]
set_option maxRecDepth 100000 in
set_option maxHeartbeats 1600000 in
theorem zeros_far (A : Option Addr) (len cap : Nat) (N T : Int) (w : World) (hT : 1073741824 < T) :
    Calls Try.prog 6 #[.slice A len cap, .int .i64 N, .int .i64 T] w fun e w' => e = .returned (.bool true) ∧ Below w.heap.size w w' := by
  have hd : decide ((1073741824 : Int) < T) = true := by rw [decide_eq_true_eq]; exact hT
  clear hT
  go_enter Try.func6, Try.ntmps6
  go_wp2_with fail
  refine (small7_any _).mono ?_
  rintro e w1 ⟨rfl, h1⟩
  have H1 := Lib.hid h1
  clear h1
  go_wp2_with fail
  go_ret
  exact ⟨rfl, H1.out⟩
set_option maxRecDepth 100000 in
set_option maxHeartbeats 1600000 in
theorem zeros_wrong (A : Option Addr) (len cap : Nat) (N T : Int) (w : World) (hl : len ≤ 140737488351232) (h : wrong len N T) (hT : ¬ 1073741824 < T) :
    Calls Try.prog 6 #[.slice A len cap, .int .i64 N, .int .i64 T] w fun e w' => e = .returned (.bool true) ∧ Below w.heap.size w w' := by
  have HW := Lib.hid h
  have HL := Lib.hid hl
  have hd : decide ((1073741824 : Int) < T) = false := by rw [decide_eq_false_iff_not]; exact hT
  clear h hl hT
  go_enter Try.func6, Try.ntmps6
  go_wp2_with fail
  refine (small7_any _).mono ?_
  rintro e w1 ⟨rfl, h1⟩
  have H1 := Lib.hid h1
  clear h1
  go_wp2_with fail
  refine (pad_arg A len cap N T w1 HL.out HW.out).mono ?_
  rintro e w2 ⟨rfl, rfl⟩
  go_wp2_with fail
  go_ret
  exact ⟨rfl, H1.out⟩
set_option maxRecDepth 100000 in
set_option maxHeartbeats 1600000 in
theorem zeros_right (A : Option Addr) (len n cap N T : Nat) (key : Nat → Nat) (w : World) (hN : N ≤ 9223372036854775807) (hT : T ≤ 1073741824) (hn : n = 4 ∨ n = 8) (hl : 4 * n = len) (hA : SlB w A len key) :
    Calls Try.prog 6 #[.slice A len cap, .int .i64 (N : Nat), .int .i64 (T : Nat)] w fun e w' => e = .returned (.bool true) ∧ Below w.heap.size w w' := by
  have hmk : ∀ W : World, (Instr.makeSlice 22 (.int .i64 16) (.int .i64 16)).run Try.prog W = .ok (.slice (some ⟨W.heap.size, 0, none⟩) 16 16) (W.alloc (.cells (madeCells #[.int .u8 0] 16) 5)) := fun W => by
    obtain ⟨i, hi, hz, hsz, hb⟩ := info_parts info8
    have := run_make (P := Try.prog) W 22 5 i (.int .u8 0) Try.underlying22 hi hz .i64 .i64 16 16 (by omega) (by omega) (by rw [hb]; omega) (by omega)
    rw [this, hsz]
    rfl
  have HA := Lib.hid hA
  have HN := Lib.hid hn
  have HL := Lib.hid hl
  have HNN := Lib.hid hN
  have HTT := Lib.hid hT
  have hkey : By (4 * n) key := fun j hj => hA.byte (by omega)
  have HPB := Lib.hid (padk_by (key := key) hn hkey N T)
  have hd : decide ((1073741824 : Int) < (T : Nat)) = false := by rw [decide_eq_false_iff_not]; omega
  obtain ⟨S, hS, hSi⟩ : ∃ S, 16 * T = S ∧ (16 : Int) * (T : Nat) = (S : Nat) := ⟨16 * T, rfl, by omega⟩
  have HS := Lib.hid hS
  have hSl : (S : Int) ≤ 17179869184 := by omega
  clear hA hn hl hN hT hkey hS
  go_enter Try.func6, Try.ntmps6
  go_wp2_with fail
  refine (small7_any _).mono ?_
  rintro e w1 ⟨rfl, h1⟩
  have H1 := Lib.hid h1
  clear h1
  go_wp2_with fail
  refine (pad_any A len n cap N T key w1 HNN.out (Nat.le_trans HTT.out (by decide)) HN.out HL.out (HA.out.keep H1.out)).mono ?_
  rintro e w2 ⟨st, rfl, h1, h2, h3⟩
  have H2 := Lib.hid (H1.out.trans (h3.mono H1.out.size))
  have HP2 := Lib.hid h2
  clear h1 h2 h3
  go_wp2_with fail
  have HR := Lib.hid (rowB_made w2 16)
  have HB := Lib.hid (H2.out.alloc H2.out.size (.cells (madeCells #[.int .u8 0] 16) 5))
  have HP3 := Lib.hid (HP2.out.alloc (.cells (madeCells #[.int .u8 0] 16) 5))
  clear hmk
  generalize w2.alloc (.cells (madeCells #[.int .u8 0] 16) 5) = w3 at *
  generalize w2.heap.size = zb at *
  refine (xor_any A (some ⟨zb, 0, none⟩) len n cap 16 16 N S key (fun _ => 0) w3 HN.out HL.out (HA.out.keep HB.out) (HR.out.slB0 (Nat.le_refl 16) (fun _ _ => Nat.zero_lt_succ _)) HNN.out (by have := HTT.out; have := HS.out; omega) (by decide)).mono ?_
  rintro e w4 ⟨sx, rfl, h1, h2, h3⟩
  have H4 := Lib.hid (HB.out.trans (h3.mono HB.out.size))
  have hcp := convSl (cap := 16) ((HP3.out.keep h3).slB HPB.out) (Nat.le_refl 16)
  have hr4 : RowB w4 sx 16 (padk n key N T) := h2.congr fun j hj => by rw [← HS.out]; exact xorf_zero j hj
  have hcx := convSl (cap := 16) (hr4.slB0 (Nat.le_refl 16) HPB.out) (Nat.le_refl 16)
  obtain ⟨X, hX⟩ : ∃ X, strOf 16 (padk n key N T) = X := ⟨_, rfl⟩
  rw [hX] at hcp hcx
  clear h1 h2 h3 hr4 hX
  go_wp2_with fail
  go_ret
  exact ⟨rfl, H4.out⟩
theorem zeros_all (A : Option Addr) (len cap : Nat) (key : Nat → Nat) (N T : Int) (w : World) (hl : len ≤ 140737488351232) (hA : SlB w A len key) (hN : N ≤ 9223372036854775807) :
    Calls Try.prog 6 #[.slice A len cap, .int .i64 N, .int .i64 T] w fun e w' => e = .returned (.bool true) ∧ Below w.heap.size w w' := by
  by_cases hT : 1073741824 < T
  · exact zeros_far A len cap N T w hT
  · by_cases h : wrong len N T
    · exact zeros_wrong A len cap N T w hl h hT
    · obtain ⟨n, N', T', hn, hl4, rfl, rfl⟩ := right_of h
      exact zeros_right A len n cap N' T' key w (by omega) (by omega) hn hl4 hA
end Go.Proofs.Ytgfdnhpfdbaddaa
