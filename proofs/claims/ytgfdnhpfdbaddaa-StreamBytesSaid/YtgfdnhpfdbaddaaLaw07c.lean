/- StreamBytes. -/
import Derived.Test.YtgfdnhpfdbaddaaLaw07a
namespace Go.Proofs.Ytgfdnhpfdbaddaa
open Go.RowKit
set_option maxRecDepth 100000 in
set_option maxHeartbeats 1600000 in
theorem bytes_out (A P : Option Addr) (len cap m c : Nat) (N T K : Int) (w : World) (hm : m ≤ 140737488351232) (h : 1024 < m ∨ T < 0 ∨ 1073741824 < T ∨ K < 0 ∨ (m : Int) ≤ K) :
    Calls Try.prog 7 #[.slice A len cap, .int .i64 N, .int .i64 T, .slice P m c, .int .i64 K] w fun e w' => e = .returned (.bool true) ∧ Below w.heap.size w w' := by
  have hb : decide ((1024 : Int) < (m : Nat)) = true ∨ (decide ((1024 : Int) < (m : Nat)) = false ∧ decide (T < 0) = true) ∨ (decide ((1024 : Int) < (m : Nat)) = false ∧ decide (T < 0) = false ∧ decide (1073741824 < T) = true) ∨
      (decide ((1024 : Int) < (m : Nat)) = false ∧ decide (T < 0) = false ∧ decide (1073741824 < T) = false ∧ decide (K < 0) = true) ∨ (decide ((1024 : Int) < (m : Nat)) = false ∧ decide (T < 0) = false ∧ decide (1073741824 < T) = false ∧ decide (K < 0) = false ∧ decide ((m : Int) ≤ K) = true) := by
    simp only [decide_eq_true_eq, decide_eq_false_iff_not]
    omega
  clear h
  rcases hb with h1 | ⟨h1, h2⟩ | ⟨h1, h2, h3⟩ | ⟨h1, h2, h3, h4⟩ | ⟨h1, h2, h3, h4, h5⟩
  all_goals
    go_enter Try.func7, Try.ntmps7
    go_wp2_with fail
    refine (small7_any _).mono ?_
    rintro e w1 ⟨rfl, h1⟩
    have H1 := Lib.hid h1
    clear h1
    go_wp2_with fail
    go_ret
    exact ⟨rfl, H1.out⟩
set_option maxRecDepth 100000 in
set_option maxHeartbeats 1600000 in
theorem bytes_wrong (A P : Option Addr) (len cap m c T K : Nat) (N : Int) (w : World) (hl : len ≤ 140737488351232) (hm : m ≤ 1024) (hT : T ≤ 1073741824) (hK : K < m) (h : wrong len N (T : Nat)) :
    Calls Try.prog 7 #[.slice A len cap, .int .i64 N, .int .i64 (T : Nat), .slice P m c, .int .i64 (K : Nat)] w fun e w' => e = .returned (.bool true) ∧ Below w.heap.size w w' := by
  have h1 : decide ((1024 : Int) < (m : Nat)) = false := by rw [decide_eq_false_iff_not]; omega
  have h2 : decide (((T : Nat) : Int) < 0) = false := by rw [decide_eq_false_iff_not]; omega
  have h3 : decide ((1073741824 : Int) < (T : Nat)) = false := by rw [decide_eq_false_iff_not]; omega
  have h4 : decide (((K : Nat) : Int) < 0) = false := by rw [decide_eq_false_iff_not]; omega
  have h5 : decide (((m : Nat) : Int) ≤ (K : Nat)) = false := by rw [decide_eq_false_iff_not]; omega
  have hKi : (K : Int) < (m : Nat) := by omega
  have HW := Lib.hid h
  have HL := Lib.hid hl
  clear h hl hT hK
  go_enter Try.func7, Try.ntmps7
  go_wp2_with fail
  refine (small7_any _).mono ?_
  rintro e w1 ⟨rfl, h⟩
  have H1 := Lib.hid h
  clear h
  go_wp2_with fail
  refine (xor_arg A P len cap m c N (T : Nat) w1 HL.out HW.out).mono ?_
  rintro e w2 ⟨rfl, rfl⟩
  go_wp2_with fail
  go_ret
  exact ⟨rfl, H1.out⟩
set_option maxRecDepth 100000 in
set_option maxHeartbeats 3200000 in
theorem bytes_right (A P : Option Addr) (len n cap m c N T K : Nat) (key p : Nat → Nat) (w : World) (hm : m ≤ 1024) (hT : T ≤ 1073741824) (hK : K < m) (hN : N ≤ 9223372036854775807) (hn : n = 4 ∨ n = 8) (hl : 4 * n = len) (hA : SlB w A len key) (hP : SlB w P m p) :
    Calls Try.prog 7 #[.slice A len cap, .int .i64 (N : Nat), .int .i64 (T : Nat), .slice P m c, .int .i64 (K : Nat)] w fun e w' => e = .returned (.bool true) ∧ Below w.heap.size w w' := by
  have h1 : decide ((1024 : Int) < (m : Nat)) = false := by rw [decide_eq_false_iff_not]; omega
  have h2 : decide (((T : Nat) : Int) < 0) = false := by rw [decide_eq_false_iff_not]; omega
  have h3 : decide ((1073741824 : Int) < (T : Nat)) = false := by rw [decide_eq_false_iff_not]; omega
  have h4 : decide (((K : Nat) : Int) < 0) = false := by rw [decide_eq_false_iff_not]; omega
  have h5 : decide (((m : Nat) : Int) ≤ (K : Nat)) = false := by rw [decide_eq_false_iff_not]; omega
  have HA := Lib.hid hA
  have HP := Lib.hid hP
  have HN := Lib.hid hn
  have HL := Lib.hid hl
  have HNN := Lib.hid hN
  have HTT := Lib.hid hT
  have HMM := Lib.hid hm
  have HY := Lib.hid (show By (4 * n) key from fun j hj => hA.byte (by omega))
  obtain ⟨e, he, hei⟩ : ∃ e, T + K = e ∧ (T : Int) + (K : Nat) = (e : Nat) := ⟨T + K, rfl, by omega⟩
  obtain ⟨q, hq, hqi⟩ : ∃ q, e % 16 = q ∧ (e : Int) % 16 = (q : Nat) := ⟨e % 16, rfl, by omega⟩
  obtain ⟨E, hE, hEi⟩ : ∃ E, e / 16 = E ∧ (e : Int) / 16 = (E : Nat) := ⟨e / 16, rfl, by omega⟩
  have hq16 : q < 16 := by rw [← hq]; exact Nat.mod_lt _ (by decide)
  have hel : (e : Int) ≤ 1099511700000 := by omega
  have hEl : (E : Int) ≤ 1099511700000 := by omega
  have HEM := Lib.hid (show E ≤ 9223372036854775807 by omega)
  have hwr : (IntKind.i64.wrap (e : Int)).tmod 16 = (q : Nat) := by rw [IntWalk.i64_in _ (by omega), Int.tmod_eq_emod_of_nonneg (by omega)]; exact hqi
  have HXF := Lib.hid (show xorf n key N T p K = p K ^^^ padk n key N E q by unfold xorf; rw [he, hE, hq])
  have hKi : (K : Int) < (m : Nat) := by omega
  have hK0 : (0 : Int) ≤ (K : Nat) := by omega
  have hq0 : (0 : Int) ≤ (q : Nat) := by omega
  have hqi16 : (q : Int) < 16 := by omega
  have HK := Lib.hid hK
  have HQ := Lib.hid hq16
  obtain ⟨PB, o, hPe, hPl, hPc⟩ := hP (by omega)
  have HPC := Lib.hid (hPc K hK)
  have HPL := Lib.hid hPl
  clear hPc hPl hA hP hn hl hN hT hm he hq hE hK hqi hq16
  subst hPe
  go_enter Try.func7, Try.ntmps7
  go_wp2_with fail
  refine (small7_any _).mono ?_
  rintro e' w1 ⟨rfl, h⟩
  have H1 := Lib.hid h
  clear h
  go_wp2_with fail
  refine (xor_any A (some ⟨PB, o, none⟩) len n cap m c N T key p w1 HN.out HL.out (HA.out.keep H1.out) (HP.out.keep H1.out) HNN.out (by have := HTT.out; omega) (by have := HMM.out; omega)).mono ?_
  rintro e' w2 ⟨sx, rfl, _, h7, h8⟩
  have H2 := Lib.hid (H1.out.trans (h8.mono H1.out.size))
  have HX := Lib.hid h7
  clear h7 h8
  go_wp2_with fail
  refine (pad_any A len n cap N E key w2 HNN.out HEM.out HN.out HL.out (HA.out.keep H2.out)).mono ?_
  rintro e' w3 ⟨st, rfl, _, h7, h8⟩
  have H3 := Lib.hid (H2.out.trans (h8.mono H2.out.size))
  have hcx := (HX.out.keep h8).cell (i := K) HK.out
  have hcp := (H3.out.cell (p := ⟨PB, o + K, none⟩) HPL.out).trans HPC.out.2
  have hcq := h7.cell (j := q) HQ.out (Nat.zero_add q).symm
  rw [HXF.out] at hcx
  have hx8 := HPC.out.1
  have hy8 := padk_by HN.out HY.out N E q HQ.out
  clear h7 h8 HXF HX HP HPC HY
  generalize p K = x at *
  generalize padk n key N E q = y at *
  have b1 : bits BinOp.xor .u8 (x : Int) (y : Int) = ((x ^^^ y : Nat) : Int) := u8_xor_nat x y hx8 hy8
  generalize x ^^^ y = z at *
  go_wp2_with fail
  go_quiet (fail)
  go_wp2_with fail
  go_ret
  exact ⟨rfl, H3.out.os, H3.out.tape, H3.out.output, H3.out.size, H3.out.block⟩
theorem bytes_all (A P : Option Addr) (len cap m c : Nat) (key p : Nat → Nat) (N T K : Int) (w : World) (hl : len ≤ 140737488351232) (hm : m ≤ 140737488351232) (hA : SlB w A len key) (hP : SlB w P m p) (hN : N ≤ 9223372036854775807) :
    Calls Try.prog 7 #[.slice A len cap, .int .i64 N, .int .i64 T, .slice P m c, .int .i64 K] w fun e w' => e = .returned (.bool true) ∧ Below w.heap.size w w' := by
  by_cases h : 1024 < m ∨ T < 0 ∨ 1073741824 < T ∨ K < 0 ∨ (m : Int) ≤ K
  · exact bytes_out A P len cap m c N T K w hm h
  · obtain ⟨T', rfl⟩ : ∃ T' : Nat, T = (T' : Nat) := ⟨T.toNat, by omega⟩
    obtain ⟨K', rfl⟩ : ∃ K' : Nat, K = (K' : Nat) := ⟨K.toNat, by omega⟩
    by_cases hw : wrong len N (T' : Nat)
    · exact bytes_wrong A P len cap m c T' K' N w hl (by omega) (by omega) (by omega) hw
    · obtain ⟨n, N', T2, hn, hl4, rfl, hT2⟩ := right_of hw
      exact bytes_right A P len n cap m c N' T' K' key p w (by omega) (by omega) (by omega) (by omega) hn hl4 hA hP
end Go.Proofs.Ytgfdnhpfdbaddaa
