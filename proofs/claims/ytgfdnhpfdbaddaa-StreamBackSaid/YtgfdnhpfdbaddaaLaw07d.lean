/- StreamBack. -/
import Derived.Test.YtgfdnhpfdbaddaaLaw07a
namespace Go.Proofs.Ytgfdnhpfdbaddaa
open Go.RowKit
set_option maxRecDepth 100000 in
set_option maxHeartbeats 1600000 in
theorem back7_out (A P : Option Addr) (len cap m c : Nat) (N T K : Int) (w : World) (hm : m ≤ 140737488351232) (h : 1024 < m ∨ 1073741824 < T ∨ K < 0 ∨ (m : Int) < K) :
    Calls Try.prog 5 #[.slice A len cap, .int .i64 N, .int .i64 T, .slice P m c, .int .i64 K] w fun e w' => e = .returned (.bool true) ∧ Below w.heap.size w w' := by
  have hb : decide ((1024 : Int) < (m : Nat)) = true ∨ (decide ((1024 : Int) < (m : Nat)) = false ∧ decide (1073741824 < T) = true) ∨
      (decide ((1024 : Int) < (m : Nat)) = false ∧ decide (1073741824 < T) = false ∧ decide (K < 0) = true) ∨ (decide ((1024 : Int) < (m : Nat)) = false ∧ decide (1073741824 < T) = false ∧ decide (K < 0) = false ∧ decide ((m : Int) < K) = true) := by
    simp only [decide_eq_true_eq, decide_eq_false_iff_not]
    omega
  clear h
  rcases hb with h1 | ⟨h1, h2⟩ | ⟨h1, h2, h3⟩ | ⟨h1, h2, h3, h4⟩
  all_goals
    go_enter Try.func5, Try.ntmps5
    go_wp2_with fail
    refine (small7_any _).mono ?_
    rintro e w1 ⟨rfl, h1⟩
    have H1 := Lib.hid h1
    clear h1
    go_wp2_with fail
    go_ret
    exact ⟨rfl, H1.out⟩
set_option maxRecDepth 100000 in
set_option maxHeartbeats 1600000 in
theorem back7_wrong (A P : Option Addr) (len cap m c K : Nat) (N T : Int) (w : World) (hl : len ≤ 140737488351232) (hm : m ≤ 1024) (hT : T ≤ 1073741824) (hK : K ≤ m) (h : wrong len N T) :
    Calls Try.prog 5 #[.slice A len cap, .int .i64 N, .int .i64 T, .slice P m c, .int .i64 (K : Nat)] w fun e w' => e = .returned (.bool true) ∧ Below w.heap.size w w' := by
  have h1 : decide ((1024 : Int) < (m : Nat)) = false := by rw [decide_eq_false_iff_not]; omega
  have h3 : decide ((1073741824 : Int) < T) = false := by rw [decide_eq_false_iff_not]; omega
  have h4 : decide (((K : Nat) : Int) < 0) = false := by rw [decide_eq_false_iff_not]; omega
  have hKi : (K : Int) ≤ (m : Nat) := by omega
  have HW := Lib.hid h
  have HL := Lib.hid hl
  clear h hl hT hK
  go_enter Try.func5, Try.ntmps5
  go_wp2_with fail
  refine (small7_any _).mono ?_
  rintro e w1 ⟨rfl, h⟩
  have H1 := Lib.hid h
  clear h
  go_wp2_with fail
  refine (xor_arg A P len cap m c N T w1 HL.out HW.out).mono ?_
  rintro e w2 ⟨rfl, rfl⟩
  go_wp2_with fail
  go_ret
  exact ⟨rfl, H1.out⟩
/-- the second part, at its place -/
theorem xorf_part {n N T k : Nat} {key p : Nat → Nat} (j : Nat) : xorf n key N (T + k) (fun j => p (k + j)) j = xorf n key N T p (k + j) := by
  unfold xorf
  rw [Nat.add_assoc]
set_option maxRecDepth 100000 in
set_option maxHeartbeats 3200000 in
theorem back7_right (A P : Option Addr) (len n cap m c N T K : Nat) (key p : Nat → Nat) (w : World) (hm : m ≤ 1024) (hc : m ≤ c) (hT : T ≤ 1073741824) (hK : K ≤ m) (hN : N ≤ 9223372036854775807) (hn : n = 4 ∨ n = 8) (hl : 4 * n = len) (hA : SlB w A len key) (hP : SlB w P m p) :
    Calls Try.prog 5 #[.slice A len cap, .int .i64 (N : Nat), .int .i64 (T : Nat), .slice P m c, .int .i64 (K : Nat)] w fun e w' => e = .returned (.bool true) ∧ Below w.heap.size w w' := by
  have h1 : decide ((1024 : Int) < (m : Nat)) = false := by rw [decide_eq_false_iff_not]; omega
  have h3 : decide ((1073741824 : Int) < (T : Nat)) = false := by rw [decide_eq_false_iff_not]; omega
  have h4 : decide (((K : Nat) : Int) < 0) = false := by rw [decide_eq_false_iff_not]; omega
  have hKi : (K : Int) ≤ (m : Nat) := by omega
  have HA := Lib.hid hA
  have HP := Lib.hid hP
  have HN := Lib.hid hn
  have HL := Lib.hid hl
  have HNN := Lib.hid hN
  have HTT := Lib.hid hT
  have HMM := Lib.hid hm
  have HC := Lib.hid hc
  have HK := Lib.hid hK
  have HY := Lib.hid (show By (4 * n) key from fun j hj => hA.byte (by omega))
  have HPY := Lib.hid (show By m p from fun j hj => hP.byte hj)
  obtain ⟨e, he, hei⟩ : ∃ e, T + K = e ∧ (T : Int) + (K : Nat) = (e : Nat) := ⟨T + K, rfl, by omega⟩
  have hel : (e : Int) ≤ 1099511700000 := by omega
  have HE := Lib.hid he
  have hlo := fun w => run_lo w P m c K (by omega)
  have hhi := fun w => run_hi w P m c K hK
  clear hA hP hn hl hN hT hm hc hK he
  go_enter Try.func5, Try.ntmps5
  go_wp2_with fail
  refine (small7_any _).mono ?_
  rintro e' w1 ⟨rfl, h⟩
  have H1 := Lib.hid h
  clear h
  go_wp2_with fail
  refine (xor_any A P len n cap m c N T key p w1 HN.out HL.out (HA.out.keep H1.out) (HP.out.keep H1.out) HNN.out (by have := HTT.out; omega) (by have := HMM.out; omega)).mono ?_
  rintro e' w2 ⟨sx, rfl, _, h7, h8⟩
  have H2 := Lib.hid (H1.out.trans (h8.mono H1.out.size))
  have HX2 := Lib.hid h7
  clear h7 h8
  go_wp2_with fail
  refine (xor_any A (some ⟨sx, 0, none⟩) len n cap m m N T key (xorf n key N T p) w2 HN.out HL.out (HA.out.keep H2.out) (HX2.out.slB0 (Nat.le_refl m) (xorf_lt HN.out HY.out HPY.out)) HNN.out (by have := HTT.out; omega) (by have := HMM.out; omega)).mono ?_
  rintro e' w3 ⟨sy, rfl, _, h7, h8⟩
  have H3 := Lib.hid (H2.out.trans (h8.mono H2.out.size))
  have HX3 := Lib.hid (HX2.out.keep h8)
  have HY3 := Lib.hid (h7.congr (f := p) fun j hj => xorf_twice (m := m) j hj)
  clear h7 h8
  go_wp2_with fail
  refine (xor_any A (loA P c) len n cap K c N T key p w3 HN.out HL.out (HA.out.keep H3.out) ((HP.out.keep H3.out).loA c HK.out) HNN.out (by have := HTT.out; omega) (by have := HMM.out; have := HK.out; omega)).mono ?_
  rintro e' w4 ⟨sa, rfl, _, h7, h8⟩
  have H4 := Lib.hid (H3.out.trans (h8.mono H3.out.size))
  have HX4 := Lib.hid (HX3.out.keep h8)
  have HY4 := Lib.hid (HY3.out.keep h8)
  have HA4 := Lib.hid h7
  clear h7 h8
  go_wp2_with fail
  refine (xor_any A (hiA P c K) len n cap (m - K) (c - K) N e key (fun j => p (K + j)) w4 HN.out HL.out (HA.out.keep H4.out) ((HP.out.keep H4.out).hiA HK.out HC.out) HNN.out (by have := HTT.out; have := HE.out; have := HMM.out; have := HK.out; omega) (by have := HMM.out; omega)).mono ?_
  rintro e' w5 ⟨sb, rfl, _, h7, h8⟩
  have H5 := Lib.hid (H4.out.trans (h8.mono H4.out.size))
  have HXY := Lib.hid (xorf_lt (N := N) (T := T) HN.out HY.out HPY.out)
  have hcx := convSl (cap := m) ((HX4.out.keep h8).slB0 (Nat.le_refl m) HXY.out) (Nat.le_refl m)
  have hcy := convSl (cap := m) ((HY4.out.keep h8).slB0 (Nat.le_refl m) HPY.out) (Nat.le_refl m)
  have hcp := convSl (cap := c) (HP.out.keep H5.out) (Nat.le_refl m)
  have hca := convSl (cap := K) ((HA4.out.keep h8).slB0 (Nat.le_refl K) (fun j hj => HXY.out j (Nat.lt_of_lt_of_le hj HK.out))) (Nat.le_refl K)
  have hr5 : RowB w5 sb (m - K) (fun j => xorf n key N T p (K + j)) := h7.congr fun j _ => by rw [← HE.out]; exact xorf_part j
  have hcb := convSl (cap := m - K) (hr5.slB0 (Nat.le_refl _) (fun j hj => HXY.out (K + j) (by have := HK.out; omega))) (Nat.le_refl (m - K))
  have hst : strOf K (xorf n key N T p) ++ strOf (m - K) (fun j => xorf n key N T p (K + j)) = strOf m (xorf n key N T p) := by
    rw [strOf_cat K (m - K) _ _ (xorf n key N T p) (fun _ _ => rfl) (fun _ _ => rfl), show K + (m - K) = m by have := HK.out; omega]
  have hz1 : (strOf K (xorf n key N T p)).size ≤ 1024 := by rw [strOf_size]; have := HMM.out; have := HK.out; omega
  have hz2 : (strOf (m - K) (fun j => xorf n key N T p (K + j))).size ≤ 1024 := by rw [strOf_size]; have := HMM.out; omega
  generalize strOf K (xorf n key N T p) = ga at *
  generalize strOf (m - K) (fun j => xorf n key N T p (K + j)) = gb at *
  generalize strOf m (xorf n key N T p) = gx at *
  generalize strOf m p = gp at *
  clear h7 h8 hr5 hlo hhi
  go_wp2_with fail
  go_ret
  exact ⟨rfl, H5.out⟩
theorem back7_all (A P : Option Addr) (len cap m c : Nat) (key p : Nat → Nat) (N T K : Int) (w : World) (hl : len ≤ 140737488351232) (hm : m ≤ 140737488351232) (hc : m ≤ c) (hA : SlB w A len key) (hP : SlB w P m p) (hN : N ≤ 9223372036854775807) :
    Calls Try.prog 5 #[.slice A len cap, .int .i64 N, .int .i64 T, .slice P m c, .int .i64 K] w fun e w' => e = .returned (.bool true) ∧ Below w.heap.size w w' := by
  by_cases h : 1024 < m ∨ 1073741824 < T ∨ K < 0 ∨ (m : Int) < K
  · exact back7_out A P len cap m c N T K w hm h
  · obtain ⟨K', rfl⟩ : ∃ K' : Nat, K = (K' : Nat) := ⟨K.toNat, by omega⟩
    by_cases hw : wrong len N T
    · exact back7_wrong A P len cap m c K' N T w hl (by omega) (by omega) (by omega) hw
    · obtain ⟨n, N', T2, hn, hl4, rfl, rfl⟩ := right_of hw
      exact back7_right A P len n cap m c N' T2 K' key p w (by omega) hc (by omega) (by omega) (by omega) hn hl4 hA hP
end Go.Proofs.Ytgfdnhpfdbaddaa
