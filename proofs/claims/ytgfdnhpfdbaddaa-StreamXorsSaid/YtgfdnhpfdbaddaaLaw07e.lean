/- StreamXors. -/
import Derived.Test.YtgfdnhpfdbaddaaLaw07a
import Derived.Test.YtgfdnhpfdbaddaaRef07X
import Derived.Test.YtgfdnhpfdbaddaaKeyL
namespace Go.Proofs.Ytgfdnhpfdbaddaa
open Go.RowKit
/-- what Xor answers, refused or not: how long, which bytes, which error -/
def XU (k : Nat) (f : Nat → Nat) (E : Nat) (W : World) (e : Ending) (w' : World) : Prop :=
  ∃ A c g, e = .returned (.tuple #[.slice A k c, .int .i64 (E : Nat)]) ∧ SlB w' A k f ∧ (0 < c → A = some ⟨g, 0, none⟩ ∧ Arr w' g 0 c f ∧ W.heap.size ≤ g) ∧ c ≤ 65536 ∧ Below W.heap.size W w'
/-- what the reference answers -/
def RXU (k : Nat) (f : Nat → Nat) (E : Nat) (W : World) (e : Ending) (w' : World) : Prop :=
  ∃ A c, e = .returned (.tuple #[.slice A k c, .int .i64 (E : Nat)]) ∧ SlB w' A k f ∧ Below W.heap.size W w'
set_option maxRecDepth 100000 in
set_option maxHeartbeats 1600000 in
theorem xors_out (A P : Option Addr) (len cap m c : Nat) (N T : Int) (w : World) (h1 : 1024 < m) (h2 : m ≤ 65536) :
    Calls Try.prog 3 #[.slice A len cap, .int .i64 N, .int .i64 T, .slice P m c] w fun e w' => e = .returned (.bool true) ∧ Below w.heap.size w w' := by
  have d1 : decide ((1024 : Int) < (m : Nat)) = true := by rw [decide_eq_true_eq]; omega
  have d2 : decide (((m : Nat) : Int) ≤ 65536) = true := by rw [decide_eq_true_eq]; omega
  clear h1
  go_enter Try.func3, Try.ntmps3
  go_wp2_with fail
  refine (small7_any _).mono ?_
  rintro e w1 ⟨rfl, h1⟩
  have H1 := Lib.hid h1
  clear h1
  go_wp2_with fail
  go_ret
  exact ⟨rfl, H1.out⟩
set_option maxRecDepth 100000 in
set_option maxHeartbeats 3200000 in
theorem xors_go (A P : Option Addr) (len cap m c k E : Nat) (key p f : Nat → Nat) (N T : Int) (w : World) (hl : len ≤ 140737488351232) (hm : m ≤ 140737488351232) (hA : SlB w A len key) (hP : SlB w P m p) (h : m ≤ 1024 ∨ 65536 < m)
    (hx : ∀ W gK gP, SlB W (some ⟨gK, 0, none⟩) len key → SlB W (some ⟨gP, 0, none⟩) m p → Calls Try.prog 10 #[.slice (some ⟨gK, 0, none⟩) len (len + 1), .int .i64 N, .int .i64 T, .slice (some ⟨gP, 0, none⟩) m (m + 1)] W (XU k f E W))
    (hr : ∀ W, SlB W A len key → SlB W P m p → Calls Try.prog 11 #[.slice A len cap, .int .i64 N, .int .i64 T, .slice P m c] W (RXU k f E W)) :
    Calls Try.prog 3 #[.slice A len cap, .int .i64 N, .int .i64 T, .slice P m c] w fun e w' => e = .returned (.bool true) ∧ Below w.heap.size w w' := by
  have hb : decide ((1024 : Int) < (m : Nat)) = false ∨ (decide ((1024 : Int) < (m : Nat)) = true ∧ decide (((m : Nat) : Int) ≤ 65536) = false) := by
    simp only [decide_eq_true_eq, decide_eq_false_iff_not]
    omega
  have HA := Lib.hid hA
  have HP := Lib.hid hP
  have HKY := Lib.hid (show By len key from fun j hj => hA.byte hj)
  have HPY := Lib.hid (show By m p from fun j hj => hP.byte hj)
  have HX := Lib.hid hx
  have HR := Lib.hid hr
  have HL := Lib.hid hl
  have HM := Lib.hid hm
  clear h hA hP hx hr hl
  rcases hb with d1 | ⟨d1, d2⟩
  all_goals
    go_enter Try.func3, Try.ntmps3
    go_wp2_with fail
    refine (small7_any _).mono ?_
    rintro e w1 ⟨rfl, h1⟩
    have H1 := Lib.hid h1
    clear h1
    go_wp2_with fail
    refine (lent_any A len cap key w1 HL.out (HA.out.keep H1.out)).mono ?_
    rintro e w2 ⟨gK, rfl, h1, h2, h3⟩
    have HGK := Lib.hid (Nat.le_trans H1.out.size h1)
    have HK2 := Lib.hid h2
    have H2 := Lib.hid (H1.out.trans (h3.mono H1.out.size))
    clear h1 h2 h3
    go_wp2_with fail
    refine (lent_any P m c p w2 HM.out (HP.out.keep H2.out)).mono ?_
    rintro e w3 ⟨gP, rfl, h1, h2, h3⟩
    have HGP := Lib.hid h1
    have HP3 := Lib.hid h2
    have HK3 := Lib.hid (HK2.out.of_block (h3.block gK HK2.out.lt))
    have HKP := Lib.hid (show gK < gP from Nat.lt_of_lt_of_le HK2.out.lt h1)
    have H3 := Lib.hid (H2.out.trans (h3.mono H2.out.size))
    clear h1 h2 h3
    go_wp2_with fail
    refine (HX.out w3 gK gP (lent_slB HK3.out HKY.out) (lent_slB HP3.out HPY.out)).mono ?_
    rintro e w4 ⟨AX, cX, gX, rfl, h1, h2, h3, h4⟩
    have HX4 := Lib.hid h1
    have HO4 := Lib.hid h2
    have HC4 := Lib.hid h3
    have HP4 := Lib.hid (HP3.out.of_block (h4.block gP HP3.out.lt))
    have HK4 := Lib.hid (HK3.out.of_block (h4.block gK HK3.out.lt))
    have H4 := Lib.hid (H3.out.trans (h4.mono H3.out.size))
    clear h1 h2 h3 h4
    go_wp2_with fail
    refine (HR.out w4 (HA.out.keep H4.out) (HP.out.keep H4.out)).mono ?_
    rintro e w5 ⟨AR, cR, rfl, h1, h4⟩
    have HX5 := Lib.hid (HX4.out.keep h4)
    have HR5 := Lib.hid h1
    have HP5 := Lib.hid (HP4.out.of_block (h4.block gP HP4.out.lt))
    have HK5 := Lib.hid (HK4.out.of_block (h4.block gK HK4.out.lt))
    have HO5 := Lib.hid (fun (h : 0 < cX) => (HO4.out h).2.1.keep h4)
    have H5 := Lib.hid (H4.out.trans (h4.mono H4.out.size))
    clear h1 h4
    go_wp2_with fail
    refine (kept_any gK A len cap key w5 HL.out (HA.out.keep H5.out) HK5.out).mono ?_
    rintro e w6 ⟨rfl, rfl⟩
    go_wp2_with fail
    refine (kept_any gP P m c p w5 HM.out (HP.out.keep H5.out) HP5.out).mono ?_
    rintro e w6 ⟨rfl, rfl⟩
    have hcx := convSl (cap := cX) HX5.out (Nat.le_refl k)
    have hcr := convSl (cap := cR) HR5.out (Nat.le_refl k)
    obtain ⟨X, hX⟩ : ∃ X, strOf k f = X := ⟨_, rfl⟩
    rw [hX] at hcx hcr
    clear hX
    go_wp2_with fail
    refine (owned_three w5 AX (some ⟨gK, 0, none⟩) (some ⟨gP, 0, none⟩) k len m cX (len + 1) (m + 1) gX gK gP f (fun j => if j < len then key j else 77) (fun j => if j < m then p j else 77) w.heap.size
      (fun h => ⟨(HO4.out h).1, HO5.out h, Nat.le_trans H3.out.size (HO4.out h).2.2⟩) (fun _ => ⟨rfl, lent_arr HK5.out, HGK.out⟩) (fun _ => ⟨rfl, lent_arr HP5.out, Nat.le_trans H2.out.size HGP.out⟩)
      (fun h _ => by have := (HO4.out h).2.2; have := HK3.out.lt; omega) (fun h _ => by have := (HO4.out h).2.2; have := HP3.out.lt; omega) (fun _ _ => by have := HKP.out; omega) (by have := HC4.out; omega) (by have := HL.out; omega) (by have := HM.out; omega) H5.out.size).mono ?_
    rintro e w7 ⟨rfl, hb⟩
    have H7 := Lib.hid (H5.out.trans hb)
    clear hb
    go_wp2_with fail
    go_ret
    exact ⟨rfl, H7.out⟩
theorem xors_all (A P : Option Addr) (len cap m c : Nat) (key p : Nat → Nat) (N T : Int) (w : World) (hl : len ≤ 140737488351232) (hm : m ≤ 140737488351232) (hcap : len ≤ cap) (hA : SlB w A len key) (hP : SlB w P m p) (hN : N ≤ 9223372036854775807) (hT : T ≤ 9223372036854775807) :
    Calls Try.prog 3 #[.slice A len cap, .int .i64 N, .int .i64 T, .slice P m c] w fun e w' => e = .returned (.bool true) ∧ Below w.heap.size w w' := by
  by_cases hs : 1024 < m ∧ m ≤ 65536
  · exact xors_out A P len cap m c N T w hs.1 hs.2
  have hs' : m ≤ 1024 ∨ 65536 < m := by omega
  by_cases h : wrong len N T
  · exact xors_go A P len cap m c 0 1 key p (fun _ => 0) N T w hl hm hA hP hs'
      (fun W gK gP hK hQ => (xor_arg _ _ len (len + 1) m (m + 1) N T W hl h).mono fun e w' ⟨he, hw⟩ => ⟨none, 0, 0, he, SlB.none0 _ _, fun h => absurd h (Nat.lt_irrefl 0), by decide, hw ▸ Below.refl _ _⟩)
      (fun W hK hQ => (rxor_arg A P len cap m c key N T W hl hcap hK h).mono fun e w' ⟨he, hw⟩ => ⟨none, 0, he, SlB.none0 _ _, hw⟩)
  · obtain ⟨n, N', T', hn, hl4, rfl, rfl⟩ := right_of h
    by_cases hlong : 65536 < m ∨ 1099511627776 < T'
    · exact xors_go A P len cap m c 0 2 key p (fun _ => 0) N' T' w hl hm hA hP hs'
        (fun W gK gP hK hQ => (xor_long _ _ len n (len + 1) m (m + 1) N' T' key W hn hl4 hK (by omega) hm hlong).mono fun e w' ⟨he, hw⟩ => ⟨none, 0, 0, he, SlB.none0 _ _, fun h => absurd h (Nat.lt_irrefl 0), by decide, hw⟩)
        (fun W hK hQ => (rxor_long A P len n cap m c N' T' key W hn hl4 hcap hK hm hlong).mono fun e w' ⟨he, hw⟩ => ⟨none, 0, he, SlB.none0 _ _, hw⟩)
    · have hkey : By (4 * n) key := fun j hj => hA.byte (by omega)
      have hpb : By m p := fun j hj => hP.byte hj
      exact xors_go A P len cap m c m 0 key p (xorf n key N' T' p) N' T' w hl hm hA hP hs'
        (fun W gK gP hK hQ => (xor_any _ _ len n (len + 1) m (m + 1) N' T' key p W hn hl4 hK hQ (by omega) (by omega) (by omega)).mono fun e w' ⟨st, he, h1, h2, h3⟩ =>
          ⟨some ⟨st, 0, none⟩, m, st, he, h2.slB0 (Nat.le_refl m) (xorf_lt hn hkey hpb), fun _ => ⟨rfl, RowX.arr h2.rowX, h1⟩, by omega, h3⟩)
        (fun W hK hQ => (rxor_any A P len n cap m c N' T' key p W hn hl4 hcap hK hQ (by omega) (by omega) (by omega)).mono fun e w' ⟨A', c', he, _, h2, h3⟩ => ⟨A', c', he, h2, h3⟩)
end Go.Proofs.Ytgfdnhpfdbaddaa
