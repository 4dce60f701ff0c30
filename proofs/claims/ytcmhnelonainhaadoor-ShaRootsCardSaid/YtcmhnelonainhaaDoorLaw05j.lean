/- Law ShaRoots: times (numbers in limbs of 2^18). -/
import Derived.Test.YtcmhnelonainhaaDoorRef05J
import Derived.Test.YtcmhnelonainhaaDoorBits
namespace Go.Proofs.YtcmhnelonainhaaDoor
open Go.RowKit
theorem carry_step {B N k : Nat} {O : Nat → Nat} (hk : k + 1 < N) : num B N (upd (upd O (k + 1) (O (k + 1) + O k / B)) k (O k % B)) = num B N O := by
  have h1 := num_set B (n := N) O (O (k + 1) + O k / B) hk
  have h2 := num_set B (n := N) (upd O (k + 1) (O (k + 1) + O k / B)) (O k % B) (show k < N by omega)
  rw [show upd O (k + 1) (O (k + 1) + O k / B) k = O k from if_neg (by omega)] at h2
  have h3 : O k / B * B ^ (k + 1) + O k % B * B ^ k = O k * B ^ k := by
    rw [Nat.pow_succ, Nat.mul_comm (B ^ k) B, ← Nat.mul_assoc, ← Nat.add_mul, Nat.div_add_mod']
  rw [Nat.add_mul] at h1
  omega
theorem add_step {B N q x S : Nat} {O : Nat → Nat} (hq : q < N) (h : num B N O = S) : num B N (upd O q (O q + x)) = S + x * B ^ q := by
  have h1 := num_set B (n := N) O (O q + x) hq
  rw [Nat.add_mul] at h1
  omega
/-- the highest limb is small where the number is -/
theorem top_lt {B n : Nat} {O : Nat → Nat} (h : num B (n + 1) O < B ^ (n + 1)) : O n < B := by
  have h1 : num B n O + O n * B ^ n < B ^ (n + 1) := h
  rw [Nat.pow_succ] at h1
  rcases Nat.lt_or_ge (O n) B with h2 | h2
  · exact h2
  · have := Nat.mul_le_mul_right (B ^ n) h2
    rw [Nat.mul_comm (B ^ n) B] at h1
    omega
theorem mask18 (x : Nat) : bits BinOp.and .i64 (x : Nat) 262143 = ((x % 262144 : Nat) : Int) := by
  have h := i64_mask 18 262143 (by decide) (by decide) (x : Int)
  simpa using h
set_option maxHeartbeats 1600000 in
theorem ltimes_any (g n c v : Nat) (a : Nat → Nat) (w : World) (h1 : n ≤ 100) (hv : v < 68719476736) (hA : ArrV w g 0 n (ints a)) (ha : ∀ j, j < n → a j < 262144) :
    Calls Tryd.prog 25 #[.slice (some ⟨g, 0, none⟩) n c, .int .i64 (v : Nat)] w fun e w' => ∃ G O, e = .returned (.slice (some ⟨G, 0, none⟩) (n + 2) (n + 2)) ∧ ArrV w' G 0 (n + 2) (ints O) ∧ (∀ j, j < n + 2 → O j < 262144) ∧ num 262144 (n + 2) O = num 262144 n a * v ∧ Below w.heap.size w w' := by
  have HA := Lib.hid hA
  have HYA := Lib.hid ha
  clear hA ha
  obtain ⟨N, hN⟩ : ∃ N, n + 2 = N := ⟨_, rfl⟩
  have hNi : (n : Int) + 2 = (N : Nat) := by omega
  have HNN := Lib.hid hN
  rw [hN]
  have hmk := run_makeI N (by omega)
  have hm0 := mask18 v
  obtain ⟨d0, e0⟩ : ∃ d, v % 262144 = d := ⟨_, rfl⟩
  obtain ⟨d1, e1⟩ : ∃ d, v / 262144 = d := ⟨_, rfl⟩
  rw [e0] at hm0
  have i1 : (v : Int) / 262144 = (d1 : Nat) := by omega
  have hd0 : d0 < 262144 := by omega
  have hd1 : d1 < 262144 := by omega
  have HV := Lib.hid (show d0 + d1 * 262144 = v by omega)
  clear hN e0 e1
  go_enter Tryd.func25, Tryd.ntmps25
  go_wp2_with fail
  obtain ⟨D, hD⟩ : ∃ D, w.heap.size = D := ⟨_, rfl⟩
  have HB1 := Lib.hid (show Below D w ((w.alloc (.cells #[.int .i64 (d0 : Nat), .int .i64 (d1 : Nat)] 3)).alloc (.cells (madeCells #[.int .i64 0] N) 3)) from hD ▸ ((Below.refl _ _).alloc (Nat.le_refl _) _).alloc (by simp) _)
  have HO0 := Lib.hid (show ArrV ((w.alloc (.cells #[.int .i64 (d0 : Nat), .int .i64 (d1 : Nat)] 3)).alloc (.cells (madeCells #[.int .i64 0] N) 3)) (D + 1) 0 N (ints fun _ => 0) from by
    have h := rowI_made (w.alloc (.cells #[.int .i64 (d0 : Nat), .int .i64 (d1 : Nat)] 3)) N
    rw [show (w.alloc (.cells #[.int .i64 (d0 : Nat), .int .i64 (d1 : Nat)] 3)).heap.size = D + 1 by simp [hD]] at h
    exact h)
  have HDD := Lib.hid (show ArrV ((w.alloc (.cells #[.int .i64 (d0 : Nat), .int .i64 (d1 : Nat)] 3)).alloc (.cells (madeCells #[.int .i64 0] N) 3)) D 0 2 (ints (t2 d0 d1)) from
    hD ▸ (arrV_made w #[.int .i64 (d0 : Nat), .int .i64 (d1 : Nat)] 3 2 (ints (t2 d0 d1)) rfl).alloc _)
  have HSZ := Lib.hid (show ((w.alloc (.cells #[.int .i64 (d0 : Nat), .int .i64 (d1 : Nat)] 3)).alloc (.cells (madeCells #[.int .i64 0] N) 3)).heap.size = D + 2 from by simp [hD])
  have HDE := Lib.hid hD
  rw [hD]
  generalize (w.alloc (.cells #[.int .i64 (d0 : Nat), .int .i64 (d1 : Nat)] 3)).alloc (.cells (madeCells #[.int .i64 0] N) 3) = w1 at *
  obtain ⟨G, hG⟩ : ∃ G, D + 1 = G := ⟨_, rfl⟩
  rw [hG] at HO0
  rw [hG]
  have HAk := Lib.hid (show ∀ w', Chg G w1 w' → ArrV w' g 0 n (ints a) from fun w' hc j hj => ((HA.out.keep (HDE.out.symm ▸ HB1.out)).chg hc (Nat.ne_of_lt (by have := HA.out.lt (by omega); have := HDE.out; omega))) j hj)
  have HDk := Lib.hid (show ∀ w', Chg G w1 w' → ArrV w' D 0 2 (ints (t2 d0 d1)) from fun w' hc => HDD.out.chg hc (by omega))
  have HGE := Lib.hid hG
  clear hmk hG hD
  go_loopw [7] (fun v7 wr => ∃ (i : Nat) (O : Nat → Nat), i ≤ n ∧ v7 = .int .i64 (i : Nat) ∧ ArrV wr G 0 N (ints O) ∧ (∀ j, j < N → O j < 262144) ∧ num 262144 N O = num 262144 i a * v ∧ Chg G w1 wr) (fun v7 _ => n - (intOf v7).toNat)
  case atStart => exact ⟨0, fun _ => 0, Nat.zero_le _, rfl, HO0.out, fun _ _ => (by decide : 0 < 262144), by rw [num_zero]; show 0 = 0 * _; rw [Nat.zero_mul], Chg.refl _ _⟩
  case round =>
    obtain ⟨i, O, hi, rfl, ho, hob, hnum, hbl⟩ := hrel
    have HO := Lib.hid ho
    have HOB := Lib.hid hob
    have HNM := Lib.hid hnum
    have HCH := Lib.hid hbl
    clear ho hob hnum hbl HO0
    by_cases hlt : i < n
    · have hx := HYA.out i hlt
      obtain ⟨x, hxe⟩ : ∃ x, a i = x := ⟨_, rfl⟩
      rw [hxe] at hx
      have HXE := Lib.hid hxe
      clear hxe
      have hli : (i : Int) < (n : Nat) := by omega
      have hiN : (i : Int) < (N : Nat) := by omega
      go_wp2_with fail
      go_loopw [8] (fun v8 wr => ∃ (k : Nat) (O : Nat → Nat), k ≤ 2 ∧ v8 = .int .i64 (k : Nat) ∧ ArrV wr G 0 N (ints O) ∧ (∀ j, j < N → j < i ∨ i + k ≤ j → O j < 262144) ∧ (∀ j, j < N → O j < 68719476736) ∧ num 262144 N O = num 262144 i a * v + x * num 262144 k (t2 d0 d1) * 262144 ^ i ∧ Chg G w1 wr) (fun v8 _ => 2 - (intOf v8).toNat)
      case atStart => exact ⟨0, O, Nat.zero_le _, rfl, HO.out, fun j hj _ => HOB.out j hj, fun j hj => Nat.lt_trans (HOB.out j hj) (by decide), by rw [HNM.out]; show _ = _ + x * 0 * _; rw [Nat.mul_zero, Nat.zero_mul, Nat.add_zero], HCH.out⟩
      case round =>
        obtain ⟨k, O2, hk, rfl, ho, hob, hob2, hnum, hbl⟩ := hrel
        have HO2 := Lib.hid ho
        have HOB2 := Lib.hid hob
        have HOC2 := Lib.hid hob2
        have HNM2 := Lib.hid hnum
        have HCH2 := Lib.hid hbl
        clear ho hob hob2 hnum hbl
        by_cases hlt2 : k < 2
        · have hlk : (k : Int) < 2 := by omega
          obtain ⟨q, hq⟩ : ∃ q, i + k = q := ⟨_, rfl⟩
          have hqi : (i : Int) + (k : Int) = (q : Nat) := by omega
          have hqN : (q : Int) < (N : Nat) := by have := HNN.out; omega
          have hqW := IntWalk.i64_in (q : Int) (by omega)
          have hca := (HAk.out wr HCH2.out).cell (j := i) hlt (Nat.zero_add i).symm
          have hcb := (HDk.out wr HCH2.out).cell (j := k) hlt2 (Nat.zero_add k).symm
          have hco := HO2.out.cell (j := q) (by have := HNN.out; omega) (Nat.zero_add q).symm
          have hcf := HO2.out.frozen (j := q) (by have := HNN.out; omega) (Nat.zero_add q).symm
          have hu := HOB2.out q (by have := HNN.out; omega) (by omega)
          have hy : t2 d0 d1 k < 262144 := by unfold t2; split <;> omega
          obtain ⟨y, hye⟩ : ∃ y, t2 d0 d1 k = y := ⟨_, rfl⟩
          obtain ⟨u, hue⟩ : ∃ u, O2 q = u := ⟨_, rfl⟩
          simp only [ints, HXE.out] at hca
          simp only [ints, hye] at hcb
          simp only [ints, hue] at hco
          rw [hye] at hy
          rw [hue] at hu
          have hds := digit_step hu hx hy (show 0 < 262144 by decide)
          obtain ⟨m, hme⟩ : ∃ m, x * y = m := ⟨_, rfl⟩
          have hmi : (x : Int) * (y : Nat) = (m : Nat) := by rw [← hme, Int.natCast_mul]
          rw [hme, Nat.add_zero] at hds
          have m1 := IntWalk.i64_in (m : Int) (by omega)
          obtain ⟨s1, e1⟩ : ∃ s, u + m = s := ⟨_, rfl⟩
          have e1i : (u : Int) + (m : Nat) = (s1 : Nat) := by omega
          have m2 := IntWalk.i64_in (s1 : Int) (by omega)
          rw [e1] at hds
          have hs1 := hds.1
          have HYE := Lib.hid hye
          have HUE := Lib.hid hue
          have HQE := Lib.hid hq
          have HME := Lib.hid hme
          have HE1 := Lib.hid e1
          clear hds hye hue hq hme e1
          go_wp2_with fail
          go_region
          have HO3 := Lib.hid (((HO2.out.set (by have := HNN.out; omega) (Nat.zero_add q).symm (.int .i64 (s1 : Nat))).congr fun j _ => upd_ints O2 q s1 j).drewN 1)
          have HC3 := Lib.hid ((HCH2.out.setCell (a := ⟨G, q, none⟩) (Or.inl rfl) (.int .i64 (s1 : Nat))).drew)
          have HO3' := Lib.hid (show ArrV (wr.setCell ⟨G, q, none⟩ (.int .i64 (s1 : Nat))).drew G 0 N (ints (upd O2 q s1)) from HO3.out)
          clear HO3 hca hcb hco hcf m1 m2 hmi e1i HO2 HCH2
          generalize (wr.setCell ⟨G, q, none⟩ (.int .i64 (s1 : Nat))).drew = wd at *
          go_wp2_with fail
          go_roundw
          case rel =>
            refine ⟨k + 1, upd O2 q s1, by omega, by go_num, HO3'.out, fun j hj hjj => ?_, fun j hj => ?_, ?_, HC3.out⟩
            · have := HQE.out
              unfold upd
              rw [if_neg (by omega)]
              exact HOB2.out j hj (by omega)
            · unfold upd
              split
              · exact hs1
              · exact HOC2.out j hj
            · have h := add_step (x := x * y) (q := q) (by have := HNN.out; have := HQE.out; omega) HNM2.out
              rw [HUE.out, HME.out, HE1.out] at h
              rw [h]
              show _ = _ + x * (num 262144 k (t2 d0 d1) + t2 d0 d1 k * 262144 ^ k) * 262144 ^ i
              rw [HYE.out, Nat.mul_add, Nat.add_mul, ← HQE.out, Nat.pow_add, ← HME.out, Nat.mul_comm (262144 ^ i), ← Nat.mul_assoc (x * y), ← Nat.mul_assoc x y, Nat.add_assoc]
          case measure => simp [intOf]; omega
        · obtain rfl : k = 2 := by omega
          have HNU := Lib.hid (show num 262144 N O2 = num 262144 (i + 1) a * v by
            rw [HNM2.out]
            show num 262144 i a * v + x * (0 + d0 * 1 + d1 * 262144) * 262144 ^ i = (num 262144 i a + a i * 262144 ^ i) * v
            rw [show 0 + d0 * 1 + d1 * 262144 = v by have := HV.out; omega, HXE.out, Nat.add_mul, Nat.mul_right_comm])
          clear HNM2
          go_wp2_with fail
          go_loopw [9] (fun v9 wr => ∃ (k : Nat) (O : Nat → Nat), i ≤ k ∧ k + 1 ≤ N ∧ v9 = .int .i64 (k : Nat) ∧ ArrV wr G 0 N (ints O) ∧ (∀ j, j < N → j < k → O j < 262144) ∧ (∀ j, j < N → k < j → O j < 68719476736) ∧ O k < 137438953472 ∧ num 262144 N O = num 262144 (i + 1) a * v ∧ Chg G w1 wr) (fun v9 _ => N - (intOf v9).toNat)
          case atStart => exact ⟨i, O2, Nat.le_refl _, by omega, rfl, HO2.out, fun j hj h => HOB2.out j hj (Or.inl h), fun j hj _ => HOC2.out j hj, Nat.lt_trans (HOC2.out i (by omega)) (by decide), HNU.out, HCH2.out⟩
          case round =>
            obtain ⟨k, O3, hik, hkN, rfl, ho, hob, hob2, hok, hnum, hbl⟩ := hrel
            have HO3 := Lib.hid ho
            have HOB3 := Lib.hid hob
            have HOC3 := Lib.hid hob2
            have HNM3 := Lib.hid hnum
            have HCH3 := Lib.hid hbl
            clear ho hob hob2 hnum hbl
            by_cases hlt3 : k + 1 < N
            · have hk1 : (k : Int) + 1 < (N : Nat) := by omega
              have hk2 : (k : Int) < (N : Nat) - 1 := by omega
              obtain ⟨q, hq⟩ : ∃ q, k + 1 = q := ⟨_, rfl⟩
              have hqi : (k : Int) + 1 = (q : Nat) := by omega
              have hqN : (q : Int) < (N : Nat) := by omega
              have hqW := IntWalk.i64_in (q : Int) (by omega)
              have hck := HO3.out.cell (j := k) (by omega) (Nat.zero_add k).symm
              have hcq := HO3.out.cell (j := q) (by omega) (Nat.zero_add q).symm
              have hfq := HO3.out.frozen (j := q) (by omega) (Nat.zero_add q).symm
              have hu := HOC3.out q (by omega) (by omega)
              obtain ⟨y, hye⟩ : ∃ y, O3 k = y := ⟨_, rfl⟩
              obtain ⟨u, hue⟩ : ∃ u, O3 q = u := ⟨_, rfl⟩
              simp only [ints, hye] at hck
              simp only [ints, hue] at hcq
              rw [hue] at hu
              rw [hye] at hok
              obtain ⟨e, he⟩ : ∃ e, y / 262144 = e := ⟨_, rfl⟩
              have hei : (y : Int) / 262144 = (e : Nat) := by omega
              obtain ⟨s, hs⟩ : ∃ s, u + e = s := ⟨_, rfl⟩
              have hsi : (u : Int) + (e : Nat) = (s : Nat) := by omega
              have hsl : s < 137438953472 := by omega
              have hsW := IntWalk.i64_in (s : Int) (by omega)
              have HYE := Lib.hid hye
              have HUE := Lib.hid hue
              have HQE := Lib.hid hq
              have HEE := Lib.hid he
              have HSE := Lib.hid hs
              clear hye hue hq he hs
              go_wp2_with fail
              go_region
              have HO4 := Lib.hid (show ArrV (wr.setCell ⟨G, q, none⟩ (.int .i64 (s : Nat))).drew G 0 N (ints (upd O3 q s)) from ((HO3.out.set (by omega) (Nat.zero_add q).symm (.int .i64 (s : Nat))).congr fun j _ => upd_ints O3 q s j).drew)
              have HC4 := Lib.hid ((HCH3.out.setCell (a := ⟨G, q, none⟩) (Or.inl rfl) (.int .i64 (s : Nat))).drew)
              clear hck hcq hfq hei hsi hsW HO3 HCH3
              generalize (wr.setCell ⟨G, q, none⟩ (.int .i64 (s : Nat))).drew = wd at *
              have hck := HO4.out.cell (j := k) (by omega) (Nat.zero_add k).symm
              have hfk := HO4.out.frozen (j := k) (by omega) (Nat.zero_add k).symm
              have hyk : upd O3 q s k = y := by unfold upd; rw [if_neg (by omega)]; exact HYE.out
              simp only [ints, hyk] at hck
              have hmk := mask18 y
              obtain ⟨r, hr⟩ : ∃ r, y % 262144 = r := ⟨_, rfl⟩
              rw [hr] at hmk
              have hrl : r < 262144 := by omega
              have HRE := Lib.hid hr
              clear hr hyk
              go_wp2_with fail
              go_roundw
              case rel =>
                refine ⟨k + 1, upd (upd O3 q s) k r, by omega, by omega, by go_num, ?_, fun j hj hjk => ?_, fun j hj hjk => ?_, ?_, ?_, ?_⟩
                · exact (HO4.out.set (by omega) (Nat.zero_add k).symm (.int .i64 (r : Nat))).congr fun j _ => upd_ints _ k r j
                · unfold upd
                  by_cases e1 : j = k
                  · rw [if_pos e1]; exact hrl
                  · rw [if_neg e1, if_neg (by have := HQE.out; omega)]
                    exact HOB3.out j hj (by omega)
                · unfold upd
                  rw [if_neg (by omega), if_neg (by have := HQE.out; omega)]
                  exact HOC3.out j hj (by omega)
                · unfold upd
                  rw [if_neg (by omega), if_pos HQE.out]
                  exact hsl
                · have h := carry_step (B := 262144) (O := O3) hlt3
                  rw [HYE.out, HQE.out, HUE.out, HEE.out, HSE.out, HRE.out] at h
                  rw [h]
                  exact HNM3.out
                · exact HC4.out.setCell (a := ⟨G, k, none⟩) (Or.inl rfl) (.int .i64 (r : Nat))
              case measure => simp [intOf]; omega
            · have hk1 : ¬ (k : Int) < (N : Nat) - 1 := by omega
              have HOZ := Lib.hid (show ∀ j, j < N → O3 j < 262144 from fun j hj => by
                by_cases e1 : j < k
                · exact HOB3.out j hj e1
                · obtain rfl : j = k := by omega
                  obtain rfl : N = j + 1 := by omega
                  refine top_lt (n := j) ?_
                  rw [HNM3.out]
                  have hl := num_lt (B := 262144) (n := i + 1) (f := a) fun j hj => HYA.out j (by omega)
                  have hp : 262144 ^ (i + 1) * 68719476736 ≤ 262144 ^ (j + 1) := by
                    rw [show 68719476736 = 262144 ^ 2 by decide, ← Nat.pow_add]
                    exact Nat.pow_le_pow_right (by decide) (by have := HNN.out; omega)
                  exact Nat.lt_of_lt_of_le (Nat.mul_lt_mul_of_lt_of_le hl (Nat.le_of_lt hv) (by decide)) hp)
              go_wp2_with fail
              go_roundw
              case rel => exact ⟨i + 1, O3, by omega, by go_num, HO3.out, HOZ.out, HNM3.out, HCH3.out⟩
              case measure => simp [intOf]; omega
    · obtain rfl : i = n := by omega
      go_wp2_with fail
      go_ret
      have hd := HDE.out
      subst hd
      exact ⟨G, O, rfl, HO.out, HOB.out, HNM.out, HB1.out.trans (HCH.out.below (by have := HSZ.out; omega) (by have := HGE.out; omega))⟩
end Go.Proofs.YtcmhnelonainhaaDoor
