/- The reference: times (numbers in limbs). -/
import Derived.Test.YtcmhnelonainhaaDoorRef05E
import Derived.Test.YtcmhnelonainhaaDoorNum
namespace Go.Proofs.YtcmhnelonainhaaDoor
open Go.RowKit
theorem rowI_made (w : World) (n : Nat) : ArrV (w.alloc (.cells (madeCells #[.int .i64 0] n) 3)) w.heap.size 0 n (ints fun _ => 0) := by
  refine arrV_made w _ _ n _ ?_
  apply Array.ext'
  rw [toList_madeCells_one]
  unfold valsL
  show List.replicate n (Value.int .i64 0) = (List.range n).map fun _ => Value.int .i64 0
  rw [List.map_const', List.length_range]
theorem run_makeI (n : Nat) (hn : n ≤ 1000000) (W : World) : (Instr.makeSlice 37 (.int .i64 (n : Nat)) (.int .i64 (n : Nat))).run Tryd.prog W = .ok (.slice (some ⟨W.heap.size, 0, none⟩) n n) (W.alloc (.cells (madeCells #[.int .i64 0] n) 3)) := by
  obtain ⟨i, hi, hz, hsz, hb⟩ := info_parts infoI
  have := run_make (P := Tryd.prog) W 37 3 i (.int .i64 0) Tryd.underlying37 hi hz .i64 .i64 (n : Int) (n : Int) (by omega) (by omega) (by rw [hb]; omega) (by omega)
  rw [this, hsz, Int.toNat_natCast, Nat.mul_one]
  rfl
theorem upd_ints (O : Nat → Nat) (q x j : Nat) : (if j = q then Value.int .i64 (x : Nat) else ints O j) = ints (upd O q x) j := by
  by_cases h : j = q
  · simp [upd, h]
  · simp [upd, h]
set_option maxHeartbeats 800000 in
theorem rtimes_any (g1 g2 n1 n2 c1 c2 : Nat) (a b : Nat → Nat) (w : World) (h1 : n1 ≤ 100) (h2 : n2 ≤ 100) (hA : ArrV w g1 0 n1 (ints a)) (hB : ArrV w g2 0 n2 (ints b)) (ha : ∀ j, j < n1 → a j < 65536) (hb : ∀ j, j < n2 → b j < 65536) :
    Calls Tryd.prog 36 #[.slice (some ⟨g1, 0, none⟩) n1 c1, .slice (some ⟨g2, 0, none⟩) n2 c2] w fun e w' => ∃ O, e = .returned (.slice (some ⟨w.heap.size, 0, none⟩) (n1 + n2) (n1 + n2)) ∧ ArrV w' w.heap.size 0 (n1 + n2) (ints O) ∧ (∀ j, j < n1 + n2 → O j < 65536) ∧ num 65536 (n1 + n2) O = num 65536 n1 a * num 65536 n2 b ∧ Below w.heap.size w w' := by
  have HA := Lib.hid hA
  have HB := Lib.hid hB
  have HYA := Lib.hid ha
  have HYB := Lib.hid hb
  clear hA hB ha hb
  obtain ⟨N, hN⟩ : ∃ N, n1 + n2 = N := ⟨_, rfl⟩
  have hNi : (n1 : Int) + (n2 : Int) = (N : Nat) := by omega
  have HNN := Lib.hid hN
  rw [hN]
  have hmk := run_makeI N (by omega)
  have HO0 := Lib.hid (rowI_made w N)
  have HB1 := Lib.hid ((Below.refl w.heap.size w).alloc (Nat.le_refl _) (.cells (madeCells #[.int .i64 0] N) 3))
  clear hN
  go_enter Tryd.func36, Tryd.ntmps36
  go_wp2_with fail
  obtain ⟨G, hG⟩ : ∃ G, w.heap.size = G := ⟨_, rfl⟩
  have HAk := Lib.hid (show ∀ w', Below G w w' → ArrV w' g1 0 n1 (ints a) from fun w' hb => HA.out.keep (hG ▸ hb))
  have HBk := Lib.hid (show ∀ w', Below G w w' → ArrV w' g2 0 n2 (ints b) from fun w' hb => HB.out.keep (hG ▸ hb))
  have HGW := Lib.hid hG
  rw [hG] at HO0 HB1
  rw [hG]
  generalize w.alloc (.cells (madeCells #[.int .i64 0] N) 3) = w1 at *
  clear hmk hG
  go_loopw [6] (fun v6 wr => ∃ (i : Nat) (O : Nat → Nat), i ≤ n1 ∧ v6 = .int .i64 (i : Nat) ∧ ArrV wr G 0 N (ints O) ∧ (∀ j, j < N → O j < 65536) ∧ (∀ j, i + n2 ≤ j → O j = 0) ∧ num 65536 N O = num 65536 i a * num 65536 n2 b ∧ Below G w wr) (fun v6 _ => n1 - (intOf v6).toNat)
  case atStart => exact ⟨0, fun _ => 0, Nat.zero_le _, rfl, HO0.out, fun _ _ => (by decide : 0 < 65536), fun _ _ => rfl, by rw [num_zero]; show 0 = 0 * _; rw [Nat.zero_mul], HB1.out⟩
  case round =>
    obtain ⟨i, O, hi, rfl, ho, hob, hoz, hnum, hbl⟩ := hrel
    have HO := Lib.hid ho
    have HOB := Lib.hid hob
    have HOZ := Lib.hid hoz
    have HNM := Lib.hid hnum
    have HBL := Lib.hid hbl
    clear ho hob hoz hnum hbl HO0 HB1
    by_cases hlt : i < n1
    · have hx := HYA.out i hlt
      have hli : (i : Int) < (n1 : Nat) := by omega
      go_wp2_with fail
      go_loopw [7, 8] (fun v7 v8 wr => ∃ (k c : Nat) (O : Nat → Nat), k ≤ n2 ∧ v7 = .int .i64 (c : Nat) ∧ v8 = .int .i64 (k : Nat) ∧ c < 65536 ∧ ArrV wr G 0 N (ints O) ∧ (∀ j, j < N → O j < 65536) ∧ (∀ j, i + n2 ≤ j → O j = 0) ∧ num 65536 N O + c * 65536 ^ (i + k) = num 65536 i a * num 65536 n2 b + a i * num 65536 k b * 65536 ^ i ∧ Below G w wr) (fun _ v8 _ => n2 - (intOf v8).toNat)
      case atStart => exact ⟨0, 0, O, Nat.zero_le _, rfl, rfl, (by decide : 0 < 65536), HO.out, HOB.out, HOZ.out, by rw [HNM.out]; show _ = _ + a i * 0 * _; rw [Nat.mul_zero, Nat.zero_mul, Nat.zero_mul], HBL.out⟩
      case round =>
        obtain ⟨k, c, O2, hk, rfl, rfl, hc, ho, hob, hoz, hnum, hbl⟩ := hrel
        have HO2 := Lib.hid ho
        have HOB2 := Lib.hid hob
        have HOZ2 := Lib.hid hoz
        have HNM2 := Lib.hid hnum
        have HBL2 := Lib.hid hbl
        clear ho hob hoz hnum hbl
        by_cases hlt2 : k < n2
        · have hlk : (k : Int) < (n2 : Nat) := by omega
          have hy := HYB.out k hlt2
          obtain ⟨q, hq⟩ : ∃ q, i + k = q := ⟨_, rfl⟩
          have hqi : (i : Int) + (k : Int) = (q : Nat) := by omega
          have hqN : (q : Int) < (N : Nat) := by have := HNN.out; omega
          have hqW := IntWalk.i64_in (q : Int) (by omega)
          have hca := (HAk.out wr HBL2.out).cell (j := i) hlt (Nat.zero_add i).symm
          have hcb := (HBk.out wr HBL2.out).cell (j := k) hlt2 (Nat.zero_add k).symm
          have hco := HO2.out.cell (j := q) (by have := HNN.out; omega) (Nat.zero_add q).symm
          have hu := HOB2.out q (by have := HNN.out; omega)
          have hds := digit_step hu hx hy hc
          obtain ⟨x, hxe⟩ : ∃ x, a i = x := ⟨_, rfl⟩
          obtain ⟨y, hye⟩ : ∃ y, b k = y := ⟨_, rfl⟩
          obtain ⟨u, hue⟩ : ∃ u, O2 q = u := ⟨_, rfl⟩
          have HXE := Lib.hid hxe
          have HYE := Lib.hid hye
          have HUE := Lib.hid hue
          have HQE := Lib.hid hq
          simp only [ints, hxe, hye, hue] at hca hcb hco
          rw [hxe, hye, hue] at hds
          rw [hue] at hu
          rw [hxe] at hx
          rw [hye] at hy
          obtain ⟨m, hme⟩ : ∃ m, x * y = m := ⟨_, rfl⟩
          have hmi : (x : Int) * (y : Nat) = (m : Nat) := by rw [← hme, Int.natCast_mul]
          rw [hme] at hds
          have HME := Lib.hid hme
          obtain ⟨hd1, hd2⟩ := hds
          have m1 := IntWalk.i64_in (m : Int) (by omega)
          obtain ⟨s1, e1⟩ : ∃ s, u + m = s := ⟨_, rfl⟩
          obtain ⟨s2, e2⟩ : ∃ s, s1 + c = s := ⟨_, rfl⟩
          have e1i : (u : Int) + (m : Nat) = (s1 : Nat) := by omega
          have e2i : (s1 : Int) + (c : Nat) = (s2 : Nat) := by omega
          have m2 := IntWalk.i64_in (s1 : Int) (by omega)
          have m3 := IntWalk.i64_in (s2 : Int) (by omega)
          rw [e1, e2] at hd1 hd2
          have HE1 := Lib.hid e1
          have HE2 := Lib.hid e2
          clear hxe hye hue hq hme e1 e2
          go_wp2_with fail
          go_quiet (fail)
          have HO3 := Lib.hid (HO2.out.drewN nq)
          have HB3 := Lib.hid (drawn HBL2.out nq)
          clear hca hcb hco m1 m2 m3 hmi e1i e2i HO2 HBL2
          generalize wr.drewN nq = wd at *
          obtain ⟨r, hr⟩ : ∃ r, s2 % 65536 = r := ⟨_, rfl⟩
          obtain ⟨d, hd⟩ : ∃ d, s2 / 65536 = d := ⟨_, rfl⟩
          have hri : (s2 : Int) % 65536 = (r : Nat) := by omega
          have hdi : (s2 : Int) / 65536 = (d : Nat) := by omega
          have hcf := HO3.out.frozen (j := q) (by have := HNN.out; omega) (Nat.zero_add q).symm
          have hcc := HO3.out.cell (j := q) (by have := HNN.out; omega) (Nat.zero_add q).symm
          have hrl : r < 65536 := by omega
          have hdl : d < 65536 := by rw [← hd]; exact hd2
          have HRE := Lib.hid hr
          have HDE := Lib.hid hd
          clear hr hd
          go_wp2_with fail
          go_roundw
          case rel =>
            refine ⟨k + 1, d, upd O2 q r, by omega, rfl, by go_num, hdl, ?_, ?_, ?_, ?_, ?_⟩
            · exact (HO3.out.set (by have := HNN.out; omega) (Nat.zero_add q).symm _).congr fun j _ => upd_ints O2 q r j
            · intro j hj
              unfold upd
              split
              · exact hrl
              · exact HOB2.out j hj
            · intro j hj
              have := HQE.out
              unfold upd
              rw [if_neg (by omega)]
              exact HOZ2.out j hj
            · have h := times_step (N := N) (c := c) (y := s2) (by have := HNN.out; have := HQE.out; omega) HNM2.out (by rw [HXE.out, HYE.out, HME.out, HQE.out, HUE.out, HE1.out, HE2.out])
              rw [HQE.out, HRE.out, HDE.out] at h
              exact h
            · exact HB3.out.setCell (Nat.le_refl _) _
          case measure => simp [intOf]; omega
        · obtain rfl : k = n2 := by omega
          obtain ⟨q, hq⟩ : ∃ q, i + k = q := ⟨_, rfl⟩
          have hqi : (i : Int) + (k : Int) = (q : Nat) := by omega
          have hqN : (q : Int) < (N : Nat) := by have := HNN.out; omega
          have hcf := HO2.out.frozen (j := q) (by have := HNN.out; omega) (Nat.zero_add q).symm
          have hco := HO2.out.cell (j := q) (by have := HNN.out; omega) (Nat.zero_add q).symm
          have hz := HOZ2.out q (by omega)
          simp only [ints, hz] at hco
          have HZ := Lib.hid hz
          have HQE := Lib.hid hq
          clear hz hq
          go_wp2_with fail
          go_roundw
          case rel =>
            refine ⟨i + 1, upd O2 q c, by omega, by go_num, ?_, ?_, ?_, ?_, ?_⟩
            · exact (HO2.out.set (by have := HNN.out; omega) (Nat.zero_add q).symm _).congr fun j _ => upd_ints O2 q c j
            · intro j hj
              unfold upd
              split
              · exact hc
              · exact HOB2.out j hj
            · intro j hj
              have := HQE.out
              unfold upd
              rw [if_neg (by omega)]
              exact HOZ2.out j (by omega)
            · have h := times_last (by have := HNN.out; have := HQE.out; omega) HNM2.out (by rw [HQE.out]; exact HZ.out)
              rw [HQE.out] at h
              rw [h]
              show _ = (num 65536 i a + a i * 65536 ^ i) * num 65536 k b
              rw [Nat.add_mul, Nat.mul_right_comm]
            · exact HBL2.out.setCell (Nat.le_refl _) _
          case measure => simp [intOf]; omega
    · obtain rfl : i = n1 := by omega
      go_wp2_with fail
      go_ret
      have hg := HGW.out
      subst hg
      exact ⟨O, rfl, HO.out, HOB.out, HNM.out, HBL.out⟩
end Go.Proofs.YtcmhnelonainhaaDoor
