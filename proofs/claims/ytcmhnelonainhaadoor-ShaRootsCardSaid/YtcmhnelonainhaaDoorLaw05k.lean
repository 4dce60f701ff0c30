/- Law ShaRoots: below. Written by wip/specs/mkbelow.py 2 3. -/
import Derived.Test.YtcmhnelonainhaaDoorLaw05j
namespace Go.Proofs.YtcmhnelonainhaaDoor
open Go.RowKit
theorem below_first {B n i X : Nat} {a O : Nat → Nat} (hX : num B (n + 1) O = X) (ha : ∀ j, j < n + 1 → a j < B) (hO : ∀ j, j < n → O j < B) (hi : i < n + 1) (h : ∀ j, i + 1 ≤ j → j < n + 1 → a j = O j) (hne : a i ≠ O i) : decide (num B (n + 1) a < X) = decide (a i < O i) := by
  rw [← hX]
  rcases Nat.lt_or_ge (a i) (O i) with h1 | h1
  · rw [decide_eq_true h1, decide_eq_true (num_less hi (fun j hj => ha j (by omega)) h1 fun j h2 h3 => h j h2 h3)]
  · have h3 := num_less hi (fun j hj => hO j (by omega)) (show O i < a i by omega) fun j h2 h3 => (h j h2 h3).symm
    rw [decide_eq_false (by omega), decide_eq_false (by omega)]
theorem upd0_lt {s z L : Nat} (h : z < L) (j : Nat) : upd (fun _ => 0) s z j < L := by
  unfold upd
  split
  · exact h
  · exact Nat.lt_of_le_of_lt (Nat.zero_le z) h
theorem below_none {B n X : Nat} {a O : Nat → Nat} (hX : num B n O = X) (h : ∀ j, 0 ≤ j → j < n → a j = O j) : decide (num B n a < X) = false := by
  rw [← hX, num_congr (f := a) (g := O) fun j hj => h j (Nat.zero_le j) hj]
  exact decide_eq_false (Nat.lt_irrefl _)
set_option maxRecDepth 100000 in
set_option maxHeartbeats 1600000 in
theorem below2_any (g c p : Nat) (a : Nat → Nat) (w : World) (hp : p ≤ 400) (hA : ArrV w g 0 4 (ints a)) (ha : ∀ j, j < 4 → a j < 262144) :
    Calls Tryd.prog 24 #[.slice (some ⟨g, 0, none⟩) 4 c, .int .i64 (p : Nat), .int .i64 2] w fun e w' => e = .returned (.bool (decide (num 262144 4 a < p * 1024 * 262144 ^ 3))) ∧ Below w.heap.size w w' := by
  have HA := Lib.hid hA
  have HYA := Lib.hid ha
  clear hA ha
  have hmk := run_makeI 4 (by decide)
  rw [show ((4 : Nat) : Int) = 4 from rfl] at hmk
  obtain ⟨z, hz⟩ : ∃ z, p * 1024 = z := ⟨_, rfl⟩
  have hzi : (p : Int) * 1024 = (z : Nat) := by omega
  have hzl : z < 68719476736 := by omega
  have hzW := IntWalk.i64_in (z : Int) (by omega)
  rw [hz]
  clear hz
  obtain ⟨G, hG⟩ : ∃ G, w.heap.size = G := ⟨_, rfl⟩
  have HO0 := Lib.hid (rowI_made w 4)
  have HB0 := Lib.hid ((Below.refl w.heap.size w).alloc (Nat.le_refl _) (.cells (madeCells #[.int .i64 0] 4) 3))
  have HGE := Lib.hid hG
  have h3c := HO0.out.cell (j := 3) (by decide) rfl
  have h3f := HO0.out.frozen (j := 3) (by decide) rfl
  rw [hG] at HO0 HB0 h3c h3f
  go_enter Tryd.func24, Tryd.ntmps24
  go_wp2_with fail
  have HO1 := Lib.hid (show ArrV (w.alloc (.cells ((madeCells #[.int .i64 0] 4).setIfInBounds 3 (.int .i64 (z : Nat))) 3)) w.heap.size 0 4 (ints (upd (fun _ => 0) 3 z)) from arrV_made _ _ _ _ _ (by
    apply Array.ext'
    rw [Array.toList_setIfInBounds, toList_madeCells_one]
    rfl))
  have HB1 := Lib.hid ((Below.refl w.heap.size w).alloc (Nat.le_refl _) (.cells ((madeCells #[.int .i64 0] 4).setIfInBounds 3 (.int .i64 (z : Nat))) 3))
  have HN1 := Lib.hid (show num 262144 4 (upd (fun _ => 0) 3 z) = z * 262144 ^ 3 from (num_lone 262144 3 z 4 (by decide)))
  rw [HGE.out] at HO1 HB1
  have HAk := Lib.hid (show ∀ w', Below G w w' → ArrV w' g 0 4 (ints a) from fun w' hb => HA.out.keep (HGE.out.symm ▸ hb))
  generalize w.alloc (.cells ((madeCells #[.int .i64 0] 4).setIfInBounds 3 (.int .i64 (z : Nat))) 3) = w1 at *
  clear hmk h3c h3f HO0 HB0 hG
  go_loopw [9] (fun v9 wr => ∃ (k : Nat) (O : Nat → Nat), k + 1 ≤ 4 ∧ v9 = .int .i64 (k : Nat) ∧ ArrV wr G 0 4 (ints O) ∧ (∀ j, j < 4 → j < k → O j < 262144) ∧ (∀ j, j < 4 → k < j → O j < 68719476736) ∧ O k < 137438953472 ∧ num 262144 4 O = z * 262144 ^ 3 ∧ Below G w wr) (fun v9 _ => 4 - (intOf v9).toNat)
  case atStart => exact ⟨0, _, by decide, rfl, HO1.out, fun j _ h => absurd h (Nat.not_lt_zero j), fun j _ _ => upd0_lt hzl j, upd0_lt (Nat.lt_trans hzl (by decide)) 0, HN1.out, HB1.out⟩
  case round =>
    obtain ⟨k, O3, hkN, rfl, ho, hob, hob2, hok, hnum, hbl⟩ := hrel
    have HO3 := Lib.hid ho
    have HOB3 := Lib.hid hob
    have HOC3 := Lib.hid hob2
    have HNM3 := Lib.hid hnum
    have HCH3 := Lib.hid hbl
    clear ho hob hob2 hnum hbl
    by_cases hlt3 : k + 1 < 4
    · have hk1 : (k : Int) + 1 < 4 := by omega
      have hk2 : (k : Int) < 3 := by omega
      obtain ⟨q, hq⟩ : ∃ q, k + 1 = q := ⟨_, rfl⟩
      have hqi : (k : Int) + 1 = (q : Nat) := by omega
      have hqN : (q : Int) < 4 := by omega
      have hqW := IntWalk.i64_in (q : Int) (by omega)
      have hck := HO3.out.cell (j := k) (by omega) (Nat.zero_add k).symm
      have hcq := HO3.out.cell (j := q) (by omega) (Nat.zero_add q).symm
      have hfq := HO3.out.frozen (j := q) (by omega) (Nat.zero_add q).symm
      have hu := HOC3.out q (by omega) (by omega)
      obtain ⟨y, hye⟩ : ∃ y, O3 k = y := ⟨_, rfl⟩
      obtain ⟨u, hue⟩ : ∃ u, O3 q = u := ⟨_, rfl⟩
      simp only [ints, hye] at hck
      simp only [ints, hue] at hcq
      rw [hue] at hu
      rw [hye] at hok
      obtain ⟨e, he⟩ : ∃ e, y / 262144 = e := ⟨_, rfl⟩
      have hei : (y : Int) / 262144 = (e : Nat) := by omega
      obtain ⟨s, hs⟩ : ∃ s, u + e = s := ⟨_, rfl⟩
      have hsi : (u : Int) + (e : Nat) = (s : Nat) := by omega
      have hsl : s < 137438953472 := by omega
      have hsW := IntWalk.i64_in (s : Int) (by omega)
      have HYE := Lib.hid hye
      have HUE := Lib.hid hue
      have HQE := Lib.hid hq
      have HEE := Lib.hid he
      have HSE := Lib.hid hs
      clear hye hue hq he hs
      go_wp2_with fail
      go_region
      have HO4 := Lib.hid (show ArrV (wr.setCell ⟨G, q, none⟩ (.int .i64 (s : Nat))).drew G 0 4 (ints (upd O3 q s)) from ((HO3.out.set (by omega) (Nat.zero_add q).symm (.int .i64 (s : Nat))).congr fun j _ => upd_ints O3 q s j).drew)
      have HC4 := Lib.hid (show Below G w (wr.setCell ⟨G, q, none⟩ (.int .i64 (s : Nat))).drew from drawn (HCH3.out.setCell (p := ⟨G, q, none⟩) (Nat.le_refl _) (.int .i64 (s : Nat))) 1)
      clear hck hcq hfq hei hsi hsW HO3 HCH3
      generalize (wr.setCell ⟨G, q, none⟩ (.int .i64 (s : Nat))).drew = wd at *
      have hck := HO4.out.cell (j := k) (by omega) (Nat.zero_add k).symm
      have hfk := HO4.out.frozen (j := k) (by omega) (Nat.zero_add k).symm
      have hyk : upd O3 q s k = y := by unfold upd; rw [if_neg (by omega)]; exact HYE.out
      simp only [ints, hyk] at hck
      have hmk := mask18 y
      obtain ⟨r, hr⟩ : ∃ r, y % 262144 = r := ⟨_, rfl⟩
      rw [hr] at hmk
      have hrl : r < 262144 := by omega
      have HRE := Lib.hid hr
      clear hr hyk
      go_wp2_with fail
      go_roundw
      case rel =>
        refine ⟨k + 1, upd (upd O3 q s) k r, by omega, by go_num, ?_, fun j hj hjk => ?_, fun j hj hjk => ?_, ?_, ?_, ?_⟩
        · exact (HO4.out.set (by omega) (Nat.zero_add k).symm (.int .i64 (r : Nat))).congr fun j _ => upd_ints _ k r j
        · unfold upd
          by_cases e1 : j = k
          · rw [if_pos e1]; exact hrl
          · rw [if_neg e1, if_neg (by have := HQE.out; omega)]
            exact HOB3.out j hj (by omega)
        · unfold upd
          rw [if_neg (by omega), if_neg (by have := HQE.out; omega)]
          exact HOC3.out j hj (by omega)
        · unfold upd
          rw [if_neg (by omega), if_pos HQE.out]
          exact hsl
        · have h := carry_step (B := 262144) (O := O3) hlt3
          rw [HYE.out, HQE.out, HUE.out, HEE.out, HSE.out, HRE.out] at h
          rw [h]
          exact HNM3.out
        · exact HC4.out.setCell (p := ⟨G, k, none⟩) (Nat.le_refl _) (.int .i64 (r : Nat))
      case measure => simp [intOf]; omega
    · obtain rfl : k = 3 := by omega
      have HL3 := Lib.hid (show ∀ j, j < 3 → O3 j < 262144 from fun j hj => HOB3.out j (by omega) hj)
      go_wp2_with fail
      go_loopw [10] (fun v10 wr => ∃ m : Nat, m ≤ 4 ∧ v10 = .int .i64 ((m : Int) - 1) ∧ (∀ j, m ≤ j → j < 4 → a j = O3 j) ∧ ArrV wr G 0 4 (ints O3) ∧ Below G w wr) (fun v10 _ => (intOf v10 + 1).toNat)
      case atStart => exact ⟨4, Nat.le_refl _, rfl, fun j h1 h2 => absurd h1 (by omega), HO3.out, HCH3.out⟩
      case round =>
        obtain ⟨m, hm, rfl, hall, ho, hb⟩ := hrel
        have HAL := Lib.hid hall
        have HO5 := Lib.hid ho
        have HB5 := Lib.hid hb
        clear hall ho hb
        by_cases h0 : 0 < m
        · obtain ⟨i, rfl⟩ : ∃ i, m = i + 1 := ⟨m - 1, by omega⟩
          have hi1 : ((i + 1 : Nat) : Int) - 1 = (i : Nat) := by omega
          rw [hi1]
          have hin : (i : Int) < 4 := by omega
          have hca := (HAk.out wr HB5.out).cell (j := i) (by omega) (Nat.zero_add i).symm
          have hco := HO5.out.cell (j := i) (by omega) (Nat.zero_add i).symm
          obtain ⟨x, hx⟩ : ∃ x, a i = x := ⟨_, rfl⟩
          obtain ⟨y, hy⟩ : ∃ y, O3 i = y := ⟨_, rfl⟩
          simp only [ints, hx] at hca
          simp only [ints, hy] at hco
          have HX := Lib.hid hx
          have HY := Lib.hid hy
          clear hx hy
          by_cases hxy : x = y
          · have hne : ((x : Int) != (y : Nat)) = false := by simp; omega
            have HXY := Lib.hid hxy
            clear hxy
            go_wp2_with fail
            go_quiet (fail)
            have HO6 := Lib.hid (HO5.out.drewN nq)
            have HB6 := Lib.hid (drawn HB5.out nq)
            clear HO5 HB5 hca hco
            generalize wr.drewN nq = wd at *
            go_wp2_with fail
            go_roundw
            case rel => exact ⟨i, by omega, rfl, fun j h1 h2 => by
              rcases Nat.lt_or_ge i j with h3 | h3
              · exact HAL.out j h3 h2
              · obtain rfl : j = i := by omega
                rw [HX.out, HY.out]; exact HXY.out, HO6.out, HB6.out⟩
            case measure => simp [intOf]
          · have hne : ((x : Int) != (y : Nat)) = true := by simp; omega
            have HF := Lib.hid (below_first (B := 262144) (n := 3) HNM3.out HYA.out HL3.out (by omega) HAL.out (by rw [HX.out, HY.out]; exact hxy))
            rw [HX.out, HY.out] at HF
            clear hxy
            go_wp2_with fail
            go_quiet (fail)
            have HB6 := Lib.hid (drawn HB5.out nq)
            have hca2 : (wr.drewN nq).cell? ⟨g, i, none⟩ = some (.int .i64 (x : Nat)) := hca
            have hco2 : (wr.drewN nq).cell? ⟨G, i, none⟩ = some (.int .i64 (y : Nat)) := hco
            clear HO5 HB5 hca hco
            generalize wr.drewN nq = wd at *
            go_wp2_with fail
            go_quiet (fail)
            go_wp2_with fail
            go_ret
            have hg := HGE.out
            subst hg
            exact ⟨congrArg (fun b => Ending.returned (.bool b)) HF.out.symm, drawn HB6.out nq⟩
        · obtain rfl : m = 0 := by omega
          have HF := Lib.hid (below_none HNM3.out HAL.out)
          go_wp2_with fail
          go_ret
          have hg := HGE.out
          subst hg
          exact ⟨congrArg (fun b => Ending.returned (.bool b)) HF.out.symm, HB5.out⟩
set_option maxRecDepth 100000 in
set_option maxHeartbeats 1600000 in
theorem below3_any (g c p : Nat) (a : Nat → Nat) (w : World) (hp : p ≤ 400) (hA : ArrV w g 0 6 (ints a)) (ha : ∀ j, j < 6 → a j < 262144) :
    Calls Tryd.prog 24 #[.slice (some ⟨g, 0, none⟩) 6 c, .int .i64 (p : Nat), .int .i64 3] w fun e w' => e = .returned (.bool (decide (num 262144 6 a < p * 64 * 262144 ^ 5))) ∧ Below w.heap.size w w' := by
  have HA := Lib.hid hA
  have HYA := Lib.hid ha
  clear hA ha
  have hmk := run_makeI 6 (by decide)
  rw [show ((6 : Nat) : Int) = 6 from rfl] at hmk
  obtain ⟨z, hz⟩ : ∃ z, p * 64 = z := ⟨_, rfl⟩
  have hzi : (p : Int) * 64 = (z : Nat) := by omega
  have hzl : z < 68719476736 := by omega
  have hzW := IntWalk.i64_in (z : Int) (by omega)
  rw [hz]
  clear hz
  obtain ⟨G, hG⟩ : ∃ G, w.heap.size = G := ⟨_, rfl⟩
  have HO0 := Lib.hid (rowI_made w 6)
  have HB0 := Lib.hid ((Below.refl w.heap.size w).alloc (Nat.le_refl _) (.cells (madeCells #[.int .i64 0] 6) 3))
  have HGE := Lib.hid hG
  have h3c := HO0.out.cell (j := 5) (by decide) rfl
  have h3f := HO0.out.frozen (j := 5) (by decide) rfl
  rw [hG] at HO0 HB0 h3c h3f
  go_enter Tryd.func24, Tryd.ntmps24
  go_wp2_with fail
  have HO1 := Lib.hid (show ArrV (w.alloc (.cells ((madeCells #[.int .i64 0] 6).setIfInBounds 5 (.int .i64 (z : Nat))) 3)) w.heap.size 0 6 (ints (upd (fun _ => 0) 5 z)) from arrV_made _ _ _ _ _ (by
    apply Array.ext'
    rw [Array.toList_setIfInBounds, toList_madeCells_one]
    rfl))
  have HB1 := Lib.hid ((Below.refl w.heap.size w).alloc (Nat.le_refl _) (.cells ((madeCells #[.int .i64 0] 6).setIfInBounds 5 (.int .i64 (z : Nat))) 3))
  have HN1 := Lib.hid (show num 262144 6 (upd (fun _ => 0) 5 z) = z * 262144 ^ 5 from (num_lone 262144 5 z 6 (by decide)))
  rw [HGE.out] at HO1 HB1
  have HAk := Lib.hid (show ∀ w', Below G w w' → ArrV w' g 0 6 (ints a) from fun w' hb => HA.out.keep (HGE.out.symm ▸ hb))
  generalize w.alloc (.cells ((madeCells #[.int .i64 0] 6).setIfInBounds 5 (.int .i64 (z : Nat))) 3) = w1 at *
  clear hmk h3c h3f HO0 HB0 hG
  go_loopw [9] (fun v9 wr => ∃ (k : Nat) (O : Nat → Nat), k + 1 ≤ 6 ∧ v9 = .int .i64 (k : Nat) ∧ ArrV wr G 0 6 (ints O) ∧ (∀ j, j < 6 → j < k → O j < 262144) ∧ (∀ j, j < 6 → k < j → O j < 68719476736) ∧ O k < 137438953472 ∧ num 262144 6 O = z * 262144 ^ 5 ∧ Below G w wr) (fun v9 _ => 6 - (intOf v9).toNat)
  case atStart => exact ⟨0, _, by decide, rfl, HO1.out, fun j _ h => absurd h (Nat.not_lt_zero j), fun j _ _ => upd0_lt hzl j, upd0_lt (Nat.lt_trans hzl (by decide)) 0, HN1.out, HB1.out⟩
  case round =>
    obtain ⟨k, O3, hkN, rfl, ho, hob, hob2, hok, hnum, hbl⟩ := hrel
    have HO3 := Lib.hid ho
    have HOB3 := Lib.hid hob
    have HOC3 := Lib.hid hob2
    have HNM3 := Lib.hid hnum
    have HCH3 := Lib.hid hbl
    clear ho hob hob2 hnum hbl
    by_cases hlt3 : k + 1 < 6
    · have hk1 : (k : Int) + 1 < 6 := by omega
      have hk2 : (k : Int) < 5 := by omega
      obtain ⟨q, hq⟩ : ∃ q, k + 1 = q := ⟨_, rfl⟩
      have hqi : (k : Int) + 1 = (q : Nat) := by omega
      have hqN : (q : Int) < 6 := by omega
      have hqW := IntWalk.i64_in (q : Int) (by omega)
      have hck := HO3.out.cell (j := k) (by omega) (Nat.zero_add k).symm
      have hcq := HO3.out.cell (j := q) (by omega) (Nat.zero_add q).symm
      have hfq := HO3.out.frozen (j := q) (by omega) (Nat.zero_add q).symm
      have hu := HOC3.out q (by omega) (by omega)
      obtain ⟨y, hye⟩ : ∃ y, O3 k = y := ⟨_, rfl⟩
      obtain ⟨u, hue⟩ : ∃ u, O3 q = u := ⟨_, rfl⟩
      simp only [ints, hye] at hck
      simp only [ints, hue] at hcq
      rw [hue] at hu
      rw [hye] at hok
      obtain ⟨e, he⟩ : ∃ e, y / 262144 = e := ⟨_, rfl⟩
      have hei : (y : Int) / 262144 = (e : Nat) := by omega
      obtain ⟨s, hs⟩ : ∃ s, u + e = s := ⟨_, rfl⟩
      have hsi : (u : Int) + (e : Nat) = (s : Nat) := by omega
      have hsl : s < 137438953472 := by omega
      have hsW := IntWalk.i64_in (s : Int) (by omega)
      have HYE := Lib.hid hye
      have HUE := Lib.hid hue
      have HQE := Lib.hid hq
      have HEE := Lib.hid he
      have HSE := Lib.hid hs
      clear hye hue hq he hs
      go_wp2_with fail
      go_region
      have HO4 := Lib.hid (show ArrV (wr.setCell ⟨G, q, none⟩ (.int .i64 (s : Nat))).drew G 0 6 (ints (upd O3 q s)) from ((HO3.out.set (by omega) (Nat.zero_add q).symm (.int .i64 (s : Nat))).congr fun j _ => upd_ints O3 q s j).drew)
      have HC4 := Lib.hid (show Below G w (wr.setCell ⟨G, q, none⟩ (.int .i64 (s : Nat))).drew from drawn (HCH3.out.setCell (p := ⟨G, q, none⟩) (Nat.le_refl _) (.int .i64 (s : Nat))) 1)
      clear hck hcq hfq hei hsi hsW HO3 HCH3
      generalize (wr.setCell ⟨G, q, none⟩ (.int .i64 (s : Nat))).drew = wd at *
      have hck := HO4.out.cell (j := k) (by omega) (Nat.zero_add k).symm
      have hfk := HO4.out.frozen (j := k) (by omega) (Nat.zero_add k).symm
      have hyk : upd O3 q s k = y := by unfold upd; rw [if_neg (by omega)]; exact HYE.out
      simp only [ints, hyk] at hck
      have hmk := mask18 y
      obtain ⟨r, hr⟩ : ∃ r, y % 262144 = r := ⟨_, rfl⟩
      rw [hr] at hmk
      have hrl : r < 262144 := by omega
      have HRE := Lib.hid hr
      clear hr hyk
      go_wp2_with fail
      go_roundw
      case rel =>
        refine ⟨k + 1, upd (upd O3 q s) k r, by omega, by go_num, ?_, fun j hj hjk => ?_, fun j hj hjk => ?_, ?_, ?_, ?_⟩
        · exact (HO4.out.set (by omega) (Nat.zero_add k).symm (.int .i64 (r : Nat))).congr fun j _ => upd_ints _ k r j
        · unfold upd
          by_cases e1 : j = k
          · rw [if_pos e1]; exact hrl
          · rw [if_neg e1, if_neg (by have := HQE.out; omega)]
            exact HOB3.out j hj (by omega)
        · unfold upd
          rw [if_neg (by omega), if_neg (by have := HQE.out; omega)]
          exact HOC3.out j hj (by omega)
        · unfold upd
          rw [if_neg (by omega), if_pos HQE.out]
          exact hsl
        · have h := carry_step (B := 262144) (O := O3) hlt3
          rw [HYE.out, HQE.out, HUE.out, HEE.out, HSE.out, HRE.out] at h
          rw [h]
          exact HNM3.out
        · exact HC4.out.setCell (p := ⟨G, k, none⟩) (Nat.le_refl _) (.int .i64 (r : Nat))
      case measure => simp [intOf]; omega
    · obtain rfl : k = 5 := by omega
      have HL3 := Lib.hid (show ∀ j, j < 5 → O3 j < 262144 from fun j hj => HOB3.out j (by omega) hj)
      go_wp2_with fail
      go_loopw [10] (fun v10 wr => ∃ m : Nat, m ≤ 6 ∧ v10 = .int .i64 ((m : Int) - 1) ∧ (∀ j, m ≤ j → j < 6 → a j = O3 j) ∧ ArrV wr G 0 6 (ints O3) ∧ Below G w wr) (fun v10 _ => (intOf v10 + 1).toNat)
      case atStart => exact ⟨6, Nat.le_refl _, rfl, fun j h1 h2 => absurd h1 (by omega), HO3.out, HCH3.out⟩
      case round =>
        obtain ⟨m, hm, rfl, hall, ho, hb⟩ := hrel
        have HAL := Lib.hid hall
        have HO5 := Lib.hid ho
        have HB5 := Lib.hid hb
        clear hall ho hb
        by_cases h0 : 0 < m
        · obtain ⟨i, rfl⟩ : ∃ i, m = i + 1 := ⟨m - 1, by omega⟩
          have hi1 : ((i + 1 : Nat) : Int) - 1 = (i : Nat) := by omega
          rw [hi1]
          have hin : (i : Int) < 6 := by omega
          have hca := (HAk.out wr HB5.out).cell (j := i) (by omega) (Nat.zero_add i).symm
          have hco := HO5.out.cell (j := i) (by omega) (Nat.zero_add i).symm
          obtain ⟨x, hx⟩ : ∃ x, a i = x := ⟨_, rfl⟩
          obtain ⟨y, hy⟩ : ∃ y, O3 i = y := ⟨_, rfl⟩
          simp only [ints, hx] at hca
          simp only [ints, hy] at hco
          have HX := Lib.hid hx
          have HY := Lib.hid hy
          clear hx hy
          by_cases hxy : x = y
          · have hne : ((x : Int) != (y : Nat)) = false := by simp; omega
            have HXY := Lib.hid hxy
            clear hxy
            go_wp2_with fail
            go_quiet (fail)
            have HO6 := Lib.hid (HO5.out.drewN nq)
            have HB6 := Lib.hid (drawn HB5.out nq)
            clear HO5 HB5 hca hco
            generalize wr.drewN nq = wd at *
            go_wp2_with fail
            go_roundw
            case rel => exact ⟨i, by omega, rfl, fun j h1 h2 => by
              rcases Nat.lt_or_ge i j with h3 | h3
              · exact HAL.out j h3 h2
              · obtain rfl : j = i := by omega
                rw [HX.out, HY.out]; exact HXY.out, HO6.out, HB6.out⟩
            case measure => simp [intOf]
          · have hne : ((x : Int) != (y : Nat)) = true := by simp; omega
            have HF := Lib.hid (below_first (B := 262144) (n := 5) HNM3.out HYA.out HL3.out (by omega) HAL.out (by rw [HX.out, HY.out]; exact hxy))
            rw [HX.out, HY.out] at HF
            clear hxy
            go_wp2_with fail
            go_quiet (fail)
            have HB6 := Lib.hid (drawn HB5.out nq)
            have hca2 : (wr.drewN nq).cell? ⟨g, i, none⟩ = some (.int .i64 (x : Nat)) := hca
            have hco2 : (wr.drewN nq).cell? ⟨G, i, none⟩ = some (.int .i64 (y : Nat)) := hco
            clear HO5 HB5 hca hco
            generalize wr.drewN nq = wd at *
            go_wp2_with fail
            go_quiet (fail)
            go_wp2_with fail
            go_ret
            have hg := HGE.out
            subst hg
            exact ⟨congrArg (fun b => Ending.returned (.bool b)) HF.out.symm, drawn HB6.out nq⟩
        · obtain rfl : m = 0 := by omega
          have HF := Lib.hid (below_none HNM3.out HAL.out)
          go_wp2_with fail
          go_ret
          have hg := HGE.out
          subst hg
          exact ⟨congrArg (fun b => Ending.returned (.bool b)) HF.out.symm, HB5.out⟩
end Go.Proofs.YtcmhnelonainhaaDoor
