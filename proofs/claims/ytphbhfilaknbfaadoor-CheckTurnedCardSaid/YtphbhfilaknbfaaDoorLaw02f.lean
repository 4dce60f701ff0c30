/- CheckTurned: the walk. -/
import Derived.Test.YtphbhfilaknbfaaDoorLaw02a
namespace Go.Proofs.YtphbhfilaknbfaaDoor
open Go.RowKit

/-- four numbers by their place -/
def by4 (a b c d i : Nat) : Nat := if i = 0 then a else if i = 1 then b else if i = 2 then c else if i = 3 then d else 0
/-- is one of the first k of them no 0? -/
def any4 (y : Nat → Nat) : Nat → Bool
  | 0 => false
  | k + 1 => any4 y k || y k != 0
/-- the first k of them from a place on -/
def at4 (p k : Nat) (y : Nat → Nat) (j : Nat) : Nat := if p ≤ j ∧ j < p + k then y (j - p) else 0
theorem any4_some {y : Nat → Nat} : ∀ {k : Nat}, any4 y k = true → ∃ i, i < k ∧ y i ≠ 0
  | 0, h => by cases h
  | k + 1, h => by
    unfold any4 at h
    rw [Bool.or_eq_true] at h
    rcases h with h | h
    · obtain ⟨i, hi, hy⟩ := any4_some h
      exact ⟨i, by omega, hy⟩
    · exact ⟨k, by omega, by simpa using h⟩
theorem at4_step (p k : Nat) (y z : Nat → Nat) (j : Nat) : (if j = p + k then z j ^^^ y k else z j ^^^ at4 p k y j) = z j ^^^ at4 p (k + 1) y j := by
  unfold at4
  by_cases h : j = p + k
  · subst h
    rw [if_pos rfl, if_pos (by omega), Nat.add_sub_cancel_left]
  · rw [if_neg h]
    by_cases h2 : p ≤ j ∧ j < p + k
    · rw [if_pos h2, if_pos (by omega)]
    · rw [if_neg h2, if_neg (by omega)]
theorem nb_back (q : Nat) : nb q 0 * 16777216 + nb q 1 * 65536 + nb q 2 * 256 + nb q 3 = q := by
  show q / 16777216 * 16777216 + q / 65536 % 256 * 65536 + q / 256 % 256 * 256 + q % 256 = q
  omega
/-- a sector with up to four turned bytes does not tell its sum -/
theorem turned_told (m p k : Nat) (z y : Nat → Nat) (hz : ∀ j, j < m → z j < 256) (hy : ∀ i, y i < 256) (hk : k ≤ 4) (hp : p + k ≤ m) (ha : any4 y k = true) : told m (fun j => secB m z j ^^^ at4 p k y j) = false := by
  obtain ⟨i, hi, hne⟩ := any4_some ha
  have hd : ∀ j, at4 p k y j < 256 := fun j => by unfold at4; split; exact hy _; decide
  have hs := turned_seen z (at4 p k y) m p (p + i) hz hd (fun j hj => by unfold at4; rw [if_neg (by omega)]) (by omega) (by unfold at4; rw [if_pos (by omega), Nat.add_sub_cancel_left]; exact hne)
  have hc : crc m (fun j => secB m z j ^^^ at4 p k y j) = crc m (fun j => z j ^^^ at4 p k y j) := crc_congr fun j hj => by rw [secB_lo m z j hj]
  have hq := crc_lt m z
  have hhi : ∀ r, secB m z (m + r) ^^^ at4 p k y (m + r) = nb (crc m z) r := fun r => by
    unfold secB at4
    rw [if_neg (by omega), if_neg (by omega), Nat.xor_zero, Nat.add_sub_cancel_left]
  cases ht : told m (fun j => secB m z j ^^^ at4 p k y j)
  · rfl
  · have h2 : sameS (strOf 4 fun j => secB m z (m + j) ^^^ at4 p k y (m + j)) (strOf 4 (nb (crc m (fun j => secB m z j ^^^ at4 p k y j)))) = true := ht
    obtain ⟨_, h3⟩ := strOf_inj (fun j _ => by rw [hhi]; exact nb_lt _ _ hq) (fun j _ => nb_lt _ j (crc_lt _ _)) (sameS_eq h2)
    have e0 := h3 0 (by omega)
    have e1 := h3 1 (by omega)
    have e2 := h3 2 (by omega)
    have e3 := h3 3 (by omega)
    rw [hhi, hc] at e0 e1 e2 e3
    have b1 := nb_back (crc m z)
    have b2 := nb_back (crc m (fun j => z j ^^^ at4 p k y j))
    rw [e0, e1, e2, e3] at b1
    exact absurd (b2.symm.trans b1) hs

set_option maxRecDepth 100000 in
set_option maxHeartbeats 3200000 in
theorem turned_any (A : Option Addr) (n c : Nat) (f : Nat → Nat) (s p ya yb yc yd : Int) (w : World) (hA : SlB w A n f) (ht : Tab w) (hp : -9223372036854775808 ≤ p ∧ p ≤ 9223372036854775807)
    (ha : 0 ≤ ya ∧ ya ≤ 255) (hb_ : 0 ≤ yb ∧ yb ≤ 255) (hc_ : 0 ≤ yc ∧ yc ≤ 255) (hd_ : 0 ≤ yd ∧ yd ≤ 255) :
    Calls Tryd.prog 6 #[.slice A n c, .int .i64 s, .int .i64 p, .int .u8 ya, .int .u8 yb, .int .u8 yc, .int .u8 yd] w fun e w' => e = .returned (.bool true) ∧ Below w.heap.size w w' := by
  have HA := Lib.hid hA
  have HT := Lib.hid ht
  have HF := Lib.hid (fun j (hj : j < n) => hA.byte hj)
  clear hA ht
  obtain ⟨y0, rfl⟩ := Int.eq_ofNat_of_zero_le ha.1
  obtain ⟨y1, rfl⟩ := Int.eq_ofNat_of_zero_le hb_.1
  obtain ⟨y2, rfl⟩ := Int.eq_ofNat_of_zero_le hc_.1
  obtain ⟨y3, rfl⟩ := Int.eq_ofNat_of_zero_le hd_.1
  rcases (show (s < 5 ∨ 4096 < s) ∨ (5 ≤ s ∧ s ≤ 4096 ∧ s - 4 < n) ∨ (5 ≤ s ∧ s ≤ 4096 ∧ (n : Int) ≤ s - 4) by omega) with h | ⟨h, h2, h3⟩ | ⟨h, h2, h3⟩
  · have H := Lib.hid h
    clear h
    go_enter Tryd.func6, Tryd.ntmps6
    go_wp2_with fail
    refine (small_any _ HT.out).mono ?_
    rintro e w1 ⟨rfl, hb1⟩
    have HB1 := Lib.hid hb1
    clear hb1
    go_wp2_with fail
    refine (lay_arg A n c s _ H.out).mono ?_
    rintro e w2 ⟨rfl, rfl⟩
    go_wp2_with fail
    go_ret
    exact ⟨rfl, HB1.out⟩
  · go_enter Tryd.func6, Tryd.ntmps6
    go_wp2_with fail
    refine (small_any _ HT.out).mono ?_
    rintro e w1 ⟨rfl, hb1⟩
    have HB1 := Lib.hid hb1
    clear hb1
    go_wp2_with fail
    refine (lay_long A n c s _ h h2 h3).mono ?_
    rintro e w2 ⟨rfl, rfl⟩
    go_wp2_with fail
    go_ret
    exact ⟨rfl, HB1.out⟩
  · obtain ⟨t, rfl⟩ := Int.eq_ofNat_of_zero_le (show 0 ≤ s by omega)
    obtain ⟨m, hm⟩ : ∃ m, t = m + 4 := ⟨t - 4, by omega⟩
    have HM := Lib.hid hm
    have e4 : (t : Int) - 4 = (m : Nat) := by omega
    have e5 : (t : Int) - 5 = ((m - 1 : Nat) : Int) := by omega
    have hnm : n ≤ m := by omega
    have hm1 : 1 ≤ m := by omega
    have ht4 : t ≤ 4096 := by omega
    clear hm h3
    obtain ⟨sm, hsm⟩ : ∃ sm : Nat, (y0 : Int) + y1 + y2 + y3 = sm := ⟨y0 + y1 + y2 + y3, by omega⟩
    by_cases hout : p < 0 ∨ ((m - 1 : Nat) : Int) < p ∨ sm = 0
    · go_enter Tryd.func6, Tryd.ntmps6
      go_wp2_with fail
      refine (small_any _ HT.out).mono ?_
      rintro e w1 ⟨rfl, hb1⟩
      have HB1 := Lib.hid hb1
      clear hb1
      have HO := Lib.hid hout
      clear hout
      go_wp2_with fail
      refine (lay_ok A n c f t m _ HM.out hm1 ht4 hnm (HA.out.keep HB1.out) (HT.out.keep HB1.out)).mono ?_
      rintro e w2 ⟨g1, rfl, hg1, hr1, hb2⟩
      have HB2 := Lib.hid (HB1.out.trans (hb2.mono HB1.out.size))
      clear hg1 hr1 hb2
      rcases (show p < 0 ∨ (¬ p < 0 ∧ ((m - 1 : Nat) : Int) < p) ∨ (¬ p < 0 ∧ ¬ ((m - 1 : Nat) : Int) < p ∧ sm = 0) by have := HO.out; omega) with q1 | ⟨q1, q2⟩ | ⟨q1, q2, q3⟩
      · have hd1 : decide (p < 0) = true := by simpa using q1
        clear q1
        go_wp2_with fail
        go_ret
        exact ⟨rfl, HB2.out⟩
      · have hd1 : decide (p < 0) = false := by simpa using q1
        have hd2 : decide (((m - 1 : Nat) : Int) < p) = true := by simpa using q2
        clear q1 q2
        go_wp2_with fail
        go_ret
        exact ⟨rfl, HB2.out⟩
      · have hd1 : decide (p < 0) = false := by simpa using q1
        have hd2 : decide (((m - 1 : Nat) : Int) < p) = false := by simpa using q2
        have hd3 : ((sm : Int) == 0) = true := by simp; omega
        clear q1 q2 q3
        go_wp2_with fail
        go_ret
        exact ⟨rfl, HB2.out⟩
    · obtain ⟨p, rfl⟩ := Int.eq_ofNat_of_zero_le (show 0 ≤ p by omega)
      have hpm : p < m := by omega
      have hd1 : decide ((p : Int) < 0) = false := by simp
      have hd2 : decide (m - 1 < p) = false := by simp; omega
      have hd3 : ((sm : Int) == 0) = false := by simp; omega
      clear hout
      go_enter Tryd.func6, Tryd.ntmps6
      go_wp2_with fail
      refine (small_any _ HT.out).mono ?_
      rintro e w1 ⟨rfl, hb1⟩
      have HB1 := Lib.hid hb1
      clear hb1
      go_wp2_with fail
      refine (lay_ok A n c f t m _ HM.out hm1 ht4 hnm (HA.out.keep HB1.out) (HT.out.keep HB1.out)).mono ?_
      rintro e w2 ⟨g1, rfl, hg1, hr1, hb2⟩
      have HR1 := Lib.hid hr1
      have HB2 := Lib.hid (HB1.out.trans (hb2.mono HB1.out.size))
      have HG1 := Lib.hid (Nat.le_trans HB1.out.size hg1)
      clear hg1 hr1 hb2
      go_wp2_with fail
      have HRY := Lib.hid (show RowB (w2.alloc (.cells #[.int .u8 (y0 : Nat), .int .u8 (y1 : Nat), .int .u8 (y2 : Nat), .int .u8 (y3 : Nat)] 5)) w2.heap.size 4 (by4 y0 y1 y2 y3) from by
        unfold RowB
        rw [heap_alloc_new]
        rfl)
      have HR3 := Lib.hid (HR1.out.alloc (.cells #[.int .u8 (y0 : Nat), .int .u8 (y1 : Nat), .int .u8 (y2 : Nat), .int .u8 (y3 : Nat)] 5))
      have HB3 := Lib.hid (HB2.out.alloc HB2.out.size (.cells #[.int .u8 (y0 : Nat), .int .u8 (y1 : Nat), .int .u8 (y2 : Nat), .int .u8 (y3 : Nat)] 5))
      have HY := Lib.hid (show ∀ i, by4 y0 y1 y2 y3 i < 256 from fun i => by unfold by4; split; omega; split; omega; split; omega; split <;> omega)
      have HNE := Lib.hid (show w2.heap.size ≠ g1 from fun e => by have := HR1.out.lt; omega)
      have HZ := Lib.hid (fun j (hj : j < m) => layd_lt (m := m) HF.out j hj)
      generalize by4 y0 y1 y2 y3 = Y at *
      generalize (w2.alloc (.cells #[.int .u8 (y0 : Nat), .int .u8 (y1 : Nat), .int .u8 (y2 : Nat), .int .u8 (y3 : Nat)] 5)) = W at *
      generalize w2.heap.size = gb at *
      go_loopw [19, 20] (fun b i wr => ∃ k : Nat, k ≤ 4 ∧ p + k ≤ m ∧ i = .int .i64 k ∧ b = .bool (any4 Y k) ∧ RowB wr g1 t (fun j => secB m (layd n f) j ^^^ at4 p k Y j) ∧ RowB wr gb 4 Y ∧ Below w.heap.size w wr) (fun _ i _ => 4 - (intOf i).toNat)
      case atStart => exact ⟨0, by omega, by omega, rfl, rfl, HR3.out.congr (fun j _ => by unfold at4; rw [if_neg (by omega), Nat.xor_zero]), HRY.out, HB3.out⟩
      case round =>
        obtain ⟨k, hk4, hkm, rfl, rfl, hr, hry, hb⟩ := hrel
        have HR := Lib.hid hr
        have HRy := Lib.hid hry
        have HBr := Lib.hid hb
        clear hr hry hb
        by_cases hlt : k < 4 ∧ p + k < m
        · obtain ⟨hk, hpk⟩ := hlt
          have HA4 := Lib.hid (show any4 Y (k + 1) = (any4 Y k || Y k != 0) from rfl)
          have HS := Lib.hid (fun j => at4_step p k Y (secB m (layd n f)) j)
          have hcx := HR.out.cell (show p + k < t by have := HM.out; omega)
          have hfx := HR.out.frozen (p + k)
          have hcy := HRy.out.cell hk
          have hxe : secB m (layd n f) (p + k) ^^^ at4 p k Y (p + k) = secB m (layd n f) (p + k) := by unfold at4; rw [if_neg (by omega), Nat.xor_zero]
          rw [hxe] at hcx
          have lx := secB_lt m (layd n f) HZ.out (p + k)
          have ly := HY.out k
          clear hxe
          obtain ⟨x, hx⟩ : ∃ x, secB m (layd n f) (p + k) = x := ⟨_, rfl⟩
          have HX := Lib.hid hx
          rw [hx] at hcx lx
          clear hx
          obtain ⟨y, hy⟩ : ∃ y, Y k = y := ⟨_, rfl⟩
          have HYk := Lib.hid hy
          rw [hy] at hcy ly HA4
          clear hy
          have hxy : bits BinOp.xor .u8 (x : Int) (y : Int) = ((x ^^^ y : Nat) : Int) := u8_xor_nat x y lx ly
          have i0 : (p : Int) + k < m := by omega
          have i1 : (p : Int) + k < t := by have := HM.out; omega
          have i2 : (k : Int) < 4 := by omega
          have i3 : (0 : Int) ≤ (p : Int) + k := by omega
          go_wp2_with fail
          go_region
          all_goals
            have HR5 := Lib.hid (show RowB (wr.setCell ⟨g1, p + k, none⟩ (.int .u8 ((x ^^^ y : Nat) : Int))).drew g1 t (fun j => secB m (layd n f) j ^^^ at4 p (k + 1) Y j) from (HR.out.set (p + k) (x ^^^ y) _ rfl).congr fun j _ => by
              rw [← HS.out j, HYk.out]
              by_cases e : j = p + k
              · rw [if_pos e, if_pos e, e, HX.out]
              · rw [if_neg e, if_neg e])
            have HRy5 := Lib.hid (show RowB (wr.setCell ⟨g1, p + k, none⟩ (.int .u8 ((x ^^^ y : Nat) : Int))).drew gb 4 Y from HRy.out.of_block (Below.heap_setCell wr ⟨g1, p + k, none⟩ _ gb HNE.out))
            have HB5 := Lib.hid ((HBr.out.setCell (p := ⟨g1, p + k, none⟩) HG1.out (.int .u8 ((x ^^^ y : Nat) : Int))).drew)
            have hcy5 := HRy5.out.cell hk
            rw [HYk.out] at hcy5
            clear hcx hfx hcy
            generalize (wr.setCell ⟨g1, p + k, none⟩ (.int .u8 ((x ^^^ y : Nat) : Int))).drew = W5 at *
            obtain ⟨bk, hbk⟩ : ∃ bk, any4 Y k = bk := ⟨_, rfl⟩
            rw [hbk] at HA4 ⊢
            clear hbk
            cases bk
            · by_cases hy0 : y = 0
              · have hv : (((y : Nat) : Int) != 0) = false := by simp; omega
                have HA5 := Lib.hid (show any4 Y (k + 1) = false by rw [HA4.out, hy0]; rfl)
                clear hy0
                go_wp2_with fail
                go_roundw
                case rel => exact ⟨k + 1, by omega, by omega, by go_num, by rw [HA5.out], HR5.out, HRy5.out, HB5.out⟩
                case measure => simp [intOf]; omega
              · have hv : (((y : Nat) : Int) != 0) = true := by simp; omega
                have HA5 := Lib.hid (show any4 Y (k + 1) = true by rw [HA4.out]; simp; omega)
                clear hy0
                go_wp2_with fail
                go_roundw
                case rel => exact ⟨k + 1, by omega, by omega, by go_num, by rw [HA5.out], HR5.out, HRy5.out, HB5.out⟩
                case measure => simp [intOf]; omega
            · have HA5 := Lib.hid (show any4 Y (k + 1) = true by rw [HA4.out]; rfl)
              go_wp2_with fail
              go_roundw
              case rel => exact ⟨k + 1, by omega, by omega, by go_num, by rw [HA5.out], HR5.out, HRy5.out, HB5.out⟩
              case measure => simp [intOf]; omega
        · have HK := Lib.hid (show (k < 4 ∧ p + k = m) ∨ k = 4 by omega)
          clear hlt
          obtain ⟨bk, hbk⟩ : ∃ bk, any4 Y k = bk := ⟨_, rfl⟩
          have HBK := Lib.hid hbk
          obtain ⟨bt, hbt⟩ : ∃ bt, told m (fun j => secB m (layd n f) j ^^^ at4 p k Y j) = bt := ⟨_, rfl⟩
          have HTo := Lib.hid hbt
          have HTT := Lib.hid (show bk = true → bt = false from fun e => by rw [← hbt]; exact turned_told m p k _ Y HZ.out HY.out hk4 hkm (by rw [hbk]; exact e))
          rw [hbk]
          clear hbk hbt
          have HS4 := Lib.hid (HR.out.slB0 (Nat.le_refl t) (fun j _ => Nat.xor_lt_two_pow (n := 8) (secB_lt m _ HZ.out j) (by unfold at4; split; exact HY.out _; decide)))
          have HTk := Lib.hid (HT.out.keep HBr.out)
          rcases HK.out with ⟨hk, hpk⟩ | rfl
          · have i2 : (k : Int) < 4 := by omega
            have i0 : decide ((p : Int) + k < m) = false := by simp; omega
            go_wp2_with fail
            refine (take_both bt _ t m t _ _ HM.out hm1 ht4 (Nat.le_refl _) (by omega) HS4.out HTk.out HTo.out).mono ?_
            intro e w6 hT
            have HTP := Lib.hid hT
            clear hT
            cases bk
            · cases bt
              · obtain ⟨rfl, hb6⟩ := HTP.out
                have HB6 := Lib.hid (HBr.out.trans (hb6.mono HBr.out.size))
                clear hb6
                go_wp2_with fail
                go_ret
                exact ⟨rfl, HB6.out⟩
              · obtain ⟨g6, rfl, _, _, hb6⟩ := HTP.out
                have HB6 := Lib.hid (HBr.out.trans (hb6.mono HBr.out.size))
                clear hb6
                go_wp2_with fail
                go_ret
                exact ⟨rfl, HB6.out⟩
            · obtain rfl := HTT.out rfl
              obtain ⟨rfl, hb6⟩ := HTP.out
              have HB6 := Lib.hid (HBr.out.trans (hb6.mono HBr.out.size))
              clear hb6
              go_wp2_with fail
              go_ret
              exact ⟨rfl, HB6.out⟩
          · go_wp2_with fail
            refine (take_both bt _ t m t _ _ HM.out hm1 ht4 (Nat.le_refl _) (by omega) HS4.out HTk.out HTo.out).mono ?_
            intro e w6 hT
            have HTP := Lib.hid hT
            clear hT
            cases bk
            · cases bt
              · obtain ⟨rfl, hb6⟩ := HTP.out
                have HB6 := Lib.hid (HBr.out.trans (hb6.mono HBr.out.size))
                clear hb6
                go_wp2_with fail
                go_ret
                exact ⟨rfl, HB6.out⟩
              · obtain ⟨g6, rfl, _, _, hb6⟩ := HTP.out
                have HB6 := Lib.hid (HBr.out.trans (hb6.mono HBr.out.size))
                clear hb6
                go_wp2_with fail
                go_ret
                exact ⟨rfl, HB6.out⟩
            · obtain rfl := HTT.out rfl
              obtain ⟨rfl, hb6⟩ := HTP.out
              have HB6 := Lib.hid (HBr.out.trans (hb6.mono HBr.out.size))
              clear hb6
              go_wp2_with fail
              go_ret
              exact ⟨rfl, HB6.out⟩
end Go.Proofs.YtphbhfilaknbfaaDoor
