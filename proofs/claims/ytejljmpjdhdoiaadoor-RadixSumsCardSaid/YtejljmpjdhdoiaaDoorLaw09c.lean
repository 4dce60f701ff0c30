import Derived.Test.YtejljmpjdhdoiaaDoorLaw09a
import Derived.Test.YtejljmpjdhdoiaaDoorRadT
namespace Go.Proofs.YtejljmpjdhdoiaaDoor
open Go.RowKit

theorem add_in {a b m : Int} (w : World) (hp : Pws w) (h : inP a m = true) (h' : inP b m = true) :
    Calls Tryd.prog 22 #[.int .i64 a, .int .i64 b, .int .i64 m] w fun e w' => e = .returned (.tuple #[.int .i64 (aV a b m), .int .i64 0]) ∧ Below w.heap.size w w' :=
  (xadd_any a b m w hp).mono fun e w' ⟨he, hb⟩ => ⟨he.trans (by rw [tE_pos h h']), hb⟩
theorem add_out {a b m : Int} (w : World) (hp : Pws w) (h : ¬ (inP a m = true ∧ inP b m = true)) :
    Calls Tryd.prog 22 #[.int .i64 a, .int .i64 b, .int .i64 m] w fun e w' => e = .returned (.tuple #[.int .i64 0, .int .i64 1]) ∧ Below w.heap.size w w' :=
  (xadd_any a b m w hp).mono fun e w' ⟨he, hb⟩ => ⟨he.trans (by unfold aV; rw [tE_neg h]; rfl), hb⟩

set_option maxHeartbeats 800000 in
theorem sums9_any (a b c m : Int) (w : World) (hp : Pws w) :
    Calls Tryd.prog 7 #[.int .i64 a, .int .i64 b, .int .i64 c, .int .i64 m] w fun e w' => e = .returned (.bool true) ∧ Below w.heap.size w w' := by
  have HP := Lib.hid hp
  clear hp
  by_cases h : inP a m = true ∧ inP b m = true
  · obtain ⟨ha, hb⟩ := h
    have HAB := Lib.hid (fun W (H : Pws W) => add_in (a := a) (b := b) (m := m) W H ha hb)
    have HBA := Lib.hid (fun W (H : Pws W) => add_in (a := b) (b := a) (m := m) W H hb ha)
    rw [aV_comm a b m] at HBA
    by_cases hc : inP c m = true
    · have HXC := Lib.hid (fun W (H : Pws W) => add_in (a := aV a b m) (b := c) (m := m) W H (aV_in ha hb).2 hc)
      have HBC := Lib.hid (fun W (H : Pws W) => add_in (a := b) (b := c) (m := m) W H hb hc)
      have HAU := Lib.hid (fun W (H : Pws W) => add_in (a := a) (b := aV b c m) (m := m) W H ha (aV_in hb hc).2)
      rw [← aV_assoc ha hb hc] at HAU
      clear ha hb hc
      generalize aV (aV a b m) c m = z at *
      generalize aV a b m = x at *
      generalize aV b c m = u at *
      go_enter Tryd.func7, Tryd.ntmps7
      go_wp2_with fail
      refine (small9_any _ HP.out).mono ?_
      rintro e w1 ⟨rfl, hb⟩
      have HB1 := Lib.hid hb
      have HP1 := Lib.hid (HP.out.keep hb)
      clear hb
      go_wp2_with fail
      refine (HAB.out _ HP1.out).mono ?_
      rintro e w2 ⟨rfl, hb⟩
      have HB2 := Lib.hid (HB1.out.trans (hb.mono HB1.out.size))
      have HP2 := Lib.hid (HP.out.keep HB2.out)
      clear hb
      go_wp2_with fail
      refine (HBA.out _ HP2.out).mono ?_
      rintro e w3 ⟨rfl, hb⟩
      have HB3 := Lib.hid (HB2.out.trans (hb.mono HB2.out.size))
      have HP3 := Lib.hid (HP.out.keep HB3.out)
      clear hb
      go_wp2_with fail
      refine (HXC.out _ HP3.out).mono ?_
      rintro e w4 ⟨rfl, hb⟩
      have HB4 := Lib.hid (HB3.out.trans (hb.mono HB3.out.size))
      have HP4 := Lib.hid (HP.out.keep HB4.out)
      clear hb
      go_wp2_with fail
      refine (HBC.out _ HP4.out).mono ?_
      rintro e w5 ⟨rfl, hb⟩
      have HB5 := Lib.hid (HB4.out.trans (hb.mono HB4.out.size))
      have HP5 := Lib.hid (HP.out.keep HB5.out)
      clear hb
      go_wp2_with fail
      refine (HAU.out _ HP5.out).mono ?_
      rintro e w6 ⟨rfl, hb⟩
      have HB6 := Lib.hid (HB5.out.trans (hb.mono HB5.out.size))
      clear hb
      go_wp2_with fail
      go_ret
      exact ⟨rfl, HB6.out⟩
    · have HXC := Lib.hid (fun W (H : Pws W) => add_out (a := aV a b m) (b := c) (m := m) W H (fun h => hc h.2))
      have HBC := Lib.hid (fun W (H : Pws W) => add_out (a := b) (b := c) (m := m) W H (fun h => hc h.2))
      clear ha hb hc
      generalize aV a b m = x at *
      go_enter Tryd.func7, Tryd.ntmps7
      go_wp2_with fail
      refine (small9_any _ HP.out).mono ?_
      rintro e w1 ⟨rfl, hb⟩
      have HB1 := Lib.hid hb
      have HP1 := Lib.hid (HP.out.keep hb)
      clear hb
      go_wp2_with fail
      refine (HAB.out _ HP1.out).mono ?_
      rintro e w2 ⟨rfl, hb⟩
      have HB2 := Lib.hid (HB1.out.trans (hb.mono HB1.out.size))
      have HP2 := Lib.hid (HP.out.keep HB2.out)
      clear hb
      go_wp2_with fail
      refine (HBA.out _ HP2.out).mono ?_
      rintro e w3 ⟨rfl, hb⟩
      have HB3 := Lib.hid (HB2.out.trans (hb.mono HB2.out.size))
      have HP3 := Lib.hid (HP.out.keep HB3.out)
      clear hb
      go_wp2_with fail
      refine (HXC.out _ HP3.out).mono ?_
      rintro e w4 ⟨rfl, hb⟩
      have HB4 := Lib.hid (HB3.out.trans (hb.mono HB3.out.size))
      have HP4 := Lib.hid (HP.out.keep HB4.out)
      clear hb
      go_wp2_with fail
      refine (HBC.out _ HP4.out).mono ?_
      rintro e w5 ⟨rfl, hb⟩
      have HB5 := Lib.hid (HB4.out.trans (hb.mono HB4.out.size))
      clear hb
      go_wp2_with fail
      go_ret
      exact ⟨rfl, HB5.out⟩
  · have HAB := Lib.hid (fun W (H : Pws W) => add_out (a := a) (b := b) (m := m) W H h)
    have HBA := Lib.hid (fun W (H : Pws W) => add_out (a := b) (b := a) (m := m) W H (fun h' => h ⟨h'.2, h'.1⟩))
    clear h
    go_enter Tryd.func7, Tryd.ntmps7
    go_wp2_with fail
    refine (small9_any _ HP.out).mono ?_
    rintro e w1 ⟨rfl, hb⟩
    have HB1 := Lib.hid hb
    have HP1 := Lib.hid (HP.out.keep hb)
    clear hb
    go_wp2_with fail
    refine (HAB.out _ HP1.out).mono ?_
    rintro e w2 ⟨rfl, hb⟩
    have HB2 := Lib.hid (HB1.out.trans (hb.mono HB1.out.size))
    have HP2 := Lib.hid (HP.out.keep HB2.out)
    clear hb
    go_wp2_with fail
    refine (HBA.out _ HP2.out).mono ?_
    rintro e w3 ⟨rfl, hb⟩
    have HB3 := Lib.hid (HB2.out.trans (hb.mono HB2.out.size))
    clear hb
    go_wp2_with fail
    go_ret
    exact ⟨rfl, HB3.out⟩

set_option maxHeartbeats 800000 in
theorem widths_any (m : Int) (w : World) (hp : Pws w) :
    Calls Tryd.prog 8 #[.int .i64 m] w fun e w' => e = .returned (.bool true) ∧ Below w.heap.size w w' := by
  have HP := Lib.hid hp
  clear hp
  by_cases h : pw m = 0
  · have hm : m < 1 ∨ 16 < m := by
      by_cases h' : m < 1 ∨ 16 < m
      · exact h'
      · obtain ⟨k, rfl⟩ := Int.eq_ofNat_of_zero_le (show 0 ≤ m by omega)
        rw [pw_at (k := k) (by omega) (by omega)] at h
        have := ten_pos k
        omega
    have HW := Lib.hid (fun W (H : Pws W) => xwidth_any m W H)
    have HQ := Lib.hid (fun W (H : Pws W) => xpower_any m W H)
    rw [wd_none h] at HW
    rw [h] at HQ
    clear h
    rcases hm with hm | hm
    · go_enter Tryd.func8, Tryd.ntmps8
      go_wp2_with fail
      refine (small9_any _ HP.out).mono ?_
      rintro e w1 ⟨rfl, hb⟩
      have HB1 := Lib.hid hb
      have HP1 := Lib.hid (HP.out.keep hb)
      clear hb
      go_wp2_with fail
      refine (HW.out _ HP1.out).mono ?_
      rintro e w2 ⟨rfl, rfl⟩
      go_wp2_with fail
      refine (HQ.out _ HP1.out).mono ?_
      rintro e w2 ⟨rfl, rfl⟩
      go_wp2_with fail
      go_ret
      exact ⟨rfl, HB1.out⟩
    · have hm' : ¬ m < 1 := by omega
      go_enter Tryd.func8, Tryd.ntmps8
      go_wp2_with fail
      refine (small9_any _ HP.out).mono ?_
      rintro e w1 ⟨rfl, hb⟩
      have HB1 := Lib.hid hb
      have HP1 := Lib.hid (HP.out.keep hb)
      clear hb
      go_wp2_with fail
      refine (HW.out _ HP1.out).mono ?_
      rintro e w2 ⟨rfl, rfl⟩
      go_wp2_with fail
      refine (HQ.out _ HP1.out).mono ?_
      rintro e w2 ⟨rfl, rfl⟩
      go_wp2_with fail
      go_ret
      exact ⟨rfl, HB1.out⟩
  · obtain ⟨k, rfl, hk1, hk2, hpk, hp10⟩ := pw_ten h
    have HL := Lib.hid (pw_lt8 (k : Int))
    obtain ⟨q, hq⟩ : ∃ q : Nat, pw (k : Int) = q + 1 := ⟨pw (k : Int) - 1, by omega⟩
    have HWC := Lib.hid (show wd (k : Int) = cnt 8 q by unfold wd; rw [hq, Nat.add_sub_cancel])
    have hle := pw_le (k : Int)
    have HW := Lib.hid (fun W (H : Pws W) => xwidth_any (k : Int) W H)
    have HQ := Lib.hid (fun W (H : Pws W) => xpower_any (k : Int) W H)
    have hw8 := wd_le (m := (k : Int))
    have HQ1 := Lib.hid (fun W (H : Pws W) => xpower_any ((k : Int) - 1) W H)
    have HONE := Lib.hid (show k = 1 → pw (k : Int) = 10 from fun h => by rw [hpk, h])
    have HTEN := Lib.hid (show k ≠ 1 → pw ((k : Int) - 1) * 10 = pw (k : Int) from fun h => by
      rw [hpk, show (k : Int) - 1 = ((k - 1 : Nat) : Int) by omega, pw_at (by omega) (by omega), ← Nat.pow_succ, show (k - 1).succ = k by omega])
    have hle1 := pw_le ((k : Int) - 1)
    generalize pw ((k : Int) - 1) = p1 at *
    rw [hq] at HL
    have hs : ((pw (k : Int) : Nat) : Int) - 1 = q := by omega
    have hq16 : q ≤ 10000000000000000 := by omega
    clear h hq hpk
    generalize pw (k : Int) = p at *
    generalize wd (k : Int) = wd at *
    go_enter Tryd.func8, Tryd.ntmps8
    go_wp2_with fail
    refine (small9_any _ HP.out).mono ?_
    rintro e w1 ⟨rfl, hb⟩
    have HB1 := Lib.hid hb
    have HP1 := Lib.hid (HP.out.keep hb)
    clear hb
    go_wp2_with fail
    refine (HW.out _ HP1.out).mono ?_
    rintro e w2 ⟨rfl, rfl⟩
    go_wp2_with fail
    refine (HQ.out _ HP1.out).mono ?_
    rintro e w2 ⟨rfl, rfl⟩
    go_wp2_with fail
    go_loop [6, 7] (fun n p => ∃ (c f x : Nat), c + f = 8 ∧ n = .int .i64 c ∧ p = .int .i64 x ∧ x ≤ 10000000000000000 ∧ x < 256 ^ f ∧ c + cnt f x = cnt 8 q) (fun _ p => (intOf p).toNat)
    case atStart => exact ⟨0, 8, q, rfl, rfl, rfl, hq16, by have := HL.out; rw [Nat.add_sub_cancel] at this; exact this, Nat.zero_add _⟩
    case round =>
      obtain ⟨c, f, x, hcf, rfl, rfl, hx, hxf, hcnt⟩ := hrel
      have HX := Lib.hid hxf
      have HN := Lib.hid hcnt
      clear hxf hcnt
      by_cases h0 : x = 0
      · subst h0
        have HE := Lib.hid (show wd = c by rw [HWC.out, ← HN.out, cnt_zero]; rfl)
        by_cases hone : k = 1
        · have H10 := Lib.hid (HONE.out hone)
          have hk : ((k : Int) == 1) = true := by simp; omega
          have hp' : ((p : Int) == 10) = true := by have := H10.out; simp; omega
          obtain rfl := HE.out
          go_wp2_with fail
          go_ret
          exact ⟨rfl, HB1.out⟩
        · have hk : ((k : Int) == 1) = false := by simp; omega
          have hp' : ((p1 : Int) * 10 == (p : Int)) = true := by have := HTEN.out hone; simp; omega
          obtain rfl := HE.out
          go_wp2_with fail
          refine (HQ1.out _ HP1.out).mono ?_
          rintro e w2 ⟨rfl, rfl⟩
          go_wp2_with fail
          go_ret
          exact ⟨rfl, HB1.out⟩
      · obtain ⟨f, rfl⟩ : ∃ f', f = f' + 1 := by
          cases f with
          | zero => have := HX.out; rw [Nat.pow_zero] at this; omega
          | succ f => exact ⟨f, rfl⟩
        have HY := Lib.hid (show x / 256 < 256 ^ f by rw [Nat.div_lt_iff_lt_mul (by decide)]; have := HX.out; rw [Nat.pow_succ] at this; exact this)
        have HM := Lib.hid (show c + 1 + cnt f (x / 256) = cnt 8 q by have := HN.out; rw [cnt_step h0] at this; omega)
        go_wp2_with fail
        go_round
        case rel => exact ⟨c + 1, f, x / 256, by omega, by go_num, by go_num, by omega, HY.out, HM.out⟩
        case measure => simp [intOf]; omega
end Go.Proofs.YtejljmpjdhdoiaaDoor
