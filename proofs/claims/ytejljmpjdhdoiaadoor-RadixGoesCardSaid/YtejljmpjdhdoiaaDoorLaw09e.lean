import Derived.Test.YtejljmpjdhdoiaaDoorLaw09c
import Derived.Test.YtejljmpjdhdoiaaDoorRowB
namespace Go.Proofs.YtejljmpjdhdoiaaDoor
open Go.RowKit

theorem dbl_aV {p r k : Nat} {m : Int} (hp : pw m = p) (hr : r < p) : inP (dbl p r k : Nat) m = true ∧ aV (dbl p r k : Nat) (dbl p r k : Nat) m = (dbl p r (k + 1) : Nat) := by
  have hl := dbl_lt p r hr k
  have hi : inP (dbl p r k : Nat) m = true := by rw [inP_iff, hp]; omega
  refine ⟨hi, ?_⟩
  rw [(aV_in hi hi).1, hp]
  show _ = (((dbl p r k + dbl p r k) % p : Nat) : Int)
  rw [Int.natCast_emod, Int.natCast_add]
theorem last_aV {p r x : Nat} {m : Int} (hp : pw m = p) (hr : r < p) : inP (dbl p r 8 : Nat) m = true ∧ inP (x % p : Nat) m = true ∧ aV (dbl p r 8 : Nat) (x % p : Nat) m = ((256 * r + x) % p : Nat) := by
  have hl := dbl_lt p r hr 8
  have hx := Nat.mod_lt x (show 0 < p by omega)
  have h1 : inP (dbl p r 8 : Nat) m = true := by rw [inP_iff, hp]; omega
  have h2 : inP (x % p : Nat) m = true := by rw [inP_iff, hp]; omega
  refine ⟨h1, h2, ?_⟩
  rw [(aV_in h1 h2).1, hp, ← dbl_go p r x hr]
  generalize x % p = y
  rw [Int.natCast_emod, Int.natCast_add]

set_option maxRecDepth 100000 in
set_option maxHeartbeats 1600000 in
theorem goes9_any (A B : Option Addr) (la lb ca cb : Nat) (f g : Nat → Nat) (m : Int) (w : World) (hla : la ≤ 140737488351232) (hlb : lb ≤ 140737488351232) (hcb : lb ≤ cb)
    (hA : SlB w A la f) (hB : SlB w B lb g) (hnA : A = none → la = 0 ∧ ca = 0) (hnB : B = none → lb = 0 ∧ cb = 0) (hp : Pws w) :
    Calls Tryd.prog 6 #[.slice A la ca, .slice B lb cb, .int .i64 m] w fun e w' => e = .returned (.bool true) ∧ Below w.heap.size w w' := by
  have HP := Lib.hid hp
  have HA := Lib.hid hA
  have HB := Lib.hid hB
  have HNA := Lib.hid hnA
  have HNB := Lib.hid hnB
  clear hp hA hB hnA hnB
  by_cases hbig : 64 < la ∨ 64 < lb
  · rcases (show 64 < la ∨ (la ≤ 64 ∧ 64 < lb) by omega) with h | ⟨h', h⟩
    · have hi : (64 : Int) < la := by omega
      clear hbig
      go_enter Tryd.func6, Tryd.ntmps6
      go_wp2_with fail
      refine (small9_any _ HP.out).mono ?_
      rintro e w1 ⟨rfl, hb⟩
      have HB1 := Lib.hid hb
      clear hb
      go_wp2_with fail
      go_ret
      exact ⟨rfl, HB1.out⟩
    · have hi : (64 : Int) < lb := by omega
      have hi' : (la : Int) ≤ 64 := by omega
      clear hbig
      go_enter Tryd.func6, Tryd.ntmps6
      go_wp2_with fail
      refine (small9_any _ HP.out).mono ?_
      rintro e w1 ⟨rfl, hb⟩
      have HB1 := Lib.hid hb
      clear hb
      go_wp2_with fail
      go_ret
      exact ⟨rfl, HB1.out⟩
  · have hi : (la : Int) ≤ 64 := by omega
    have hi' : (lb : Int) ≤ 64 := by omega
    have hla9 : la ≤ 64 := by omega
    have hlb9 : lb ≤ 64 := by omega
    clear hbig
    go_enter Tryd.func6, Tryd.ntmps6
    go_wp2_with fail
    refine (small9_any _ HP.out).mono ?_
    rintro e w1 ⟨rfl, hb⟩
    have HB1 := Lib.hid hb
    clear hb
    have HO0 := Lib.hid (OwnB.empty w1 w1.heap.size (fun _ => 0) (Nat.le_refl _))
    have hm14 : 0 + la ≤ 100000000000000 := by omega
    have hm15 : la + lb ≤ 100000000000000 := by omega
    have hsz0 : w1.heap.size ≤ (w1.alloc (.cells #[] 5)).heap.size := by show _ ≤ (w1.heap.push _).size; simp
    have HB2 := Lib.hid (HB1.out.alloc HB1.out.size (.cells #[] 5))
    have HA2 := Lib.hid (HA.out.keep HB2.out)
    go_wp2_with (first | (at_builtin; refine wpList_appO rfl (.tmp 32) (.tmp 33) rfl w1.heap.size _ 0 (fun _ => 0) rfl HO0.out A la ca f rfl HA2.out HNA.out hm14 hsz0 (fun j h => absurd h (Nat.not_lt_zero j)) (fun j h => HA.out.byte h) ?_; intro A1 c1 w2 h1 h2 h3 h4; rw [Nat.zero_add] at *; have HO1 := Lib.hid (OwnB.congr (g := f) h1 (fun j _ => rfl)); have HB3 := Lib.hid (HB2.out.trans (h4.mono HB1.out.size)); have HB4 := Lib.hid (HB.out.keep HB3.out); have hsz1 := Nat.le_trans hsz0 h4.size; clear h1 h2 h3 h4) | (at_builtin; refine wpList_appO rfl (.tmp 34) (.tmp 35) rfl w1.heap.size _ la f rfl HO1.out B lb cb g rfl HB4.out HNB.out hm15 hsz1 (fun j h => HA.out.byte h) (fun j h => HB.out.byte h) ?_; intro A2 c2 w3 h1 h2 h3 h4; have HS3 := Lib.hid h2; have HB5 := Lib.hid (HB3.out.trans (h4.mono HB1.out.size)); clear h1 h2 h3 h4) | fail)
    have HP5 := Lib.hid (HP.out.keep HB5.out)
    have HA5 := Lib.hid (HA.out.keep HB5.out)
    have hF : ∀ j, j < la → catB la f g j = f j := fun j hj => if_pos hj
    have HFA := Lib.hid (fun p => restN_congr (p := p) la hF)
    have HFB := Lib.hid (show ∀ i, catB la f g (la + i) = g i from fun i => by unfold catB; rw [if_neg (by omega), Nat.add_sub_cancel_left])
    have hlab : la + lb ≤ 9223372036854775807 := by omega
    have hla' : la ≤ 9223372036854775807 := by omega
    have HR1 := Lib.hid (xrest_any A2 (la + lb) c2 (catB la f g) m w3 hlab HP5.out HS3.out)
    have HR2 := Lib.hid (fun n => xrest_any A la ca f m (w3.drewN n) hla' (HP5.out.drewN n) (HA5.out.drewN n))
    have HQ := Lib.hid (fun W (H : Pws W) => xpower_any m W H)
    clear hF
    by_cases hz : pw m = 0
    · have e1 : rE (la + lb) m = 1 := rE_low hz
      have e2 : rE la m = 1 := rE_low hz
      rw [e1, rV_bad (by rw [e1]; decide)] at HR1
      rw [e2, rV_bad (by rw [e2]; decide)] at HR2
      rw [hz] at HQ
      clear e1 e2 hz
      refine HR1.out.mono ?_
      rintro e w4 ⟨rfl, n4, rfl⟩
      go_wp2_with fail
      refine (HR2.out n4).mono ?_
      rintro e w5 ⟨rfl, n5, rfl⟩
      have HP6 := Lib.hid ((HP5.out.drewN n4).drewN n5)
      have HB6 := Lib.hid (drawn (drawn HB5.out n4) n5)
      generalize (w3.drewN n4).drewN n5 = w5 at *
      go_wp2_with fail
      refine (HQ.out _ HP6.out).mono ?_
      rintro e w6 ⟨rfl, rfl⟩
      go_wp2_with fail
      go_ret
      exact ⟨rfl, HB6.out⟩
    · have e2 : rE la m = 0 := rE_ok hz hla9
      rw [e2, rV_ok e2] at HR2
      by_cases hl : 64 < la + lb
      · have e1 : rE (la + lb) m = 2 := rE_long hz hl
        rw [e1, rV_bad (by rw [e1]; decide)] at HR1
        clear e1 e2 hz
        generalize restN (pw m) f la = r at *
        refine HR1.out.mono ?_
        rintro e w4 ⟨rfl, n4, rfl⟩
        go_wp2_with fail
        refine (HR2.out n4).mono ?_
        rintro e w5 ⟨rfl, n5, rfl⟩
        have HB6 := Lib.hid (drawn (drawn HB5.out n4) n5)
        generalize (w3.drewN n4).drewN n5 = w5 at *
        go_wp2_with fail
        go_ret
        exact ⟨rfl, HB6.out⟩
      · have e1 : rE (la + lb) m = 0 := rE_ok hz (by omega)
        rw [e1, rV_ok e1] at HR1
        rw [← HFA.out (pw m)] at HR2
        have HX := Lib.hid (fun W (H : Pws W) (i : Nat) (hi : i < lb) (hw : SlB W B lb g) => xrest_any (hiA B cb i) 1 (cb - i) (fun j => g (i + j)) m W (by decide) H (SlB.mid (c := cb) hw (by omega) hcb))
        have e3 : rE 1 m = 0 := rE_ok hz (by decide)
        have HV3 := Lib.hid (fun i => rV_ok (b := fun j => g (i + j)) e3)
        rw [e3] at HX
        obtain ⟨p, hp⟩ : ∃ p, pw m = p := ⟨_, rfl⟩
        have hpos : 0 < p := by omega
        have HPP := Lib.hid hp
        have HRL := Lib.hid (restN_lt hpos (catB la f g))
        rw [hp] at HR1 HR2
        have HXV := Lib.hid (show ∀ i, rV 1 (fun j => g (i + j)) m = (g i % p : Nat) from fun i => by
          rw [HV3.out i, hp]; show (((256 * 0 + g (i + 0)) % p : Nat) : Int) = _; rw [Nat.mul_zero, Nat.zero_add, Nat.add_zero])
        clear e1 e2 e3 hz hp HFA HQ HV3
        have HF0 := Lib.hid (show restN p (catB la f g) la = restN p (catB la f g) (la + 0) from rfl)
        have HFS := Lib.hid (show ∀ i, restN p (catB la f g) (la + (i + 1)) = (256 * restN p (catB la f g) (la + i) + g i) % p from fun i => by
          show (256 * restN p (catB la f g) (la + i) + catB la f g (la + i)) % p = _; rw [HFB.out])
        obtain ⟨R, hR⟩ : ∃ R : Nat → Nat, R = fun i => restN p (catB la f g) (la + i) := ⟨_, rfl⟩
        have HRlt := Lib.hid (show ∀ i, R i < p from fun i => by rw [hR]; exact HRL.out _)
        have HRS := Lib.hid (show ∀ i, R (i + 1) = (256 * R i + g i) % p from fun i => by rw [hR]; exact HFS.out i)
        rw [show restN p (catB la f g) (la + lb) = R lb by rw [hR]] at HR1
        rw [show restN p (catB la f g) la = R 0 by rw [hR]; rfl] at HR2
        clear hR HF0 HFS HFB HRL
        refine HR1.out.mono ?_
        rintro e w4 ⟨rfl, n4, rfl⟩
        go_wp2_with fail
        refine (HR2.out n4).mono ?_
        rintro e w5 ⟨rfl, n5, rfl⟩
        have HB6 := Lib.hid (drawn (drawn HB5.out n4) n5)
        generalize (w3.drewN n4).drewN n5 = w5 at *
        clear HR1 HR2
        go_wp2_with fail
        go_loopw [10, 12] (fun r i wr => ∃ k : Nat, k ≤ lb ∧ i = .int .i64 k ∧ r = .int .i64 (R k : Nat) ∧ Below w.heap.size w wr) (fun _ i _ => lb - (intOf i).toNat)
        case atStart => exact ⟨0, Nat.zero_le _, rfl, rfl, HB6.out⟩
        case round =>
          obtain ⟨i, hk, rfl, rfl, hb⟩ := hrel
          have HBr := Lib.hid hb
          clear hb
          by_cases hlt : i < lb
          · have hr := HRlt.out i
            have HRn := Lib.hid (HRS.out i)
            have HD := Lib.hid (fun k => dbl_aV (r := R i) (k := k) HPP.out hr)
            have HDl := Lib.hid (fun k => dbl_lt p (R i) hr k)
            have HL := Lib.hid (last_aV (r := R i) (x := g i) HPP.out hr)
            have hsl := fun W => run_mid W B lb cb i (i + 1) (by omega) (by omega)
            rw [show i + 1 - i = 1 by omega] at hsl
            obtain ⟨i1, hi1, hi2⟩ : ∃ i1 : Nat, (i : Int) + 1 = i1 ∧ i1 = i + 1 := ⟨i + 1, by omega, rfl⟩
            rw [← hi2] at hsl
            rw [← hi2] at HRn
            generalize wr = w6 at *
            go_wp2_with fail
            go_loopw [13, 14] (fun s c wr => ∃ k : Nat, k ≤ 8 ∧ c = .int .i64 k ∧ s = .int .i64 (dbl p (R i) k : Nat) ∧ Below w.heap.size w wr) (fun _ c _ => 8 - (intOf c).toNat)
            case atStart => exact ⟨0, Nat.zero_le _, rfl, rfl, HBr.out⟩
            case round =>
              obtain ⟨k, hk8, rfl, rfl, hb⟩ := hrel
              have HBs := Lib.hid hb
              have HPs := Lib.hid (HP.out.keep hb)
              clear hb
              by_cases hk9 : k < 8
              · obtain ⟨d1, d2⟩ := HD.out k
                have HAdd := Lib.hid (add_in wr HPs.out d1 d1)
                rw [d2] at HAdd
                clear d1 d2
                generalize dbl p (R i) k = d at *
                go_wp2_with fail
                refine HAdd.out.mono ?_
                rintro e w7 ⟨rfl, hb⟩
                have HBt := Lib.hid (HBs.out.trans (hb.mono HBs.out.size))
                clear hb
                go_wp2_with fail
                go_roundw
                case rel => exact ⟨k + 1, by omega, by go_num, rfl, HBt.out⟩
                case measure => simp [intOf]; omega
              · obtain rfl : k = 8 := by omega
                have HR8 := Lib.hid (HX.out wr HPs.out i hlt (HB.out.keep HBs.out))
                rw [HXV.out i] at HR8
                obtain ⟨l1, l2, l3⟩ := HL.out
                have HAd := Lib.hid (fun n => add_in (wr.drewN n) (HPs.out.drewN n) l1 l2)
                rw [l3, ← HRn.out] at HAd
                have hle : i1 ≤ lb := by omega
                clear l1 l2 l3 HL HD HDl hi2 hk8 hk9
                generalize dbl p (R i) 8 = d at *
                generalize g i % p = x at *
                go_wp2_with fail
                refine HR8.out.mono ?_
                rintro e w7 ⟨rfl, n7, rfl⟩
                go_wp2_with fail
                refine (HAd.out n7).mono ?_
                rintro e w8 ⟨rfl, hb⟩
                have HB8 := Lib.hid ((drawn HBs.out n7).trans (hb.mono HBs.out.size))
                clear hb
                go_wp2_with fail
                go_roundw
                case rel => exact ⟨i1, hle, rfl, rfl, HB8.out⟩
                case measure => simp [intOf]; omega
          · obtain rfl : i = lb := by omega
            go_wp2_with fail
            go_ret
            exact ⟨rfl, HBr.out⟩
end Go.Proofs.YtejljmpjdhdoiaaDoor
