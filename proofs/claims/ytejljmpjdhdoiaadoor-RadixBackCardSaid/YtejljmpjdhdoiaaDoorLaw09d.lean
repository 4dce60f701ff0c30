import Derived.Test.YtejljmpjdhdoiaaDoorLaw09c
namespace Go.Proofs.YtejljmpjdhdoiaaDoor
open Go.RowKit

theorem digits_in {x m : Int} (w : World) (hp : Pws w) (hx : x ≤ 9223372036854775807) (h : inP x m = true) :
    Calls Tryd.prog 12 #[.int .i64 x, .int .i64 m] w fun e w' => e = .returned (.tuple #[.string (gV x m), .int .i64 0]) ∧ Below w.heap.size w w' :=
  (xdigits_any x m w hx hp).mono fun e w' ⟨he, hb⟩ => ⟨he.trans (by rw [gE_pos h]), hb⟩
theorem digits_out {x m : Int} (w : World) (hp : Pws w) (hx : x ≤ 9223372036854775807) (h : ¬ inP x m = true) :
    Calls Tryd.prog 12 #[.int .i64 x, .int .i64 m] w fun e w' => e = .returned (.tuple #[.string ⟨#[]⟩, .int .i64 1]) ∧ Below w.heap.size w w' :=
  (xdigits_any x m w hx hp).mono fun e w' ⟨he, hb⟩ => ⟨he.trans (by rw [gE_neg h, gV_neg h]), hb⟩
theorem sub_in {a b m : Int} (w : World) (hp : Pws w) (h : inP a m = true) (h' : inP b m = true) :
    Calls Tryd.prog 24 #[.int .i64 a, .int .i64 b, .int .i64 m] w fun e w' => e = .returned (.tuple #[.int .i64 (sV a b m), .int .i64 0]) ∧ Below w.heap.size w w' :=
  (xsub_any a b m w hp).mono fun e w' ⟨he, hb⟩ => ⟨he.trans (by rw [tE_pos h h']), hb⟩

set_option maxHeartbeats 1600000 in
theorem back9_any (s : ByteArray) (x y m : Int) (w : World) (hs : s.size ≤ maxLen) (hx : x ≤ 9223372036854775807) (hp : Pws w) :
    Calls Tryd.prog 5 #[.string s, .int .i64 x, .int .i64 y, .int .i64 m] w fun e w' => e = .returned (.bool true) ∧ Below w.heap.size w w' := by
  have HP := Lib.hid hp
  have HS := Lib.hid (fun W => xvalue_any s W hs)
  clear hp
  go_enter Tryd.func5, Tryd.ntmps5
  go_wp2_with fail
  refine (small9_any _ HP.out).mono ?_
  rintro e w1 ⟨rfl, hb⟩
  have HB1 := Lib.hid hb
  have HP1 := Lib.hid (HP.out.keep hb)
  clear hb
  go_wp2_with fail
  by_cases hv : vE s = 0
  · obtain ⟨hi, ht, h1, h16⟩ := back_text hv
    have hle := pw_le (s.size : Nat)
    have hvb := (inP_iff _ _).1 hi
    have HD := Lib.hid (fun W (H : Pws W) => digits_in W H (by omega) hi)
    rw [ht] at HD
    rw [hv] at HS
    clear hv ht hi hvb hle
    generalize vV s = v at *
    refine (HS.out _).mono ?_
    rintro e w2 ⟨rfl, n2, rfl⟩
    go_wp2_with fail
    refine (HD.out _ (HP1.out.drewN n2)).mono ?_
    rintro e w3 ⟨rfl, hb⟩
    have HB := Lib.hid (show Below w.heap.size w w3 from (drawn HB1.out n2).trans (hb.mono HB1.out.size))
    clear hb
    have HP3 := Lib.hid (HP.out.keep HB.out)
    go_wp2_with fail
    by_cases hd : inP x m = true
    · obtain ⟨ve0, vx, hlen, h16'⟩ := back_value hd
      have HDx := Lib.hid (fun W (H : Pws W) => digits_in W H hx hd)
      have hts : (gV x m).size ≤ maxLen := by unfold maxLen; omega
      have HVt := Lib.hid (fun W => xvalue_any (gV x m) W hts)
      rw [ve0, vx] at HVt
      have hlen' : ((((gV x m).size : Nat) : Int) != m) = false := by rw [hlen]; simp
      have HLE := Lib.hid (Int.le_of_eq hlen)
      clear ve0 vx hlen h16' hts
      generalize gV x m = t at *
      refine (HDx.out _ HP3.out).mono ?_
      rintro e w4 ⟨rfl, hb⟩
      have HB4 := Lib.hid (HB.out.trans (hb.mono HB.out.size))
      clear hb
      go_wp2_with fail
      refine (HVt.out _).mono ?_
      rintro e w5 ⟨rfl, n5, rfl⟩
      have HB5 := Lib.hid (drawn HB4.out n5)
      have HP5 := Lib.hid (HP.out.keep HB5.out)
      generalize w4.drewN n5 = w5 at *
      go_wp2_with fail
      by_cases hy : inP y m = true
      · have HA := Lib.hid (fun W (H : Pws W) => add_in W H hd hy)
        have HSb := Lib.hid (fun W (H : Pws W) => sub_in W H (aV_in hd hy).2 hy)
        rw [back_sum hd hy] at HSb
        obtain ⟨a0, a1⟩ := (inP_iff _ _).1 (aV_in hd hy).2
        have HQ := Lib.hid (fun W (H : Pws W) => xpower_any m W H)
        have hle := pw_le m
        clear hd hy
        generalize aV x y m = a at *
        generalize pw m = p at *
        refine (HA.out _ HP5.out).mono ?_
        rintro e w6 ⟨rfl, hb⟩
        have HB6 := Lib.hid (HB5.out.trans (hb.mono HB5.out.size))
        have HP6 := Lib.hid (HP.out.keep HB6.out)
        clear hb
        go_wp2_with fail
        refine (HSb.out _ HP6.out).mono ?_
        rintro e w7 ⟨rfl, hb⟩
        have HB7 := Lib.hid (HB6.out.trans (hb.mono HB6.out.size))
        have HP7 := Lib.hid (HP.out.keep HB7.out)
        clear hb
        go_wp2_with fail
        refine (HQ.out _ HP7.out).mono ?_
        rintro e w8 ⟨rfl, rfl⟩
        go_wp2_with fail
        go_ret
        exact ⟨rfl, HB7.out⟩
      · have HA := Lib.hid (fun W (H : Pws W) => add_out (a := x) (b := y) (m := m) W H (fun h => hy h.2))
        have HQ := Lib.hid (fun W (H : Pws W) => xpower_any m W H)
        have hle := pw_le m
        have hyy : y < 0 ∨ 0 ≤ y ∧ ((pw m : Nat) : Int) ≤ y := by rw [inP_iff] at hy; omega
        clear hd hy
        generalize pw m = p at *
        refine (HA.out _ HP5.out).mono ?_
        rintro e w6 ⟨rfl, hb⟩
        have HB6 := Lib.hid (HB5.out.trans (hb.mono HB5.out.size))
        have HP6 := Lib.hid (HP.out.keep HB6.out)
        clear hb
        rcases hyy with hy0 | ⟨hy0, hyp⟩
        · go_wp2_with fail
          go_ret
          exact ⟨rfl, HB6.out⟩
        · have hy0' : ¬ y < 0 := by omega
          go_wp2_with fail
          refine (HQ.out _ HP6.out).mono ?_
          rintro e w8 ⟨rfl, rfl⟩
          go_wp2_with fail
          go_ret
          exact ⟨rfl, HB6.out⟩
    · have HDx := Lib.hid (fun W (H : Pws W) => digits_out W H hx hd)
      refine (HDx.out _ HP3.out).mono ?_
      rintro e w4 ⟨rfl, hb⟩
      have HB4 := Lib.hid (HB.out.trans (hb.mono HB.out.size))
      clear hb hd
      go_wp2_with fail
      go_ret
      exact ⟨rfl, HB4.out⟩
  · have hv' : (vE s == 0) = false := by simpa using hv
    generalize vE s = ve at *
    generalize vV s = v at *
    clear hv
    refine (HS.out _).mono ?_
    rintro e w3 ⟨rfl, n2, rfl⟩
    have HB := Lib.hid (show Below w.heap.size w (w1.drewN n2) from drawn HB1.out n2)
    have HP3 := Lib.hid (HP.out.keep HB.out)
    generalize w1.drewN n2 = w3 at *
    go_wp2_with fail
    by_cases hd : inP x m = true
    · obtain ⟨ve0, vx, hlen, h16'⟩ := back_value hd
      have HDx := Lib.hid (fun W (H : Pws W) => digits_in W H hx hd)
      have hts : (gV x m).size ≤ maxLen := by unfold maxLen; omega
      have HVt := Lib.hid (fun W => xvalue_any (gV x m) W hts)
      rw [ve0, vx] at HVt
      have hlen' : ((((gV x m).size : Nat) : Int) != m) = false := by rw [hlen]; simp
      have HLE := Lib.hid (Int.le_of_eq hlen)
      clear ve0 vx hlen h16' hts
      generalize gV x m = t at *
      refine (HDx.out _ HP3.out).mono ?_
      rintro e w4 ⟨rfl, hb⟩
      have HB4 := Lib.hid (HB.out.trans (hb.mono HB.out.size))
      clear hb
      go_wp2_with fail
      refine (HVt.out _).mono ?_
      rintro e w5 ⟨rfl, n5, rfl⟩
      have HB5 := Lib.hid (drawn HB4.out n5)
      have HP5 := Lib.hid (HP.out.keep HB5.out)
      generalize w4.drewN n5 = w5 at *
      go_wp2_with fail
      by_cases hy : inP y m = true
      · have HA := Lib.hid (fun W (H : Pws W) => add_in W H hd hy)
        have HSb := Lib.hid (fun W (H : Pws W) => sub_in W H (aV_in hd hy).2 hy)
        rw [back_sum hd hy] at HSb
        obtain ⟨a0, a1⟩ := (inP_iff _ _).1 (aV_in hd hy).2
        have HQ := Lib.hid (fun W (H : Pws W) => xpower_any m W H)
        have hle := pw_le m
        clear hd hy
        generalize aV x y m = a at *
        generalize pw m = p at *
        refine (HA.out _ HP5.out).mono ?_
        rintro e w6 ⟨rfl, hb⟩
        have HB6 := Lib.hid (HB5.out.trans (hb.mono HB5.out.size))
        have HP6 := Lib.hid (HP.out.keep HB6.out)
        clear hb
        go_wp2_with fail
        refine (HSb.out _ HP6.out).mono ?_
        rintro e w7 ⟨rfl, hb⟩
        have HB7 := Lib.hid (HB6.out.trans (hb.mono HB6.out.size))
        have HP7 := Lib.hid (HP.out.keep HB7.out)
        clear hb
        go_wp2_with fail
        refine (HQ.out _ HP7.out).mono ?_
        rintro e w8 ⟨rfl, rfl⟩
        go_wp2_with fail
        go_ret
        exact ⟨rfl, HB7.out⟩
      · have HA := Lib.hid (fun W (H : Pws W) => add_out (a := x) (b := y) (m := m) W H (fun h => hy h.2))
        have HQ := Lib.hid (fun W (H : Pws W) => xpower_any m W H)
        have hle := pw_le m
        have hyy : y < 0 ∨ 0 ≤ y ∧ ((pw m : Nat) : Int) ≤ y := by rw [inP_iff] at hy; omega
        clear hd hy
        generalize pw m = p at *
        refine (HA.out _ HP5.out).mono ?_
        rintro e w6 ⟨rfl, hb⟩
        have HB6 := Lib.hid (HB5.out.trans (hb.mono HB5.out.size))
        have HP6 := Lib.hid (HP.out.keep HB6.out)
        clear hb
        rcases hyy with hy0 | ⟨hy0, hyp⟩
        · go_wp2_with fail
          go_ret
          exact ⟨rfl, HB6.out⟩
        · have hy0' : ¬ y < 0 := by omega
          go_wp2_with fail
          refine (HQ.out _ HP6.out).mono ?_
          rintro e w8 ⟨rfl, rfl⟩
          go_wp2_with fail
          go_ret
          exact ⟨rfl, HB6.out⟩
    · have HDx := Lib.hid (fun W (H : Pws W) => digits_out W H hx hd)
      refine (HDx.out _ HP3.out).mono ?_
      rintro e w4 ⟨rfl, hb⟩
      have HB4 := Lib.hid (HB.out.trans (hb.mono HB.out.size))
      clear hb hd
      go_wp2_with fail
      go_ret
      exact ⟨rfl, HB4.out⟩
end Go.Proofs.YtejljmpjdhdoiaaDoor
