/- The reference of layer 9: Value, Digits, Rest, Add, Sub. -/
import Derived.Test.YtejljmpjdhdoiaaDoorRef09
namespace Go.Proofs.YtejljmpjdhdoiaaDoor
open Go.RowKit

set_option maxHeartbeats 400000 in
theorem qvalue_any (s : ByteArray) (w : World) (hs : s.size ≤ maxLen) :
    Calls Tryd.prog 11 #[.string s] w fun e w' => e = .returned (.tuple #[.int .i64 (vV s), .int .i64 (vE s)]) ∧ ∃ n, w' = w.drewN n := by
  have HN := Lib.hid (rnumber_any s w hs)
  obtain ⟨f1, f2, f3⟩ := xvalue_facts s
  unfold maxLen at hs
  by_cases h0 : s.size = 0
  · have e1 : s.toList = [] := by
      rw [ByteArray.toList_eq]; exact List.eq_nil_of_length_eq_zero (Array.length_toList.trans h0)
    have HZ := Lib.hid (f1 h0)
    clear h0 f1 f2 f3
    go_enter Tryd.func11, Tryd.ntmps11
    go_wp2_with fail
    go_ret2
    exact ⟨by rw [HZ.out.1, HZ.out.2]; rfl, 0, rfl⟩
  · have e1 := toList_of_size (s := s) (by omega)
    have e2 : ¬ s.toList = [] := by intro h; rw [h] at e1; cases e1
    by_cases h16 : 16 < s.size
    · have HZ := Lib.hid (f2 h16)
      clear h0 f1 f2 f3
      have h16' : (16 : Int) < s.size := by omega
      go_enter Tryd.func11, Tryd.ntmps11
      go_wp2_with fail
      go_ret2
      exact ⟨by rw [HZ.out.1, HZ.out.2]; rfl, 0, rfl⟩
    · have HZ := Lib.hid (f3 h0 (by omega))
      have h16' : (s.size : Int) ≤ 16 := by omega
      clear h0 f1 f2 f3
      go_enter Tryd.func11, Tryd.ntmps11
      go_wp2_with fail
      refine HN.out.mono ?_
      rintro e w' ⟨rfl, n, rfl⟩
      go_wp2_with fail
      go_ret2
      exact ⟨by rw [HZ.out.1, HZ.out.2]; rfl, n, rfl⟩

set_option maxHeartbeats 400000 in
theorem qdigits_any (n m : Int) (w : World) (hn : n ≤ 9223372036854775807) :
    Calls Tryd.prog 13 #[.int .i64 n, .int .i64 m] w fun e w' => e = .returned (.tuple #[.string (gV n m), .int .i64 (gE n m)]) ∧ Below w.heap.size w w' := by
  have HI := Lib.hid (qin_any n m w)
  by_cases h : inP n m = true
  · rw [h] at HI
    have HT := Lib.hid (rtext_any n m w hn)
    rw [(text_in h).1, (text_in h).2] at HT
    have HE := Lib.hid (gE_pos h)
    clear h
    go_enter Tryd.func13, Tryd.ntmps13
    go_wp2_with fail
    refine HI.out.mono ?_
    rintro e w' ⟨rfl, rfl⟩
    go_wp2_with fail
    refine HT.out.mono ?_
    rintro e w' ⟨rfl, hb⟩
    go_wp2_with fail
    go_ret2
    exact ⟨by rw [HE.out]; rfl, hb⟩
  · rw [show inP n m = false by simpa using h] at HI
    have HE := Lib.hid (gE_neg h)
    have HV := Lib.hid (gV_neg h)
    clear h
    go_enter Tryd.func13, Tryd.ntmps13
    go_wp2_with fail
    refine HI.out.mono ?_
    rintro e w' ⟨rfl, rfl⟩
    go_wp2_with fail
    go_ret2
    exact ⟨by rw [HE.out, HV.out]; rfl, Below.refl _ _⟩

set_option maxHeartbeats 400000 in
theorem qadd_any (a b m : Int) (w : World) :
    Calls Tryd.prog 23 #[.int .i64 a, .int .i64 b, .int .i64 m] w fun e w' => e = .returned (.tuple #[.int .i64 (aV a b m), .int .i64 (tE a b m)]) ∧ w = w' := by
  have HA := Lib.hid (qin_any a m w)
  have HB := Lib.hid (qin_any b m w)
  have HP := Lib.hid (qpower_any m w)
  by_cases h : inP a m = true ∧ inP b m = true
  · have HV := Lib.hid (show aV a b m = (a + b) % (pw m : Int) by unfold aV; rw [if_pos (tE_pos h.1 h.2)])
    have HE := Lib.hid (tE_pos h.1 h.2)
    obtain ⟨a0, a1⟩ := (inP_iff a m).1 h.1
    obtain ⟨b0, b1⟩ := (inP_iff b m).1 h.2
    have hle := pw_le m
    have hpos : (0 : Int) < (pw m : Nat) := by omega
    rw [h.1] at HA
    rw [h.2] at HB
    clear h
    generalize pw m = p at *
    go_enter Tryd.func23, Tryd.ntmps23
    go_wp2_with fail
    refine HA.out.mono ?_
    rintro e w' ⟨rfl, rfl⟩
    go_wp2_with fail
    refine HB.out.mono ?_
    rintro e w' ⟨rfl, rfl⟩
    go_wp2_with fail
    refine HP.out.mono ?_
    rintro e w' ⟨rfl, rfl⟩
    go_wp2_with fail
    go_ret2
    exact ⟨by rw [HE.out, HV.out]; rfl, rfl⟩
  · have HV := Lib.hid (show aV a b m = 0 by unfold aV; rw [tE_neg h]; rfl)
    have HE := Lib.hid (tE_neg h)
    rcases (show inP a m = false ∨ (inP a m = true ∧ inP b m = false) by cases h1 : inP a m <;> cases h2 : inP b m <;> simp_all) with h' | ⟨h', h''⟩
    · rw [h'] at HA
      clear h h'
      generalize inP b m = y at *
      go_enter Tryd.func23, Tryd.ntmps23
      go_wp2_with fail
      refine HA.out.mono ?_
      rintro e w' ⟨rfl, rfl⟩
      go_wp2_with fail
      refine HB.out.mono ?_
      rintro e w' ⟨rfl, rfl⟩
      go_wp2_with fail
      go_ret2
      exact ⟨by rw [HE.out, HV.out]; rfl, rfl⟩
    · rw [h'] at HA
      rw [h''] at HB
      clear h h' h''
      go_enter Tryd.func23, Tryd.ntmps23
      go_wp2_with fail
      refine HA.out.mono ?_
      rintro e w' ⟨rfl, rfl⟩
      go_wp2_with fail
      refine HB.out.mono ?_
      rintro e w' ⟨rfl, rfl⟩
      go_wp2_with fail
      go_ret2
      exact ⟨by rw [HE.out, HV.out]; rfl, rfl⟩

set_option maxHeartbeats 400000 in
theorem qsub_any (a b m : Int) (w : World) :
    Calls Tryd.prog 25 #[.int .i64 a, .int .i64 b, .int .i64 m] w fun e w' => e = .returned (.tuple #[.int .i64 (sV a b m), .int .i64 (tE a b m)]) ∧ w = w' := by
  have HA := Lib.hid (qin_any a m w)
  have HB := Lib.hid (qin_any b m w)
  have HP := Lib.hid (qpower_any m w)
  by_cases h : inP a m = true ∧ inP b m = true
  · have HV := Lib.hid (show sV a b m = (a - b + (pw m : Int)) % (pw m : Int) by unfold sV; rw [if_pos (tE_pos h.1 h.2)])
    have HE := Lib.hid (tE_pos h.1 h.2)
    obtain ⟨a0, a1⟩ := (inP_iff a m).1 h.1
    obtain ⟨b0, b1⟩ := (inP_iff b m).1 h.2
    have hle := pw_le m
    have hpos : (0 : Int) < (pw m : Nat) := by omega
    rw [h.1] at HA
    rw [h.2] at HB
    clear h
    generalize pw m = p at *
    go_enter Tryd.func25, Tryd.ntmps25
    go_wp2_with fail
    refine HA.out.mono ?_
    rintro e w' ⟨rfl, rfl⟩
    go_wp2_with fail
    refine HB.out.mono ?_
    rintro e w' ⟨rfl, rfl⟩
    go_wp2_with fail
    refine HP.out.mono ?_
    rintro e w' ⟨rfl, rfl⟩
    go_wp2_with fail
    refine HP.out.mono ?_
    rintro e w' ⟨rfl, rfl⟩
    go_wp2_with fail
    go_ret2
    exact ⟨by rw [HE.out, HV.out]; rfl, rfl⟩
  · have HV := Lib.hid (show sV a b m = 0 by unfold sV; rw [tE_neg h]; rfl)
    have HE := Lib.hid (tE_neg h)
    rcases (show inP a m = false ∨ (inP a m = true ∧ inP b m = false) by cases h1 : inP a m <;> cases h2 : inP b m <;> simp_all) with h' | ⟨h', h''⟩
    · rw [h'] at HA
      clear h h'
      generalize inP b m = y at *
      go_enter Tryd.func25, Tryd.ntmps25
      go_wp2_with fail
      refine HA.out.mono ?_
      rintro e w' ⟨rfl, rfl⟩
      go_wp2_with fail
      refine HB.out.mono ?_
      rintro e w' ⟨rfl, rfl⟩
      go_wp2_with fail
      go_ret2
      exact ⟨by rw [HE.out, HV.out]; rfl, rfl⟩
    · rw [h'] at HA
      rw [h''] at HB
      clear h h' h''
      go_enter Tryd.func25, Tryd.ntmps25
      go_wp2_with fail
      refine HA.out.mono ?_
      rintro e w' ⟨rfl, rfl⟩
      go_wp2_with fail
      refine HB.out.mono ?_
      rintro e w' ⟨rfl, rfl⟩
      go_wp2_with fail
      go_ret2
      exact ⟨by rw [HE.out, HV.out]; rfl, rfl⟩

set_option maxHeartbeats 400000 in
theorem qrest_any (A : Option Addr) (len cap : Nat) (bs : Nat → Nat) (m : Int) (w : World) (hl : len ≤ 9223372036854775807) (hA : SlB w A len bs) :
    Calls Tryd.prog 21 #[.slice A len cap, .int .i64 m] w fun e w' => e = .returned (.tuple #[.int .i64 (rV len bs m), .int .i64 (rE len m)]) ∧ ∃ n, w' = w.drewN n := by
  have HM := Lib.hid (qpower_any m w)
  have HA := Lib.hid hA
  clear hA
  by_cases h : pw m = 0
  · rw [h] at HM
    have HE := Lib.hid (rE_low (len := len) h)
    have HV := Lib.hid (rV_bad (len := len) (b := bs) (m := m) (by rw [HE.out]; decide))
    clear h
    go_enter Tryd.func21, Tryd.ntmps21
    go_wp2_with fail
    refine HM.out.mono ?_
    rintro e w' ⟨rfl, rfl⟩
    go_wp2_with fail
    go_ret2
    exact ⟨by rw [HE.out, HV.out]; rfl, 0, rfl⟩
  · have hne : (((pw m : Nat) : Int) == 0) = false := by simp; omega
    by_cases h64 : 64 < len
    · have HE := Lib.hid (rE_long h h64)
      have HV := Lib.hid (rV_bad (len := len) (b := bs) (m := m) (by rw [HE.out]; decide))
      have h64' : (64 : Int) < len := by omega
      clear h
      generalize pw m = p at *
      go_enter Tryd.func21, Tryd.ntmps21
      go_wp2_with fail
      refine HM.out.mono ?_
      rintro e w' ⟨rfl, rfl⟩
      go_wp2_with fail
      go_ret2
      exact ⟨by rw [HE.out, HV.out]; rfl, 0, rfl⟩
    · have HE := Lib.hid (rE_ok (m := m) (len := len) h (by omega))
      have HV := Lib.hid (rV_ok (b := bs) HE.out)
      have h64' : (len : Int) ≤ 64 := by omega
      have hle := pw_le m
      have hpos : 0 < pw m := by omega
      have hpos' : (0 : Int) < (pw m : Nat) := by omega
      clear h
      generalize pw m = p at *
      go_enter Tryd.func21, Tryd.ntmps21
      go_wp2_with fail
      refine HM.out.mono ?_
      rintro e w' ⟨rfl, rfl⟩
      go_wp2_with fail
      go_loopw [7, 8] (fun r i wr => ∃ k : Nat, k ≤ len ∧ i = .int .i64 k ∧ r = .int .i64 (restN p bs k : Nat) ∧ ∃ n, wr = w.drewN n) (fun _ i _ => len - (intOf i).toNat)
      case atStart => exact ⟨0, Nat.zero_le _, rfl, rfl, 0, rfl⟩
      case round =>
        obtain ⟨k, hk, rfl, rfl, hn⟩ := hrel
        have HN := Lib.hid hn
        clear hn
        by_cases hlt : k < len
        · obtain ⟨B, o, rfl, hB, hcells⟩ := HA.out (by omega)
          obtain ⟨hx, hcell⟩ := hcells k hlt
          have hr := restN_lt hpos bs k
          have HS := Lib.hid (show restN p bs (k + 1) = (256 * restN p bs k + bs k) % p from rfl)
          have hc : wr.cell? ⟨B, o + k, none⟩ = some (.int .u8 (bs k : Nat)) := by
            obtain ⟨n, hn⟩ := HN.out
            rw [hn]; exact hcell
          clear hcell hcells
          generalize bs k = x at *
          generalize restN p bs k = r at *
          go_wp2_with fail
          go_roundw
          case rel => exact ⟨k + 1, by omega, by go_num, by rw [HS.out]; go_num, HN.out⟩
          case measure => simp [intOf]; omega
        · obtain rfl : k = len := by omega
          go_wp2_with fail
          go_ret2
          exact ⟨by rw [HE.out, HV.out]; rfl, HN.out⟩
end Go.Proofs.YtejljmpjdhdoiaaDoor
