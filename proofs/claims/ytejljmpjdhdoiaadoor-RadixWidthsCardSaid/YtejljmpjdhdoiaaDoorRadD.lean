/- Contracts of package radix: Rest. -/
import Derived.Test.YtejljmpjdhdoiaaDoorRadB
import Derived.Test.YtejljmpjdhdoiaaDoorBits
import Derived.Test.YtejljmpjdhdoiaaDoorNumE
namespace Go.Proofs.YtejljmpjdhdoiaaDoor
open Go.RowKit

theorem md_none (m : Int) : mdE m (fun _ => 0) 0 = (if pw m = 0 then 1 else 0) ∧ mdV m (fun _ => 0) 0 = ((pw m : Nat) : Int) := by
  by_cases h : pw m = 0
  · obtain ⟨e, v⟩ := md_bad (m := m) (f := fun _ => 0) (n := 0) (Or.inl h)
    rw [e, v, if_pos h, h]; exact ⟨rfl, rfl⟩
  · obtain ⟨e, v⟩ := md_ok (f := fun _ => 0) h (okN_zero _ _)
    rw [e, v, if_neg h]; exact ⟨rfl, rfl⟩
theorem rE_low {len : Nat} {m : Int} (h : pw m = 0) : rE len m = 1 := if_pos h
theorem rE_long {len : Nat} {m : Int} (h : pw m ≠ 0) (h' : 64 < len) : rE len m = 2 := by unfold rE; rw [if_neg h, if_pos h']
theorem rE_ok {len : Nat} {m : Int} (h : pw m ≠ 0) (h' : len ≤ 64) : rE len m = 0 := by unfold rE; rw [if_neg h, if_neg (by omega)]
theorem rV_bad {len : Nat} {b : Nat → Nat} {m : Int} (h : rE len m ≠ 0) : rV len b m = 0 := if_neg h
theorem rV_ok {len : Nat} {b : Nat → Nat} {m : Int} (h : rE len m = 0) : rV len b m = (restN (pw m) b len : Nat) := if_pos h

set_option maxHeartbeats 400000 in
theorem xrest_any (A : Option Addr) (len cap : Nat) (bs : Nat → Nat) (m : Int) (w : World) (hl : len ≤ 9223372036854775807) (hp : Pws w) (hA : SlB w A len bs) :
    Calls Tryd.prog 19 #[.slice A len cap, .int .i64 m] w fun e w' => e = .returned (.tuple #[.int .i64 (rV len bs m), .int .i64 (rE len m)]) ∧ ∃ n, w' = w.drewN n := by
  have HM := Lib.hid (modulus_any m none 0 0 (fun _ => 0) w (by omega) hp (fun h => absurd h (by omega)))
  rw [(md_none m).1, (md_none m).2] at HM
  have HA := Lib.hid hA
  clear hp hA
  by_cases h : pw m = 0
  · rw [if_pos h, h] at HM
    have HE := Lib.hid (rE_low (len := len) h)
    have HV := Lib.hid (rV_bad (len := len) (b := bs) (m := m) (by rw [HE.out]; decide))
    clear h
    go_enter Tryd.func19, Tryd.ntmps19
    go_wp2_with fail
    refine HM.out.mono ?_
    rintro e w' ⟨rfl, rfl⟩
    go_wp2_with fail
    go_ret2
    exact ⟨by rw [HE.out, HV.out]; rfl, 0, rfl⟩
  · rw [if_neg h] at HM
    by_cases h64 : 64 < len
    · have HE := Lib.hid (rE_long h h64)
      have HV := Lib.hid (rV_bad (len := len) (b := bs) (m := m) (by rw [HE.out]; decide))
      have h64' : (64 : Int) < len := by omega
      clear h
      go_enter Tryd.func19, Tryd.ntmps19
      go_wp2_with fail
      refine HM.out.mono ?_
      rintro e w' ⟨rfl, rfl⟩
      go_wp2_with fail
      go_ret2
      exact ⟨by rw [HE.out, HV.out]; rfl, 0, rfl⟩
    · have HE := Lib.hid (rE_ok (m := m) (len := len) h (by omega))
      have HV := Lib.hid (rV_ok (b := bs) HE.out)
      have h64' : (len : Int) ≤ 64 := by omega
      have hle := pw_le m
      have hpos : 0 < pw m := by omega
      have hpos' : (0 : Int) < (pw m : Nat) := by omega
      clear h
      generalize pw m = p at *
      go_enter Tryd.func19, Tryd.ntmps19
      go_wp2_with fail
      refine HM.out.mono ?_
      rintro e w' ⟨rfl, rfl⟩
      go_wp2_with fail
      go_loopw [8, 23] (fun r i wr => ∃ k : Nat, k ≤ len ∧ i = .int .i64 k ∧ r = .int .i64 (restN p bs k : Nat) ∧ ∃ n, wr = w.drewN n) (fun _ i _ => len - (intOf i).toNat)
      case atStart => exact ⟨0, Nat.zero_le _, rfl, rfl, 0, rfl⟩
      case round =>
        obtain ⟨k, hk, rfl, rfl, hn⟩ := hrel
        have HN := Lib.hid hn
        clear hn
        by_cases hlt : k < len
        · obtain ⟨B, o, rfl, hB, hcells⟩ := HA.out (by omega)
          obtain ⟨hx, hcell⟩ := hcells k hlt
          have hr := restN_lt hpos bs k
          have HS := Lib.hid (show restN p bs (k + 1) = (256 * restN p bs k + bs k) % p from rfl)
          have hc : wr.cell? ⟨B, o + k, none⟩ = some (.int .u8 (bs k : Nat)) := by
            obtain ⟨n, hn⟩ := HN.out
            rw [hn]; exact hcell
          clear hcell hcells
          generalize bs k = x at *
          generalize restN p bs k = r at *
          obtain ⟨q, hor, hq⟩ : ∃ q : Nat, bits .or .i64 ((r : Int) * 256) (x : Int) = (q : Nat) ∧ 256 * r + x = q := by
            have e := i64_or_nat (r * 256) x (by omega) (by omega)
            rw [shl_or r x hx] at e
            exact ⟨256 * r + x, by rw [show ((r : Int) * 256) = ((r * 256 : Nat) : Int) by omega, e]; omega, rfl⟩
          rw [hq] at HS
          clear hq
          go_wp2_with fail
          go_roundw
          case rel => exact ⟨k + 1, by omega, by go_num, by rw [HS.out]; go_num, HN.out⟩
          case measure => simp [intOf]; omega
        · obtain rfl : k = len := by omega
          go_wp2_with fail
          go_ret2
          exact ⟨by rw [HE.out, HV.out]; rfl, HN.out⟩
end Go.Proofs.YtejljmpjdhdoiaaDoor
