/- Layer 15, the code: Find. -/
import Derived.Test.YtcohkhjfncknpaaRouC
import Derived.Laws.Small
namespace Go.Proofs.Ytcohkhjfncknpaa
set_option maxRecDepth 100000
open Go.RowKit
theorem fndR_size {L : List Rt} {s : ByteArray} : ∀ {k m : Nat}, s.size ≤ m → fndR L s (m + k) = fndR L s m
  | 0, _, _ => rfl
  | k + 1, m, h => by
    rw [show m + (k + 1) = (m + k) + 1 by omega]
    unfold fndR
    rw [if_neg (by omega), fndR_size h]
    cases m <;> rfl
theorem fndR_step {L : List Rt} {s : ByteArray} {k : Nat} (hk : k + 1 ≤ s.size) (h : (atR L (s.extract 0 (k + 1))).isSome = false) : fndR L s (k + 1) = fndR L s k := by
  conv => lhs; unfold fndR
  rw [if_pos hk]
  cases h2 : atR L (s.extract 0 (k + 1)) with
  | none => rfl
  | some t => rw [h2] at h; cases h
theorem fndR_hit {L : List Rt} {s : ByteArray} {k : Nat} (hk : k + 1 ≤ s.size) (h : (atR L (s.extract 0 (k + 1))).isSome = true) : fndR L s (k + 1) = some ((atR L (s.extract 0 (k + 1))).getD 0) := by
  conv => lhs; unfold fndR
  rw [if_pos hk]
  cases h2 : atR L (s.extract 0 (k + 1)) with
  | none => rw [h2] at h; cases h
  | some t => rfl
set_option maxHeartbeats 1600000 in
theorem cfind_any {u : World} {G B : Nat} {w : World} {L : List Rt} {O : Nat → Prop} (h : TblA u G B w L O) (s : ByteArray) (hs : s.size ≤ maxLen) :
    Calls Try.prog 15 #[.pointer (some ⟨G, 0, none⟩), .string s] w fun e w' => e = .returned (.tuple #[.int .i64 (fdV L s), .bool (fdI L s)]) ∧ TStep (TblA u G B) w O w' L := by
  have HT := Lib.hid h
  have HS := Lib.hid hs
  obtain ⟨m, hm8, hms, hmf, hmin⟩ : ∃ m : Nat, m ≤ 8 ∧ m ≤ s.size ∧ fndR L s 8 = fndR L s m ∧ ∀ (ty : TypeId) (W : World), (Builtin.min_ #[3, 3] ty #[.int .i64 (s.size : Nat), .int .i64 8]).run Try.prog W = .ok (.int .i64 (m : Nat)) W := by
    by_cases h8 : s.size ≤ 8
    · refine ⟨s.size, h8, Nat.le_refl _, ?_, fun ty W => ?_⟩
      · obtain ⟨j, hj⟩ : ∃ j, 8 = s.size + j := ⟨8 - s.size, by omega⟩
        conv => lhs; rw [hj]
        exact fndR_size (Nat.le_refl _)
      · rw [run_min_int2, if_neg (by omega)]
    · exact ⟨8, Nat.le_refl _, by omega, rfl, fun ty W => by rw [run_min_int2, if_pos (by omega)]; rfl⟩
  have HM := Lib.hid (And.intro hm8 (And.intro hms hmf))
  clear h hs hm8 hms hmf
  go_enter Try.func15, Try.ntmps15
  go_wp2_with fail
  clear hmin
  go_loopw [6] (fun i wr => ∃ k : Nat, i = .int .i64 k ∧ k ≤ 8 ∧ k ≤ s.size ∧ fndR L s 8 = fndR L s k ∧ Below w.heap.size w wr) (fun i _ => (intOf i).toNat)
  case atStart => exact ⟨m, rfl, HM.out.1, HM.out.2.1, HM.out.2.2, Below.refl _ _⟩
  case round =>
    obtain ⟨k, rfl, hk8, hks, hkf, hbl⟩ := hrel
    have HA := Lib.hid (HT.out.below hbl)
    have HB := Lib.hid hbl
    have HKF := Lib.hid hkf
    have HK8 := Lib.hid hk8
    have HKS := Lib.hid hks
    clear hbl
    by_cases h0 : k = 0
    · subst h0
      have t1 : decide ((0 : Int) < ((0 : Nat) : Int)) = false := rfl
      have HF := Lib.hid (show fndR L s 8 = none from hkf)
      clear hkf
      go_wp2_with fail
      go_ret2
      exact ⟨by unfold fdV fdI; rw [HF.out]; rfl, HT.out.stay HB.out⟩
    · have t1 : decide ((0 : Int) < ((k : Nat) : Int)) = true := decide_eq_true (by omega)
      have hks1 : ((k : Nat) : Int) ≤ s.size := by omega
      have hks2 : ¬ ((k : Nat) : Int) < 0 := by omega
      have hks3 : (0 : Int) ≤ ((k : Nat) : Int) := by omega
      obtain ⟨j, hj⟩ : ∃ j, k = j + 1 := ⟨k - 1, by omega⟩
      have HJ := Lib.hid hj
      have hj1 : ((k : Nat) : Int) - 1 = (j : Nat) := by omega
      have HW := Lib.hid (show wrap64 ((j : Nat) : Int) = ((j : Nat) : Int) from IntWalk.wrap64_in _ (by omega))
      have c0 : ∀ n, (wr.drewN n).cell? ⟨G, 0, none⟩ = some (.map (some B)) := fun _ => HA.out.cell
      have m0 : ∀ n, (Instr.lookup 48 (.map (some B)) (.string (s.extract 0 k)) true).run Try.prog (wr.drewN n) = .ok (.tuple #[.int .i64 ((atR L (s.extract 0 k)).getD 0), .bool (atR L (s.extract 0 k)).isSome]) (wr.drewN n) := fun n => (HA.out.mp.drewN n).look _ (by have := HS.out; rw [ByteArray.size_extract]; omega)
      cases hb : (atR L (s.extract 0 k)).isSome with
      | true =>
        have HF := Lib.hid (show fndR L s 8 = some ((atR L (s.extract 0 k)).getD 0) from hkf.trans (by subst hj; exact fndR_hit hks hb))
        rw [hb] at m0
        clear hkf hj h0 hb hk8 hks
        generalize (atR L (s.extract 0 k)).getD 0 = x0 at *
        go_wp2_with fail
        go_quiet (fail)
        go_wp2_with fail
        go_ret2
        exact ⟨by unfold fdV fdI; rw [HF.out]; rfl, HT.out.stay (HB.out.trans (drawn (Below.refl _ _) _))⟩
      | false =>
        have HF := Lib.hid (show fndR L s 8 = fndR L s j from hkf.trans (by subst hj; exact fndR_step hks hb))
        rw [hb] at m0
        clear hkf hj h0 hb hk8 hks
        generalize (atR L (s.extract 0 k)).getD 0 = x0 at *
        go_wp2_with fail
        go_quiet (fail)
        go_wp2_with fail
        go_roundw
        case rel => exact ⟨j, by rw [HW.out], by have := HJ.out; have := HK8.out; omega, by have := HJ.out; have := HKS.out; omega, HF.out, drawn HB.out _⟩
        case measure => rw [HW.out]; exact (show ((j : Nat) : Int).toNat < ((k : Nat) : Int).toNat by have := HJ.out; omega)
end Go.Proofs.Ytcohkhjfncknpaa
