/- Contracts of package radix: Value, Digits, Add, Sub. -/
import Derived.Test.YtejljmpjdhdoiaaDoorRadB
namespace Go.Proofs.YtejljmpjdhdoiaaDoor
open Go.RowKit

theorem xvalue_facts (s : ByteArray) : (s.size = 0 → vE s = 1 ∧ vV s = 0) ∧ (16 < s.size → vE s = 2 ∧ vV s = 0) ∧ (s.size ≠ 0 → s.size ≤ 16 → vE s = dnE s ∧ vV s = dnV s) := by
  refine ⟨fun h => ?_, fun h => ?_, fun h h' => ?_⟩
  · have e : vE s = 1 := if_pos h
    exact ⟨e, by unfold vV; rw [e]; rfl⟩
  · have e : vE s = 2 := by unfold vE; rw [if_neg (by omega), if_pos h]
    exact ⟨e, by unfold vV; rw [e]; rfl⟩
  · have e : vE s = dnE s := by unfold vE; rw [if_neg h, if_neg (by omega)]
    refine ⟨e, ?_⟩
    unfold vV dnV
    rw [e]
    split <;> simp_all

set_option maxHeartbeats 400000 in
theorem xvalue_any (s : ByteArray) (w : World) (hs : s.size ≤ maxLen) :
    Calls Tryd.prog 10 #[.string s] w fun e w' => e = .returned (.tuple #[.int .i64 (vV s), .int .i64 (vE s)]) ∧ ∃ n, w' = w.drewN n := by
  have HN := Lib.hid (number_any s w hs)
  obtain ⟨f1, f2, f3⟩ := xvalue_facts s
  unfold maxLen at hs
  by_cases h0 : s.size = 0
  · have e1 : s.toList = [] := by
      rw [ByteArray.toList_eq]; exact List.eq_nil_of_length_eq_zero (Array.length_toList.trans h0)
    have HZ := Lib.hid (f1 h0)
    clear h0 f1 f2 f3
    go_enter Tryd.func10, Tryd.ntmps10
    go_wp2_with fail
    go_ret2
    exact ⟨by rw [HZ.out.1, HZ.out.2]; rfl, 0, rfl⟩
  · have e1 := toList_of_size (s := s) (by omega)
    have e2 : ¬ s.toList = [] := by intro h; rw [h] at e1; cases e1
    by_cases h16 : 16 < s.size
    · have HZ := Lib.hid (f2 h16)
      clear h0 f1 f2 f3
      have h16' : (16 : Int) < s.size := by omega
      go_enter Tryd.func10, Tryd.ntmps10
      go_wp2_with fail
      go_ret2
      exact ⟨by rw [HZ.out.1, HZ.out.2]; rfl, 0, rfl⟩
    · have HZ := Lib.hid (f3 h0 (by omega))
      have h16' : (s.size : Int) ≤ 16 := by omega
      clear h0 f1 f2 f3
      go_enter Tryd.func10, Tryd.ntmps10
      go_wp2_with fail
      refine HN.out.mono ?_
      rintro e w' ⟨rfl, n, rfl⟩
      go_wp2_with fail
      go_ret2
      exact ⟨by rw [HZ.out.1, HZ.out.2]; rfl, n, rfl⟩

/-- what the guard of one or two numbers answers -/
theorem md_one (n m : Int) : mdE m (fun _ => n) 1 = gE n m ∧ mdV m (fun _ => n) 1 = if inP n m = true then ((pw m : Nat) : Int) else 0 := by
  by_cases h : inP n m = true
  · obtain ⟨e, v⟩ := md_ok (f := fun _ => n) (inP_pos h) (by rw [okN_in rfl, h])
    rw [e, v, gE_pos h, if_pos h]; exact ⟨rfl, rfl⟩
  · obtain ⟨e, v⟩ := md_bad (m := m) (f := fun _ => n) (n := 1) (Or.inr (by rw [okN_in rfl]; simpa using h))
    rw [e, v, gE_neg h, if_neg h]; exact ⟨rfl, rfl⟩
def pairI (a b : Int) (i : Nat) : Int := if i = 0 then a else b
theorem md_two (a b m : Int) : mdE m (pairI a b) 2 = tE a b m ∧ mdV m (pairI a b) 2 = if tE a b m = 0 then ((pw m : Nat) : Int) else 0 := by
  have hk : okN (pw m) (pairI a b) 2 = (inP a m && inP b m) := by
    rw [Bool.eq_iff_iff, okN_two, Bool.and_eq_true, inP_iff, inP_iff]; rfl
  by_cases h : inP a m = true ∧ inP b m = true
  · obtain ⟨e, v⟩ := md_ok (f := pairI a b) (inP_pos h.1) (by rw [hk, h.1, h.2]; rfl)
    rw [e, v, tE_pos h.1 h.2]; exact ⟨rfl, rfl⟩
  · obtain ⟨e, v⟩ := md_bad (m := m) (f := pairI a b) (n := 2) (Or.inr (by rw [hk]; simpa using h))
    rw [e, v, tE_neg h]; exact ⟨rfl, rfl⟩

set_option maxHeartbeats 400000 in
theorem xdigits_any (n m : Int) (w : World) (hn : n ≤ 9223372036854775807) (hp : Pws w) :
    Calls Tryd.prog 12 #[.int .i64 n, .int .i64 m] w fun e w' => e = .returned (.tuple #[.string (gV n m), .int .i64 (gE n m)]) ∧ Below w.heap.size w w' := by
  have HM := Lib.hid (modulus_any m (some ⟨w.heap.size, 0, none⟩) 1 1 (fun _ => n) (w.alloc (.cells #[.int .i64 n] 3)) (by omega) (hp.alloc _) (fun _ => ⟨_, rfl, fun i hi => by
    obtain rfl : i = 0 := by omega
    exact World.cell?_alloc_at _ _ _ _ rfl⟩))
  have HO := Lib.hid (md_one n m)
  have HB := Lib.hid ((Below.refl w.heap.size w).alloc (Nat.le_refl _) (.cells #[.int .i64 n] 3))
  rw [HO.out.1] at HM
  by_cases h : inP n m = true
  · rw [gE_pos h] at HM
    have HT := Lib.hid (text_any n m (w.alloc (.cells #[.int .i64 n] 3)) hn)
    rw [(text_in h).1, (text_in h).2] at HT
    have HE := Lib.hid (gE_pos h)
    clear hp h
    go_enter Tryd.func12, Tryd.ntmps12
    go_wp2_with fail
    refine HM.out.mono ?_
    rintro e w' ⟨rfl, rfl⟩
    go_wp2_with fail
    refine HT.out.mono ?_
    rintro e w' ⟨rfl, hb⟩
    go_wp2_with fail
    go_ret2
    exact ⟨by rw [HE.out]; rfl, HB.out.trans (hb.mono HB.out.size)⟩
  · rw [gE_neg h] at HM
    have HE := Lib.hid (gE_neg h)
    have HV := Lib.hid (gV_neg h)
    clear hp h
    go_enter Tryd.func12, Tryd.ntmps12
    go_wp2_with fail
    refine HM.out.mono ?_
    rintro e w' ⟨rfl, rfl⟩
    go_wp2_with fail
    go_ret2
    exact ⟨by rw [HE.out, HV.out]; rfl, HB.out⟩

theorem two_cells (w : World) (a b : Int) : ∀ i, i < 2 → (w.alloc (.cells #[.int .i64 a, .int .i64 b] 3)).cell? ⟨w.heap.size, i, none⟩ = some (.int .i64 (pairI a b i)) := fun i hi => by
  rcases (show i = 0 ∨ i = 1 by omega) with rfl | rfl
  · exact (World.cell?_alloc_at _ _ _ _ rfl).trans rfl
  · exact (World.cell?_alloc_at _ _ _ _ rfl).trans rfl

set_option maxHeartbeats 400000 in
theorem xadd_any (a b m : Int) (w : World) (hp : Pws w) :
    Calls Tryd.prog 22 #[.int .i64 a, .int .i64 b, .int .i64 m] w fun e w' => e = .returned (.tuple #[.int .i64 (aV a b m), .int .i64 (tE a b m)]) ∧ Below w.heap.size w w' := by
  have HM := Lib.hid (modulus_any m (some ⟨w.heap.size, 0, none⟩) 2 2 (pairI a b) (w.alloc (.cells #[.int .i64 a, .int .i64 b] 3)) (by omega) (hp.alloc _) (fun _ => ⟨_, rfl, two_cells w a b⟩))
  have HB := Lib.hid ((Below.refl w.heap.size w).alloc (Nat.le_refl _) (.cells #[.int .i64 a, .int .i64 b] 3))
  rw [(md_two a b m).1, (md_two a b m).2] at HM
  by_cases h : inP a m = true ∧ inP b m = true
  · have HV := Lib.hid (show aV a b m = (a + b) % (pw m : Int) by unfold aV; rw [if_pos (tE_pos h.1 h.2)])
    rw [tE_pos h.1 h.2, if_pos rfl] at HM
    have HE := Lib.hid (tE_pos h.1 h.2)
    obtain ⟨a0, a1⟩ := (inP_iff a m).1 h.1
    obtain ⟨b0, b1⟩ := (inP_iff b m).1 h.2
    have hle := pw_le m
    have hpos : (0 : Int) < (pw m : Nat) := by omega
    clear hp h
    generalize pw m = p at *
    go_enter Tryd.func22, Tryd.ntmps22
    go_wp2_with fail
    refine HM.out.mono ?_
    rintro e w' ⟨rfl, rfl⟩
    go_wp2_with fail
    go_ret2
    exact ⟨by rw [HE.out, HV.out]; rfl, HB.out⟩
  · have HV := Lib.hid (show aV a b m = 0 by unfold aV; rw [tE_neg h]; rfl)
    rw [tE_neg h] at HM
    have HE := Lib.hid (tE_neg h)
    clear hp h
    go_enter Tryd.func22, Tryd.ntmps22
    go_wp2_with fail
    refine HM.out.mono ?_
    rintro e w' ⟨rfl, rfl⟩
    go_wp2_with fail
    go_ret2
    exact ⟨by rw [HE.out, HV.out]; rfl, HB.out⟩

set_option maxHeartbeats 400000 in
theorem xsub_any (a b m : Int) (w : World) (hp : Pws w) :
    Calls Tryd.prog 24 #[.int .i64 a, .int .i64 b, .int .i64 m] w fun e w' => e = .returned (.tuple #[.int .i64 (sV a b m), .int .i64 (tE a b m)]) ∧ Below w.heap.size w w' := by
  have HM := Lib.hid (modulus_any m (some ⟨w.heap.size, 0, none⟩) 2 2 (pairI a b) (w.alloc (.cells #[.int .i64 a, .int .i64 b] 3)) (by omega) (hp.alloc _) (fun _ => ⟨_, rfl, two_cells w a b⟩))
  have HB := Lib.hid ((Below.refl w.heap.size w).alloc (Nat.le_refl _) (.cells #[.int .i64 a, .int .i64 b] 3))
  rw [(md_two a b m).1, (md_two a b m).2] at HM
  by_cases h : inP a m = true ∧ inP b m = true
  · have HV := Lib.hid (show sV a b m = (a - b + (pw m : Int)) % (pw m : Int) by unfold sV; rw [if_pos (tE_pos h.1 h.2)])
    rw [tE_pos h.1 h.2, if_pos rfl] at HM
    have HE := Lib.hid (tE_pos h.1 h.2)
    obtain ⟨a0, a1⟩ := (inP_iff a m).1 h.1
    obtain ⟨b0, b1⟩ := (inP_iff b m).1 h.2
    have hle := pw_le m
    have hpos : (0 : Int) < (pw m : Nat) := by omega
    clear hp h
    generalize pw m = p at *
    go_enter Tryd.func24, Tryd.ntmps24
    go_wp2_with fail
    refine HM.out.mono ?_
    rintro e w' ⟨rfl, rfl⟩
    go_wp2_with fail
    go_ret2
    exact ⟨by rw [HE.out, HV.out]; rfl, HB.out⟩
  · have HV := Lib.hid (show sV a b m = 0 by unfold sV; rw [tE_neg h]; rfl)
    rw [tE_neg h] at HM
    have HE := Lib.hid (tE_neg h)
    clear hp h
    go_enter Tryd.func24, Tryd.ntmps24
    go_wp2_with fail
    refine HM.out.mono ?_
    rintro e w' ⟨rfl, rfl⟩
    go_wp2_with fail
    go_ret2
    exact ⟨by rw [HE.out, HV.out]; rfl, HB.out⟩
end Go.Proofs.YtejljmpjdhdoiaaDoor
