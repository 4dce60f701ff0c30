/- The document's book (layer 16): money, Right, may, at. -/
import Derived.Test.YtbcanfhjdllaoaaLimE
namespace Go.Proofs.Ytbcanfhjdllaoaa
set_option maxRecDepth 100000
open Go.RowKit
/-- the document's book in block X, its row v; u: a world before it -/
structure RBk (u : World) (X : Nat) (w : World) (L : List Us) (v : Value) : Prop where
  bel : Below u.heap.size u w
  uX : u.heap.size ≤ X
  cell : w.cell? ⟨X, 0, none⟩ = some v
  froz : w.frozen? ⟨X, 0, none⟩ = false
  own : OwL usE 31 w u.heap.size v L
  ne : ∀ g, v.ownBlock = some g → g ≠ X
  ok : BkOk L
theorem RBk.keep {u w w' : World} {X : Nat} {L : List Us} {v : Value} (h : RBk u X w L v) (hb : Below w.heap.size w w') : RBk u X w' L v :=
  ⟨h.bel.trans (hb.mono h.bel.size), h.uX, (hb.cell (p := ⟨X, 0, none⟩) (block_lt h.cell)).trans h.cell, (World.frozen?_of_block (hb.block X (block_lt (a := ⟨X, 0, none⟩) h.cell))).trans h.froz, h.own.keep hb, h.ne, h.ok⟩
/-- a rule's value -/
abbrev ruV (r : Rl) : Value := .agg #[.int .i64 r.k, .int .i64 r.t, .int .i64 r.s, .int .i64 r.o]
theorem rmoney_any (x : Int) (w : World) : Calls Try.prog 28 #[.int .i64 x] w fun e w' => e = .returned (.bool (mny x)) ∧ w' = w := by
  by_cases h1 : 0 ≤ x
  · by_cases h2 : x ≤ 999999999999
    · have HE := Lib.hid (show mny x = true from decide_eq_true ⟨h1, h2⟩)
      have t1 : decide (0 ≤ x) = true := decide_eq_true h1
      have t2 : decide (x ≤ 999999999999) = true := decide_eq_true h2
      clear h1 h2
      go_enter Try.func28, Try.ntmps28
      go_wp2_with fail
      go_ret
      exact ⟨by rw [HE.out]; rfl, rfl⟩
    · have HE := Lib.hid (show mny x = false from decide_eq_false fun h => h2 h.2)
      have t1 : decide (0 ≤ x) = true := decide_eq_true h1
      have t2 : decide (x ≤ 999999999999) = false := decide_eq_false h2
      clear h1 h2
      go_enter Try.func28, Try.ntmps28
      go_wp2_with fail
      go_ret
      exact ⟨by rw [HE.out]; rfl, rfl⟩
  · have HE := Lib.hid (show mny x = false from decide_eq_false fun h => h1 h.1)
    have t1 : decide (0 ≤ x) = false := decide_eq_false h1
    clear h1
    go_enter Try.func28, Try.ntmps28
    go_wp2_with fail
    go_ret
    exact ⟨by rw [HE.out]; rfl, rfl⟩
theorem rl_eq (r : Rl) : rlK r = (mny r.t && mny r.s && mny r.o && decide (1 ≤ r.k) && decide (r.k ≤ 1099511627776)) := by
  unfold rlK mny
  rw [Bool.eq_iff_iff]
  simp only [Bool.and_eq_true, decide_eq_true_eq, and_assoc]
theorem rright16_any (r : Rl) (w : World) : Calls Try.prog 19 #[ruV r] w fun e w' => e = .returned (.bool (rlK r)) ∧ Below w.heap.size w w' := by
  obtain ⟨b, hb⟩ : ∃ b, rlK r = b := ⟨_, rfl⟩
  have HB := Lib.hid ((rl_eq r).symm.trans hb)
  have M1 := Lib.hid (fun w => rmoney_any r.t w)
  have M2 := Lib.hid (fun w => rmoney_any r.s w)
  have M3 := Lib.hid (fun w => rmoney_any r.o w)
  have hbl := alloc_below w (.cells #[.int .i64 r.k, .int .i64 r.t, .int .i64 r.s, .int .i64 r.o] 38)
  have HBL := Lib.hid hbl
  clear hbl
  rw [hb]
  clear hb
  generalize hm1 : mny r.t = m1 at *
  generalize hm2 : mny r.s = m2 at *
  generalize hm3 : mny r.o = m3 at *
  clear hm1 hm2 hm3
  obtain ⟨d1, hd1⟩ : ∃ d, decide (1 ≤ r.k) = d := ⟨_, rfl⟩
  obtain ⟨d2, hd2⟩ : ∃ d, decide (r.k ≤ 1099511627776) = d := ⟨_, rfl⟩
  rw [hd1, hd2] at HB
  obtain ⟨k, t, s, o⟩ := r
  simp only at hd1 hd2 M1 M2 M3 HBL
  cases m1 <;> cases m2 <;> cases m3 <;> cases d1 <;> cases d2
  all_goals
    have HE := Lib.hid HB.out.symm
    clear HB
    go_enter Try.func19, Try.ntmps19
    go_wp2_with (first | (go_at_call_of 28 (Value.int IntKind.i64 t); refine (M1.out _).mono ?_; rintro e w' ⟨rfl, rfl⟩) | (go_at_call_of 28 (Value.int IntKind.i64 s); refine (M2.out _).mono ?_; rintro e w' ⟨rfl, rfl⟩) | (go_at_call_of 28 (Value.int IntKind.i64 o); refine (M3.out _).mono ?_; rintro e w' ⟨rfl, rfl⟩))
    go_ret
    exact ⟨by rw [HE.out]; rfl, HBL.out⟩
end Go.Proofs.Ytbcanfhjdllaoaa
