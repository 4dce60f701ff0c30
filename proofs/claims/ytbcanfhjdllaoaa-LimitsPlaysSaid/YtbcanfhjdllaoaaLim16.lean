/- Layer 16: a book beside a block that is kept; the small case; do. -/
import Derived.Test.YtbcanfhjdllaoaaLimK
namespace Go.Proofs.Ytbcanfhjdllaoaa
set_option maxRecDepth 100000
open Go.RowKit
/-- a book, and a block that is as it was -/
def HeldK (TA : World → List Us → (Nat → Prop) → Prop) (H : Nat) (ob : Obj) (w : World) (L : List Us) : Prop := ∃ O, TA w L O ∧ ¬ O H ∧ w.heap[H]? = some ob
section
variable {u w w' : World} {G H : Nat} {TA : World → List Us → (Nat → Prop) → Prop} {ob : Obj} {L L1 : List Us} {f : FuncId} {args : Array Value} {r : Value}
theorem HeldK.below (hK : BKit u G TA) (h : HeldK TA H ob w L) (hb : Below w.heap.size w w') : HeldK TA H ob w' L := by
  obtain ⟨O, h1, h2, h3⟩ := h
  exact ⟨O, hK.below h1 hb, h2, (hb.block H (Array.getElem?_eq_some_iff.1 h3).1).trans h3⟩
theorem HeldK.bel (hK : BKit u G TA) (h : HeldK TA H ob w L) : Below u.heap.size u w := by
  obtain ⟨O, h1, _⟩ := h
  exact hK.bel _ _ _ h1
theorem HeldK.ok (hK : BKit u G TA) (h : HeldK TA H ob w L) : BkOk L := by
  obtain ⟨O, h1, _⟩ := h
  exact hK.ok _ _ _ h1
theorem HeldK.call (hK : BKit u G TA) (h : HeldK TA H ob w L) (hc : ∀ O, TA w L O → Calls Try.prog f args w fun e w' => e = .returned r ∧ BStep TA w O w' L1) : Calls Try.prog f args w fun e w' => e = .returned r ∧ HeldK TA H ob w' L1 := by
  have _ := hK
  obtain ⟨O, h1, h2, h3⟩ := h
  refine (hc O h1).mono ?_
  rintro e w' ⟨he, O1, k1, k2, k3⟩
  have hl := (Array.getElem?_eq_some_iff.1 h3).1
  refine ⟨he, O1, k1, fun hx => ?_, (k2.block H hl h2).trans h3⟩
  rcases k3 H hx with h | h
  · exact h2 h
  · omega
/-- its list, a row apart from it -/
theorem HeldK.list (hK : BKit u G TA) (h : HeldK TA H ob w L) : Calls Try.prog 17 #[.pointer (some ⟨G, 0, none⟩)] w fun e w' => ∃ v, e = .returned v ∧ OwL usE 31 w' w.heap.size v L ∧ HeldK TA H ob w' L := by
  obtain ⟨O, h1, h2, h3⟩ := h
  refine (hK.list w L O h1).mono ?_
  rintro e w' ⟨v, O1, he, ho, hv, k1, k2, k3⟩
  have hl := (Array.getElem?_eq_some_iff.1 h3).1
  refine ⟨v, he, ho, O1, k1, fun hx => ?_, (k2.block H hl h2).trans h3⟩
  rcases k3 H hx with h | h
  · exact h2 h
  · omega
end
set_option maxHeartbeats 3200000 in
theorem small16_any (hN : LimOk) (w : World) (hv : Ev w) : Calls Try.prog 8 #[] w fun e w' => e = .returned (.bool true) ∧ Below w.heap.size w w' := by
  obtain ⟨f1, f2, f3, f4, f5, f6, f7, f8⟩ := small16_facts
  have HN := Lib.hid (hN.new w w hv (Below.refl _ _))
  have HR := Lib.hid (fun W => hN.right W 10 2 100 80 trivial)
  have F1 := Lib.hid f1
  have F2 := Lib.hid f2
  have F3 := Lib.hid f3
  have F4 := Lib.hid f4
  have F5 := Lib.hid f5
  have F6 := Lib.hid f6
  have F7 := Lib.hid f7
  have F8 := Lib.hid f8
  clear f1 f2 f3 f4 f5 f6 f7 f8 hN hv
  go_enter Try.func8, Try.ntmps8
  go_wp2_with fail
  refine HN.out.mono ?_
  rintro e w1 ⟨G, TA, O, rfl, hkit, ha, _, _⟩
  have HK := Lib.hid hkit
  have HB := Lib.hid (alloc_below w1 (.cells #[.int .i64 10, .int .i64 2, .int .i64 100, .int .i64 80] 38))
  have HA0 := Lib.hid (show HeldK TA w1.heap.size (.cells #[.int .i64 10, .int .i64 2, .int .i64 100, .int .i64 80] 38) (w1.alloc (.cells #[.int .i64 10, .int .i64 2, .int .i64 100, .int .i64 80] 38)) [] from ⟨O, hkit.below ha HB.out, fun h => by have := (hkit.own _ _ _ ha _ h).2; omega, by
    show (w1.heap.push _)[w1.heap.size]? = _
    rw [Array.getElem?_push_size]⟩)
  have HC := Lib.hid (show ∀ W L, HeldK TA w1.heap.size (.cells #[.int .i64 10, .int .i64 2, .int .i64 100, .int .i64 80] 38) W L → W.cell? ⟨w1.heap.size, 0, none⟩ = some (.int .i64 10) ∧ W.cell? ⟨w1.heap.size, 1, none⟩ = some (.int .i64 2) ∧ W.cell? ⟨w1.heap.size, 2, none⟩ = some (.int .i64 100) ∧ W.cell? ⟨w1.heap.size, 3, none⟩ = some (.int .i64 80) from fun W L h => by
    obtain ⟨_, _, _, e⟩ := h
    exact ⟨(Lib.cell_of_heap e 0).trans rfl, (Lib.cell_of_heap e 1).trans rfl, (Lib.cell_of_heap e 2).trans rfl, (Lib.cell_of_heap e 3).trans rfl⟩)
  clear hkit ha HN
  go_wp2_with fail
  generalize hW : w1.alloc (.cells #[.int .i64 10, .int .i64 2, .int .i64 100, .int .i64 80] 38) = v0 at *
  clear hW HB
  generalize w1.heap.size = bH at *
  obtain ⟨c0, c1, c2, c3⟩ := HC.out _ _ HA0.out
  have HT := Lib.hid (HA0.out.call HK.out fun O h => HK.out.try_ _ _ O 10 2 100 80 sa 60 3 h (by decide))
  rw [F1.out.1, F1.out.2] at HT
  clear HA0
  go_wp2_with fail
  refine HT.out.mono ?_
  rintro e v1 ⟨rfl, h1⟩
  have HA1 := Lib.hid h1
  clear h1 HT c0 c1 c2 c3
  obtain ⟨c0, c1, c2, c3⟩ := HC.out _ _ HA1.out
  have HT := Lib.hid (HA1.out.call HK.out fun O h => HK.out.try_ _ _ O 10 2 100 80 sa 50 4 h (by decide))
  rw [F2.out.1, F2.out.2] at HT
  clear HA1
  go_wp2_with fail
  refine HT.out.mono ?_
  rintro e v2 ⟨rfl, h2⟩
  have HA2 := Lib.hid h2
  clear h2 HT c0 c1 c2 c3
  obtain ⟨c0, c1, c2, c3⟩ := HC.out _ _ HA2.out
  have HT := Lib.hid (HA2.out.call HK.out fun O h => HK.out.try_ _ _ O 10 2 100 80 sa 40 5 h (by decide))
  rw [F3.out.1, F3.out.2] at HT
  clear HA2
  go_wp2_with fail
  refine HT.out.mono ?_
  rintro e v3 ⟨rfl, h3⟩
  have HA3 := Lib.hid h3
  clear h3 HT c0 c1 c2 c3
  obtain ⟨c0, c1, c2, c3⟩ := HC.out _ _ HA3.out
  have HT := Lib.hid (HA3.out.call HK.out fun O h => HK.out.try_ _ _ O 10 2 100 80 sa 1 9 h (by decide))
  rw [F4.out.1, F4.out.2] at HT
  clear HA3
  go_wp2_with fail
  refine HT.out.mono ?_
  rintro e v4 ⟨rfl, h4⟩
  have HA4 := Lib.hid h4
  clear h4 HT c0 c1 c2 c3
  obtain ⟨c0, c1, c2, c3⟩ := HC.out _ _ HA4.out
  have HT := Lib.hid (HA4.out.call HK.out fun O h => HK.out.try_ _ _ O 10 2 100 80 sa 1 10 h (by decide))
  rw [F5.out.1, F5.out.2] at HT
  clear HA4
  go_wp2_with fail
  refine HT.out.mono ?_
  rintro e v5 ⟨rfl, h5⟩
  have HA5 := Lib.hid h5
  clear h5 HT c0 c1 c2 c3
  obtain ⟨c0, c1, c2, c3⟩ := HC.out _ _ HA5.out
  have HT := Lib.hid (HA5.out.call HK.out fun O h => HK.out.try_ _ _ O 10 2 100 80 sb 81 3 h (by decide))
  rw [F6.out.1, F6.out.2] at HT
  clear HA5
  go_wp2_with fail
  refine HT.out.mono ?_
  rintro e v6 ⟨rfl, h6⟩
  have HA6 := Lib.hid h6
  clear h6 HT c0 c1 c2 c3
  obtain ⟨c0, c1, c2, c3⟩ := HC.out _ _ HA6.out
  have HRR := Lib.hid (HR.out v6)
  rw [F7.out] at HRR
  go_wp2_with fail
  refine HRR.out.mono ?_
  rintro e v7 ⟨rfl, hb7⟩
  have HA7 := Lib.hid (HA6.out.below HK.out hb7)
  clear hb7 HRR HA6 c0 c1 c2 c3
  obtain ⟨c0, c1, c2, c3⟩ := HC.out _ _ HA7.out
  have HT := Lib.hid (HA7.out.call HK.out fun O h => HK.out.undo _ _ O 10 2 100 80 sa 1 10 h (by decide))
  rw [F8.out.1, F8.out.2] at HT
  clear HA7
  go_wp2_with fail
  refine HT.out.mono ?_
  rintro e v8 ⟨rfl, h8⟩
  have HA8 := Lib.hid h8
  clear h8 HT c0 c1 c2 c3
  have HL := Lib.hid (HA8.out.list HK.out)
  go_wp2_with fail
  refine HL.out.mono ?_
  rintro e v9 ⟨v, rfl, ho, h9⟩
  obtain ⟨A, cc, rfl, _⟩ := ho.cap_le
  have HB9 := Lib.hid (h9.bel HK.out)
  clear ho h9 HL HA8
  go_wp2_with fail
  go_ret
  exact ⟨rfl, HB9.out⟩
end Go.Proofs.Ytbcanfhjdllaoaa
