/- Layer 15: a table of routes as laws use it. -/
import Derived.Test.YtcohkhjfncknpaaRef15Q
namespace Go.Proofs.Ytcohkhjfncknpaa
set_option maxRecDepth 100000
open Go.RowKit
/-- what the code needs of the world's tables (nothing, as long as its text needs nothing) -/
def Ev (_ : World) : Prop := True
/-- what a call leaves of a table: TA w L O: it stands in w with the list L, its blocks O -/
def TStep (TA : World → List Rt → (Nat → Prop) → Prop) (w : World) (O : Nat → Prop) (w' : World) (L' : List Rt) : Prop := ∃ O', TA w' L' O' ∧ ChgS O w w' ∧ ∀ k, O' k → O k ∨ w.heap.size ≤ k
/-- what List leaves: a row of new memory that is no block of the table -/
def TList (TA : World → List Rt → (Nat → Prop) → Prop) (w : World) (O : Nat → Prop) (L : List Rt) (e : Ending) (w' : World) : Prop :=
  ∃ v O', e = .returned v ∧ OwL rtE 41 w' w.heap.size v L ∧ (∀ g, v.ownBlock = some g → ¬ O' g) ∧ TA w' L O' ∧ ChgS O w w' ∧ ∀ k, O' k → O k ∨ w.heap.size ≤ k
structure TKit (u : World) (G : Nat) (TA : World → List Rt → (Nat → Prop) → Prop) : Prop where
  bel : ∀ w L O, TA w L O → Below u.heap.size u w
  own : ∀ w L O, TA w L O → ∀ k, O k → u.heap.size ≤ k ∧ k < w.heap.size
  ok : ∀ w L O, TA w L O → RtOk L
  keep : ∀ (w w' : World) (L : List Rt) (O T : Nat → Prop), TA w L O → ChgS T w w' → (∀ k, T k → u.heap.size ≤ k ∧ ¬ O k) → TA w' L O
  put : ∀ (w : World) (L : List Rt) (O : Nat → Prop) (p : ByteArray) (t : Int), TA w L O → p.size ≤ maxLen → Calls Try.prog 11 #[.pointer (some ⟨G, 0, none⟩), .string p, .int .i64 t] w fun e w' => e = .returned (.int .i64 (puE L p t)) ∧ TStep TA w O w' (puN L p t)
  drop : ∀ (w : World) (L : List Rt) (O : Nat → Prop) (p : ByteArray), TA w L O → p.size ≤ maxLen → Calls Try.prog 13 #[.pointer (some ⟨G, 0, none⟩), .string p] w fun e w' => e = .returned (.int .i64 (drE L p)) ∧ TStep TA w O w' (dropR L p)
  find : ∀ (w : World) (L : List Rt) (O : Nat → Prop) (s : ByteArray), TA w L O → s.size ≤ maxLen → Calls Try.prog 15 #[.pointer (some ⟨G, 0, none⟩), .string s] w fun e w' => e = .returned (.tuple #[.int .i64 (fdV L s), .bool (fdI L s)]) ∧ TStep TA w O w' L
  list : ∀ (w : World) (L : List Rt) (O : Nat → Prop), TA w L O → Calls Try.prog 19 #[.pointer (some ⟨G, 0, none⟩)] w (TList TA w O L)
theorem TKit.below {u w w' : World} {G : Nat} {TA : World → List Rt → (Nat → Prop) → Prop} {L : List Rt} {O : Nat → Prop} (h : TKit u G TA) (ht : TA w L O) (hb : Below w.heap.size w w') : TA w' L O :=
  h.keep w w' L O (fun _ => False) ht (ChgS.of_below hb) (fun _ hk => absurd hk id)
/-- what New does -/
def NewT : Prop := ∀ (u w : World), Ev u → Below u.heap.size u w → Calls Try.prog 9 #[] w fun e w' => ∃ G TA O, e = .returned (.pointer (some ⟨G, 0, none⟩)) ∧ TKit u G TA ∧ TA w' [] O ∧ (∀ k, O k → w.heap.size ≤ k) ∧ Below w.heap.size w w'
/-- "4", "4111", "41111", "42", "5" -/
abbrev r4 : ByteArray := { data := #[52] }
abbrev r4111 : ByteArray := { data := #[52, 49, 49, 49] }
abbrev r41111 : ByteArray := { data := #[52, 49, 49, 49, 49] }
abbrev r42 : ByteArray := { data := #[52, 50] }
abbrev r5 : ByteArray := { data := #[53] }
theorem small15_facts : puE [] r4 1 = 0 ∧ puN [] r4 1 = [⟨r4, 1⟩] ∧ puE [⟨r4, 1⟩] r4111 2 = 0 ∧ puN [⟨r4, 1⟩] r4111 2 = [⟨r4, 1⟩, ⟨r4111, 2⟩] ∧ fdV [⟨r4, 1⟩, ⟨r4111, 2⟩] r41111 = 2 ∧ fdI [⟨r4, 1⟩, ⟨r4111, 2⟩] r41111 = true ∧
    fdV [⟨r4, 1⟩, ⟨r4111, 2⟩] r42 = 1 ∧ fdI [⟨r4, 1⟩, ⟨r4111, 2⟩] r42 = true ∧ fdI [⟨r4, 1⟩, ⟨r4111, 2⟩] r5 = false := by decide +kernel
set_option maxHeartbeats 1600000 in
theorem small15_any (hN : NewT) (w : World) (hv : Ev w) : Calls Try.prog 8 #[] w fun e w' => e = .returned (.bool true) ∧ Below w.heap.size w w' := by
  obtain ⟨q1, q2, q3, q4, q5, q6, q7, q8, q9⟩ := small15_facts
  have HQ := Lib.hid (And.intro q1 (And.intro q2 (And.intro q3 (And.intro q4 (And.intro q5 (And.intro q6 (And.intro q7 (And.intro q8 q9))))))))
  have HN := Lib.hid (hN w w hv (Below.refl _ _))
  clear q1 q2 q3 q4 q5 q6 q7 q8 q9 hN hv
  go_enter Try.func8, Try.ntmps8
  go_wp2_with fail
  refine HN.out.mono ?_
  rintro e w1 ⟨G, TA, O, rfl, hkit, ha, _, _⟩
  have HK := Lib.hid hkit
  have HA1 := Lib.hid ha
  clear hkit ha HN
  go_wp2_with fail
  refine (HK.out.put w1 [] O r4 1 HA1.out (by decide)).mono ?_
  rintro e w2 ⟨rfl, O2, h2, _⟩
  rw [HQ.out.2.1] at h2
  rw [HQ.out.1]
  have HA2 := Lib.hid h2
  clear h2
  go_wp2_with fail
  refine (HK.out.put w2 _ O2 r4111 2 HA2.out (by decide)).mono ?_
  rintro e w3 ⟨rfl, O3, h3, _⟩
  rw [HQ.out.2.2.2.1] at h3
  rw [HQ.out.2.2.1]
  have HA3 := Lib.hid h3
  clear h3
  go_wp2_with fail
  refine (HK.out.find w3 _ O3 r41111 HA3.out (by decide)).mono ?_
  rintro e w4 ⟨rfl, O4, h4, _⟩
  rw [HQ.out.2.2.2.2.1, HQ.out.2.2.2.2.2.1]
  have HA4 := Lib.hid h4
  clear h4
  go_wp2_with fail
  refine (HK.out.find w4 _ O4 r42 HA4.out (by decide)).mono ?_
  rintro e w5 ⟨rfl, O5, h5, _⟩
  rw [HQ.out.2.2.2.2.2.2.1, HQ.out.2.2.2.2.2.2.2.1]
  have HA5 := Lib.hid h5
  clear h5
  go_wp2_with fail
  refine (HK.out.find w5 _ O5 r5 HA5.out (by decide)).mono ?_
  rintro e w6 ⟨rfl, O6, h6, _⟩
  rw [HQ.out.2.2.2.2.2.2.2.2]
  have HA6 := Lib.hid h6
  clear h6
  generalize fdV [⟨r4, 1⟩, ⟨r4111, 2⟩] r5 = f5 at *
  go_wp2_with fail
  refine (HK.out.list w6 _ O6 HA6.out).mono ?_
  rintro e w7 ⟨v, O7, rfl, ho, _, h7, _⟩
  obtain ⟨A, c, rfl, _⟩ := ho.cap_le
  have HB := Lib.hid (HK.out.bel _ _ _ h7)
  clear ho h7
  go_wp2_with fail
  go_ret
  exact ⟨rfl, HB.out⟩
end Go.Proofs.Ytcohkhjfncknpaa
