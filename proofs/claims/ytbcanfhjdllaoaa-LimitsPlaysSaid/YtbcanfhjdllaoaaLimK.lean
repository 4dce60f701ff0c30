/- Layer 16: a book of uses as laws use it. -/
import Derived.Test.YtbcanfhjdllaoaaLimE
namespace Go.Proofs.Ytbcanfhjdllaoaa
set_option maxRecDepth 100000
open Go.RowKit
/-- a rule's value -/
abbrev ruW (k t s o : Int) : Value := .agg #[.int .i64 k, .int .i64 t, .int .i64 s, .int .i64 o]
/-- what the code needs of the world's tables (nothing, as long as its text needs nothing) -/
def Ev (_ : World) : Prop := True
/-- what a call leaves of a book: TA w L O: it stands in w with the uses L, its blocks O -/
def BStep (TA : World → List Us → (Nat → Prop) → Prop) (w : World) (O : Nat → Prop) (w' : World) (L' : List Us) : Prop := ∃ O', TA w' L' O' ∧ ChgS O w w' ∧ ∀ k, O' k → O k ∨ w.heap.size ≤ k
/-- what List leaves: a row of new memory that is no block of the book -/
def BList (TA : World → List Us → (Nat → Prop) → Prop) (w : World) (O : Nat → Prop) (L : List Us) (e : Ending) (w' : World) : Prop :=
  ∃ v O', e = .returned v ∧ OwL usE 31 w' w.heap.size v L ∧ (∀ g, v.ownBlock = some g → ¬ O' g) ∧ TA w' L O' ∧ ChgS O w w' ∧ ∀ k, O' k → O k ∨ w.heap.size ≤ k
structure BKit (u : World) (G : Nat) (TA : World → List Us → (Nat → Prop) → Prop) : Prop where
  bel : ∀ w L O, TA w L O → Below u.heap.size u w
  own : ∀ w L O, TA w L O → ∀ k, O k → u.heap.size ≤ k ∧ k < w.heap.size
  ok : ∀ w L O, TA w L O → BkOk L
  keep : ∀ (w w' : World) (L : List Us) (O T : Nat → Prop), TA w L O → ChgS T w w' → (∀ k, T k → u.heap.size ≤ k ∧ ¬ O k) → TA w' L O
  try_ : ∀ (w : World) (L : List Us) (O : Nat → Prop) (k t s o : Int) (c : ByteArray) (a n : Int), TA w L O → c.size ≤ maxLen → Calls Try.prog 20 #[.pointer (some ⟨G, 0, none⟩), ruW k t s o, .string c, .int .i64 a, .int .i64 n] w fun e w' => e = .returned (.int .i64 (trE L ⟨k, t, s, o⟩ c a n)) ∧ BStep TA w O w' (trN L ⟨k, t, s, o⟩ c a n)
  undo : ∀ (w : World) (L : List Us) (O : Nat → Prop) (k t s o : Int) (c : ByteArray) (a n : Int), TA w L O → c.size ≤ maxLen → Calls Try.prog 21 #[.pointer (some ⟨G, 0, none⟩), ruW k t s o, .string c, .int .i64 a, .int .i64 n] w fun e w' => e = .returned (.int .i64 (unE L ⟨k, t, s, o⟩ c a n)) ∧ BStep TA w O w' (unN L ⟨k, t, s, o⟩ c a n)
  list : ∀ (w : World) (L : List Us) (O : Nat → Prop), TA w L O → Calls Try.prog 17 #[.pointer (some ⟨G, 0, none⟩)] w (BList TA w O L)
theorem BKit.below {u w w' : World} {G : Nat} {TA : World → List Us → (Nat → Prop) → Prop} {L : List Us} {O : Nat → Prop} (h : BKit u G TA) (ht : TA w L O) (hb : Below w.heap.size w w') : TA w' L O :=
  h.keep w w' L O (fun _ => False) ht (ChgS.of_below hb) (fun _ hk => absurd hk id)
/-- what New and Right do -/
structure LimOk : Prop where
  new : ∀ (u w : World), Ev u → Below u.heap.size u w → Calls Try.prog 12 #[] w fun e w' => ∃ G TA O, e = .returned (.pointer (some ⟨G, 0, none⟩)) ∧ BKit u G TA ∧ TA w' [] O ∧ (∀ k, O k → w.heap.size ≤ k) ∧ Below w.heap.size w w'
  right : ∀ (w : World) (k t s o : Int), Ev w → Calls Try.prog 18 #[ruW k t s o] w fun e w' => e = .returned (.bool (rlK ⟨k, t, s, o⟩)) ∧ Below w.heap.size w w'
/-- what Restore does -/
structure ResOk : Prop where
  good : ∀ (u w : World) (A : Option Addr) (c : Nat) (F : List Us), Ev u → Below u.heap.size u w → LiS usE w A F → BkOk F → Calls Try.prog 9 #[.slice A F.length c] w fun e w' => ∃ G TA O, e = .returned (.tuple #[.pointer (some ⟨G, 0, none⟩), .int .i64 0]) ∧ BKit u G TA ∧ TA w' F O ∧ (∀ k, O k → w.heap.size ≤ k) ∧ Below w.heap.size w w'
  bad : ∀ (w : World) (A : Option Addr) (c : Nat) (F : List Us), Ev w → LiS usE w A F → F.length ≤ 140737488355328 → (∀ v ∈ F, v.c.size ≤ maxLen) → ¬ BkOk F → Calls Try.prog 9 #[.slice A F.length c] w fun e w' => e = .returned (.tuple #[.pointer none, .int .i64 1]) ∧ Below w.heap.size w w'
abbrev sa : ByteArray := { data := #[97] }
abbrev sb : ByteArray := { data := #[98] }
/-- the small case's rule -/
abbrev r16 : Rl := ⟨10, 2, 100, 80⟩
def s16 : List Us := [⟨sa, 0, 1, 60⟩]
def s16b : List Us := [⟨sa, 0, 2, 100⟩]
def s16c : List Us := [⟨sa, 1, 1, 1⟩]
def s16d : List Us := [⟨sa, 1, 0, 0⟩]
theorem small16_facts : (trE [] r16 sa 60 3 = 0 ∧ trN [] r16 sa 60 3 = s16) ∧ (trE s16 r16 sa 50 4 = 17 ∧ trN s16 r16 sa 50 4 = s16) ∧ (trE s16 r16 sa 40 5 = 0 ∧ trN s16 r16 sa 40 5 = s16b) ∧ (trE s16b r16 sa 1 9 = 18 ∧ trN s16b r16 sa 1 9 = s16b) ∧
    (trE s16b r16 sa 1 10 = 0 ∧ trN s16b r16 sa 1 10 = s16c) ∧ (trE s16c r16 sb 81 3 = 17 ∧ trN s16c r16 sb 81 3 = s16c) ∧ rlK r16 = true ∧ (unE s16c r16 sa 1 10 = 0 ∧ unN s16c r16 sa 1 10 = s16d) := by decide +kernel
end Go.Proofs.Ytbcanfhjdllaoaa
