/- The laws' calls of Sum (layer 5). -/
import Derived.Test.YtogcfaijphpgfaaDoorRef05E
namespace Go.Proofs.YtogcfaijphpgfaaDoor
open Go.RowKit
theorem parts1 {W : World} (A : Option Addr) (n c : Nat) (f : Nat → Nat) (hA : SlB W A n f) : Parts (W.alloc (.cells #[.slice A n c] 22)) W.heap.size 1 (fun _ => A) (fun _ => n) (fun _ => c) (fun _ => f) :=
  ⟨fun j hj => by
    obtain rfl : j = 0 := by omega
    exact (World.cell?_alloc_at _ _ _ _ rfl).trans rfl, fun _ _ => hA.keep ((Below.refl _ _).alloc (Nat.le_refl _) _)⟩
theorem parts2 {W : World} (A0 A1 : Option Addr) (n0 n1 c0 c1 : Nat) (f0 f1 : Nat → Nat) (h0 : SlB W A0 n0 f0) (h1 : SlB W A1 n1 f1) :
    Parts (W.alloc (.cells #[.slice A0 n0 c0, .slice A1 n1 c1] 22)) W.heap.size 2 (t2 A0 A1) (t2 n0 n1) (t2 c0 c1) (t2 f0 f1) :=
  ⟨fun j hj => by rcases two_of hj with rfl | rfl <;> exact (World.cell?_alloc_at _ _ _ _ rfl).trans rfl, fun j hj => by
    rcases two_of hj with rfl | rfl
    · exact h0.keep ((Below.refl _ _).alloc (Nat.le_refl _) _)
    · exact h1.keep ((Below.refl _ _).alloc (Nat.le_refl _) _)⟩
theorem SlB.none0 (w : World) (f : Nat → Nat) : SlB w none 0 f := fun h => absurd h (Nat.lt_irrefl 0)
/-- one of three -/
def q3 {α : Type} (x y z : α) (j : Nat) : α := if j = 0 then x else if j = 1 then y else z
theorem three_of {j : Nat} (h : j < 3) : j = 0 ∨ j = 1 ∨ j = 2 := by omega
theorem parts3 {W : World} (A0 A1 A2 : Option Addr) (n0 n1 n2 c0 c1 c2 : Nat) (f0 f1 f2 : Nat → Nat) (h0 : SlB W A0 n0 f0) (h1 : SlB W A1 n1 f1) (h2 : SlB W A2 n2 f2) :
    Parts (W.alloc (.cells #[.slice A0 n0 c0, .slice A1 n1 c1, .slice A2 n2 c2] 22)) W.heap.size 3 (q3 A0 A1 A2) (q3 n0 n1 n2) (q3 c0 c1 c2) (q3 f0 f1 f2) :=
  ⟨fun j hj => by rcases three_of hj with rfl | rfl | rfl <;> exact (World.cell?_alloc_at _ _ _ _ rfl).trans rfl, fun j hj => by
    rcases three_of hj with rfl | rfl | rfl
    · exact h0.keep ((Below.refl _ _).alloc (Nat.le_refl _) _)
    · exact h1.keep ((Below.refl _ _).alloc (Nat.le_refl _) _)
    · exact h2.keep ((Below.refl _ _).alloc (Nat.le_refl _) _)⟩
/-- what a digest's call leaves -/
def Dig (W : World) (n : Nat) (F : Nat → Nat) (e : Ending) (w' : World) : Prop :=
  ∃ d, e = .returned (.slice (some ⟨d, 0, none⟩) 32 32) ∧ W.heap.size ≤ d ∧ Arr w' d 0 32 (sha n F) ∧ Below W.heap.size W w'
theorem Dig.of {W0 W : World} {n : Nat} {F : Nat → Nat} {e : Ending} {w' : World} (h : ∃ d, e = .returned (.slice (some ⟨d, 0, none⟩) 32 32) ∧ W.heap.size ≤ d ∧ Arr w' d 0 32 (sha n F) ∧ Below W.heap.size W w') (hb : Below W0.heap.size W0 W) : Dig W0 n F e w' := by
  obtain ⟨d, he, hd, ha, hb'⟩ := h
  exact ⟨d, he, Nat.le_trans hb.size hd, ha, hb.trans (hb'.mono hb.size)⟩
theorem Dig.as {W : World} {n m : Nat} {F F' : Nat → Nat} {e : Ending} {w' : World} (h : Dig W n F e w') (hn : n = m) (hF : ∀ j, j < n → F j = F' j) : Dig W m F' e w' := by
  subst hn
  obtain ⟨d, he, hd, ha, hb'⟩ := h
  exact ⟨d, he, hd, ha.congr fun j _ => sha_congr hF j, hb'⟩
theorem sum1_any (W : World) (A : Option Addr) (n c : Nat) (f : Nat → Nat) (hn : n ≤ 100000000000000) (hc : n ≤ c) (hA : SlB W A n f) (ht : GT W) :
    Calls Tryd.prog 20 #[.slice (some ⟨W.heap.size, 0, none⟩) 1 1] (W.alloc (.cells #[.slice A n c] 22)) (Dig W n f) := by
  refine (sum_any W.heap.size 1 1 _ _ _ _ f _ (by decide) (by decide) (by show 0 + n ≤ _; omega) (parts1 A n c f hA) (fun _ _ => hc) (fun i hi j hj => ?_) (fun j hj => hA.byte (by have : j < 0 + n := hj; omega)) (ht.alloc _)).mono fun e w' h => (Dig.of h ((Below.refl _ _).alloc (Nat.le_refl _) _)).as (Nat.zero_add n) fun _ _ => rfl
  obtain rfl : i = 0 := by omega
  show f (0 + j) = f j
  rw [Nat.zero_add]
theorem sum2_any (W : World) (A0 A1 : Option Addr) (n0 n1 c0 c1 : Nat) (f0 f1 F : Nat → Nat) (hn : n0 + n1 ≤ 100000000000000) (hc0 : n0 ≤ c0) (hc1 : n1 ≤ c1) (h0 : SlB W A0 n0 f0) (h1 : SlB W A1 n1 f1) (hF0 : ∀ j, j < n0 → F j = f0 j) (hF1 : ∀ j, j < n1 → F (n0 + j) = f1 j) (ht : GT W) :
    Calls Tryd.prog 20 #[.slice (some ⟨W.heap.size, 0, none⟩) 2 2] (W.alloc (.cells #[.slice A0 n0 c0, .slice A1 n1 c1] 22)) (Dig W (n0 + n1) F) := by
  refine (sum_any W.heap.size 2 2 _ _ _ _ F _ (by decide) (by decide) (by show 0 + n0 + n1 ≤ _; omega) (parts2 A0 A1 n0 n1 c0 c1 f0 f1 h0 h1) (fun i hi => ?_) (fun i hi j hj => ?_) (fun j hj => ?_) (ht.alloc _)).mono fun e w' h => (Dig.of h ((Below.refl _ _).alloc (Nat.le_refl _) _)).as (by show 0 + n0 + n1 = _; omega) fun _ _ => rfl
  · rcases two_of hi with rfl | rfl
    · exact hc0
    · exact hc1
  · rcases two_of hi with rfl | rfl
    · show F (0 + j) = f0 j
      rw [Nat.zero_add]; exact hF0 j hj
    · show F (0 + n0 + j) = f1 j
      rw [Nat.zero_add]; exact hF1 j hj
  · have hj : j < 0 + n0 + n1 := hj
    by_cases e : j < n0
    · rw [hF0 j e]; exact h0.byte e
    · have := hF1 (j - n0) (by omega)
      rw [show n0 + (j - n0) = j by omega] at this
      rw [this]; exact h1.byte (by omega)
theorem sum3_any (W : World) (A0 A1 A2 : Option Addr) (n0 n1 n2 c0 c1 c2 : Nat) (f0 f1 f2 F : Nat → Nat) (hn : n0 + n1 + n2 ≤ 100000000000000) (hc0 : n0 ≤ c0) (hc1 : n1 ≤ c1) (hc2 : n2 ≤ c2) (h0 : SlB W A0 n0 f0) (h1 : SlB W A1 n1 f1) (h2 : SlB W A2 n2 f2) (hY : By (n0 + n1 + n2) F)
    (hF0 : ∀ j, j < n0 → F j = f0 j) (hF1 : ∀ j, j < n1 → F (n0 + j) = f1 j) (hF2 : ∀ j, j < n2 → F (n0 + n1 + j) = f2 j) (ht : GT W) :
    Calls Tryd.prog 20 #[.slice (some ⟨W.heap.size, 0, none⟩) 3 3] (W.alloc (.cells #[.slice A0 n0 c0, .slice A1 n1 c1, .slice A2 n2 c2] 22)) (Dig W (n0 + n1 + n2) F) := by
  refine (sum_any W.heap.size 3 3 _ _ _ _ F _ (by decide) (by decide) (by show 0 + n0 + n1 + n2 ≤ _; omega) (parts3 A0 A1 A2 n0 n1 n2 c0 c1 c2 f0 f1 f2 h0 h1 h2) (fun i hi => ?_) (fun i hi j hj => ?_) (fun j hj => ?_) (ht.alloc _)).mono fun e w' h => (Dig.of h ((Below.refl _ _).alloc (Nat.le_refl _) _)).as (by show 0 + n0 + n1 + n2 = _; omega) fun _ _ => rfl
  · rcases three_of hi with rfl | rfl | rfl
    · exact hc0
    · exact hc1
    · exact hc2
  · rcases three_of hi with rfl | rfl | rfl
    · show F (0 + j) = f0 j
      rw [Nat.zero_add]; exact hF0 j hj
    · show F (0 + n0 + j) = f1 j
      rw [Nat.zero_add]; exact hF1 j hj
    · show F (0 + n0 + n1 + j) = f2 j
      rw [Nat.zero_add]; exact hF2 j hj
  · have hj : j < 0 + n0 + n1 + n2 := hj
    exact hY j (by omega)
end Go.Proofs.YtogcfaijphpgfaaDoor
