/- Calls of a digest that goes on, for the laws (layer 5). -/
import Derived.Test.YtogcfaijphpgfaaDoorLawK
namespace Go.Proofs.YtogcfaijphpgfaaDoor
open Go.RowKit
/-- bytes that lie outside block K -/
def Off (A : Option Addr) (n K : Nat) : Prop := 0 < n → ∀ B o, A = some ⟨B, o, none⟩ → B ≠ K
theorem SlB.off {w : World} {A : Option Addr} {n K : Nat} {f : Nat → Nat} (h : SlB w A n f) (hK : w.heap.size ≤ K) : Off A n K := fun hn B o e => by
  obtain ⟨B', o', e', hB, _⟩ := h hn
  rw [e] at e'
  injection e' with e'
  injection e' with e1 _ _
  omega
/-- what a write leaves -/
def Wrote (W : World) (g n : Nat) (F : Nat → Nat) (e : Ending) (w' : World) : Prop := e = .returned (.tuple #[]) ∧ HM w' g n F ∧ Chg g W w'
theorem write1_any (W : World) (g n0 : Nat) (A : Option Addr) (n c : Nat) (f F : Nat → Nat) (hN : n0 + n ≤ 1000000000000000) (hc : n ≤ c) (hA : SlB W A n f) (hF : ∀ j, j < n → F (n0 + j) = f j) (hm : HM W g n0 F) (hY : By (n0 + n) F) (ht : GT W)
    (hg : 1 ≠ g ∧ 0 ≠ g) (hO : Off A n g) :
    Calls Tryd.prog 24 #[.pointer (some ⟨g, 0, none⟩), .slice (some ⟨W.heap.size, 0, none⟩) 1 1] (W.alloc (.cells #[.slice A n c] 22)) (Wrote W g (n0 + n) F) :=
  (write_any g n0 W.heap.size 1 1 (fun _ => A) (fun _ => n) (fun _ => c) (fun _ => f) F _ (by decide) hN (parts1 A n c f hA) (fun _ _ => hc) (fun i hi j hj => by
    obtain rfl : i = 0 := by omega
    exact hF j hj) (hm.alloc _) hY (ht.alloc _) hg (Nat.ne_of_gt hm.lt) (fun _ _ => hO)).mono fun _ _ h => ⟨h.1, h.2.1, (Chg.of_below ((Below.refl _ _).alloc (Nat.le_refl _) _)).trans h.2.2⟩
theorem write2_parts (W : World) (g n0 gp cap : Nat) (A0 A1 : Option Addr) (k0 k1 c0 c1 : Nat) (f0 f1 F : Nat → Nat) (hN : n0 + k0 + k1 ≤ 1000000000000000) (hc0 : k0 ≤ c0) (hc1 : k1 ≤ c1) (hp : Parts W gp 2 (t2 A0 A1) (t2 k0 k1) (t2 c0 c1) (t2 f0 f1)) (hF0 : ∀ j, j < k0 → F (n0 + j) = f0 j) (hF1 : ∀ j, j < k1 → F (n0 + k0 + j) = f1 j) (hm : HM W g n0 F) (hY : By (n0 + k0 + k1) F) (ht : GT W)
    (hg : 1 ≠ g ∧ 0 ≠ g) (hgp : gp ≠ g) (hO0 : Off A0 k0 g) (hO1 : Off A1 k1 g) :
    Calls Tryd.prog 24 #[.pointer (some ⟨g, 0, none⟩), .slice (some ⟨gp, 0, none⟩) 2 cap] W (Wrote W g (n0 + k0 + k1) F) := by
  refine (write_any g n0 gp 2 cap (t2 A0 A1) (t2 k0 k1) (t2 c0 c1) (t2 f0 f1) F W (by decide) hN hp (fun i hi => ?_) (fun i hi j hj => ?_) hm hY ht hg hgp (fun i hi => ?_)).mono fun _ _ h => ⟨h.1, h.2.1, h.2.2⟩
  · rcases two_of hi with rfl | rfl
    · exact hc0
    · exact hc1
  · rcases two_of hi with rfl | rfl
    · exact hF0 j hj
    · exact hF1 j hj
  · rcases two_of hi with rfl | rfl
    · exact hO0
    · exact hO1
theorem sum3_parts (W : World) (gp cap : Nat) (A0 A1 A2 : Option Addr) (n0 n1 n2 c0 c1 c2 : Nat) (f0 f1 f2 F : Nat → Nat) (hn : n0 + n1 + n2 ≤ 100000000000000) (hc0 : n0 ≤ c0) (hc1 : n1 ≤ c1) (hc2 : n2 ≤ c2) (hp : Parts W gp 3 (q3 A0 A1 A2) (q3 n0 n1 n2) (q3 c0 c1 c2) (q3 f0 f1 f2)) (hY : By (n0 + n1 + n2) F)
    (hF0 : ∀ j, j < n0 → F j = f0 j) (hF1 : ∀ j, j < n1 → F (n0 + j) = f1 j) (hF2 : ∀ j, j < n2 → F (n0 + n1 + j) = f2 j) (ht : GT W) :
    Calls Tryd.prog 20 #[.slice (some ⟨gp, 0, none⟩) 3 cap] W (Dig W (n0 + n1 + n2) F) := by
  refine (sum_any gp 3 cap _ _ _ _ F _ (by decide) (by decide) (by show 0 + n0 + n1 + n2 ≤ _; omega) hp (fun i hi => ?_) (fun i hi j hj => ?_) (fun j hj => ?_) ht).mono fun e w' h => (Dig.of h (Below.refl _ _)).as (by show 0 + n0 + n1 + n2 = _; omega) fun _ _ => rfl
  · rcases three_of hi with rfl | rfl | rfl
    · exact hc0
    · exact hc1
    · exact hc2
  · rcases three_of hi with rfl | rfl | rfl
    · show F (0 + j) = f0 j
      rw [Nat.zero_add]; exact hF0 j hj
    · show F (0 + n0 + j) = f1 j
      rw [Nat.zero_add]; exact hF1 j hj
    · show F (0 + n0 + n1 + j) = f2 j
      rw [Nat.zero_add]; exact hF2 j hj
  · have hj : j < 0 + n0 + n1 + n2 := hj
    exact hY j (by omega)
theorem run_parts3 (w : World) (A0 : Option Addr) (n0 c0 : Nat) (A1 : Option Addr) (n1 c1 : Nat) (A2 : Option Addr) (n2 c2 : Nat) : (Instr.buildSlice 30 3 #[(0, .slice A0 n0 c0), (1, .slice A1 n1 c1), (2, .slice A2 n2 c2)]).run Tryd.prog w = .ok (.slice (some ⟨w.heap.size, 0, none⟩) 3 3) (w.alloc (.cells #[.slice A0 n0 c0, .slice A1 n1 c1, .slice A2 n2 c2] 22)) := by go_simp
end Go.Proofs.YtogcfaijphpgfaaDoor
