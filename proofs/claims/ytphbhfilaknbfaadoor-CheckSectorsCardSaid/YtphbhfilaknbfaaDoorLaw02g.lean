/- CheckSectors: the walk. -/
import Derived.Test.YtphbhfilaknbfaaDoorLaw02a
import Derived.Test.YtphbhfilaknbfaaDoorRef02B
import Derived.Test.YtphbhfilaknbfaaDoorLent
import Derived.Test.YtphbhfilaknbfaaDoorOwned
namespace Go.Proofs.YtphbhfilaknbfaaDoor
open Go.RowKit

def layE (n : Nat) (s : Int) : Int := if s < 5 ∨ 4096 < s then 1 else if s - 4 < n then 2 else 0
def layN (n : Nat) (s : Int) : Nat := if layE n s = 0 then s.toNat else 0
def layF (n : Nat) (s : Int) (f : Nat → Nat) : Nat → Nat := secB (s.toNat - 4) (layd n f)
def tkE (n : Nat) (f : Nat → Nat) : Int := if n < 5 ∨ 4096 < n then 4 else if told (n - 4) f then 0 else 6
def tkN (n : Nat) (f : Nat → Nat) : Nat := if tkE n f = 0 then n - 4 else 0
theorem layN_le (n : Nat) (s : Int) : layN n s ≤ 4096 := by
  unfold layN layE
  by_cases h : s < 5 ∨ 4096 < s
  · rw [if_pos h, if_neg (by decide)]; omega
  · rw [if_neg h]; split <;> simp <;> omega
theorem tkN_le (n : Nat) (f : Nat → Nat) : tkN n f ≤ 4096 := by
  unfold tkN tkE
  by_cases h : n < 5 ∨ 4096 < n
  · rw [if_pos h, if_neg (by decide)]; omega
  · rw [if_neg h]; split <;> simp; omega
/-- a result that is the call's own row, or none -/
def OwnR (w w' : World) (A : Option Addr) (n g : Nat) (f : Nat → Nat) : Prop := (0 < n → A = some ⟨g, 0, none⟩ ∧ w.heap.size ≤ g ∧ RowB w' g n f) ∧ (n = 0 → A = none)
theorem lay_all (A : Option Addr) (n c : Nat) (f : Nat → Nat) (s : Int) (w : World) (hA : SlB w A n f) (ht : Tab w) :
    Calls Tryd.prog 14 #[.slice A n c, .int .i64 s] w fun e w' => ∃ Ax g, e = .returned (.tuple #[.slice Ax (layN n s) (layN n s), .int .i64 (layE n s)]) ∧ OwnR w w' Ax (layN n s) g (layF n s f) ∧ Below w.heap.size w w' := by
  rcases (show (s < 5 ∨ 4096 < s) ∨ (5 ≤ s ∧ s ≤ 4096 ∧ s - 4 < n) ∨ (5 ≤ s ∧ s ≤ 4096 ∧ (n : Int) ≤ s - 4) by omega) with h | ⟨h, h2, h3⟩ | ⟨h, h2, h3⟩
  · have hE : layE n s = 1 := by unfold layE; rw [if_pos h]
    have hN : layN n s = 0 := by unfold layN; rw [hE]; rfl
    rw [hE, hN]
    exact (lay_arg A n c s w h).mono fun e w' ⟨he, hw⟩ => ⟨none, 0, he, ⟨fun h => absurd h (Nat.lt_irrefl 0), fun _ => rfl⟩, hw ▸ Below.refl _ _⟩
  · have hE : layE n s = 2 := by unfold layE; rw [if_neg (by omega), if_pos h3]
    have hN : layN n s = 0 := by unfold layN; rw [hE]; rfl
    rw [hE, hN]
    exact (lay_long A n c s w h h2 h3).mono fun e w' ⟨he, hw⟩ => ⟨none, 0, he, ⟨fun h => absurd h (Nat.lt_irrefl 0), fun _ => rfl⟩, hw ▸ Below.refl _ _⟩
  · obtain ⟨t, rfl⟩ := Int.eq_ofNat_of_zero_le (show 0 ≤ s by omega)
    have hE : layE n t = 0 := by unfold layE; rw [if_neg (by omega), if_neg (by omega)]
    have hN : layN n t = t := by unfold layN; rw [hE]; rfl
    rw [hE, hN]
    exact (lay_ok A n c f t (t - 4) w (by omega) (by omega) (by omega) (by omega) hA ht).mono fun e w' ⟨g, he, hg, hr, hb⟩ => ⟨_, g, he, ⟨fun _ => ⟨rfl, hg, hr⟩, fun h => by omega⟩, hb⟩
theorem rlay_all (A : Option Addr) (n c : Nat) (f : Nat → Nat) (s : Int) (w : World) (hA : SlB w A n f) (hnil : A = none → n = 0 ∧ c = 0) :
    Calls Tryd.prog 16 #[.slice A n c, .int .i64 s] w fun e w' => ∃ Ax cx, e = .returned (.tuple #[.slice Ax (layN n s) cx, .int .i64 (layE n s)]) ∧ SlB w' Ax (layN n s) (layF n s f) ∧ Below w.heap.size w w' := by
  rcases (show (s < 5 ∨ 4096 < s) ∨ (5 ≤ s ∧ s ≤ 4096 ∧ s - 4 < n) ∨ (5 ≤ s ∧ s ≤ 4096 ∧ (n : Int) ≤ s - 4) by omega) with h | ⟨h, h2, h3⟩ | ⟨h, h2, h3⟩
  · have hE : layE n s = 1 := by unfold layE; rw [if_pos h]
    have hN : layN n s = 0 := by unfold layN; rw [hE]; rfl
    rw [hE, hN]
    exact (rlay_arg A n c s w h).mono fun e w' ⟨he, hw⟩ => ⟨none, 0, he, SlB.nil _ _, hw ▸ Below.refl _ _⟩
  · have hE : layE n s = 2 := by unfold layE; rw [if_neg (by omega), if_pos h3]
    have hN : layN n s = 0 := by unfold layN; rw [hE]; rfl
    rw [hE, hN]
    exact (rlay_long A n c s w h h2 h3).mono fun e w' ⟨he, hw⟩ => ⟨none, 0, he, SlB.nil _ _, hw ▸ Below.refl _ _⟩
  · obtain ⟨t, rfl⟩ := Int.eq_ofNat_of_zero_le (show 0 ≤ s by omega)
    have hE : layE n t = 0 := by unfold layE; rw [if_neg (by omega), if_neg (by omega)]
    have hN : layN n t = t := by unfold layN; rw [hE]; rfl
    rw [hE, hN]
    exact (rlay_ok A n c f t (t - 4) w (by omega) (by omega) (by omega) (by omega) hA hnil).mono fun e w' ⟨B, cx, he, hs, hb⟩ => ⟨B, cx, he, hs, hb⟩
theorem take_all (A : Option Addr) (n c : Nat) (f : Nat → Nat) (w : World) (hn : n ≤ 140737488351232) (hnc : n ≤ c) (hc : c ≤ 281474976710656) (hA : SlB w A n f) (ht : Tab w) :
    Calls Tryd.prog 15 #[.slice A n c] w fun e w' => ∃ Ax g, e = .returned (.tuple #[.slice Ax (tkN n f) (tkN n f), .int .i64 (tkE n f)]) ∧ OwnR w w' Ax (tkN n f) g f ∧ Below w.heap.size w w' := by
  by_cases h : n < 5 ∨ 4096 < n
  · have hE : tkE n f = 4 := by unfold tkE; rw [if_pos h]
    have hN : tkN n f = 0 := by unfold tkN; rw [hE]; rfl
    rw [hE, hN]
    exact (take_form A n c w (by omega) h).mono fun e w' ⟨he, hw⟩ => ⟨none, 0, he, ⟨fun h => absurd h (Nat.lt_irrefl 0), fun _ => rfl⟩, hw ▸ Below.refl _ _⟩
  · cases ht2 : told (n - 4) f
    · have hE : tkE n f = 6 := by unfold tkE; rw [if_neg h, ht2]; rfl
      have hN : tkN n f = 0 := by unfold tkN; rw [hE]; rfl
      rw [hE, hN]
      exact (take_both false A n (n - 4) c f w (by omega) (by omega) (by omega) hnc hc hA ht ht2).mono fun e w' h => ⟨none, 0, h.1, ⟨fun h => absurd h (Nat.lt_irrefl 0), fun _ => rfl⟩, h.2⟩
    · have hE : tkE n f = 0 := by unfold tkE; rw [if_neg h, ht2]; rfl
      have hN : tkN n f = n - 4 := by unfold tkN; rw [hE]; rfl
      rw [hE, hN]
      exact (take_both true A n (n - 4) c f w (by omega) (by omega) (by omega) hnc hc hA ht ht2).mono fun e w' h => by
        obtain ⟨g, he, hg, hr, hb⟩ := h
        exact ⟨_, g, he, ⟨fun _ => ⟨rfl, hg, hr⟩, fun h => by omega⟩, hb⟩
theorem rtake_all (A : Option Addr) (n c : Nat) (f : Nat → Nat) (w : World) (hn : n ≤ 140737488351232) (hnc : n ≤ c) (hA : SlB w A n f) :
    Calls Tryd.prog 17 #[.slice A n c] w fun e w' => ∃ Ax cx, e = .returned (.tuple #[.slice Ax (tkN n f) cx, .int .i64 (tkE n f)]) ∧ SlB w' Ax (tkN n f) f ∧ Below w.heap.size w w' := by
  by_cases h : n < 5 ∨ 4096 < n
  · have hE : tkE n f = 4 := by unfold tkE; rw [if_pos h]
    have hN : tkN n f = 0 := by unfold tkN; rw [hE]; rfl
    rw [hE, hN]
    exact (rtake_form A n c w (by omega) h).mono fun e w' ⟨he, hw⟩ => ⟨none, 0, he, SlB.nil _ _, hw ▸ Below.refl _ _⟩
  · cases ht2 : told (n - 4) f
    · have hE : tkE n f = 6 := by unfold tkE; rw [if_neg h, ht2]; rfl
      have hN : tkN n f = 0 := by unfold tkN; rw [hE]; rfl
      rw [hE, hN]
      exact (rtake_both false A n (n - 4) c f w (by omega) (by omega) (by omega) hnc hA ht2).mono fun e w' h => ⟨none, 0, h.1, SlB.nil _ _, h.2⟩
    · have hE : tkE n f = 0 := by unfold tkE; rw [if_neg h, ht2]; rfl
      have hN : tkN n f = n - 4 := by unfold tkN; rw [hE]; rfl
      rw [hE, hN]
      exact (rtake_both true A n (n - 4) c f w (by omega) (by omega) (by omega) hnc hA ht2).mono fun e w' h => h
theorem OwnR.slB {w w' : World} {A : Option Addr} {n g : Nat} {f : Nat → Nat} (h : OwnR w w' A n g f) (hf : ∀ j, j < n → f j < 256) : SlB w' A n f := fun h0 => by
  obtain ⟨rfl, _, hr⟩ := h.1 h0
  exact hr.slB0 (Nat.le_refl n) hf h0
theorem layF_lt (n : Nat) (s : Int) (f : Nat → Nat) (hf : ∀ j, j < n → f j < 256) (j : Nat) : layF n s f j < 256 :=
  secB_lt _ _ (fun j hj => layd_lt (m := s.toNat - 4) hf j hj) j
/-- four by their place -/
def pick4 {α : Type} (a b c d : α) (j : Nat) : α := if j = 0 then a else if j = 1 then b else if j = 2 then c else d

set_option maxRecDepth 100000 in
set_option maxHeartbeats 3200000 in
theorem sectors_any (A B : Option Addr) (n c m c2 : Nat) (f g : Nat → Nat) (s : Int) (w : World) (hn : n ≤ 140737488351232) (hm : m ≤ 140737488351232) (hmc : m ≤ c2) (hA : SlB w A n f) (hB : SlB w B m g) (nA : A = none → n = 0 ∧ c = 0) (ht : Tab w) :
    Calls Tryd.prog 4 #[.slice A n c, .int .i64 s, .slice B m c2] w fun e w' => e = .returned (.bool true) ∧ Below w.heap.size w w' := by
  have HA := Lib.hid hA
  have HB := Lib.hid hB
  have HT := Lib.hid ht
  have HNA := Lib.hid nA
  have HFA := Lib.hid (fun j (hj : j < n) => hA.byte hj)
  have HFB := Lib.hid (fun j (hj : j < m) => hB.byte hj)
  clear hA hB ht nA
  go_enter Tryd.func4, Tryd.ntmps4
  go_wp2_with fail
  refine (small_any _ HT.out).mono ?_
  rintro e w1 ⟨rfl, hb1⟩
  have HB1 := Lib.hid hb1
  clear hb1
  go_wp2_with fail
  refine (lent_any A n c f _ hn (HA.out.keep HB1.out)).mono ?_
  rintro e w2 ⟨gi, rfl, hgi, hrow, hb2⟩
  have HRi2 := Lib.hid hrow
  have HGi := Lib.hid (Nat.le_trans HB1.out.size hgi)
  have HB2 := Lib.hid (HB1.out.trans (hb2.mono HB1.out.size))
  clear hrow hgi hb2
  go_wp2_with fail
  refine (lent_any B m c2 g _ hm (HB.out.keep HB2.out)).mono ?_
  rintro e w3 ⟨gl, rfl, hgl, hrow, hb3⟩
  have HRl3 := Lib.hid hrow
  have HRi3 := Lib.hid (HRi2.out.of_block (hb3.block gi HRi2.out.lt))
  have HGl := Lib.hid (Nat.le_trans HB2.out.size hgl)
  have HNil := Lib.hid (show gi < gl from Nat.lt_of_lt_of_le HRi2.out.lt hgl)
  have HB3 := Lib.hid (HB2.out.trans (hb3.mono HB2.out.size))
  clear hrow hgl hb3
  go_wp2_with fail
  refine (lay_all (some ⟨gi, 0, none⟩) n (n + 1) f s _ (SlB.of_rowX ((RowX.of_rowIs HRi3.out).less (Nat.le_succ n)) (fun j hj => ⟨HFA.out j hj, by rw [if_pos hj]⟩)) (HT.out.keep HB3.out)).mono ?_
  rintro e w4 ⟨Ax, gx, rfl, hox, hb4⟩
  have HOx := Lib.hid hox
  have HRi4 := Lib.hid (HRi3.out.of_block (hb4.block gi HRi3.out.lt))
  have HRl4 := Lib.hid (HRl3.out.of_block (hb4.block gl HRl3.out.lt))
  have HB4 := Lib.hid (HB3.out.trans (hb4.mono HB3.out.size))
  have HX4 := Lib.hid (hox.slB (fun j _ => layF_lt n s f HFA.out j))
  clear hox hb4
  have hln := layN_le n s
  have HLF := Lib.hid (fun j => layF_lt n s f HFA.out j)
  generalize hN : layN n s = N at *
  generalize hE : layE n s = E at *
  generalize hF : layF n s f = F at *
  have HNe := Lib.hid hN
  have HEe := Lib.hid hE
  have HFe := Lib.hid hF
  clear hN hE hF
  go_wp2_with fail
  refine (take_all (some ⟨gl, 0, none⟩) m (m + 1) g _ hm (Nat.le_succ m) (by omega) (SlB.of_rowX ((RowX.of_rowIs HRl4.out).less (Nat.le_succ m)) (fun j hj => ⟨HFB.out j hj, by rw [if_pos hj]⟩)) (HT.out.keep HB4.out)).mono ?_
  rintro e w5 ⟨Ay, gy, rfl, hoy, hb5⟩
  have HOy := Lib.hid hoy
  have HRi5 := Lib.hid (HRi4.out.of_block (hb5.block gi HRi4.out.lt))
  have HRl5 := Lib.hid (HRl4.out.of_block (hb5.block gl HRl4.out.lt))
  have HB5 := Lib.hid (HB4.out.trans (hb5.mono HB4.out.size))
  have HX5 := Lib.hid (HX4.out.keep hb5)
  have HRx5 := Lib.hid (show 0 < N → Ax = some ⟨gx, 0, none⟩ ∧ w3.heap.size ≤ gx ∧ RowB w5 gx N F ∧ gx < w4.heap.size from fun h => by
    obtain ⟨h1, h2, h3⟩ := HOx.out.1 h
    exact ⟨h1, h2, h3.keep hb5, h3.lt⟩)
  have htn := tkN_le m g
  have HtN := Lib.hid (show ∀ j, j < tkN m g → g j < 256 from fun j hj => HFB.out j (by
    have : tkN m g ≤ m := by unfold tkN; split <;> omega
    omega))
  have HY5 := Lib.hid (hoy.slB HtN.out)
  have HRy5 := Lib.hid (show 0 < tkN m g → Ay = some ⟨gy, 0, none⟩ ∧ w4.heap.size ≤ gy ∧ RowB w5 gy (tkN m g) g from fun h => hoy.1 h)
  clear hoy hb5
  generalize hM : tkN m g = M at *
  generalize hD : tkE m g = D at *
  have HMe := Lib.hid hM
  have HDe := Lib.hid hD
  clear hM hD
  go_wp2_with fail
  refine (rlay_all A n c f s _ (HA.out.keep HB5.out) HNA.out).mono ?_
  rintro e w6 ⟨Au, cu, rfl, hu, hb6⟩
  rw [HNe.out, HEe.out]
  rw [HNe.out, HFe.out] at hu
  have HU6 := Lib.hid hu
  have HB6 := Lib.hid (HB5.out.trans (hb6.mono HB5.out.size))
  have Hb6 := Lib.hid hb6
  clear hu hb6
  go_wp2_with fail
  refine (rtake_all B m c2 g _ hm hmc (HB.out.keep HB6.out)).mono ?_
  rintro e w7 ⟨Av, cv, rfl, hv, hb7⟩
  rw [HMe.out, HDe.out]
  rw [HMe.out] at hv
  have HV7 := Lib.hid hv
  have HU7 := Lib.hid (HU6.out.keep hb7)
  have HB7 := Lib.hid (HB6.out.trans (hb7.mono HB6.out.size))
  have Hb57 := Lib.hid (Hb6.out.trans (hb7.mono Hb6.out.size))
  have HX7 := Lib.hid (HX5.out.keep Hb57.out)
  have HY7 := Lib.hid (HY5.out.keep Hb57.out)
  have HRi7 := Lib.hid (HRi5.out.of_block (Hb57.out.block gi HRi5.out.lt))
  have HRl7 := Lib.hid (HRl5.out.of_block (Hb57.out.block gl HRl5.out.lt))
  clear hv hb7
  go_wp2_with fail
  refine (kept_any gi A n c f _ hn (HA.out.keep HB7.out) HRi7.out).mono ?_
  rintro e w8 ⟨rfl, rfl⟩
  go_wp2_with fail
  refine (kept_any gl B m c2 g _ hm (HB.out.keep HB7.out) HRl7.out).mono ?_
  rintro e w8 ⟨rfl, rfl⟩
  have hcv1 := convSl (cap := N) HX7.out (Nat.le_refl N)
  have hcv2 := convSl (cap := cu) HU7.out (Nat.le_refl N)
  have hcv3 := convSl (cap := M) HY7.out (Nat.le_refl M)
  have hcv4 := convSl (cap := cv) HV7.out (Nat.le_refl M)
  generalize strOf N F = sx at *
  generalize strOf M g = sy at *
  go_wp2_with fail
  have HRW := Lib.hid (show Rws 4 (w7.alloc (.cells #[.slice Ax N N, .slice Ay M M, .slice (some ⟨gi, 0, none⟩) n (n + 1), .slice (some ⟨gl, 0, none⟩) m (m + 1)] 22)) w7.heap.size (pick4 Ax Ay (some ⟨gi, 0, none⟩) (some ⟨gl, 0, none⟩)) (pick4 N M n m) (pick4 N M (n + 1) (m + 1)) (pick4 gx gy gi gl)
      (pick4 F g (fun t => if t < n then f t else 77) (fun t => if t < m then g t else 77)) 0 0 from by
    refine ⟨fun j hj => ?_, fun j hj hc => ?_⟩
    · rcases (show j = 0 ∨ j = 1 ∨ j = 2 ∨ j = 3 by omega) with rfl | rfl | rfl | rfl <;> exact (World.cell?_alloc_at _ _ _ _ rfl).trans rfl
    · rcases (show j = 0 ∨ j = 1 ∨ j = 2 ∨ j = 3 by omega) with rfl | rfl | rfl | rfl
      · exact ((((HRx5.out hc).2.2.1.keep Hb57.out).rowX).alloc _).congr fun t _ => rfl
      · exact ((((HRy5.out hc).2.2.keep Hb57.out).rowX).alloc _).congr fun t _ => rfl
      · exact ((RowX.of_rowIs HRi7.out).alloc _).congr fun t _ => rfl
      · exact ((RowX.of_rowIs HRl7.out).alloc _).congr fun t _ => rfl)
  have l1 := HRi2.out.lt
  have l2 := HRl3.out.lt
  have l3 := HRi7.out.lt
  have l4 := HRl7.out.lt
  refine (owned_any (B := w.heap.size) 4 _ (by decide) HRW.out ?_ ?_ ?_ ?_ ?_).mono ?_
  · intro j hj hc
    rcases (show j = 0 ∨ j = 1 ∨ j = 2 ∨ j = 3 by omega) with rfl | rfl | rfl | rfl
    · exact (HRx5.out hc).1
    · exact (HRy5.out hc).1
    · rfl
    · rfl
  · have key : ∀ i j, i < j → j < 4 → 0 < pick4 N M (n + 1) (m + 1) i → 0 < pick4 N M (n + 1) (m + 1) j → pick4 gx gy gi gl i ≠ pick4 gx gy gi gl j := fun i j hij hj hi hj' => by
      have q0 := HNil.out
      rcases (show (i = 0 ∧ j = 1) ∨ (i = 0 ∧ j = 2) ∨ (i = 0 ∧ j = 3) ∨ (i = 1 ∧ j = 2) ∨ (i = 1 ∧ j = 3) ∨ (i = 2 ∧ j = 3) by omega) with ⟨rfl, rfl⟩ | ⟨rfl, rfl⟩ | ⟨rfl, rfl⟩ | ⟨rfl, rfl⟩ | ⟨rfl, rfl⟩ | ⟨rfl, rfl⟩
      · have h1 := HRx5.out hi; have h2 := HRy5.out hj'
        show gx ≠ gy; omega
      · have h1 := HRx5.out hi
        show gx ≠ gi; omega
      · have h1 := HRx5.out hi
        show gx ≠ gl; omega
      · have h2 := HRy5.out hi; have h3 := HOx.out; have h5 := HRl4.out.lt
        show gy ≠ gi; omega
      · have h2 := HRy5.out hi; have h5 := HRl4.out.lt
        show gy ≠ gl; omega
      · show gi ≠ gl; omega
    intro i j hi hj hne h1 h2
    rcases Nat.lt_or_gt_of_ne hne with h | h
    · exact key i j h hj h1 h2
    · exact (key j i h hi h2 h1).symm
  · intro j hj hc
    rcases (show j = 0 ∨ j = 1 ∨ j = 2 ∨ j = 3 by omega) with rfl | rfl | rfl | rfl
    · have h1 := ((HRx5.out hc).2.2.1.keep Hb57.out).lt
      show w7.heap.size ≠ gx; omega
    · have h1 := ((HRy5.out hc).2.2.keep Hb57.out).lt
      show w7.heap.size ≠ gy; omega
    · show w7.heap.size ≠ gi; omega
    · show w7.heap.size ≠ gl; omega
  · intro j hj hc
    have s3 := HB3.out.size
    have s4 := HB4.out.size
    rcases (show j = 0 ∨ j = 1 ∨ j = 2 ∨ j = 3 by omega) with rfl | rfl | rfl | rfl
    · have h1 := HRx5.out hc
      show w.heap.size ≤ gx; omega
    · have h1 := HRy5.out hc
      show w.heap.size ≤ gy; omega
    · exact HGi.out
    · exact HGl.out
  · intro j hj
    rcases (show j = 0 ∨ j = 1 ∨ j = 2 ∨ j = 3 by omega) with rfl | rfl | rfl | rfl
    · show N ≤ _; omega
    · show M ≤ _; omega
    · show n + 1 ≤ _; omega
    · show m + 1 ≤ _; omega
  rintro e w9 ⟨rfl, hb9⟩
  have HB9 := Lib.hid ((HB7.out.alloc HB7.out.size _).trans hb9)
  clear hb9
  go_wp2_with fail
  go_ret
  exact ⟨rfl, HB9.out⟩
end Go.Proofs.YtphbhfilaknbfaaDoor
