/- Owned, for rows of which only the length is known. -/
import Derived.Test.YtogcfaijphpgfaaDoorOwnA
import Derived.Test.YtogcfaijphpgfaaDoorRowV
namespace Go.Proofs.YtogcfaijphpgfaaDoor
open Go.RowKit
def ovV (f : Nat → Nat → Value) (k u j t : Nat) : Value := if j < k ∨ (j = k ∧ t < u) then .int .u8 ((j : Int) + 1) else f j t
/-- rows of cells, known by a row of slices -/
structure RwsV (R : Nat) (w : World) (g3 : Nat) (A : Nat → Option Addr) (n c g : Nat → Nat) (f : Nat → Nat → Value) (k u : Nat) : Prop where
  cells : ∀ j, j < R → w.cell? ⟨g3, j, none⟩ = some (.slice (A j) (n j) (c j))
  rows : ∀ j, j < R → 0 < c j → ArrV w (g j) 0 (c j) (ovV f k u j)
variable {A : Nat → Option Addr} {n c g : Nat → Nat} {f : Nat → Nat → Value} {R g3 : Nat}
theorem RwsV.next {w : World} {k : Nat} (h : RwsV R w g3 A n c g f k (c k)) : RwsV R w g3 A n c g f (k + 1) 0 :=
  ⟨h.cells, fun j hj hc => (h.rows j hj hc).congr fun t ht => by
    unfold ovV
    by_cases e : j < k ∨ (j = k ∧ t < c k)
    · rw [if_pos e, if_pos (by omega)]
    · rw [if_neg e, if_neg (by
        rintro (h1 | h1)
        · have : j = k := by omega
          subst this
          exact e (Or.inr ⟨rfl, ht⟩)
        · omega)]⟩
theorem RwsV.drewN {w : World} {k u : Nat} (h : RwsV R w g3 A n c g f k u) (m : Nat) : RwsV R (w.drewN m) g3 A n c g f k u := ⟨h.cells, fun j hj hc => (h.rows j hj hc).drewN m⟩
theorem RwsV.write {w : World} {k u : Nat} (h : RwsV R w g3 A n c g f k u) (hk : k < R) (hc : 0 < c k) (hu : u < c k) (hne : ∀ i j, i < R → j < R → i ≠ j → 0 < c i → 0 < c j → g i ≠ g j) (h3 : g3 ≠ g k) :
    RwsV R (w.setCell ⟨g k, u, none⟩ (.int .u8 ((k : Int) + 1))) g3 A n c g f k (u + 1) :=
  ⟨fun j hj => (World.cell?_setCell_other w ⟨g k, u, none⟩ ⟨g3, j, none⟩ _ (fun e => h3 (congrArg Addr.block e).symm)).trans (h.cells j hj), fun j hj hcj => by
    by_cases e : j = k
    · subst e
      refine ((h.rows j hj hcj).set hu (Nat.zero_add u).symm (.int .u8 ((j : Int) + 1))).congr fun t _ => ?_
      by_cases et : t = u
      · rw [if_pos et]; unfold ovV; rw [if_pos (by omega)]
      · rw [if_neg et]
        unfold ovV
        by_cases e2 : j < j ∨ (j = j ∧ t < u)
        · rw [if_pos e2, if_pos (by omega)]
        · rw [if_neg e2, if_neg (by omega)]
    · refine ((h.rows j hj hcj).setOther (a := ⟨g k, u, none⟩) (hne j k hj hk e hcj hc) _).congr fun t _ => ?_
      unfold ovV
      by_cases e2 : j < k ∨ (j = k ∧ t < u)
      · rw [if_pos e2, if_pos (by omega)]
      · rw [if_neg e2, if_neg (by omega)]⟩

set_option maxHeartbeats 1600000 in
theorem owned_vals (cap3 : Nat) (w : World) (hR : R ≤ 200) (h2 : RwsV R w g3 A n c g f 0 0) (hA : ∀ j, j < R → 0 < c j → A j = some ⟨g j, 0, none⟩)
    (hne : ∀ i j, i < R → j < R → i ≠ j → 0 < c i → 0 < c j → g i ≠ g j) (h3 : ∀ j, j < R → 0 < c j → g3 ≠ g j) (hcl : ∀ j, j < R → c j ≤ 140737488351300) :
    Calls Tryd.prog 14 #[.slice (some ⟨g3, 0, none⟩) R cap3] w fun e w' => e = .returned (.bool true) ∧ ChgS (InR R c g) w w' := by
  have H2 := Lib.hid h2
  have HA := Lib.hid hA
  have HN := Lib.hid hne
  have H3 := Lib.hid h3
  have HC := Lib.hid hcl
  clear h2 hA hne h3 hcl
  go_enter Tryd.func14, Tryd.ntmps14
  go_wp2_with fail
  go_loopw [3] (fun i wr => ∃ k : Nat, k ≤ R ∧ i = .int .i64 k ∧ RwsV R wr g3 A n c g f k 0 ∧ ChgS (InR R c g) w wr) (fun i _ => R - (intOf i).toNat)
  case atStart => exact ⟨0, by omega, rfl, H2.out, ChgS.refl _ _⟩
  case round =>
    obtain ⟨k, hk, rfl, htw, hbl⟩ := hrel
    have HT := Lib.hid htw
    have HBL := Lib.hid hbl
    clear htw hbl
    by_cases hlt : k < R
    · have hlti : (k : Int) < R := by omega
      have hk0 : (0 : Int) ≤ (k : Nat) := by omega
      have hcell := HT.out.cells k hlt
      have hck : ((c k : Nat) : Int) ≤ (c k : Nat) := Int.le_refl _
      have hck0 : (0 : Int) ≤ (c k : Nat) := by omega
      have HCK := HC.out k hlt
      go_wp2_with fail
      go_quiet (fail)
      have HTq := Lib.hid (HT.out.drewN nq)
      have HBq := Lib.hid (HBL.out.drewN nq)
      generalize wr.drewN nq = W at *
      by_cases hc0 : c k = 0
      · have e0 : ((c k : Nat) : Int) = 0 := by omega
        have HZ := Lib.hid hc0
        generalize hcc : c k = cc at *
        subst hc0
        clear hcell
        go_wp2_with fail
        go_loopw [5] (fun i wr => i = .int .i64 0 ∧ wr = W) (fun _ _ => 0)
        case atStart => exact ⟨rfl, rfl⟩
        case round =>
          obtain ⟨rfl, rfl⟩ := hrel
          go_wp2_with fail
          go_roundw
          case rel => exact ⟨k + 1, by omega, by go_num, RwsV.next (by rw [hcc]; exact HTq.out), HBq.out⟩
          case measure => simp [intOf]; omega
      · have hpos : 0 < c k := by omega
        have hAk := HA.out k hlt hpos
        rw [hAk]
        go_wp2_with fail
        go_loopw [5] (fun i wr => ∃ t : Nat, t ≤ c k ∧ i = .int .i64 t ∧ RwsV R wr g3 A n c g f k t ∧ ChgS (InR R c g) w wr) (fun i _ => c k - (intOf i).toNat)
        case atStart => exact ⟨0, Nat.zero_le _, rfl, HTq.out, HBq.out⟩
        case round =>
          obtain ⟨t, ht, rfl, htw, hbl⟩ := hrel
          have HT2 := Lib.hid htw
          have HB2 := Lib.hid hbl
          clear htw hbl
          by_cases htl : t < c k
          · have hcl := (HT2.out.rows k hlt hpos).cell htl (Nat.zero_add t).symm
            have hfr := (HT2.out.rows k hlt hpos).frozen htl (Nat.zero_add t).symm
            have HW2 := Lib.hid (HT2.out.write hlt hpos htl HN.out (H3.out k hlt hpos))
            have HB3 := Lib.hid (HB2.out.setCell (a := ⟨g k, t, none⟩) ⟨k, hlt, hpos, rfl⟩ (.int .u8 ((k : Int) + 1)))
            generalize ovV f k t k t = old at hcl
            go_wp2_with fail
            go_roundw
            case rel => exact ⟨t + 1, by omega, by go_num, HW2.out, HB3.out⟩
            case measure => simp [intOf]; omega
          · obtain rfl : t = c k := by omega
            go_wp2_with fail
            go_roundw
            case rel => exact ⟨k + 1, by omega, by go_num, HT2.out.next, HB2.out⟩
            case measure => simp [intOf]; omega
    · have HK := Lib.hid (show k = R by omega)
      have hk2 : ¬ (k : Int) < R := by omega
      go_wp2_with fail
      go_loopw [6] (fun i wr => ∃ j : Nat, j ≤ R ∧ i = .int .i64 j ∧ RwsV R wr g3 A n c g f k 0 ∧ ChgS (InR R c g) w wr) (fun i _ => R - (intOf i).toNat)
      case atStart => exact ⟨0, by omega, rfl, HT.out, HBL.out⟩
      case round =>
        obtain ⟨j, hj, rfl, htw, hbl⟩ := hrel
        have HT5 := Lib.hid htw
        have HB5 := Lib.hid hbl
        clear htw hbl
        by_cases hjl : j < R
        · have hjli : (j : Int) < R := by omega
          have hj0 : (0 : Int) ≤ (j : Nat) := by omega
          have hcell := HT5.out.cells j hjl
          have hck : ((c j : Nat) : Int) ≤ (c j : Nat) := Int.le_refl _
          have hck0 : (0 : Int) ≤ (c j : Nat) := by omega
          have HCK := HC.out j hjl
          go_wp2_with fail
          go_quiet (fail)
          have HTq := Lib.hid (HT5.out.drewN nq)
          have HBq := Lib.hid (HB5.out.drewN nq)
          generalize hWW : World.drewN _ nq = W at *
          clear hWW
          by_cases hc0 : c j = 0
          · have HZ := Lib.hid hc0
            generalize hcc : c j = cc at *
            subst hc0
            clear hcell
            go_wp2_with fail
            go_loopw [8] (fun i wr => i = .int .i64 0 ∧ wr = W) (fun _ _ => 0)
            case atStart => exact ⟨rfl, rfl⟩
            case round =>
              obtain ⟨rfl, rfl⟩ := hrel
              go_wp2_with fail
              go_roundw
              case rel => exact ⟨j + 1, by omega, by go_num, HTq.out, HBq.out⟩
              case measure => simp [intOf]; omega
          · have hpos : 0 < c j := by omega
            have hAk := HA.out j hjl hpos
            rw [hAk]
            go_wp2_with fail
            go_loopw [8] (fun i wr => ∃ t : Nat, t ≤ c j ∧ i = .int .i64 t ∧ wr = W) (fun i _ => c j - (intOf i).toNat)
            case atStart => exact ⟨0, Nat.zero_le _, rfl, rfl⟩
            case round =>
              obtain ⟨t, ht, rfl, rfl⟩ := hrel
              by_cases htl : t < c j
              · have hcl := (HTq.out.rows j hjl hpos).cell htl (Nat.zero_add t).symm
                have hov : ovV f k 0 j t = .int .u8 ((j : Int) + 1) := by unfold ovV; rw [if_pos (by have := HK.out; omega)]
                rw [hov] at hcl
                clear hov
                obtain ⟨j1, ej, hj1⟩ : ∃ j1 : Nat, (j : Int) + 1 = j1 ∧ j + 1 = j1 := ⟨j + 1, by omega, rfl⟩
                rw [ej] at hcl
                have hj13 : j1 ≤ 200 := by omega
                clear hj1
                go_wp2_with fail
                go_roundw
                case rel => exact ⟨t + 1, by omega, by go_num, trivial⟩
                case measure => simp [intOf]; omega
              · obtain rfl : t = c j := by omega
                go_wp2_with fail
                go_roundw
                case rel => exact ⟨j + 1, by omega, by go_num, HTq.out, HBq.out⟩
                case measure => simp [intOf]; omega
        · obtain rfl : j = R := by omega
          go_wp2_with fail
          go_ret
          exact ⟨rfl, HB5.out⟩
theorem ovV_none (f : Nat → Nat → Value) (j t : Nat) : ovV f 0 0 j t = f j t := by unfold ovV; rw [if_neg (by omega)]
/-- a row that may be written to its end -/
def OwnR (W : World) (A : Option Addr) (c g : Nat) : Prop := 0 < c → A = some ⟨g, 0, none⟩ ∧ ∃ f, ArrV W g 0 c f
namespace OwnR
variable {W W' : World} {A : Option Addr} {c g : Nat}
theorem of_block (h : OwnR W A c g) (e : W'.heap[g]? = W.heap[g]?) : OwnR W' A c g := fun hc => by
  obtain ⟨h1, f, h2⟩ := h hc
  exact ⟨h1, f, h2.of_block e⟩
theorem lt (h : OwnR W A c g) (hc : 0 < c) : g < W.heap.size := by
  obtain ⟨_, f, h2⟩ := h hc
  exact h2.lt hc
theorem keep (h : OwnR W A c g) (hb : Below W.heap.size W W') : OwnR W' A c g := fun hc => h.of_block (hb.block g (h.lt hc)) hc
theorem chg {K : Nat} (h : OwnR W A c g) (hb : Chg K W W') (hK : g ≠ K) : OwnR W' A c g := fun hc => h.of_block (hb.block g (h.lt hc) hK) hc
theorem arr {f : Nat → Nat} (h : Arr W g 0 c f) : OwnR W (some ⟨g, 0, none⟩) c g := fun _ => ⟨rfl, fun j => .int .u8 (f j : Nat), h⟩
end OwnR
theorem OwnB.ownR {w : World} {base n : Nat} {v : Value} {f : Nat → Nat} (h : OwnB w base v n f) : ∃ A c g, v = .slice A n c ∧ OwnR w A c g ∧ (0 < c → base ≤ g) ∧ c ≤ maxLen ∧ n ≤ c := by
  rcases h.2 with ⟨rfl, hn⟩ | ⟨g, cap, cur, rfl, hg, hh, h1, h2, h3, _⟩
  · subst hn; exact ⟨none, 0, 0, rfl, fun h => absurd h (Nat.lt_irrefl 0), fun h => absurd h (Nat.lt_irrefl 0), by unfold maxLen; omega, Nat.le_refl _⟩
  · refine ⟨_, cap, g, rfl, fun _ => ⟨rfl, fun j => cur.getD j undef, fun j hj => ⟨?_, ?_⟩⟩, fun _ => hg, h2, h1⟩
    · simp only [World.cell?, hh]
      rw [Nat.zero_add]
      simp [show j < cur.size by omega]
    · simp [World.frozen?, hh]
/-- rows, just put into a row -/
theorem owned_rows (R : Nat) (W : World) (cs : Array Value) (A : Nat → Option Addr) (n c g : Nat → Nat) (hR : R ≤ 200) (hcs : ∀ j, j < R → cs[j]? = some (.slice (A j) (n j) (c j))) (h : ∀ j, j < R → OwnR W (A j) (c j) (g j))
    (hne : ∀ i j, i < j → j < R → 0 < c i → 0 < c j → g i ≠ g j) (hl : ∀ j, j < R → c j ≤ 140737488351300) :
    Calls Tryd.prog 14 #[.slice (some ⟨W.heap.size, 0, none⟩) R R] (W.alloc (.cells cs 22)) fun e w' => e = .returned (.bool true) ∧ ChgS (InR R c g) W w' := by
  have hch : ∀ j, ∃ f : Nat → Value, j < R → 0 < c j → ArrV W (g j) 0 (c j) f := fun j => by
    by_cases hj : j < R ∧ 0 < c j
    · obtain ⟨_, f, hf⟩ := h j hj.1 hj.2
      exact ⟨f, fun _ _ => hf⟩
    · exact ⟨fun _ => undef, fun h1 h2 => absurd ⟨h1, h2⟩ hj⟩
  obtain ⟨f, hf⟩ := Classical.axiomOfChoice hch
  refine (owned_vals (R := R) (A := A) (n := n) (c := c) (g := g) (f := f) R _ hR ⟨fun j hj => ?_, fun j hj hc => ?_⟩ (fun j hj hc => (h j hj hc).1) ?_ ?_ hl).mono ?_
  · exact (World.cell?_alloc_at _ _ _ _ rfl).trans (hcs j hj)
  · exact ((hf j hj hc).alloc _).congr fun t _ => (ovV_none f j t).symm
  · intro i j hi hj hij ci cj
    rcases Nat.lt_or_ge i j with h1 | h1
    · exact hne i j h1 hj ci cj
    · exact (hne j i (by omega) hi cj ci).symm
  · exact fun j hj hc => Nat.ne_of_gt ((h j hj).lt hc)
  rintro e w' ⟨he, h⟩
  refine ⟨he, h.os, h.tape, h.output, Nat.le_trans (by simp) h.size, fun k hk hn => ?_⟩
  rw [h.block k (by simp; omega) hn]
  exact Below.heap_alloc W _ k hk
/-- one of four -/
def q4 {α : Type} (x y z u : α) (j : Nat) : α := if j = 0 then x else if j = 1 then y else if j = 2 then z else u
theorem four_of {j : Nat} (h : j < 4) : j = 0 ∨ j = 1 ∨ j = 2 ∨ j = 3 := by omega
end Go.Proofs.YtogcfaijphpgfaaDoor
