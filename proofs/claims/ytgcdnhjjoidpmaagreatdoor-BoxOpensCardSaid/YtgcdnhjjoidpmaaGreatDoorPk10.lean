/- 7 texts in one, in their order. -/
import Derived.Test.YtgcdnhjjoidpmaaGreatDoorPk9
import Derived.Conc.MuLone
/- Owned: rows of bytes that may be written over, each by itself. -/
namespace Go.Proofs.YtgcdnhjjoidpmaaGreatDoor
open Go.RowKit

/-- what row j holds at place t when k rows and u places of the next one are written over -/
def ov (f : Nat → Nat → Nat) (k u j t : Nat) : Nat := if j < k ∨ (j = k ∧ t < u) then j + 1 else f j t
/-- two rows of bytes, known by a row of two slices -/
structure Rws (R : Nat) (w : World) (g3 : Nat) (A : Nat → Option Addr) (n c g : Nat → Nat) (f : Nat → Nat → Nat) (k u : Nat) : Prop where
  cells : ∀ j, j < R → w.cell? ⟨g3, j, none⟩ = some (.slice (A j) (n j) (c j))
  rows : ∀ j, j < R → 0 < c j → RowX w (g j) 5 (c j) (fun t => .int .u8 (ov f k u j t : Nat))
variable {A : Nat → Option Addr} {n c g : Nat → Nat} {f : Nat → Nat → Nat} {R g3 B : Nat}
theorem Rws.next {w : World} {k : Nat} (h : Rws R w g3 A n c g f k (c k)) : Rws R w g3 A n c g f (k + 1) 0 :=
  ⟨h.cells, fun j hj hc => (h.rows j hj hc).congr fun t ht => by
    congr 2
    unfold ov
    by_cases e : j < k ∨ (j = k ∧ t < c k)
    · rw [if_pos e, if_pos (by omega)]
    · rw [if_neg e, if_neg (by
        rintro (h1 | h1)
        · have : j = k := by omega
          subst this
          exact e (Or.inr ⟨rfl, ht⟩)
        · omega)]⟩
theorem Rws.drewN {w : World} {k u : Nat} (h : Rws R w g3 A n c g f k u) (m : Nat) : Rws R (w.drewN m) g3 A n c g f k u := ⟨h.cells, fun j hj hc => (h.rows j hj hc).drewN m⟩
theorem Rws.write {w : World} {k u : Nat} (h : Rws R w g3 A n c g f k u) (hk : k < R) (hc : 0 < c k) (hne : ∀ i j, i < R → j < R → i ≠ j → 0 < c i → 0 < c j → g i ≠ g j) (h3 : g3 ≠ g k) :
    Rws R (w.setCell ⟨g k, u, none⟩ (.int .u8 ((k : Int) + 1))) g3 A n c g f k (u + 1) :=
  ⟨fun j hj => (World.cell?_setCell_other w ⟨g k, u, none⟩ ⟨g3, j, none⟩ _ (fun e => h3 (congrArg Addr.block e).symm)).trans (h.cells j hj), fun j hj hcj => by
    by_cases e : j = k
    · subst e
      refine ((h.rows j hj hcj).set u _).congr fun t _ => ?_
      by_cases et : t = u
      · rw [if_pos et]; unfold ov; rw [if_pos (by omega)]; rfl
      · rw [if_neg et]
        congr 2
        unfold ov
        by_cases e2 : j < j ∨ (j = j ∧ t < u)
        · rw [if_pos e2, if_pos (by omega)]
        · rw [if_neg e2, if_neg (by omega)]
    · refine ((h.rows j hj hcj).setOther (a := ⟨g k, u, none⟩) (hne j k hj hk e hcj hc) _).congr fun t _ => ?_
      congr 2
      unfold ov
      by_cases e2 : j < k ∨ (j = k ∧ t < u)
      · rw [if_pos e2, if_pos (by omega)]
      · rw [if_neg e2, if_neg (by omega)]⟩

set_option maxHeartbeats 1600000 in
theorem owned_any (cap3 : Nat) (w : World) (hR : R ≤ 200) (h2 : Rws R w g3 A n c g f 0 0) (hA : ∀ j, j < R → 0 < c j → A j = some ⟨g j, 0, none⟩)
    (hne : ∀ i j, i < R → j < R → i ≠ j → 0 < c i → 0 < c j → g i ≠ g j) (h3 : ∀ j, j < R → 0 < c j → g3 ≠ g j) (hB : ∀ j, j < R → 0 < c j → B ≤ g j) (hcl : ∀ j, j < R → c j ≤ 140737488351300) :
    Calls Tryz.prog 12 #[.slice (some ⟨g3, 0, none⟩) R cap3] w fun e w' => e = .returned (.bool true) ∧ Below B w w' := by
  have H2 := Lib.hid h2
  have HA := Lib.hid hA
  have HN := Lib.hid hne
  have H3 := Lib.hid h3
  have HB := Lib.hid hB
  have HC := Lib.hid hcl
  clear h2 hA hne h3 hB hcl
  go_enter Tryz.func12, Tryz.ntmps12
  go_wp2_with fail
  go_loopw [3] (fun i wr => ∃ k : Nat, k ≤ R ∧ i = .int .i64 k ∧ Rws R wr g3 A n c g f k 0 ∧ Below B w wr) (fun i _ => R - (intOf i).toNat)
  case atStart => exact ⟨0, by omega, rfl, H2.out, Below.refl _ _⟩
  case round =>
    obtain ⟨k, hk, rfl, htw, hbl⟩ := hrel
    have HT := Lib.hid htw
    have HBL := Lib.hid hbl
    clear htw hbl
    by_cases hlt : k < R
    · have hlti : (k : Int) < R := by omega
      have hk0 : (0 : Int) ≤ (k : Nat) := by omega
      have hcell := HT.out.cells k hlt
      have hck : ((c k : Nat) : Int) ≤ (c k : Nat) := Int.le_refl _
      have hck0 : (0 : Int) ≤ (c k : Nat) := by omega
      have HCK := HC.out k hlt
      go_wp2_with fail
      go_quiet (fail)
      have HTq := Lib.hid (HT.out.drewN nq)
      have HBq := Lib.hid (drawn HBL.out nq)
      generalize wr.drewN nq = W at *
      by_cases hc0 : c k = 0
      · have e0 : ((c k : Nat) : Int) = 0 := by omega
        have HZ := Lib.hid hc0
        generalize hcc : c k = cc at *
        subst hc0
        clear hcell
        go_wp2_with fail
        go_loopw [5] (fun i wr => i = .int .i64 0 ∧ wr = W) (fun _ _ => 0)
        case atStart => exact ⟨rfl, rfl⟩
        case round =>
          obtain ⟨rfl, rfl⟩ := hrel
          go_wp2_with fail
          go_roundw
          case rel => exact ⟨k + 1, by omega, by go_num, Rws.next (by rw [hcc]; exact HTq.out), HBq.out⟩
          case measure => simp [intOf]; omega
      · have hpos : 0 < c k := by omega
        have hAk := HA.out k hlt hpos
        rw [hAk]
        go_wp2_with fail
        go_loopw [5] (fun i wr => ∃ t : Nat, t ≤ c k ∧ i = .int .i64 t ∧ Rws R wr g3 A n c g f k t ∧ Below B w wr) (fun i _ => c k - (intOf i).toNat)
        case atStart => exact ⟨0, Nat.zero_le _, rfl, HTq.out, HBq.out⟩
        case round =>
          obtain ⟨t, ht, rfl, htw, hbl⟩ := hrel
          have HT2 := Lib.hid htw
          have HB2 := Lib.hid hbl
          clear htw hbl
          by_cases htl : t < c k
          · have hcl := (HT2.out.rows k hlt hpos).cell htl
            have hfr := (HT2.out.rows k hlt hpos).frozen htl
            have HW2 := Lib.hid (HT2.out.write hlt hpos HN.out (H3.out k hlt hpos))
            have HB3 := Lib.hid (HB2.out.setCell (p := ⟨g k, t, none⟩) (HB.out k hlt hpos) (.int .u8 ((k : Int) + 1)))
            generalize ov f k t k t = old at hcl
            go_wp2_with fail
            go_roundw
            case rel => exact ⟨t + 1, by omega, by go_num, HW2.out, HB3.out⟩
            case measure => simp [intOf]; omega
          · obtain rfl : t = c k := by omega
            go_wp2_with fail
            go_roundw
            case rel => exact ⟨k + 1, by omega, by go_num, HT2.out.next, HB2.out⟩
            case measure => simp [intOf]; omega
    · have HK := Lib.hid (show k = R by omega)
      have hk2 : ¬ (k : Int) < R := by omega
      go_wp2_with fail
      go_loopw [6] (fun i wr => ∃ j : Nat, j ≤ R ∧ i = .int .i64 j ∧ Rws R wr g3 A n c g f k 0 ∧ Below B w wr) (fun i _ => R - (intOf i).toNat)
      case atStart => exact ⟨0, by omega, rfl, HT.out, HBL.out⟩
      case round =>
        obtain ⟨j, hj, rfl, htw, hbl⟩ := hrel
        have HT5 := Lib.hid htw
        have HB5 := Lib.hid hbl
        clear htw hbl
        by_cases hjl : j < R
        · have hjli : (j : Int) < R := by omega
          have hj0 : (0 : Int) ≤ (j : Nat) := by omega
          have hcell := HT5.out.cells j hjl
          have hck : ((c j : Nat) : Int) ≤ (c j : Nat) := Int.le_refl _
          have hck0 : (0 : Int) ≤ (c j : Nat) := by omega
          have HCK := HC.out j hjl
          go_wp2_with fail
          go_quiet (fail)
          have HTq := Lib.hid (HT5.out.drewN nq)
          have HBq := Lib.hid (drawn HB5.out nq)
          generalize hWW : World.drewN _ nq = W at *
          clear hWW
          by_cases hc0 : c j = 0
          · have HZ := Lib.hid hc0
            generalize hcc : c j = cc at *
            subst hc0
            clear hcell
            go_wp2_with fail
            go_loopw [8] (fun i wr => i = .int .i64 0 ∧ wr = W) (fun _ _ => 0)
            case atStart => exact ⟨rfl, rfl⟩
            case round =>
              obtain ⟨rfl, rfl⟩ := hrel
              go_wp2_with fail
              go_roundw
              case rel => exact ⟨j + 1, by omega, by go_num, HTq.out, HBq.out⟩
              case measure => simp [intOf]; omega
          · have hpos : 0 < c j := by omega
            have hAk := HA.out j hjl hpos
            rw [hAk]
            go_wp2_with fail
            go_loopw [8] (fun i wr => ∃ t : Nat, t ≤ c j ∧ i = .int .i64 t ∧ wr = W) (fun i _ => c j - (intOf i).toNat)
            case atStart => exact ⟨0, Nat.zero_le _, rfl, rfl⟩
            case round =>
              obtain ⟨t, ht, rfl, rfl⟩ := hrel
              by_cases htl : t < c j
              · have hcl := (HTq.out.rows j hjl hpos).cell htl
                have hov : ov f k 0 j t = j + 1 := by unfold ov; rw [if_pos (by have := HK.out; omega)]
                rw [hov] at hcl
                clear hov
                obtain ⟨j1, ej, hj1⟩ : ∃ j1 : Nat, (j : Int) + 1 = j1 ∧ j + 1 = j1 := ⟨j + 1, by omega, rfl⟩
                rw [hj1] at hcl
                have hj13 : j1 ≤ 200 := by omega
                clear hj1
                go_wp2_with fail
                go_roundw
                case rel => exact ⟨t + 1, by omega, by go_num, trivial⟩
                case measure => simp [intOf]; omega
              · obtain rfl : t = c j := by omega
                go_wp2_with fail
                go_roundw
                case rel => exact ⟨j + 1, by omega, by go_num, HTq.out, HBq.out⟩
                case measure => simp [intOf]; omega
        · obtain rfl : j = R := by omega
          go_wp2_with fail
          go_ret
          exact ⟨rfl, HB5.out⟩
end Go.Proofs.YtgcdnhjjoidpmaaGreatDoor
/- Owned, for rows of bytes that lie in blocks of any kind. -/
namespace Go.Proofs.YtgcdnhjjoidpmaaGreatDoor
open Go.RowKit

/-- the rows' blocks -/
def InR (R : Nat) (c g : Nat → Nat) (k : Nat) : Prop := ∃ j, j < R ∧ 0 < c j ∧ k = g j
/-- rows of bytes, known by a row of slices -/
structure RwsA (R : Nat) (w : World) (g3 : Nat) (A : Nat → Option Addr) (n c g : Nat → Nat) (f : Nat → Nat → Nat) (k u : Nat) : Prop where
  cells : ∀ j, j < R → w.cell? ⟨g3, j, none⟩ = some (.slice (A j) (n j) (c j))
  rows : ∀ j, j < R → 0 < c j → Arr w (g j) 0 (c j) (ov f k u j)
variable {A : Nat → Option Addr} {n c g : Nat → Nat} {f : Nat → Nat → Nat} {R g3 : Nat}
theorem RwsA.next {w : World} {k : Nat} (h : RwsA R w g3 A n c g f k (c k)) : RwsA R w g3 A n c g f (k + 1) 0 :=
  ⟨h.cells, fun j hj hc => (h.rows j hj hc).congr fun t ht => by
    unfold ov
    by_cases e : j < k ∨ (j = k ∧ t < c k)
    · rw [if_pos e, if_pos (by omega)]
    · rw [if_neg e, if_neg (by
        rintro (h1 | h1)
        · have : j = k := by omega
          subst this
          exact e (Or.inr ⟨rfl, ht⟩)
        · omega)]⟩
theorem RwsA.drewN {w : World} {k u : Nat} (h : RwsA R w g3 A n c g f k u) (m : Nat) : RwsA R (w.drewN m) g3 A n c g f k u := ⟨h.cells, fun j hj hc => (h.rows j hj hc).drewN m⟩
theorem RwsA.write {w : World} {k u : Nat} (h : RwsA R w g3 A n c g f k u) (hk : k < R) (hc : 0 < c k) (hu : u < c k) (hne : ∀ i j, i < R → j < R → i ≠ j → 0 < c i → 0 < c j → g i ≠ g j) (h3 : g3 ≠ g k) :
    RwsA R (w.setCell ⟨g k, u, none⟩ (.int .u8 ((k : Int) + 1))) g3 A n c g f k (u + 1) :=
  ⟨fun j hj => (World.cell?_setCell_other w ⟨g k, u, none⟩ ⟨g3, j, none⟩ _ (fun e => h3 (congrArg Addr.block e).symm)).trans (h.cells j hj), fun j hj hcj => by
    by_cases e : j = k
    · subst e
      refine ((h.rows j hj hcj).set hu (Nat.zero_add u).symm (j + 1) rfl).congr fun t _ => ?_
      by_cases et : t = u
      · rw [if_pos et]; unfold ov; rw [if_pos (by omega)]
      · rw [if_neg et]
        unfold ov
        by_cases e2 : j < j ∨ (j = j ∧ t < u)
        · rw [if_pos e2, if_pos (by omega)]
        · rw [if_neg e2, if_neg (by omega)]
    · refine ((h.rows j hj hcj).setOther (a := ⟨g k, u, none⟩) (hne j k hj hk e hcj hc) _).congr fun t _ => ?_
      unfold ov
      by_cases e2 : j < k ∨ (j = k ∧ t < u)
      · rw [if_pos e2, if_pos (by omega)]
      · rw [if_neg e2, if_neg (by omega)]⟩

set_option maxHeartbeats 1600000 in
theorem owned_arr (cap3 : Nat) (w : World) (hR : R ≤ 200) (h2 : RwsA R w g3 A n c g f 0 0) (hA : ∀ j, j < R → 0 < c j → A j = some ⟨g j, 0, none⟩)
    (hne : ∀ i j, i < R → j < R → i ≠ j → 0 < c i → 0 < c j → g i ≠ g j) (h3 : ∀ j, j < R → 0 < c j → g3 ≠ g j) (hcl : ∀ j, j < R → c j ≤ 140737488351300) :
    Calls Tryz.prog 12 #[.slice (some ⟨g3, 0, none⟩) R cap3] w fun e w' => e = .returned (.bool true) ∧ ChgS (InR R c g) w w' := by
  have H2 := Lib.hid h2
  have HA := Lib.hid hA
  have HN := Lib.hid hne
  have H3 := Lib.hid h3
  have HC := Lib.hid hcl
  clear h2 hA hne h3 hcl
  go_enter Tryz.func12, Tryz.ntmps12
  go_wp2_with fail
  go_loopw [3] (fun i wr => ∃ k : Nat, k ≤ R ∧ i = .int .i64 k ∧ RwsA R wr g3 A n c g f k 0 ∧ ChgS (InR R c g) w wr) (fun i _ => R - (intOf i).toNat)
  case atStart => exact ⟨0, by omega, rfl, H2.out, ChgS.refl _ _⟩
  case round =>
    obtain ⟨k, hk, rfl, htw, hbl⟩ := hrel
    have HT := Lib.hid htw
    have HBL := Lib.hid hbl
    clear htw hbl
    by_cases hlt : k < R
    · have hlti : (k : Int) < R := by omega
      have hk0 : (0 : Int) ≤ (k : Nat) := by omega
      have hcell := HT.out.cells k hlt
      have hck : ((c k : Nat) : Int) ≤ (c k : Nat) := Int.le_refl _
      have hck0 : (0 : Int) ≤ (c k : Nat) := by omega
      have HCK := HC.out k hlt
      go_wp2_with fail
      go_quiet (fail)
      have HTq := Lib.hid (HT.out.drewN nq)
      have HBq := Lib.hid (HBL.out.drewN nq)
      generalize wr.drewN nq = W at *
      by_cases hc0 : c k = 0
      · have e0 : ((c k : Nat) : Int) = 0 := by omega
        have HZ := Lib.hid hc0
        generalize hcc : c k = cc at *
        subst hc0
        clear hcell
        go_wp2_with fail
        go_loopw [5] (fun i wr => i = .int .i64 0 ∧ wr = W) (fun _ _ => 0)
        case atStart => exact ⟨rfl, rfl⟩
        case round =>
          obtain ⟨rfl, rfl⟩ := hrel
          go_wp2_with fail
          go_roundw
          case rel => exact ⟨k + 1, by omega, by go_num, RwsA.next (by rw [hcc]; exact HTq.out), HBq.out⟩
          case measure => simp [intOf]; omega
      · have hpos : 0 < c k := by omega
        have hAk := HA.out k hlt hpos
        rw [hAk]
        go_wp2_with fail
        go_loopw [5] (fun i wr => ∃ t : Nat, t ≤ c k ∧ i = .int .i64 t ∧ RwsA R wr g3 A n c g f k t ∧ ChgS (InR R c g) w wr) (fun i _ => c k - (intOf i).toNat)
        case atStart => exact ⟨0, Nat.zero_le _, rfl, HTq.out, HBq.out⟩
        case round =>
          obtain ⟨t, ht, rfl, htw, hbl⟩ := hrel
          have HT2 := Lib.hid htw
          have HB2 := Lib.hid hbl
          clear htw hbl
          by_cases htl : t < c k
          · have hcl := (HT2.out.rows k hlt hpos).cell htl (Nat.zero_add t).symm
            have hfr := (HT2.out.rows k hlt hpos).frozen htl (Nat.zero_add t).symm
            have HW2 := Lib.hid (HT2.out.write hlt hpos htl HN.out (H3.out k hlt hpos))
            have HB3 := Lib.hid (HB2.out.setCell (a := ⟨g k, t, none⟩) ⟨k, hlt, hpos, rfl⟩ (.int .u8 ((k : Int) + 1)))
            generalize ov f k t k t = old at hcl
            go_wp2_with fail
            go_roundw
            case rel => exact ⟨t + 1, by omega, by go_num, HW2.out, HB3.out⟩
            case measure => simp [intOf]; omega
          · obtain rfl : t = c k := by omega
            go_wp2_with fail
            go_roundw
            case rel => exact ⟨k + 1, by omega, by go_num, HT2.out.next, HB2.out⟩
            case measure => simp [intOf]; omega
    · have HK := Lib.hid (show k = R by omega)
      have hk2 : ¬ (k : Int) < R := by omega
      go_wp2_with fail
      go_loopw [6] (fun i wr => ∃ j : Nat, j ≤ R ∧ i = .int .i64 j ∧ RwsA R wr g3 A n c g f k 0 ∧ ChgS (InR R c g) w wr) (fun i _ => R - (intOf i).toNat)
      case atStart => exact ⟨0, by omega, rfl, HT.out, HBL.out⟩
      case round =>
        obtain ⟨j, hj, rfl, htw, hbl⟩ := hrel
        have HT5 := Lib.hid htw
        have HB5 := Lib.hid hbl
        clear htw hbl
        by_cases hjl : j < R
        · have hjli : (j : Int) < R := by omega
          have hj0 : (0 : Int) ≤ (j : Nat) := by omega
          have hcell := HT5.out.cells j hjl
          have hck : ((c j : Nat) : Int) ≤ (c j : Nat) := Int.le_refl _
          have hck0 : (0 : Int) ≤ (c j : Nat) := by omega
          have HCK := HC.out j hjl
          go_wp2_with fail
          go_quiet (fail)
          have HTq := Lib.hid (HT5.out.drewN nq)
          have HBq := Lib.hid (HB5.out.drewN nq)
          generalize hWW : World.drewN _ nq = W at *
          clear hWW
          by_cases hc0 : c j = 0
          · have HZ := Lib.hid hc0
            generalize hcc : c j = cc at *
            subst hc0
            clear hcell
            go_wp2_with fail
            go_loopw [8] (fun i wr => i = .int .i64 0 ∧ wr = W) (fun _ _ => 0)
            case atStart => exact ⟨rfl, rfl⟩
            case round =>
              obtain ⟨rfl, rfl⟩ := hrel
              go_wp2_with fail
              go_roundw
              case rel => exact ⟨j + 1, by omega, by go_num, HTq.out, HBq.out⟩
              case measure => simp [intOf]; omega
          · have hpos : 0 < c j := by omega
            have hAk := HA.out j hjl hpos
            rw [hAk]
            go_wp2_with fail
            go_loopw [8] (fun i wr => ∃ t : Nat, t ≤ c j ∧ i = .int .i64 t ∧ wr = W) (fun i _ => c j - (intOf i).toNat)
            case atStart => exact ⟨0, Nat.zero_le _, rfl, rfl⟩
            case round =>
              obtain ⟨t, ht, rfl, rfl⟩ := hrel
              by_cases htl : t < c j
              · have hcl := (HTq.out.rows j hjl hpos).cell htl (Nat.zero_add t).symm
                have hov : ov f k 0 j t = j + 1 := by unfold ov; rw [if_pos (by have := HK.out; omega)]
                rw [hov] at hcl
                clear hov
                obtain ⟨j1, ej, hj1⟩ : ∃ j1 : Nat, (j : Int) + 1 = j1 ∧ j + 1 = j1 := ⟨j + 1, by omega, rfl⟩
                rw [hj1] at hcl
                have hj13 : j1 ≤ 200 := by omega
                clear hj1
                go_wp2_with fail
                go_roundw
                case rel => exact ⟨t + 1, by omega, by go_num, trivial⟩
                case measure => simp [intOf]; omega
              · obtain rfl : t = c j := by omega
                go_wp2_with fail
                go_roundw
                case rel => exact ⟨j + 1, by omega, by go_num, HTq.out, HBq.out⟩
                case measure => simp [intOf]; omega
        · obtain rfl : j = R := by omega
          go_wp2_with fail
          go_ret
          exact ⟨rfl, HB5.out⟩
/-- one of three -/
def t3 {α : Type} (x y z : α) (j : Nat) : α := if j = 0 then x else if j = 1 then y else z
theorem ov_none (f : Nat → Nat → Nat) (j t : Nat) : ov f 0 0 j t = f j t := by unfold ov; rw [if_neg (by omega)]
/-- three rows, just put into a row -/
theorem owned_three (W : World) (A0 A1 A2 : Option Addr) (n0 n1 n2 c0 c1 c2 g0 g1 g2 : Nat) (f0 f1 f2 : Nat → Nat) (B : Nat)
    (h0 : 0 < c0 → A0 = some ⟨g0, 0, none⟩ ∧ Arr W g0 0 c0 f0 ∧ B ≤ g0) (h1 : 0 < c1 → A1 = some ⟨g1, 0, none⟩ ∧ Arr W g1 0 c1 f1 ∧ B ≤ g1) (h2 : 0 < c2 → A2 = some ⟨g2, 0, none⟩ ∧ Arr W g2 0 c2 f2 ∧ B ≤ g2)
    (n01 : 0 < c0 → 0 < c1 → g0 ≠ g1) (n02 : 0 < c0 → 0 < c2 → g0 ≠ g2) (n12 : 0 < c1 → 0 < c2 → g1 ≠ g2) (l0 : c0 ≤ 140737488351300) (l1 : c1 ≤ 140737488351300) (l2 : c2 ≤ 140737488351300) (hB : B ≤ W.heap.size) :
    Calls Tryz.prog 12 #[.slice (some ⟨W.heap.size, 0, none⟩) 3 3] (W.alloc (.cells #[.slice A0 n0 c0, .slice A1 n1 c1, .slice A2 n2 c2] 22)) fun e w' => e = .returned (.bool true) ∧ Below B W w' := by
  have hj3 : ∀ j, j < 3 → j = 0 ∨ j = 1 ∨ j = 2 := fun j hj => by omega
  refine (owned_arr (R := 3) (A := t3 A0 A1 A2) (n := t3 n0 n1 n2) (c := t3 c0 c1 c2) (g := t3 g0 g1 g2) (f := t3 f0 f1 f2) 3 _ (by decide) ⟨fun j hj => ?_, fun j hj hc => ?_⟩ ?_ ?_ ?_ ?_).mono ?_
  · rcases hj3 j hj with rfl | rfl | rfl <;> exact (World.cell?_alloc_at _ _ _ _ rfl).trans rfl
  · rcases hj3 j hj with rfl | rfl | rfl
    · exact ((h0 hc).2.1.alloc _).congr fun t _ => (ov_none (t3 f0 f1 f2) 0 t).symm
    · exact ((h1 hc).2.1.alloc _).congr fun t _ => (ov_none (t3 f0 f1 f2) 1 t).symm
    · exact ((h2 hc).2.1.alloc _).congr fun t _ => (ov_none (t3 f0 f1 f2) 2 t).symm
  · intro j hj hc
    rcases hj3 j hj with rfl | rfl | rfl
    · exact (h0 hc).1
    · exact (h1 hc).1
    · exact (h2 hc).1
  · intro i j hi hj hij ci cj
    rcases hj3 i hi with rfl | rfl | rfl <;> rcases hj3 j hj with rfl | rfl | rfl
    · exact absurd rfl hij
    · exact n01 ci cj
    · exact n02 ci cj
    · exact (n01 cj ci).symm
    · exact absurd rfl hij
    · exact n12 ci cj
    · exact (n02 cj ci).symm
    · exact (n12 cj ci).symm
    · exact absurd rfl hij
  · intro j hj hc
    rcases hj3 j hj with rfl | rfl | rfl
    · exact Nat.ne_of_gt ((h0 hc).2.1.lt hc)
    · exact Nat.ne_of_gt ((h1 hc).2.1.lt hc)
    · exact Nat.ne_of_gt ((h2 hc).2.1.lt hc)
  · intro j hj
    rcases hj3 j hj with rfl | rfl | rfl
    · exact l0
    · exact l1
    · exact l2
  rintro e w' ⟨he, h⟩
  refine ⟨he, ((Below.refl W.heap.size W).alloc (Nat.le_refl _) _ |>.mono hB).trans (h.below (by simp; omega) fun k hk => ?_)⟩
  obtain ⟨j, hj, hc, rfl⟩ := hk
  rcases hj3 j hj with rfl | rfl | rfl
  · exact (h0 hc).2.2
  · exact (h1 hc).2.2
  · exact (h2 hc).2.2
/-- one row, just put into a row -/
theorem owned_one (W : World) (g0 n0 c0 : Nat) (f0 : Nat → Nat) (h0 : Arr W g0 0 c0 f0) (l0 : c0 ≤ 140737488351300) :
    Calls Tryz.prog 12 #[.slice (some ⟨W.heap.size, 0, none⟩) 1 1] (W.alloc (.cells #[.slice (some ⟨g0, 0, none⟩) n0 c0] 22)) fun e w' => e = .returned (.bool true) ∧ Chg g0 W w' := by
  refine (owned_arr (R := 1) (A := fun _ => some ⟨g0, 0, none⟩) (n := fun _ => n0) (c := fun _ => c0) (g := fun _ => g0) (f := fun _ => f0) 1 _ (by decide) ⟨fun j hj => ?_, fun j hj hc => ?_⟩ ?_ ?_ ?_ ?_).mono ?_
  · obtain rfl : j = 0 := by omega
    exact (World.cell?_alloc_at _ _ _ _ rfl).trans rfl
  · exact (h0.alloc _).congr fun t _ => (ov_none (fun _ => f0) j t).symm
  · exact fun _ _ _ => rfl
  · intro i j hi hj hij _ _
    omega
  · intro j _ hc
    exact Nat.ne_of_gt (h0.lt hc)
  · exact fun _ _ => l0
  rintro e w' ⟨he, h⟩
  refine ⟨he, (Chg.of_below ((Below.refl W.heap.size W).alloc (Nat.le_refl _) _)).trans ⟨h.os, h.tape, h.output, h.size, fun k hk hn => h.block k hk fun hs => ?_⟩⟩
  obtain ⟨_, _, _, e⟩ := hs
  exact hn e
end Go.Proofs.YtgcdnhjjoidpmaaGreatDoor
/- Owned, for rows of which only the length is known. -/
namespace Go.Proofs.YtgcdnhjjoidpmaaGreatDoor
open Go.RowKit
def ovV (f : Nat → Nat → Value) (k u j t : Nat) : Value := if j < k ∨ (j = k ∧ t < u) then .int .u8 ((j : Int) + 1) else f j t
/-- rows of cells, known by a row of slices -/
structure RwsV (R : Nat) (w : World) (g3 : Nat) (A : Nat → Option Addr) (n c g : Nat → Nat) (f : Nat → Nat → Value) (k u : Nat) : Prop where
  cells : ∀ j, j < R → w.cell? ⟨g3, j, none⟩ = some (.slice (A j) (n j) (c j))
  rows : ∀ j, j < R → 0 < c j → ArrV w (g j) 0 (c j) (ovV f k u j)
variable {A : Nat → Option Addr} {n c g : Nat → Nat} {f : Nat → Nat → Value} {R g3 : Nat}
theorem RwsV.next {w : World} {k : Nat} (h : RwsV R w g3 A n c g f k (c k)) : RwsV R w g3 A n c g f (k + 1) 0 :=
  ⟨h.cells, fun j hj hc => (h.rows j hj hc).congr fun t ht => by
    unfold ovV
    by_cases e : j < k ∨ (j = k ∧ t < c k)
    · rw [if_pos e, if_pos (by omega)]
    · rw [if_neg e, if_neg (by
        rintro (h1 | h1)
        · have : j = k := by omega
          subst this
          exact e (Or.inr ⟨rfl, ht⟩)
        · omega)]⟩
theorem RwsV.drewN {w : World} {k u : Nat} (h : RwsV R w g3 A n c g f k u) (m : Nat) : RwsV R (w.drewN m) g3 A n c g f k u := ⟨h.cells, fun j hj hc => (h.rows j hj hc).drewN m⟩
theorem RwsV.write {w : World} {k u : Nat} (h : RwsV R w g3 A n c g f k u) (hk : k < R) (hc : 0 < c k) (hu : u < c k) (hne : ∀ i j, i < R → j < R → i ≠ j → 0 < c i → 0 < c j → g i ≠ g j) (h3 : g3 ≠ g k) :
    RwsV R (w.setCell ⟨g k, u, none⟩ (.int .u8 ((k : Int) + 1))) g3 A n c g f k (u + 1) :=
  ⟨fun j hj => (World.cell?_setCell_other w ⟨g k, u, none⟩ ⟨g3, j, none⟩ _ (fun e => h3 (congrArg Addr.block e).symm)).trans (h.cells j hj), fun j hj hcj => by
    by_cases e : j = k
    · subst e
      refine ((h.rows j hj hcj).set hu (Nat.zero_add u).symm (.int .u8 ((j : Int) + 1))).congr fun t _ => ?_
      by_cases et : t = u
      · rw [if_pos et]; unfold ovV; rw [if_pos (by omega)]
      · rw [if_neg et]
        unfold ovV
        by_cases e2 : j < j ∨ (j = j ∧ t < u)
        · rw [if_pos e2, if_pos (by omega)]
        · rw [if_neg e2, if_neg (by omega)]
    · refine ((h.rows j hj hcj).setOther (a := ⟨g k, u, none⟩) (hne j k hj hk e hcj hc) _).congr fun t _ => ?_
      unfold ovV
      by_cases e2 : j < k ∨ (j = k ∧ t < u)
      · rw [if_pos e2, if_pos (by omega)]
      · rw [if_neg e2, if_neg (by omega)]⟩

set_option maxHeartbeats 1600000 in
theorem owned_vals (cap3 : Nat) (w : World) (hR : R ≤ 200) (h2 : RwsV R w g3 A n c g f 0 0) (hA : ∀ j, j < R → 0 < c j → A j = some ⟨g j, 0, none⟩)
    (hne : ∀ i j, i < R → j < R → i ≠ j → 0 < c i → 0 < c j → g i ≠ g j) (h3 : ∀ j, j < R → 0 < c j → g3 ≠ g j) (hcl : ∀ j, j < R → c j ≤ 9223372036854775807) :
    Calls Tryz.prog 12 #[.slice (some ⟨g3, 0, none⟩) R cap3] w fun e w' => e = .returned (.bool true) ∧ ChgS (InR R c g) w w' := by
  have H2 := Lib.hid h2
  have HA := Lib.hid hA
  have HN := Lib.hid hne
  have H3 := Lib.hid h3
  have HC := Lib.hid hcl
  clear h2 hA hne h3 hcl
  go_enter Tryz.func12, Tryz.ntmps12
  go_wp2_with fail
  go_loopw [3] (fun i wr => ∃ k : Nat, k ≤ R ∧ i = .int .i64 k ∧ RwsV R wr g3 A n c g f k 0 ∧ ChgS (InR R c g) w wr) (fun i _ => R - (intOf i).toNat)
  case atStart => exact ⟨0, by omega, rfl, H2.out, ChgS.refl _ _⟩
  case round =>
    obtain ⟨k, hk, rfl, htw, hbl⟩ := hrel
    have HT := Lib.hid htw
    have HBL := Lib.hid hbl
    clear htw hbl
    by_cases hlt : k < R
    · have hlti : (k : Int) < R := by omega
      have hk0 : (0 : Int) ≤ (k : Nat) := by omega
      have hcell := HT.out.cells k hlt
      have hck : ((c k : Nat) : Int) ≤ (c k : Nat) := Int.le_refl _
      have hck0 : (0 : Int) ≤ (c k : Nat) := by omega
      have HCK := HC.out k hlt
      go_wp2_with fail
      go_quiet (fail)
      have HTq := Lib.hid (HT.out.drewN nq)
      have HBq := Lib.hid (HBL.out.drewN nq)
      generalize wr.drewN nq = W at *
      by_cases hc0 : c k = 0
      · have e0 : ((c k : Nat) : Int) = 0 := by omega
        have HZ := Lib.hid hc0
        generalize hcc : c k = cc at *
        subst hc0
        clear hcell
        go_wp2_with fail
        go_loopw [5] (fun i wr => i = .int .i64 0 ∧ wr = W) (fun _ _ => 0)
        case atStart => exact ⟨rfl, rfl⟩
        case round =>
          obtain ⟨rfl, rfl⟩ := hrel
          go_wp2_with fail
          go_roundw
          case rel => exact ⟨k + 1, by omega, by go_num, RwsV.next (by rw [hcc]; exact HTq.out), HBq.out⟩
          case measure => simp [intOf]; omega
      · have hpos : 0 < c k := by omega
        have hAk := HA.out k hlt hpos
        rw [hAk]
        go_wp2_with fail
        go_loopw [5] (fun i wr => ∃ t : Nat, t ≤ c k ∧ i = .int .i64 t ∧ RwsV R wr g3 A n c g f k t ∧ ChgS (InR R c g) w wr) (fun i _ => c k - (intOf i).toNat)
        case atStart => exact ⟨0, Nat.zero_le _, rfl, HTq.out, HBq.out⟩
        case round =>
          obtain ⟨t, ht, rfl, htw, hbl⟩ := hrel
          have HT2 := Lib.hid htw
          have HB2 := Lib.hid hbl
          clear htw hbl
          by_cases htl : t < c k
          · have hcl := (HT2.out.rows k hlt hpos).cell htl (Nat.zero_add t).symm
            have hfr := (HT2.out.rows k hlt hpos).frozen htl (Nat.zero_add t).symm
            have HW2 := Lib.hid (HT2.out.write hlt hpos htl HN.out (H3.out k hlt hpos))
            have HB3 := Lib.hid (HB2.out.setCell (a := ⟨g k, t, none⟩) ⟨k, hlt, hpos, rfl⟩ (.int .u8 ((k : Int) + 1)))
            generalize ovV f k t k t = old at hcl
            go_wp2_with fail
            go_roundw
            case rel => exact ⟨t + 1, by omega, by go_num, HW2.out, HB3.out⟩
            case measure => simp [intOf]; omega
          · obtain rfl : t = c k := by omega
            go_wp2_with fail
            go_roundw
            case rel => exact ⟨k + 1, by omega, by go_num, HT2.out.next, HB2.out⟩
            case measure => simp [intOf]; omega
    · have HK := Lib.hid (show k = R by omega)
      have hk2 : ¬ (k : Int) < R := by omega
      go_wp2_with fail
      go_loopw [6] (fun i wr => ∃ j : Nat, j ≤ R ∧ i = .int .i64 j ∧ RwsV R wr g3 A n c g f k 0 ∧ ChgS (InR R c g) w wr) (fun i _ => R - (intOf i).toNat)
      case atStart => exact ⟨0, by omega, rfl, HT.out, HBL.out⟩
      case round =>
        obtain ⟨j, hj, rfl, htw, hbl⟩ := hrel
        have HT5 := Lib.hid htw
        have HB5 := Lib.hid hbl
        clear htw hbl
        by_cases hjl : j < R
        · have hjli : (j : Int) < R := by omega
          have hj0 : (0 : Int) ≤ (j : Nat) := by omega
          have hcell := HT5.out.cells j hjl
          have hck : ((c j : Nat) : Int) ≤ (c j : Nat) := Int.le_refl _
          have hck0 : (0 : Int) ≤ (c j : Nat) := by omega
          have HCK := HC.out j hjl
          go_wp2_with fail
          go_quiet (fail)
          have HTq := Lib.hid (HT5.out.drewN nq)
          have HBq := Lib.hid (HB5.out.drewN nq)
          generalize hWW : World.drewN _ nq = W at *
          clear hWW
          by_cases hc0 : c j = 0
          · have HZ := Lib.hid hc0
            generalize hcc : c j = cc at *
            subst hc0
            clear hcell
            go_wp2_with fail
            go_loopw [8] (fun i wr => i = .int .i64 0 ∧ wr = W) (fun _ _ => 0)
            case atStart => exact ⟨rfl, rfl⟩
            case round =>
              obtain ⟨rfl, rfl⟩ := hrel
              go_wp2_with fail
              go_roundw
              case rel => exact ⟨j + 1, by omega, by go_num, HTq.out, HBq.out⟩
              case measure => simp [intOf]; omega
          · have hpos : 0 < c j := by omega
            have hAk := HA.out j hjl hpos
            rw [hAk]
            go_wp2_with fail
            go_loopw [8] (fun i wr => ∃ t : Nat, t ≤ c j ∧ i = .int .i64 t ∧ wr = W) (fun i _ => c j - (intOf i).toNat)
            case atStart => exact ⟨0, Nat.zero_le _, rfl, rfl⟩
            case round =>
              obtain ⟨t, ht, rfl, rfl⟩ := hrel
              by_cases htl : t < c j
              · have hcl := (HTq.out.rows j hjl hpos).cell htl (Nat.zero_add t).symm
                have hov : ovV f k 0 j t = .int .u8 ((j : Int) + 1) := by unfold ovV; rw [if_pos (by have := HK.out; omega)]
                rw [hov] at hcl
                clear hov
                obtain ⟨j1, ej, hj1⟩ : ∃ j1 : Nat, (j : Int) + 1 = j1 ∧ j + 1 = j1 := ⟨j + 1, by omega, rfl⟩
                rw [ej] at hcl
                have hj13 : j1 ≤ 200 := by omega
                clear hj1
                go_wp2_with fail
                go_roundw
                case rel => exact ⟨t + 1, by omega, by go_num, trivial⟩
                case measure => simp [intOf]; omega
              · obtain rfl : t = c j := by omega
                go_wp2_with fail
                go_roundw
                case rel => exact ⟨j + 1, by omega, by go_num, HTq.out, HBq.out⟩
                case measure => simp [intOf]; omega
        · obtain rfl : j = R := by omega
          go_wp2_with fail
          go_ret
          exact ⟨rfl, HB5.out⟩
theorem ovV_none (f : Nat → Nat → Value) (j t : Nat) : ovV f 0 0 j t = f j t := by unfold ovV; rw [if_neg (by omega)]
/-- a row that may be written to its end -/
def OwnR (W : World) (A : Option Addr) (c g : Nat) : Prop := 0 < c → A = some ⟨g, 0, none⟩ ∧ ∃ f, ArrV W g 0 c f
namespace OwnR
variable {W W' : World} {A : Option Addr} {c g : Nat}
theorem of_block (h : OwnR W A c g) (e : W'.heap[g]? = W.heap[g]?) : OwnR W' A c g := fun hc => by
  obtain ⟨h1, f, h2⟩ := h hc
  exact ⟨h1, f, h2.of_block e⟩
theorem lt (h : OwnR W A c g) (hc : 0 < c) : g < W.heap.size := by
  obtain ⟨_, f, h2⟩ := h hc
  exact h2.lt hc
theorem keep (h : OwnR W A c g) (hb : Below W.heap.size W W') : OwnR W' A c g := fun hc => h.of_block (hb.block g (h.lt hc)) hc
theorem chg {K : Nat} (h : OwnR W A c g) (hb : Chg K W W') (hK : g ≠ K) : OwnR W' A c g := fun hc => h.of_block (hb.block g (h.lt hc) hK) hc
theorem arr {f : Nat → Nat} (h : Arr W g 0 c f) : OwnR W (some ⟨g, 0, none⟩) c g := fun _ => ⟨rfl, fun j => .int .u8 (f j : Nat), h⟩
end OwnR
theorem OwnB.ownR {w : World} {base n : Nat} {v : Value} {f : Nat → Nat} (h : OwnB w base v n f) : ∃ A c g, v = .slice A n c ∧ OwnR w A c g ∧ (0 < c → base ≤ g) ∧ c ≤ maxLen ∧ n ≤ c := by
  rcases h.2 with ⟨rfl, hn⟩ | ⟨g, cap, cur, rfl, hg, hh, h1, h2, h3, _⟩
  · subst hn; exact ⟨none, 0, 0, rfl, fun h => absurd h (Nat.lt_irrefl 0), fun h => absurd h (Nat.lt_irrefl 0), by unfold maxLen; omega, Nat.le_refl _⟩
  · refine ⟨_, cap, g, rfl, fun _ => ⟨rfl, fun j => cur.getD j undef, fun j hj => ⟨?_, ?_⟩⟩, fun _ => hg, h2, h1⟩
    · simp only [World.cell?, hh]
      rw [Nat.zero_add]
      simp [show j < cur.size by omega]
    · simp [World.frozen?, hh]
/-- rows, just put into a row -/
theorem owned_rows (R : Nat) (W : World) (cs : Array Value) (A : Nat → Option Addr) (n c g : Nat → Nat) (hR : R ≤ 200) (hcs : ∀ j, j < R → cs[j]? = some (.slice (A j) (n j) (c j))) (h : ∀ j, j < R → OwnR W (A j) (c j) (g j))
    (hne : ∀ i j, i < j → j < R → 0 < c i → 0 < c j → g i ≠ g j) (hl : ∀ j, j < R → c j ≤ 9223372036854775807) :
    Calls Tryz.prog 12 #[.slice (some ⟨W.heap.size, 0, none⟩) R R] (W.alloc (.cells cs 22)) fun e w' => e = .returned (.bool true) ∧ ChgS (InR R c g) W w' := by
  have hch : ∀ j, ∃ f : Nat → Value, j < R → 0 < c j → ArrV W (g j) 0 (c j) f := fun j => by
    by_cases hj : j < R ∧ 0 < c j
    · obtain ⟨_, f, hf⟩ := h j hj.1 hj.2
      exact ⟨f, fun _ _ => hf⟩
    · exact ⟨fun _ => undef, fun h1 h2 => absurd ⟨h1, h2⟩ hj⟩
  obtain ⟨f, hf⟩ := Classical.axiomOfChoice hch
  refine (owned_vals (R := R) (A := A) (n := n) (c := c) (g := g) (f := f) R _ hR ⟨fun j hj => ?_, fun j hj hc => ?_⟩ (fun j hj hc => (h j hj hc).1) ?_ ?_ hl).mono ?_
  · exact (World.cell?_alloc_at _ _ _ _ rfl).trans (hcs j hj)
  · exact ((hf j hj hc).alloc _).congr fun t _ => (ovV_none f j t).symm
  · intro i j hi hj hij ci cj
    rcases Nat.lt_or_ge i j with h1 | h1
    · exact hne i j h1 hj ci cj
    · exact (hne j i (by omega) hi cj ci).symm
  · exact fun j hj hc => Nat.ne_of_gt ((h j hj).lt hc)
  rintro e w' ⟨he, h⟩
  refine ⟨he, h.os, h.tape, h.output, Nat.le_trans (by simp) h.size, fun k hk hn => ?_⟩
  rw [h.block k (by simp; omega) hn]
  exact Below.heap_alloc W _ k hk
/-- one of four -/
def q4 {α : Type} (x y z u : α) (j : Nat) : α := if j = 0 then x else if j = 1 then y else if j = 2 then z else u
theorem four_of {j : Nat} (h : j < 4) : j = 0 ∨ j = 1 ∨ j = 2 ∨ j = 3 := by omega
end Go.Proofs.YtgcdnhjjoidpmaaGreatDoor
/- BoxSeals. -/
namespace Go.Proofs.YtgcdnhjjoidpmaaGreatDoor
open Go.RowKit
set_option maxRecDepth 100000 in
set_option maxHeartbeats 1600000 in
theorem bseals_out (len cap nt ct na ca m cp : Nat) (N K : Int) (Ae At Ab P : Option Addr) (w : World) (ht : GT w) (h : ¬ (len ≤ 1024 ∧ nt ≤ 1024 ∧ na ≤ 1024 ∧ m ≤ 1024)) :
    Calls Tryz.prog 3 #[.slice Ae len cap, .slice At nt ct, .int .i64 N, .slice Ab na ca, .slice P m cp, .int .i64 K] w fun e w' => e = .returned (.bool true) ∧ Below w.heap.size w w' := by
  have HS := Lib.hid (small8_any w ht)
  have HF := Lib.hid (fun w => fits4_not w Ae At Ab P len nt na m cap ct ca cp h)
  clear ht h
  go_enter Tryz.func3, Tryz.ntmps3
  go_wp2_with fail
  refine HS.out.mono ?_
  rintro e w1 ⟨rfl, h1⟩
  have H1 := Lib.hid h1
  clear h1
  go_wp2_with fail
  refine (HF.out w1).mono ?_
  rintro e w2 ⟨rfl, h2⟩
  have H2 := Lib.hid (H1.out.trans (h2.mono H1.out.size))
  clear h2
  go_wp2_with fail
  go_ret
  exact ⟨rfl, H2.out⟩
/-- three rows of which one may be empty, just put into a row -/
theorem owned_3 (W : World) (A0 A1 A2 : Option Addr) (n0 n1 n2 c0 c1 c2 g0 g1 g2 B : Nat) (h0 : OwnR W A0 c0 g0) (h1 : OwnR W A1 c1 g1) (h2 : OwnR W A2 c2 g2) (b0 : 0 < c0 → B ≤ g0) (b1 : 0 < c1 → B ≤ g1) (b2 : 0 < c2 → B ≤ g2)
    (n01 : 0 < c0 → 0 < c1 → g0 ≠ g1) (n02 : 0 < c0 → 0 < c2 → g0 ≠ g2) (n12 : 0 < c1 → 0 < c2 → g1 ≠ g2) (l0 : c0 ≤ 9223372036854775807) (l1 : c1 ≤ 9223372036854775807) (l2 : c2 ≤ 9223372036854775807) (hB : B ≤ W.heap.size) :
    Calls Tryz.prog 12 #[.slice (some ⟨W.heap.size, 0, none⟩) 3 3] (W.alloc (.cells #[.slice A0 n0 c0, .slice A1 n1 c1, .slice A2 n2 c2] 22)) fun e w' => e = .returned (.bool true) ∧ Below B W w' := by
  refine (owned_rows 3 W #[.slice A0 n0 c0, .slice A1 n1 c1, .slice A2 n2 c2] (q3 A0 A1 A2) (q3 n0 n1 n2) (q3 c0 c1 c2) (q3 g0 g1 g2) (by decide) (fun j hj => by rcases three_of hj with rfl | rfl | rfl <;> rfl) (fun j hj => ?_) (fun i j hij hj => ?_) (fun j hj => ?_)).mono ?_
  · rcases three_of hj with rfl | rfl | rfl
    · exact h0
    · exact h1
    · exact h2
  · rcases (show (i = 0 ∧ j = 1) ∨ (i = 0 ∧ j = 2) ∨ (i = 1 ∧ j = 2) by omega) with ⟨rfl, rfl⟩ | ⟨rfl, rfl⟩ | ⟨rfl, rfl⟩
    · exact n01
    · exact n02
    · exact n12
  · rcases three_of hj with rfl | rfl | rfl
    · exact l0
    · exact l1
    · exact l2
  rintro e w' ⟨he, h⟩
  refine ⟨he, h.below hB fun k hk => ?_⟩
  obtain ⟨j, hj, hc, rfl⟩ := hk
  rcases three_of hj with rfl | rfl | rfl
  · exact b0 hc
  · exact b1 hc
  · exact b2 hc
theorem lent_own {w : World} {g len : Nat} {b : Nat → Nat} (h : w.rowIs g 5 (len + 1) (fun j => .int .u8 (if j < len then b j else 77 : Nat))) : OwnR w (some ⟨g, 0, none⟩) (len + 1) g := OwnR.arr (lent_arr h)
set_option maxRecDepth 100000 in
set_option maxHeartbeats 3200000 in
theorem bseals_go (len cap nt ct na ca m cp k E : Nat) (N K : Int) (Ae At Ab P : Option Addr) (key tk about p f : Nat → Nat) (w : World) (hi : In4 w Ae At Ab P len nt na m key tk about p) (hl : len ≤ 1024) (hnt : nt ≤ 1024) (hna : na ≤ 1024) (hm : m ≤ 1024) (hf : By k f) (hK : -9223372036854775808 ≤ K ∧ K ≤ 9223372036854775807)
    (hx : ∀ W gK gP, In4 W (some ⟨gK, 0, none⟩) At Ab (some ⟨gP, 0, none⟩) len nt na m key tk about p → Calls Tryz.prog 9 #[.slice (some ⟨gK, 0, none⟩) len (len + 1), .slice At nt ct, .int .i64 N, .slice Ab na ca, .slice (some ⟨gP, 0, none⟩) m (m + 1)] W (SU k f E W))
    (hr : ∀ W, In4 W Ae At Ab P len nt na m key tk about p → Calls Tryz.prog 10 #[.slice Ae len cap, .slice At nt ct, .int .i64 N, .slice Ab na ca, .slice P m cp] W (RSU k f E W)) :
    Calls Tryz.prog 3 #[.slice Ae len cap, .slice At nt ct, .int .i64 N, .slice Ab na ca, .slice P m cp, .int .i64 K] w fun e w' => e = .returned (.bool true) ∧ Below w.heap.size w w' := by
  have HS := Lib.hid (small8_any w hi.gt)
  have HF := Lib.hid (fun w => fits4_all w Ae At Ab P len nt na m cap ct ca cp hl hnt hna hm)
  have HI := Lib.hid hi
  have HL := Lib.hid (show len ≤ 140737488351232 ∧ m ≤ 140737488351232 ∧ len ≤ 1024 ∧ m ≤ 1024 from ⟨by omega, by omega, hl, hm⟩)
  have HX := Lib.hid hx
  have HR := Lib.hid hr
  have HFY := Lib.hid hf
  have HZ := Lib.hid (fun w => size_any K w hK)
  have HZR := Lib.hid (fun w => rsize_any K w hK)
  obtain ⟨z, hz⟩ : ∃ z, sizeI K = z := ⟨_, rfl⟩
  rw [hz] at HZ HZR
  clear hi hl hnt hna hm hx hr hf hK hz
  go_enter Tryz.func3, Tryz.ntmps3
  go_wp2_with fail
  refine HS.out.mono ?_
  rintro e w1 ⟨rfl, h1⟩
  have H1 := Lib.hid h1
  clear h1
  go_wp2_with fail
  refine (HF.out w1).mono ?_
  rintro e w2 ⟨rfl, h2⟩
  have H2 := Lib.hid (H1.out.trans (h2.mono H1.out.size))
  clear h2
  go_wp2_with fail
  refine (lent_any P m cp p w2 HL.out.2.1 (HI.out.keep H2.out).txt).mono ?_
  rintro e w3 ⟨gP, rfl, h1, h2, h3⟩
  have HGP := Lib.hid (Nat.le_trans H2.out.size h1)
  have HP3 := Lib.hid h2
  have H3 := Lib.hid (H2.out.trans (h3.mono H2.out.size))
  clear h1 h2 h3
  go_wp2_with fail
  refine (lent_any Ae len cap key w3 HL.out.1 (HI.out.keep H3.out).enc).mono ?_
  rintro e w4 ⟨gK, rfl, h1, h2, h3⟩
  have HGK := Lib.hid (Nat.le_trans H3.out.size h1)
  have HK4 := Lib.hid h2
  have HP4 := Lib.hid (HP3.out.of_block (h3.block gP HP3.out.lt))
  have HKP := Lib.hid (show gP < gK from Nat.lt_of_lt_of_le HP3.out.lt h1)
  have H4 := Lib.hid (H3.out.trans (h3.mono H3.out.size))
  clear h1 h2 h3
  have HI4 := HI.out.keep H4.out
  have HQ := Lib.hid (HX.out w4 gK gP ⟨lent_slB HK4.out (fun j hj => HI4.enc.byte hj), HI4.tag, HI4.abt, lent_slB HP4.out (fun j hj => HI4.txt.byte hj), HI4.gt⟩)
  clear HI4 HX
  go_wp2_with fail
  refine HQ.out.mono ?_
  rintro e w5 ⟨AX, cX, rfl, h1, h4⟩
  obtain ⟨AX', cX', gX, eX, ho, hg, hcl, _⟩ := h1.ownR
  cases eX
  obtain ⟨AY, cY, eY, hs⟩ := OwnB.slice h1 HFY.out
  cases eY
  have HX5 := Lib.hid hs
  have HO5 := Lib.hid ho
  have HGX := Lib.hid hg
  have HCL := Lib.hid (show cX ≤ 9223372036854775807 from hcl)
  have HP5 := Lib.hid (HP4.out.of_block (h4.block gP HP4.out.lt))
  have HK5 := Lib.hid (HK4.out.of_block (h4.block gK HK4.out.lt))
  have H5 := Lib.hid (H4.out.trans (h4.mono H4.out.size))
  clear h1 h4 ho hg hcl hs HQ
  go_wp2_with fail
  refine (HR.out w5 (HI.out.keep H5.out)).mono ?_
  rintro e w6 ⟨AR, cR, rfl, h1, h4⟩
  have HX6 := Lib.hid (HX5.out.keep h4)
  have HR6 := Lib.hid h1
  have HO6 := Lib.hid (HO5.out.keep h4)
  have HP6 := Lib.hid (HP5.out.of_block (h4.block gP HP5.out.lt))
  have HK6 := Lib.hid (HK5.out.of_block (h4.block gK HK5.out.lt))
  have H6 := Lib.hid (H5.out.trans (h4.mono H5.out.size))
  clear h1 h4
  go_wp2_with fail
  refine (kept_any gP P m cp p w6 HL.out.2.1 (HI.out.keep H6.out).txt HP6.out).mono ?_
  rintro e w7 ⟨rfl, rfl⟩
  go_wp2_with fail
  refine (kept_any gK Ae len cap key w6 HL.out.1 (HI.out.keep H6.out).enc HK6.out).mono ?_
  rintro e w7 ⟨rfl, rfl⟩
  have hcx := convSl (cap := cX) HX6.out (Nat.le_refl k)
  have hcr := convSl (cap := cR) HR6.out (Nat.le_refl k)
  obtain ⟨X, hX⟩ : ∃ X, strOf k f = X := ⟨_, rfl⟩
  rw [hX] at hcx hcr
  clear hX
  go_wp2_with fail
  refine (owned_3 w6 AX (some ⟨gP, 0, none⟩) (some ⟨gK, 0, none⟩) k m len cX (m + 1) (len + 1) gX gP gK w.heap.size HO6.out (lent_own HP6.out) (lent_own HK6.out) (fun h => Nat.le_trans H4.out.size (HGX.out h)) (fun _ => HGP.out) (fun _ => HGK.out)
    (fun h _ => Nat.ne_of_gt (Nat.lt_of_lt_of_le HP4.out.lt (HGX.out h))) (fun h _ => Nat.ne_of_gt (Nat.lt_of_lt_of_le HK4.out.lt (HGX.out h))) (fun _ _ => Nat.ne_of_lt HKP.out) HCL.out (by have := HL.out; omega) (by have := HL.out; omega) H6.out.size).mono ?_
  rintro e w8 ⟨rfl, hb⟩
  have H8 := Lib.hid (H6.out.trans hb)
  clear hb
  go_wp2_with fail
  refine (HZ.out w8).mono ?_
  rintro e w9 ⟨rfl, rfl⟩
  go_wp2_with fail
  refine (HZR.out w8).mono ?_
  rintro e w9 ⟨rfl, rfl⟩
  go_wp2_with fail
  go_ret
  exact ⟨rfl, H8.out⟩
theorem bseals_all (len cap nt ct na ca m cp : Nat) (N K : Int) (Ae At Ab P : Option Addr) (key tk about p : Nat → Nat) (w : World) (hN : N ≤ 9223372036854775807) (hK : -9223372036854775808 ≤ K ∧ K ≤ 9223372036854775807) (hcap : len ≤ cap) (hct : nt ≤ ct) (hac : na ≤ ca) (hTn : At = none → nt = 0 ∧ ct = 0) (hAn : Ab = none → na = 0 ∧ ca = 0)
    (hE : SlB w Ae len key) (hT : SlB w At nt tk) (hA : SlB w Ab na about) (hP : SlB w P m p) (ht : GT w) :
    Calls Tryz.prog 3 #[.slice Ae len cap, .slice At nt ct, .int .i64 N, .slice Ab na ca, .slice P m cp, .int .i64 K] w fun e w' => e = .returned (.bool true) ∧ Below w.heap.size w w' := by
  by_cases h : len ≤ 1024 ∧ nt ≤ 1024 ∧ na ≤ 1024 ∧ m ≤ 1024
  · obtain ⟨hl, hnt, hna, hm⟩ := h
    have hi : In4 w Ae At Ab P len nt na m key tk about p := ⟨hE, hT, hA, hP, ht⟩
    by_cases hw : wrong len N 0
    · exact bseals_go len cap nt ct na ca m cp 0 1 N K Ae At Ab P key tk about p (fun _ => 0) w hi hl hnt hna hm (fun j hj => absurd hj (Nat.not_lt_zero j)) hK
        (fun W gK gP hi => seal1_wrong nt len (len + 1) ct na ca m (m + 1) N _ At Ab _ tk W (by omega) hw (by omega) hct hi.tag hi.gt)
        (fun W hi => rseal_wrong len cap nt ct na ca m cp N Ae At Ab P key W (by omega) hcap hi.enc hw)
    · obtain ⟨n, N', _, hn, hl4, rfl, _⟩ := right_of hw
      exact bseals_go len cap nt ct na ca m cp (24 + m) 0 N' K Ae At Ab P key tk about p _ w hi hl hnt hna hm (sealF_by (xorf_lt hn (fun j hj => hE.byte (by omega)) (fun j hj => hP.byte hj))) hK
        (fun W gK gP hi => seal1_any nt len n (len + 1) ct N' na ca m (m + 1) _ At Ab _ tk key about p W hn hl4 hi.enc hi.abt hi.txt (by omega) (by omega) (by omega) hac (by omega) hct hi.tag hi.gt)
        (fun W hi => rseal_any len n cap nt ct na ca m cp N' Ae At Ab P key tk about p W hn hl4 hcap hi.enc hi.txt (by omega) (by omega) (by omega) (by omega) hi.tag hTn hi.abt hAn)
  · exact bseals_out len cap nt ct na ca m cp N K Ae At Ab P w ht h
end Go.Proofs.YtgcdnhjjoidpmaaGreatDoor
/- The reference of layer 8: Open. -/
namespace Go.Proofs.YtgcdnhjjoidpmaaGreatDoor
open Go.RowKit
/-- what the reference's Open answers -/
def ROU (k : Nat) (f : Nat → Nat) (N E : Nat) (w : World) (e : Ending) (w' : World) : Prop :=
  ∃ A c, e = .returned (.tuple #[.slice A k c, .int .i64 (N : Nat), .int .i64 (E : Nat)]) ∧ SlB w' A k f ∧ Below w.heap.size w w'
theorem strOf_inj {n : Nat} {f g : Nat → Nat} (h : strOf n f = strOf n g) (hf : ∀ j, j < n → f j < 256) (hg : ∀ j, j < n → g j < 256) (j : Nat) (hj : j < n) : f j = g j := by
  have h1 := strOf_at n f 0 j hj (hf j hj)
  have h2 := strOf_at n g 0 j hj (hg j hj)
  rw [h] at h1
  exact h1.symm.trans h2
theorem str_ne {s t : ByteArray} (h : s ≠ t) : (s.toList == t.toList) = false := by
  rw [beq_eq_false_iff_ne]
  intro e
  rw [ByteArray.toList_eq, ByteArray.toList_eq] at e
  exact h (ByteArray.ext (Array.ext' e))
set_option maxRecDepth 100000 in
theorem ropen_arg (len cap nt ct na ca nb cb : Nat) (Ae At Ab Bb : Option Addr) (w : World) (hl : len ≤ 140737488351232) (h : len ≠ 16 ∧ len ≠ 32) :
    Calls Tryz.prog 16 #[.slice Ae len cap, .slice At nt ct, .slice Ab na ca, .slice Bb nb cb] w (ROU 0 (fun _ => 0) 0 1 w) := by
  have HC := Lib.hid (rnew_short Ae len cap w h.1 h.2 hl)
  clear h hl
  go_enter Tryz.func16, Tryz.ntmps16
  go_wp2_with fail
  refine HC.out.mono ?_
  rintro e w1 ⟨rfl, rfl⟩
  go_wp2_with fail
  go_ret3
  exact ⟨none, 0, rfl, SlB.none0 _ _, Below.refl _ _⟩
set_option maxRecDepth 100000 in
theorem ropen_end (len n cap nt ct na ca nb cb : Nat) (Ae At Ab Bb : Option Addr) (key : Nat → Nat) (w : World) (hn : n = 4 ∨ n = 8) (hl : 4 * n = len) (hc : len ≤ cap) (hE : SlB w Ae len key) (hb : nb < 24) :
    Calls Tryz.prog 16 #[.slice Ae len cap, .slice At nt ct, .slice Ab na ca, .slice Bb nb cb] w (ROU 0 (fun _ => 0) 0 3 w) := by
  have HC := Lib.hid (rnew_at Ae len n cap key w hl hn hc hE)
  have hd : decide ((nb : Int) < 24) = true := by rw [decide_eq_true_eq]; omega
  clear hn hl hc hE hb
  go_enter Tryz.func16, Tryz.ntmps16
  go_wp2_with fail
  refine HC.out.mono ?_
  rintro e w1 ⟨g, rfl, _, _, h1⟩
  have H1 := Lib.hid h1
  clear h1
  go_wp2_with fail
  go_ret3
  exact ⟨none, 0, rfl, SlB.none0 _ _, H1.out⟩
set_option maxRecDepth 100000 in
theorem ropen_long (len n cap nt ct na ca nb cb : Nat) (Ae At Ab Bb : Option Addr) (key : Nat → Nat) (w : World) (hn : n = 4 ∨ n = 8) (hl : 4 * n = len) (hc : len ≤ cap) (hE : SlB w Ae len key) (hb : 65560 < nb) :
    Calls Tryz.prog 16 #[.slice Ae len cap, .slice At nt ct, .slice Ab na ca, .slice Bb nb cb] w (ROU 0 (fun _ => 0) 0 2 w) := by
  have HC := Lib.hid (rnew_at Ae len n cap key w hl hn hc hE)
  have hd : decide ((nb : Int) < 24) = false := by rw [decide_eq_false_iff_not]; omega
  have hd2 : decide ((65560 : Int) < (nb : Nat)) = true := by rw [decide_eq_true_eq]; omega
  clear hn hl hc hE hb
  go_enter Tryz.func16, Tryz.ntmps16
  go_wp2_with fail
  refine HC.out.mono ?_
  rintro e w1 ⟨g, rfl, _, _, h1⟩
  have H1 := Lib.hid h1
  clear h1
  go_wp2_with fail
  go_ret3
  exact ⟨none, 0, rfl, SlB.none0 _ _, H1.out⟩
--DEFS ro
def roG (Bb : Option Addr) (nb cb M : Nat) (b : Nat → Nat) (At : Option Addr) (nt ct : Nat) (tk : Nat → Nat) (Ab : Option Addr) (na ca : Nat) (about : Nat → Nat) (S1 S2 : ByteArray) : Nat → Value → World → Prop
  | 0, v, _ => v = .slice At nt ct
  | 1, v, _ => v = .slice Ab na ca
  | 2, v, _ => v = .slice Bb nb cb
  | 3, v, _ => v = .int .i64 (M : Nat)
  | 4, v, _ => v = .slice (loA Bb cb) M cb
  | 5, v, w => ∃ A c, v = .slice A 16 c ∧ SlB w A 16 (btag nt tk na about M b)
  | 6, v, _ => v = .string S1
  | 7, v, _ => v = .slice Bb nb cb
  | 8, v, _ => v = .int .i64 (M : Nat)
  | 9, v, _ => v = .slice (hiA Bb cb M) 16 (cb - M)
  | 10, v, _ => v = .string S2
  | _, _, _ => True
theorem roG_stays (Bb : Option Addr) (nb cb M : Nat) (b : Nat → Nat) (At : Option Addr) (nt ct : Nat) (tk : Nat → Nat) (Ab : Option Addr) (na ca : Nat) (about : Nat → Nat) (S1 S2 : ByteArray) : ∀ i v w w', roG Bb nb cb M b At nt ct tk Ab na ca about S1 S2 i v w → Below w.heap.size w w' → roG Bb nb cb M b At nt ct tk Ab na ca about S1 S2 i v w'
  | 0, _, _, _, h, _ => h
  | 1, _, _, _, h, _ => h
  | 2, _, _, _, h, _ => h
  | 3, _, _, _, h, _ => h
  | 4, _, _, _, h, _ => h
  | 5, v, w, w', h_, hb => by
    obtain ⟨A, c, h1, h2⟩ := h_; exact ⟨A, c, h1, h2.keep hb⟩
  | 6, _, _, _, h, _ => h
  | 7, _, _, _, h, _ => h
  | 8, _, _, _, h, _ => h
  | 9, _, _, _, h, _ => h
  | 10, _, _, _, h, _ => h
  | _ + 11, _, _, _, _, _ => trivial
--END DEFS ro
set_option maxRecDepth 100000 in
set_option maxHeartbeats 1600000 in
theorem ropen_tag (len n cap nt ct na ca nb cb : Nat) (Ae At Ab Bb : Option Addr) (key tk about b : Nat → Nat) (w : World) (hn : n = 4 ∨ n = 8) (hl : 4 * n = len) (hc : len ≤ cap) (hE : SlB w Ae len key) (hT : SlB w At nt tk) (hTn : At = none → nt = 0 ∧ ct = 0) (hA : SlB w Ab na about) (hAn : Ab = none → na = 0 ∧ ca = 0) (hB : SlB w Bb nb b) (hb1 : 24 ≤ nb) (hb2 : nb ≤ 65560) (hbc : nb ≤ cb)
    (hnt : nt ≤ 100000000000) (hna : na ≤ 100000000000) (hs : sameB 16 16 (fun j => b (nb - 16 + j)) (btag nt tk na about (nb - 16) b) = false) :
    Calls Tryz.prog 16 #[.slice Ae len cap, .slice At nt ct, .slice Ab na ca, .slice Bb nb cb] w (ROU 0 (fun _ => 0) 0 7 w) := by
  obtain ⟨M, hM⟩ : ∃ M, nb = M + 16 := ⟨nb - 16, by omega⟩
  have eM : (nb : Int) - 16 = (M : Nat) := by omega
  rw [show nb - 16 = M by omega] at hs
  have hMi : (8 : Int) ≤ (M : Nat) := by omega
  have hMb : (M : Int) ≤ 65544 := by omega
  have HC := Lib.hid (rnew_at Ae len n cap key w hl hn hc hE)
  have hd : decide ((nb : Int) < 24) = false := by rw [decide_eq_false_iff_not]; omega
  have hd2 : decide ((65560 : Int) < (nb : Nat)) = false := by rw [decide_eq_false_iff_not]; omega
  have HSH := Lib.hid (show ∀ w : World, (Instr.sliceAt 22 (.slice Bb nb cb) (some (.int .i64 (M : Int))) none none).run Tryz.prog w = .ok (.slice (hiA Bb cb M) 16 (cb - M)) w from fun w => by
    rw [run_hi w Bb nb cb M (by omega), show nb - M = 16 by omega])
  have HSLo := Lib.hid (fun w : World => run_lo w Bb nb cb M (by omega))
  have HE := Lib.hid hE
  have HT := Lib.hid hT
  have HTN := Lib.hid hTn
  have HA := Lib.hid hA
  have HAN := Lib.hid hAn
  have HB := Lib.hid hB
  have HN := Lib.hid hn
  have HL := Lib.hid hl
  have HCE := Lib.hid hc
  have HNT := Lib.hid hnt
  have HNA := Lib.hid hna
  have HBC := Lib.hid (show M + 16 ≤ cb ∧ M + 16 = nb ∧ nb ≤ 65560 ∧ 8 ≤ M from ⟨by omega, by omega, hb2, by omega⟩)
  have HBY := Lib.hid (show By nb b from fun j hj => hB.byte hj)
  have HHI := Lib.hid (show ∀ w5, SlB w5 Bb nb b → SlB w5 (hiA Bb cb M) 16 (fun j => b (M + j)) from fun w5 h => by
    have h1 := h.hiA (c := cb) (k := M) (by omega) (by omega)
    rwa [show nb - M = 16 by omega] at h1)
  obtain ⟨S1, hS1⟩ : ∃ S1, strOf 16 (btag nt tk na about M b) = S1 := ⟨_, rfl⟩
  obtain ⟨S2, hS2⟩ : ∃ S2, strOf 16 (fun j => b (M + j)) = S2 := ⟨_, rfl⟩
  have hcmp : (S1.toList == S2.toList) = false := str_ne fun e => by
    have h : sameB 16 16 (fun j => b (M + j)) (btag nt tk na about M b) = true := same_of fun j hj => strOf_inj (f := fun j => b (M + j)) (by rw [hS1, hS2, e]) (fun j hj => hB.byte (by omega)) (fun j _ => btag_lt _ _ _ _ _ _ j) j hj
    rw [hs] at h
    cases h
  have HS1 := Lib.hid hS1
  have HS2 := Lib.hid hS2
  clear hn hl hc hE hT hTn hA hAn hB hb1 hb2 hbc hnt hna hs hM hS1 hS2
  go_enter Tryz.func16, Tryz.ntmps16
  go_wp2_with fail
  refine HC.out.mono ?_
  rintro e w1 ⟨g, rfl, _, _, h1⟩
  have H1 := Lib.hid h1
  clear h1 HC
  have HB1 := Lib.hid (HB.out.keep H1.out)
  have HTG := Lib.hid (show ∀ w5, Below w1.heap.size w1 w5 → Calls Tryz.prog 26 #[.slice At nt ct, .slice Ab na ca, .slice (loA Bb cb) M cb] w5 fun e w' => ∃ A c, e = .returned (.slice A 16 c) ∧ 16 ≤ c ∧ SlB w' A 16 (btag nt tk na about M b) ∧ Below w5.heap.size w5 w' from fun w5 hb =>
    rtagged_any At Ab (loA Bb cb) nt ct na ca M cb tk about b w5 HNT.out HNA.out (by have := HBC.out; omega) ((HT.out.keep H1.out).keep hb) HTN.out ((HA.out.keep H1.out).keep hb) HAN.out ((HB1.out.keep hb).loA cb (by have := HBC.out; omega))
      (fun e => absurd e (((HB1.out.keep hb).loA cb (k := M) (by have := HBC.out; omega)).some (by have := HBC.out; omega))))
  have HC1 := Lib.hid (show ∀ (w5 : World) (A : Option Addr) (c : Nat), SlB w5 A 16 (btag nt tk na about M b) → (convert 22 9 (.slice A 16 c)).run Tryz.prog w5 = .ok (.string S1) w5 from fun w5 A c h => by
    have := convSl (cap := c) h (Nat.le_refl 16)
    rwa [HS1.out] at this)
  have HC2 := Lib.hid (show ∀ w5, Below w1.heap.size w1 w5 → (convert 22 9 (.slice (hiA Bb cb M) 16 (cb - M))).run Tryz.prog w5 = .ok (.string S2) w5 from fun w5 hb => by
    have := convSl (cap := cb - M) (HHI.out w5 (HB1.out.keep hb)) (Nat.le_refl 16)
    rwa [HS2.out] at this)
  clear HT HTN HA HAN HNT HNA
  go_wp2_with fail
  refine ord.wp_region_ordT 11 [[], [], [], [], [2, 3], [0, 1, 4], [5], [], [], [7, 8], [9]] [(0, 34), (1, 35), (2, 36), (3, 37), (4, 38), (5, 39), (6, 40), (7, 41), (8, 42), (9, 43), (10, 44)] (roG Bb nb cb M b At nt ct tk Ab na ca about S1 S2) (by kernel_rfl) (by kernel_rfl) (by kernel_rfl) (roG_stays _ _ _ _ _ _ _ _ _ _ _ _ _ _ _) ((ord.steps_cons ?_ (ord.steps_cons ?_ (ord.steps_cons ?_ (ord.steps_cons ?_ (ord.steps_cons ?_ (ord.steps_cons ?_ (ord.steps_cons ?_ (ord.steps_cons ?_ (ord.steps_cons ?_ (ord.steps_cons ?_ (ord.steps_cons ?_ ord.steps_nil)))))))))))) ?_
  --STEPS ro
  · intro o ho x w hb hG
    obtain rfl := Option.some.inj ho
    clear ho
    refine Or.inl ⟨ord.want0 rfl, ?_⟩
    exact ord.makes_move rfl ⟨Below.refl _ _, rfl⟩
  · intro o ho x w hb hG
    obtain rfl := Option.some.inj ho
    clear ho
    refine Or.inl ⟨ord.want0 rfl, ?_⟩
    exact ord.makes_move rfl ⟨Below.refl _ _, rfl⟩
  · intro o ho x w hb hG
    obtain rfl := Option.some.inj ho
    clear ho
    refine Or.inl ⟨ord.want0 rfl, ?_⟩
    exact ord.makes_move rfl ⟨Below.refl _ _, rfl⟩
  · intro o ho x w hb hG
    obtain rfl := Option.some.inj ho
    clear ho
    refine Or.inl ⟨ord.want0 rfl, ?_⟩
    exact ord.makes_move rfl ⟨Below.refl _ _, rfl⟩
  · intro o ho x w hb hG
    obtain rfl := Option.some.inj ho
    clear ho
    have h36 : x 2 = .slice Bb nb cb := hG (2, 36) (List.mem_of_getElem? (i := 2) rfl) rfl
    have h37 : x 3 = .int .i64 (M : Nat) := hG (3, 37) (List.mem_of_getElem? (i := 3) rfl) rfl
    refine Or.inl ⟨ord.want0 rfl, ?_⟩
    exact ord.makes_slice rfl h36 (rfl) (congrArg some h37) (rfl) (by exact HSLo.out w) ⟨Below.refl _ _, rfl⟩
  · intro o ho x w hb hG
    obtain rfl := Option.some.inj ho
    clear ho
    have h34 : x 0 = .slice At nt ct := hG (0, 34) (List.mem_of_getElem? (i := 0) rfl) rfl
    have h35 : x 1 = .slice Ab na ca := hG (1, 35) (List.mem_of_getElem? (i := 1) rfl) rfl
    have h38 : x 4 = .slice (loA Bb cb) M cb := hG (4, 38) (List.mem_of_getElem? (i := 4) rfl) rfl
    refine Or.inl ⟨ord.want0 rfl, ?_⟩
    exact ord.makes_call3 Tryz.func26 (by kernel_rfl) (by kernel_rfl) rfl h34 h35 h38 (HTG.out w (of_drew hb)) (fun e w' h => by obtain ⟨A, c, he, _, h2, h3⟩ := h; exact ⟨_, he, h3, A, c, rfl, h2⟩)
  · intro o ho x w hb hG
    obtain rfl := Option.some.inj ho
    clear ho
    have h39 : roG Bb nb cb M b At nt ct tk Ab na ca about S1 S2 5 (x 5) w := hG (5, 39) (List.mem_of_getElem? (i := 5) rfl) rfl
    refine Or.inl ⟨ord.want0 rfl, ?_⟩
    obtain ⟨A, c, hv, hs⟩ := h39
    exact ord.makes_conv rfl hv (HC1.out w A c hs) ⟨Below.refl _ _, rfl⟩
  · intro o ho x w hb hG
    obtain rfl := Option.some.inj ho
    clear ho
    refine Or.inl ⟨ord.want0 rfl, ?_⟩
    exact ord.makes_move rfl ⟨Below.refl _ _, rfl⟩
  · intro o ho x w hb hG
    obtain rfl := Option.some.inj ho
    clear ho
    refine Or.inl ⟨ord.want0 rfl, ?_⟩
    exact ord.makes_move rfl ⟨Below.refl _ _, rfl⟩
  · intro o ho x w hb hG
    obtain rfl := Option.some.inj ho
    clear ho
    have h41 : x 7 = .slice Bb nb cb := hG (7, 41) (List.mem_of_getElem? (i := 7) rfl) rfl
    have h42 : x 8 = .int .i64 (M : Nat) := hG (8, 42) (List.mem_of_getElem? (i := 8) rfl) rfl
    refine Or.inl ⟨ord.want0 rfl, ?_⟩
    exact ord.makes_slice rfl h41 (congrArg some h42) (rfl) (rfl) (by exact HSH.out w) ⟨Below.refl _ _, rfl⟩
  · intro o ho x w hb hG
    obtain rfl := Option.some.inj ho
    clear ho
    have h43 : x 9 = .slice (hiA Bb cb M) 16 (cb - M) := hG (9, 43) (List.mem_of_getElem? (i := 9) rfl) rfl
    refine Or.inl ⟨ord.want0 rfl, ?_⟩
    exact ord.makes_conv rfl h43 (HC2.out w (of_drew hb)) ⟨Below.refl _ _, rfl⟩
  --END STEPS ro
  · intro x w5 hb hG
    have e40 : x 6 = .string S1 := hG (6, 40) (List.mem_of_getElem? (i := 6) rfl)
    have e44 : x 10 = .string S2 := hG (10, 44) (List.mem_of_getElem? (i := 10) rfl)
    clear hG
    have H5 := Lib.hid (H1.out.trans (hb.mono H1.out.size))
    clear hb
    simp only [ord.puts, ord.put', if_true]
    rw [e40, e44]
    clear e40 e44
    simp only [List.drop_succ_cons, List.drop_zero]
    go_wp2_with fail
    go_ret3
    exact ⟨none, 0, rfl, SlB.none0 _ _, H5.out⟩
set_option maxRecDepth 100000 in
set_option maxHeartbeats 1600000 in
theorem ropen_neg (len n cap nt ct na ca nb cb : Nat) (Ae At Ab Bb : Option Addr) (key tk about b : Nat → Nat) (w : World) (hn : n = 4 ∨ n = 8) (hl : 4 * n = len) (hc : len ≤ cap) (hE : SlB w Ae len key) (hT : SlB w At nt tk) (hTn : At = none → nt = 0 ∧ ct = 0) (hA : SlB w Ab na about) (hAn : Ab = none → na = 0 ∧ ca = 0) (hB : SlB w Bb nb b) (hb1 : 24 ≤ nb) (hb2 : nb ≤ 65560) (hbc : nb ≤ cb)
    (hnt : nt ≤ 100000000000) (hna : na ≤ 100000000000) (hs : sameB 16 16 (fun j => b (nb - 16 + j)) (btag nt tk na about (nb - 16) b) = true) (hbig : 127 < b 0) :
    Calls Tryz.prog 16 #[.slice Ae len cap, .slice At nt ct, .slice Ab na ca, .slice Bb nb cb] w (ROU 0 (fun _ => 0) 0 1 w) := by
  obtain ⟨M, hM⟩ : ∃ M, nb = M + 16 := ⟨nb - 16, by omega⟩
  have eM : (nb : Int) - 16 = (M : Nat) := by omega
  rw [show nb - 16 = M by omega] at hs
  have hMi : (8 : Int) ≤ (M : Nat) := by omega
  have hMb : (M : Int) ≤ 65544 := by omega
  have HC := Lib.hid (rnew_at Ae len n cap key w hl hn hc hE)
  have hd : decide ((nb : Int) < 24) = false := by rw [decide_eq_false_iff_not]; omega
  have hd2 : decide ((65560 : Int) < (nb : Nat)) = false := by rw [decide_eq_false_iff_not]; omega
  have HSH := Lib.hid (show ∀ w : World, (Instr.sliceAt 22 (.slice Bb nb cb) (some (.int .i64 (M : Int))) none none).run Tryz.prog w = .ok (.slice (hiA Bb cb M) 16 (cb - M)) w from fun w => by
    rw [run_hi w Bb nb cb M (by omega), show nb - M = 16 by omega])
  have HSLo := Lib.hid (fun w : World => run_lo w Bb nb cb M (by omega))
  have HE := Lib.hid hE
  have HT := Lib.hid hT
  have HTN := Lib.hid hTn
  have HA := Lib.hid hA
  have HAN := Lib.hid hAn
  have HB := Lib.hid hB
  have HN := Lib.hid hn
  have HL := Lib.hid hl
  have HCE := Lib.hid hc
  have HNT := Lib.hid hnt
  have HNA := Lib.hid hna
  have HBC := Lib.hid (show M + 16 ≤ cb ∧ M + 16 = nb ∧ nb ≤ 65560 ∧ 8 ≤ M from ⟨by omega, by omega, hb2, by omega⟩)
  have HBY := Lib.hid (show By nb b from fun j hj => hB.byte hj)
  have HHI := Lib.hid (show ∀ w5, SlB w5 Bb nb b → SlB w5 (hiA Bb cb M) 16 (fun j => b (M + j)) from fun w5 h => by
    have h1 := h.hiA (c := cb) (k := M) (by omega) (by omega)
    rwa [show nb - M = 16 by omega] at h1)
  obtain ⟨S1, hS1⟩ : ∃ S1, strOf 16 (btag nt tk na about M b) = S1 := ⟨_, rfl⟩
  obtain ⟨S2, hS2⟩ : ∃ S2, strOf 16 (fun j => b (M + j)) = S2 := ⟨_, rfl⟩
  have HCMP := Lib.hid (show S2 = S1 from by rw [← hS1, ← hS2]; exact strOf_congr 16 _ _ (same_at hs))
  have HBIG := Lib.hid hbig
  clear hbig
  have HS1 := Lib.hid hS1
  have HS2 := Lib.hid hS2
  clear hn hl hc hE hT hTn hA hAn hB hb1 hb2 hbc hnt hna hs hM hS1 hS2
  go_enter Tryz.func16, Tryz.ntmps16
  go_wp2_with fail
  refine HC.out.mono ?_
  rintro e w1 ⟨g, rfl, _, _, h1⟩
  have H1 := Lib.hid h1
  clear h1 HC
  have HB1 := Lib.hid (HB.out.keep H1.out)
  have HTG := Lib.hid (show ∀ w5, Below w1.heap.size w1 w5 → Calls Tryz.prog 26 #[.slice At nt ct, .slice Ab na ca, .slice (loA Bb cb) M cb] w5 fun e w' => ∃ A c, e = .returned (.slice A 16 c) ∧ 16 ≤ c ∧ SlB w' A 16 (btag nt tk na about M b) ∧ Below w5.heap.size w5 w' from fun w5 hb =>
    rtagged_any At Ab (loA Bb cb) nt ct na ca M cb tk about b w5 HNT.out HNA.out (by have := HBC.out; omega) ((HT.out.keep H1.out).keep hb) HTN.out ((HA.out.keep H1.out).keep hb) HAN.out ((HB1.out.keep hb).loA cb (by have := HBC.out; omega))
      (fun e => absurd e (((HB1.out.keep hb).loA cb (k := M) (by have := HBC.out; omega)).some (by have := HBC.out; omega))))
  have HC1 := Lib.hid (show ∀ (w5 : World) (A : Option Addr) (c : Nat), SlB w5 A 16 (btag nt tk na about M b) → (convert 22 9 (.slice A 16 c)).run Tryz.prog w5 = .ok (.string S1) w5 from fun w5 A c h => by
    have := convSl (cap := c) h (Nat.le_refl 16)
    rwa [HS1.out] at this)
  have HC2 := Lib.hid (show ∀ w5, Below w1.heap.size w1 w5 → (convert 22 9 (.slice (hiA Bb cb M) 16 (cb - M))).run Tryz.prog w5 = .ok (.string S2) w5 from fun w5 hb => by
    have := convSl (cap := cb - M) (HHI.out w5 (HB1.out.keep hb)) (Nat.le_refl 16)
    rwa [HS2.out] at this)
  clear HT HTN HA HAN HNT HNA
  go_wp2_with fail
  refine ord.wp_region_ordT 11 [[], [], [], [], [2, 3], [0, 1, 4], [5], [], [], [7, 8], [9]] [(0, 34), (1, 35), (2, 36), (3, 37), (4, 38), (5, 39), (6, 40), (7, 41), (8, 42), (9, 43), (10, 44)] (roG Bb nb cb M b At nt ct tk Ab na ca about S1 S2) (by kernel_rfl) (by kernel_rfl) (by kernel_rfl) (roG_stays _ _ _ _ _ _ _ _ _ _ _ _ _ _ _) ((ord.steps_cons ?_ (ord.steps_cons ?_ (ord.steps_cons ?_ (ord.steps_cons ?_ (ord.steps_cons ?_ (ord.steps_cons ?_ (ord.steps_cons ?_ (ord.steps_cons ?_ (ord.steps_cons ?_ (ord.steps_cons ?_ (ord.steps_cons ?_ ord.steps_nil)))))))))))) ?_
  --STEPS ro
  · intro o ho x w hb hG
    obtain rfl := Option.some.inj ho
    clear ho
    refine Or.inl ⟨ord.want0 rfl, ?_⟩
    exact ord.makes_move rfl ⟨Below.refl _ _, rfl⟩
  · intro o ho x w hb hG
    obtain rfl := Option.some.inj ho
    clear ho
    refine Or.inl ⟨ord.want0 rfl, ?_⟩
    exact ord.makes_move rfl ⟨Below.refl _ _, rfl⟩
  · intro o ho x w hb hG
    obtain rfl := Option.some.inj ho
    clear ho
    refine Or.inl ⟨ord.want0 rfl, ?_⟩
    exact ord.makes_move rfl ⟨Below.refl _ _, rfl⟩
  · intro o ho x w hb hG
    obtain rfl := Option.some.inj ho
    clear ho
    refine Or.inl ⟨ord.want0 rfl, ?_⟩
    exact ord.makes_move rfl ⟨Below.refl _ _, rfl⟩
  · intro o ho x w hb hG
    obtain rfl := Option.some.inj ho
    clear ho
    have h36 : x 2 = .slice Bb nb cb := hG (2, 36) (List.mem_of_getElem? (i := 2) rfl) rfl
    have h37 : x 3 = .int .i64 (M : Nat) := hG (3, 37) (List.mem_of_getElem? (i := 3) rfl) rfl
    refine Or.inl ⟨ord.want0 rfl, ?_⟩
    exact ord.makes_slice rfl h36 (rfl) (congrArg some h37) (rfl) (by exact HSLo.out w) ⟨Below.refl _ _, rfl⟩
  · intro o ho x w hb hG
    obtain rfl := Option.some.inj ho
    clear ho
    have h34 : x 0 = .slice At nt ct := hG (0, 34) (List.mem_of_getElem? (i := 0) rfl) rfl
    have h35 : x 1 = .slice Ab na ca := hG (1, 35) (List.mem_of_getElem? (i := 1) rfl) rfl
    have h38 : x 4 = .slice (loA Bb cb) M cb := hG (4, 38) (List.mem_of_getElem? (i := 4) rfl) rfl
    refine Or.inl ⟨ord.want0 rfl, ?_⟩
    exact ord.makes_call3 Tryz.func26 (by kernel_rfl) (by kernel_rfl) rfl h34 h35 h38 (HTG.out w (of_drew hb)) (fun e w' h => by obtain ⟨A, c, he, _, h2, h3⟩ := h; exact ⟨_, he, h3, A, c, rfl, h2⟩)
  · intro o ho x w hb hG
    obtain rfl := Option.some.inj ho
    clear ho
    have h39 : roG Bb nb cb M b At nt ct tk Ab na ca about S1 S2 5 (x 5) w := hG (5, 39) (List.mem_of_getElem? (i := 5) rfl) rfl
    refine Or.inl ⟨ord.want0 rfl, ?_⟩
    obtain ⟨A, c, hv, hs⟩ := h39
    exact ord.makes_conv rfl hv (HC1.out w A c hs) ⟨Below.refl _ _, rfl⟩
  · intro o ho x w hb hG
    obtain rfl := Option.some.inj ho
    clear ho
    refine Or.inl ⟨ord.want0 rfl, ?_⟩
    exact ord.makes_move rfl ⟨Below.refl _ _, rfl⟩
  · intro o ho x w hb hG
    obtain rfl := Option.some.inj ho
    clear ho
    refine Or.inl ⟨ord.want0 rfl, ?_⟩
    exact ord.makes_move rfl ⟨Below.refl _ _, rfl⟩
  · intro o ho x w hb hG
    obtain rfl := Option.some.inj ho
    clear ho
    have h41 : x 7 = .slice Bb nb cb := hG (7, 41) (List.mem_of_getElem? (i := 7) rfl) rfl
    have h42 : x 8 = .int .i64 (M : Nat) := hG (8, 42) (List.mem_of_getElem? (i := 8) rfl) rfl
    refine Or.inl ⟨ord.want0 rfl, ?_⟩
    exact ord.makes_slice rfl h41 (congrArg some h42) (rfl) (rfl) (by exact HSH.out w) ⟨Below.refl _ _, rfl⟩
  · intro o ho x w hb hG
    obtain rfl := Option.some.inj ho
    clear ho
    have h43 : x 9 = .slice (hiA Bb cb M) 16 (cb - M) := hG (9, 43) (List.mem_of_getElem? (i := 9) rfl) rfl
    refine Or.inl ⟨ord.want0 rfl, ?_⟩
    exact ord.makes_conv rfl h43 (HC2.out w (of_drew hb)) ⟨Below.refl _ _, rfl⟩
  --END STEPS ro
  · intro x w5 hb hG
    have e40 : x 6 = .string S1 := hG (6, 40) (List.mem_of_getElem? (i := 6) rfl)
    have e44 : x 10 = .string S2 := hG (10, 44) (List.mem_of_getElem? (i := 10) rfl)
    clear hG
    have H5 := Lib.hid (H1.out.trans (hb.mono H1.out.size))
    clear hb
    simp only [ord.puts, ord.put', if_true]
    rw [e40, e44, HCMP.out]
    clear e40 e44
    simp only [List.drop_succ_cons, List.drop_zero]
    obtain ⟨Bk, ok, hBk, _, hck⟩ := (HB.out.keep H5.out) (by have := HBC.out; omega)
    subst hBk
    have hc0 := (hck 0 (by have := HBC.out; omega)).2
    rw [Nat.add_zero] at hc0
    have hl0 := (hck 0 (by have := HBC.out; omega)).1
    have HCK := Lib.hid hck
    clear hck
    have hdb : decide ((127 : Int) < (b 0 : Nat)) = true := by rw [decide_eq_true_eq]; have := HBIG.out; omega
    have hnbi : (0 : Int) < (nb : Nat) := by omega
    generalize b 0 = y0 at *
    go_wp2_with fail
    go_ret3
    exact ⟨none, 0, rfl, SlB.none0 _ _, H5.out⟩
set_option maxRecDepth 100000 in
set_option maxHeartbeats 1600000 in
theorem ropen_any (len n cap nt ct na ca nb cb : Nat) (Ae At Ab Bb : Option Addr) (key tk about b : Nat → Nat) (w : World) (hn : n = 4 ∨ n = 8) (hl : 4 * n = len) (hc : len ≤ cap) (hE : SlB w Ae len key) (hT : SlB w At nt tk) (hTn : At = none → nt = 0 ∧ ct = 0) (hA : SlB w Ab na about) (hAn : Ab = none → na = 0 ∧ ca = 0) (hB : SlB w Bb nb b) (hb1 : 24 ≤ nb) (hb2 : nb ≤ 65560) (hbc : nb ≤ cb)
    (hnt : nt ≤ 100000000000) (hna : na ≤ 100000000000) (hs : sameB 16 16 (fun j => b (nb - 16 + j)) (btag nt tk na about (nb - 16) b) = true) (hlow : b 0 ≤ 127) :
    Calls Tryz.prog 16 #[.slice Ae len cap, .slice At nt ct, .slice Ab na ca, .slice Bb nb cb] w (ROU (nb - 24) (xorf n key (numE b 8) 0 (fun j => b (8 + j))) (numE b 8) 0 w) := by
  obtain ⟨M, hM⟩ : ∃ M, nb = M + 16 := ⟨nb - 16, by omega⟩
  have eM : (nb : Int) - 16 = (M : Nat) := by omega
  rw [show nb - 16 = M by omega] at hs
  have hMi : (8 : Int) ≤ (M : Nat) := by omega
  have hMb : (M : Int) ≤ 65544 := by omega
  have HC := Lib.hid (rnew_at Ae len n cap key w hl hn hc hE)
  have hd : decide ((nb : Int) < 24) = false := by rw [decide_eq_false_iff_not]; omega
  have hd2 : decide ((65560 : Int) < (nb : Nat)) = false := by rw [decide_eq_false_iff_not]; omega
  have HSH := Lib.hid (show ∀ w : World, (Instr.sliceAt 22 (.slice Bb nb cb) (some (.int .i64 (M : Int))) none none).run Tryz.prog w = .ok (.slice (hiA Bb cb M) 16 (cb - M)) w from fun w => by
    rw [run_hi w Bb nb cb M (by omega), show nb - M = 16 by omega])
  have HSLo := Lib.hid (fun w : World => run_lo w Bb nb cb M (by omega))
  have HE := Lib.hid hE
  have HT := Lib.hid hT
  have HTN := Lib.hid hTn
  have HA := Lib.hid hA
  have HAN := Lib.hid hAn
  have HB := Lib.hid hB
  have HN := Lib.hid hn
  have HL := Lib.hid hl
  have HCE := Lib.hid hc
  have HNT := Lib.hid hnt
  have HNA := Lib.hid hna
  have HBC := Lib.hid (show M + 16 ≤ cb ∧ M + 16 = nb ∧ nb ≤ 65560 ∧ 8 ≤ M from ⟨by omega, by omega, hb2, by omega⟩)
  have HBY := Lib.hid (show By nb b from fun j hj => hB.byte hj)
  have HHI := Lib.hid (show ∀ w5, SlB w5 Bb nb b → SlB w5 (hiA Bb cb M) 16 (fun j => b (M + j)) from fun w5 h => by
    have h1 := h.hiA (c := cb) (k := M) (by omega) (by omega)
    rwa [show nb - M = 16 by omega] at h1)
  obtain ⟨S1, hS1⟩ : ∃ S1, strOf 16 (btag nt tk na about M b) = S1 := ⟨_, rfl⟩
  obtain ⟨S2, hS2⟩ : ∃ S2, strOf 16 (fun j => b (M + j)) = S2 := ⟨_, rfl⟩
  have HCMP := Lib.hid (show S2 = S1 from by rw [← hS1, ← hS2]; exact strOf_congr 16 _ _ (same_at hs))
  have HLOW := Lib.hid (show numE b 8 ≤ 9223372036854775807 from by
    have := (numE_big (f := b) (fun j hj => hB.byte (by omega))).1
    omega)
  have HLO0 := Lib.hid hlow
  have HMID := Lib.hid (fun w : World => run_part w Bb nb cb 8 M (by omega) (by omega))
  rw [show nb - 24 = M - 8 by omega]
  clear hlow
  have HS1 := Lib.hid hS1
  have HS2 := Lib.hid hS2
  clear hn hl hc hE hT hTn hA hAn hB hb1 hb2 hbc hnt hna hs hM hS1 hS2
  go_enter Tryz.func16, Tryz.ntmps16
  go_wp2_with fail
  refine HC.out.mono ?_
  rintro e w1 ⟨g, rfl, _, _, h1⟩
  have H1 := Lib.hid h1
  clear h1 HC
  have HB1 := Lib.hid (HB.out.keep H1.out)
  have HTG := Lib.hid (show ∀ w5, Below w1.heap.size w1 w5 → Calls Tryz.prog 26 #[.slice At nt ct, .slice Ab na ca, .slice (loA Bb cb) M cb] w5 fun e w' => ∃ A c, e = .returned (.slice A 16 c) ∧ 16 ≤ c ∧ SlB w' A 16 (btag nt tk na about M b) ∧ Below w5.heap.size w5 w' from fun w5 hb =>
    rtagged_any At Ab (loA Bb cb) nt ct na ca M cb tk about b w5 HNT.out HNA.out (by have := HBC.out; omega) ((HT.out.keep H1.out).keep hb) HTN.out ((HA.out.keep H1.out).keep hb) HAN.out ((HB1.out.keep hb).loA cb (by have := HBC.out; omega))
      (fun e => absurd e (((HB1.out.keep hb).loA cb (k := M) (by have := HBC.out; omega)).some (by have := HBC.out; omega))))
  have HC1 := Lib.hid (show ∀ (w5 : World) (A : Option Addr) (c : Nat), SlB w5 A 16 (btag nt tk na about M b) → (convert 22 9 (.slice A 16 c)).run Tryz.prog w5 = .ok (.string S1) w5 from fun w5 A c h => by
    have := convSl (cap := c) h (Nat.le_refl 16)
    rwa [HS1.out] at this)
  have HC2 := Lib.hid (show ∀ w5, Below w1.heap.size w1 w5 → (convert 22 9 (.slice (hiA Bb cb M) 16 (cb - M))).run Tryz.prog w5 = .ok (.string S2) w5 from fun w5 hb => by
    have := convSl (cap := cb - M) (HHI.out w5 (HB1.out.keep hb)) (Nat.le_refl 16)
    rwa [HS2.out] at this)
  clear HT HTN HA HAN HNT HNA
  go_wp2_with fail
  refine ord.wp_region_ordT 11 [[], [], [], [], [2, 3], [0, 1, 4], [5], [], [], [7, 8], [9]] [(0, 34), (1, 35), (2, 36), (3, 37), (4, 38), (5, 39), (6, 40), (7, 41), (8, 42), (9, 43), (10, 44)] (roG Bb nb cb M b At nt ct tk Ab na ca about S1 S2) (by kernel_rfl) (by kernel_rfl) (by kernel_rfl) (roG_stays _ _ _ _ _ _ _ _ _ _ _ _ _ _ _) ((ord.steps_cons ?_ (ord.steps_cons ?_ (ord.steps_cons ?_ (ord.steps_cons ?_ (ord.steps_cons ?_ (ord.steps_cons ?_ (ord.steps_cons ?_ (ord.steps_cons ?_ (ord.steps_cons ?_ (ord.steps_cons ?_ (ord.steps_cons ?_ ord.steps_nil)))))))))))) ?_
  --STEPS ro
  · intro o ho x w hb hG
    obtain rfl := Option.some.inj ho
    clear ho
    refine Or.inl ⟨ord.want0 rfl, ?_⟩
    exact ord.makes_move rfl ⟨Below.refl _ _, rfl⟩
  · intro o ho x w hb hG
    obtain rfl := Option.some.inj ho
    clear ho
    refine Or.inl ⟨ord.want0 rfl, ?_⟩
    exact ord.makes_move rfl ⟨Below.refl _ _, rfl⟩
  · intro o ho x w hb hG
    obtain rfl := Option.some.inj ho
    clear ho
    refine Or.inl ⟨ord.want0 rfl, ?_⟩
    exact ord.makes_move rfl ⟨Below.refl _ _, rfl⟩
  · intro o ho x w hb hG
    obtain rfl := Option.some.inj ho
    clear ho
    refine Or.inl ⟨ord.want0 rfl, ?_⟩
    exact ord.makes_move rfl ⟨Below.refl _ _, rfl⟩
  · intro o ho x w hb hG
    obtain rfl := Option.some.inj ho
    clear ho
    have h36 : x 2 = .slice Bb nb cb := hG (2, 36) (List.mem_of_getElem? (i := 2) rfl) rfl
    have h37 : x 3 = .int .i64 (M : Nat) := hG (3, 37) (List.mem_of_getElem? (i := 3) rfl) rfl
    refine Or.inl ⟨ord.want0 rfl, ?_⟩
    exact ord.makes_slice rfl h36 (rfl) (congrArg some h37) (rfl) (by exact HSLo.out w) ⟨Below.refl _ _, rfl⟩
  · intro o ho x w hb hG
    obtain rfl := Option.some.inj ho
    clear ho
    have h34 : x 0 = .slice At nt ct := hG (0, 34) (List.mem_of_getElem? (i := 0) rfl) rfl
    have h35 : x 1 = .slice Ab na ca := hG (1, 35) (List.mem_of_getElem? (i := 1) rfl) rfl
    have h38 : x 4 = .slice (loA Bb cb) M cb := hG (4, 38) (List.mem_of_getElem? (i := 4) rfl) rfl
    refine Or.inl ⟨ord.want0 rfl, ?_⟩
    exact ord.makes_call3 Tryz.func26 (by kernel_rfl) (by kernel_rfl) rfl h34 h35 h38 (HTG.out w (of_drew hb)) (fun e w' h => by obtain ⟨A, c, he, _, h2, h3⟩ := h; exact ⟨_, he, h3, A, c, rfl, h2⟩)
  · intro o ho x w hb hG
    obtain rfl := Option.some.inj ho
    clear ho
    have h39 : roG Bb nb cb M b At nt ct tk Ab na ca about S1 S2 5 (x 5) w := hG (5, 39) (List.mem_of_getElem? (i := 5) rfl) rfl
    refine Or.inl ⟨ord.want0 rfl, ?_⟩
    obtain ⟨A, c, hv, hs⟩ := h39
    exact ord.makes_conv rfl hv (HC1.out w A c hs) ⟨Below.refl _ _, rfl⟩
  · intro o ho x w hb hG
    obtain rfl := Option.some.inj ho
    clear ho
    refine Or.inl ⟨ord.want0 rfl, ?_⟩
    exact ord.makes_move rfl ⟨Below.refl _ _, rfl⟩
  · intro o ho x w hb hG
    obtain rfl := Option.some.inj ho
    clear ho
    refine Or.inl ⟨ord.want0 rfl, ?_⟩
    exact ord.makes_move rfl ⟨Below.refl _ _, rfl⟩
  · intro o ho x w hb hG
    obtain rfl := Option.some.inj ho
    clear ho
    have h41 : x 7 = .slice Bb nb cb := hG (7, 41) (List.mem_of_getElem? (i := 7) rfl) rfl
    have h42 : x 8 = .int .i64 (M : Nat) := hG (8, 42) (List.mem_of_getElem? (i := 8) rfl) rfl
    refine Or.inl ⟨ord.want0 rfl, ?_⟩
    exact ord.makes_slice rfl h41 (congrArg some h42) (rfl) (rfl) (by exact HSH.out w) ⟨Below.refl _ _, rfl⟩
  · intro o ho x w hb hG
    obtain rfl := Option.some.inj ho
    clear ho
    have h43 : x 9 = .slice (hiA Bb cb M) 16 (cb - M) := hG (9, 43) (List.mem_of_getElem? (i := 9) rfl) rfl
    refine Or.inl ⟨ord.want0 rfl, ?_⟩
    exact ord.makes_conv rfl h43 (HC2.out w (of_drew hb)) ⟨Below.refl _ _, rfl⟩
  --END STEPS ro
  · intro x w5 hb hG
    have e40 : x 6 = .string S1 := hG (6, 40) (List.mem_of_getElem? (i := 6) rfl)
    have e44 : x 10 = .string S2 := hG (10, 44) (List.mem_of_getElem? (i := 10) rfl)
    clear hG
    have H5 := Lib.hid (H1.out.trans (hb.mono H1.out.size))
    clear hb
    simp only [ord.puts, ord.put', if_true]
    rw [e40, e44, HCMP.out]
    clear e40 e44
    simp only [List.drop_succ_cons, List.drop_zero]
    obtain ⟨Bk, ok, hBk, _, hck⟩ := (HB.out.keep H5.out) (by have := HBC.out; omega)
    subst hBk
    have hc0 := (hck 0 (by have := HBC.out; omega)).2
    rw [Nat.add_zero] at hc0
    have hl0 := (hck 0 (by have := HBC.out; omega)).1
    have HCK := Lib.hid hck
    clear hck
    have hdb : decide ((127 : Int) < (b 0 : Nat)) = false := by rw [decide_eq_false_iff_not]; have := HLO0.out; omega
    have hnbi : (0 : Int) < (nb : Nat) := by omega
    have hmid : ∀ w : World, (Instr.sliceAt 22 (.slice (some ⟨Bk, ok, none⟩) nb cb) (some (.int .i64 8)) (some (.int .i64 (M : Int))) none).run Tryz.prog w = .ok (.slice (hiA (some ⟨Bk, ok, none⟩) cb 8) (M - 8) (cb - 8)) w := HMID.out
    obtain ⟨y0, hy0⟩ : ∃ y0, b 0 = y0 := ⟨_, rfl⟩
    rw [hy0] at hc0 hl0 hdb
    clear hy0
    go_wp2_with fail
    clear hc0 hl0 hdb
    go_loopw [14, 15] (fun v i wr => ∃ k y : Nat, k ≤ 8 ∧ numE b k = y ∧ v = .int .i64 (y : Nat) ∧ i = .int .i64 k ∧ wr = w5) (fun _ i _ => 8 - (intOf i).toNat)
    case atStart => exact ⟨0, 0, by decide, rfl, rfl, rfl, rfl⟩
    case round =>
      obtain ⟨k, y, hk, hy, rfl, rfl, rfl⟩ := hrel
      by_cases hlt : k < 8
      · obtain ⟨v, hv⟩ : ∃ v, b k = v := ⟨_, rfl⟩
        have hc1 := (HCK.out k (by have := HBC.out; omega)).2
        have hv8 := (HCK.out k (by have := HBC.out; omega)).1
        rw [hv] at hc1 hv8
        have hyl : y * 256 + v ≤ 9223372036854775807 := by
          have h1 := numE_mono b (k + 1) 8 (by omega)
          have h2 := HLOW.out
          have h3 : numE b (k + 1) = y * 256 + v := by rw [← hy, ← hv]; rfl
          omega
        have HS := Lib.hid (show numE b (k + 1) = 256 * y + v by rw [← hy, ← hv]; show numE b k * 256 + b k = _; omega)
        have hki : (k : Int) < nb := by have := HBC.out; omega
        have hyi : (256 : Int) * (y : Nat) + (v : Nat) ≤ 9223372036854775807 := by omega
        have hyi2 : (256 : Int) * (y : Nat) ≤ 9223372036854775807 := by omega
        have hvi : (v : Int) ≤ 255 := by omega
        clear hy hv hyl hv8
        go_wp2_with fail
        go_roundw
        case rel => exact ⟨k + 1, 256 * y + v, by omega, HS.out, by go_num, by go_num, trivial⟩
        case measure => simp [intOf]; omega
      · obtain rfl : k = 8 := by omega
        have HY := Lib.hid hy
        have HYL := Lib.hid (show y ≤ 9223372036854775807 by rw [← hy]; exact HLOW.out)
        clear hy hlt hk
        have hsl := (HB.out.keep H5.out).hiA (c := cb) (k := 8) (by have := HBC.out; omega) (by have := HBC.out; omega)
        have HS8 := Lib.hid (hsl.low (k := M - 8) (by have := HBC.out; omega))
        clear hsl
        go_wp2_with fail
        refine (rxor_any Ae (hiA (some ⟨Bk, ok, none⟩) cb 8) len n cap (M - 8) (cb - 8) y 0 key (fun j => b (8 + j)) wr HN.out HL.out HCE.out (HE.out.keep H5.out) HS8.out HYL.out (by decide) (by have := HBC.out; omega)).mono ?_
        rintro e w7 ⟨A7, c7, rfl, _, _, h2, h3⟩
        have HS7 := Lib.hid h2
        have H7 := Lib.hid (H5.out.trans (h3.mono H5.out.size))
        clear h2 h3
        go_wp2_with fail
        go_ret3
        exact ⟨A7, c7, by rw [HY.out]; rfl, by rw [HY.out]; exact HS7.out, H7.out⟩
end Go.Proofs.YtgcdnhjjoidpmaaGreatDoor
/- BoxOpens. -/
namespace Go.Proofs.YtgcdnhjjoidpmaaGreatDoor
open Go.RowKit
set_option maxRecDepth 100000 in
set_option maxHeartbeats 1600000 in
theorem bopens_out (len cap nt ct na ca nb cb : Nat) (Ae At Ab Bb : Option Addr) (w : World) (ht : GT w) (h : ¬ (len ≤ 1024 ∧ nt ≤ 1024 ∧ na ≤ 1024 ∧ nb ≤ 1024)) (hb : nb ≤ 65560) :
    Calls Tryz.prog 4 #[.slice Ae len cap, .slice At nt ct, .slice Ab na ca, .slice Bb nb cb] w fun e w' => e = .returned (.bool true) ∧ Below w.heap.size w w' := by
  have HS := Lib.hid (small8_any w ht)
  have HF := Lib.hid (fun w => fits4_not w Ae At Ab Bb len nt na nb cap ct ca cb h)
  have hd : decide (((nb : Nat) : Int) ≤ 65560) = true := by rw [decide_eq_true_eq]; omega
  clear ht h hb
  go_enter Tryz.func4, Tryz.ntmps4
  go_wp2_with fail
  refine HS.out.mono ?_
  rintro e w1 ⟨rfl, h1⟩
  have H1 := Lib.hid h1
  clear h1
  go_wp2_with fail
  refine (HF.out w1).mono ?_
  rintro e w2 ⟨rfl, h2⟩
  have H2 := Lib.hid (H1.out.trans (h2.mono H1.out.size))
  clear h2
  go_wp2_with fail
  go_ret
  exact ⟨rfl, H2.out⟩
/-- two rows of which one may be empty, just put into a row -/
theorem owned_2 (W : World) (A0 A1 : Option Addr) (n0 n1 c0 c1 g0 g1 B : Nat) (h0 : OwnR W A0 c0 g0) (h1 : OwnR W A1 c1 g1) (b0 : 0 < c0 → B ≤ g0) (b1 : 0 < c1 → B ≤ g1) (n01 : 0 < c0 → 0 < c1 → g0 ≠ g1) (l0 : c0 ≤ 9223372036854775807) (l1 : c1 ≤ 9223372036854775807) (hB : B ≤ W.heap.size) :
    Calls Tryz.prog 12 #[.slice (some ⟨W.heap.size, 0, none⟩) 2 2] (W.alloc (.cells #[.slice A0 n0 c0, .slice A1 n1 c1] 22)) fun e w' => e = .returned (.bool true) ∧ Below B W w' := by
  refine (owned_rows 2 W #[.slice A0 n0 c0, .slice A1 n1 c1] (t2 A0 A1) (t2 n0 n1) (t2 c0 c1) (t2 g0 g1) (by decide) (fun j hj => by rcases two_of hj with rfl | rfl <;> rfl) (fun j hj => ?_) (fun i j hij hj => ?_) (fun j hj => ?_)).mono ?_
  · rcases two_of hj with rfl | rfl
    · exact h0
    · exact h1
  · obtain ⟨rfl, rfl⟩ : i = 0 ∧ j = 1 := by omega
    exact n01
  · rcases two_of hj with rfl | rfl
    · exact l0
    · exact l1
  rintro e w' ⟨he, h⟩
  refine ⟨he, h.below hB fun k hk => ?_⟩
  obtain ⟨j, hj, hc, rfl⟩ := hk
  rcases two_of hj with rfl | rfl
  · exact b0 hc
  · exact b1 hc
set_option maxRecDepth 100000 in
set_option maxHeartbeats 3200000 in
theorem bopens_go (len cap nt ct na ca nb cb k N E : Nat) (Ae At Ab Bb : Option Addr) (key tk about b f : Nat → Nat) (w : World) (hi : In4 w Ae At Ab Bb len nt na nb key tk about b) (hnb : nb ≤ 140737488351232) (hf : By k f) (h : (len ≤ 1024 ∧ nt ≤ 1024 ∧ na ≤ 1024 ∧ nb ≤ 1024) ∨ 65560 < nb)
    (hx : ∀ W gB, In4 W Ae At Ab (some ⟨gB, 0, none⟩) len nt na nb key tk about b → Calls Tryz.prog 15 #[.slice Ae len cap, .slice At nt ct, .slice Ab na ca, .slice (some ⟨gB, 0, none⟩) nb (nb + 1)] W (OU k f N E W))
    (hr : ∀ W, In4 W Ae At Ab Bb len nt na nb key tk about b → Calls Tryz.prog 16 #[.slice Ae len cap, .slice At nt ct, .slice Ab na ca, .slice Bb nb cb] W (ROU k f N E W)) :
    Calls Tryz.prog 4 #[.slice Ae len cap, .slice At nt ct, .slice Ab na ca, .slice Bb nb cb] w fun e w' => e = .returned (.bool true) ∧ Below w.heap.size w w' := by
  have HS := Lib.hid (small8_any w hi.gt)
  have hfit : ∃ T : Bool, (T = true ∨ (T = false ∧ decide (((nb : Nat) : Int) ≤ 65560) = false)) ∧ ∀ w : World, Calls Tryz.prog 7 #[.slice (some ⟨w.heap.size, 0, none⟩) 4 4] (w.alloc (.cells #[.slice Ae len cap, .slice At nt ct, .slice Ab na ca, .slice Bb nb cb] 22)) fun e w' => e = .returned (.bool T) ∧ Below w.heap.size w w' := by
    rcases h with ⟨h1, h2, h3, h4⟩ | h1
    · exact ⟨true, Or.inl rfl, fun w => fits4_all w Ae At Ab Bb len nt na nb cap ct ca cb h1 h2 h3 h4⟩
    · exact ⟨false, Or.inr ⟨rfl, by rw [decide_eq_false_iff_not]; omega⟩, fun w => fits4_not w Ae At Ab Bb len nt na nb cap ct ca cb (by omega)⟩
  obtain ⟨T, hT, hfit⟩ := hfit
  have HF := Lib.hid hfit
  have HI := Lib.hid hi
  have HL := Lib.hid hnb
  have HX := Lib.hid hx
  have HR := Lib.hid hr
  have HFY := Lib.hid hf
  clear hi hnb hx hr hf hfit h
  rcases hT with rfl | ⟨rfl, hd⟩
  all_goals
    go_enter Tryz.func4, Tryz.ntmps4
    go_wp2_with fail
    refine HS.out.mono ?_
    rintro e w1 ⟨rfl, h1⟩
    have H1 := Lib.hid h1
    clear h1
    go_wp2_with fail
    refine (HF.out w1).mono ?_
    rintro e w2 ⟨rfl, h2⟩
    have H2 := Lib.hid (H1.out.trans (h2.mono H1.out.size))
    clear h2
    go_wp2_with fail
    refine (lent_any Bb nb cb b w2 HL.out (HI.out.keep H2.out).txt).mono ?_
    rintro e w3 ⟨gB, rfl, h1, h2, h3⟩
    have HGB := Lib.hid (Nat.le_trans H2.out.size h1)
    have HB3 := Lib.hid h2
    have H3 := Lib.hid (H2.out.trans (h3.mono H2.out.size))
    clear h1 h2 h3
    have HI3 := HI.out.keep H3.out
    have HQ := Lib.hid (HX.out w3 gB ⟨HI3.enc, HI3.tag, HI3.abt, lent_slB HB3.out (fun j hj => HI3.txt.byte hj), HI3.gt⟩)
    clear HI3
    go_wp2_with fail
    refine HQ.out.mono ?_
    rintro e w5 ⟨AX, cX, rfl, h1, h4⟩
    obtain ⟨AX', cX', gX, eX, ho, hg, hcl, _⟩ := h1.ownR
    cases eX
    obtain ⟨AY, cY, eY, hs⟩ := OwnB.slice h1 HFY.out
    cases eY
    have HX5 := Lib.hid hs
    have HO5 := Lib.hid ho
    have HGX := Lib.hid hg
    have HCL := Lib.hid (show cX ≤ 9223372036854775807 from hcl)
    have HB5 := Lib.hid (HB3.out.of_block (h4.block gB HB3.out.lt))
    have H5 := Lib.hid (H3.out.trans (h4.mono H3.out.size))
    clear h1 h4 ho hg hcl hs HQ
    go_wp2_with fail
    refine (HR.out w5 (HI.out.keep H5.out)).mono ?_
    rintro e w6 ⟨AR, cR, rfl, h1, h4⟩
    have HX6 := Lib.hid (HX5.out.keep h4)
    have HR6 := Lib.hid h1
    have HO6 := Lib.hid (HO5.out.keep h4)
    have HB6 := Lib.hid (HB5.out.of_block (h4.block gB HB5.out.lt))
    have H6 := Lib.hid (H5.out.trans (h4.mono H5.out.size))
    clear h1 h4
    go_wp2_with fail
    refine (kept_any gB Bb nb cb b w6 HL.out (HI.out.keep H6.out).txt HB6.out).mono ?_
    rintro e w7 ⟨rfl, rfl⟩
    have hcx := convSl (cap := cX) HX6.out (Nat.le_refl k)
    have hcr := convSl (cap := cR) HR6.out (Nat.le_refl k)
    obtain ⟨X, hX⟩ : ∃ X, strOf k f = X := ⟨_, rfl⟩
    rw [hX] at hcx hcr
    clear hX
    go_wp2_with fail
    refine (owned_2 w6 AX (some ⟨gB, 0, none⟩) k nb cX (nb + 1) gX gB w.heap.size HO6.out (lent_own HB6.out) (fun h => Nat.le_trans H3.out.size (HGX.out h)) (fun _ => HGB.out)
      (fun h _ => Nat.ne_of_gt (Nat.lt_of_lt_of_le HB3.out.lt (HGX.out h))) HCL.out (by have := HL.out; omega) H6.out.size).mono ?_
    rintro e w8 ⟨rfl, hb⟩
    have H8 := Lib.hid (H6.out.trans hb)
    clear hb
    go_wp2_with fail
    go_ret
    exact ⟨rfl, H8.out⟩
theorem bopens_all (len cap nt ct na ca nb cb : Nat) (Ae At Ab Bb : Option Addr) (key tk about b : Nat → Nat) (w : World) (hl47 : len ≤ 140737488351232) (hnb : nb ≤ 140737488351232) (hcap : len ≤ cap) (hct : nt ≤ ct) (hac : na ≤ ca) (hbc : nb ≤ cb) (hTn : At = none → nt = 0 ∧ ct = 0) (hAn : Ab = none → na = 0 ∧ ca = 0)
    (hE : SlB w Ae len key) (hT : SlB w At nt tk) (hA : SlB w Ab na about) (hB : SlB w Bb nb b) (ht : GT w) :
    Calls Tryz.prog 4 #[.slice Ae len cap, .slice At nt ct, .slice Ab na ca, .slice Bb nb cb] w fun e w' => e = .returned (.bool true) ∧ Below w.heap.size w w' := by
  have hi : In4 w Ae At Ab Bb len nt na nb key tk about b := ⟨hE, hT, hA, hB, ht⟩
  by_cases h : (len ≤ 1024 ∧ nt ≤ 1024 ∧ na ≤ 1024 ∧ nb ≤ 1024) ∨ 65560 < nb
  · by_cases hw : wrong len 0 0
    · have hk : len ≠ 16 ∧ len ≠ 32 := by
        rcases hw with h | h | h
        · exact h
        · omega
        · omega
      exact bopens_go len cap nt ct na ca nb cb 0 0 1 Ae At Ab Bb key tk about b (fun _ => 0) w hi hnb (fun j hj => absurd hj (Nat.not_lt_zero j)) h
        (fun W gB _ => openx_arg len cap nt ct na ca nb (nb + 1) Ae At Ab _ W hl47 hw) (fun W _ => ropen_arg len cap nt ct na ca nb cb Ae At Ab Bb W hl47 hk)
    · obtain ⟨n, _, _, hn, hl4, _, _⟩ := right_of hw
      by_cases h1 : nb < 24
      · exact bopens_go len cap nt ct na ca nb cb 0 0 3 Ae At Ab Bb key tk about b (fun _ => 0) w hi hnb (fun j hj => absurd hj (Nat.not_lt_zero j)) h
          (fun W gB hi => openx_end len n cap nt ct na ca nb (nb + 1) Ae At Ab _ key W hn hl4 hi.enc h1) (fun W hi => ropen_end len n cap nt ct na ca nb cb Ae At Ab Bb key W hn hl4 hcap hi.enc h1)
      · by_cases h2 : 65560 < nb
        · exact bopens_go len cap nt ct na ca nb cb 0 0 2 Ae At Ab Bb key tk about b (fun _ => 0) w hi hnb (fun j hj => absurd hj (Nat.not_lt_zero j)) h
            (fun W gB hi => openx_long len n cap nt ct na ca nb (nb + 1) Ae At Ab _ key W hn hl4 hi.enc h2) (fun W hi => ropen_long len n cap nt ct na ca nb cb Ae At Ab Bb key W hn hl4 hcap hi.enc h2)
        · by_cases hs : sameB 16 16 (fun j => b (nb - 16 + j)) (btag nt tk na about (nb - 16) b) = true
          · by_cases hlow : b 0 ≤ 127
            · exact bopens_go len cap nt ct na ca nb cb (nb - 24) (numE b 8) 0 Ae At Ab Bb key tk about b _ w hi hnb (xorf_lt hn (fun j hj => hE.byte (by omega)) (fun j hj => hB.byte (by omega))) h
                (fun W gB hi => openx_any len n cap nt ct na ca nb (nb + 1) Ae At Ab _ key tk about b W hn hl4 hi.enc hi.tag hi.abt hi.txt (by omega) (by omega) (by omega) (by omega) hct (by omega) hac hi.gt hs hlow)
                (fun W hi => ropen_any len n cap nt ct na ca nb cb Ae At Ab Bb key tk about b W hn hl4 hcap hi.enc hi.tag hTn hi.abt hAn hi.txt (by omega) (by omega) hbc (by omega) (by omega) hs hlow)
            · exact bopens_go len cap nt ct na ca nb cb 0 0 1 Ae At Ab Bb key tk about b (fun _ => 0) w hi hnb (fun j hj => absurd hj (Nat.not_lt_zero j)) h
                (fun W gB hi => openx_neg len n cap nt ct na ca nb (nb + 1) Ae At Ab _ key tk about b W hn hl4 hi.enc hi.tag hi.abt hi.txt (by omega) (by omega) (by omega) (by omega) hct (by omega) hac hi.gt hs (by omega))
                (fun W hi => ropen_neg len n cap nt ct na ca nb cb Ae At Ab Bb key tk about b W hn hl4 hcap hi.enc hi.tag hTn hi.abt hAn hi.txt (by omega) (by omega) hbc (by omega) (by omega) hs (by omega))
          · have hs' : sameB 16 16 (fun j => b (nb - 16 + j)) (btag nt tk na about (nb - 16) b) = false := by simpa using hs
            exact bopens_go len cap nt ct na ca nb cb 0 0 7 Ae At Ab Bb key tk about b (fun _ => 0) w hi hnb (fun j hj => absurd hj (Nat.not_lt_zero j)) h
              (fun W gB hi => openx_tag len n cap nt ct na ca nb (nb + 1) Ae At Ab _ key tk about b W hn hl4 hi.enc hi.tag hi.abt hi.txt (by omega) (by omega) (by omega) (by omega) hct (by omega) hac hi.gt hs')
              (fun W hi => ropen_tag len n cap nt ct na ca nb cb Ae At Ab Bb key tk about b W hn hl4 hcap hi.enc hi.tag hTn hi.abt hAn hi.txt (by omega) (by omega) hbc (by omega) (by omega) hs')
  · exact bopens_out len cap nt ct na ca nb cb Ae At Ab Bb w ht (fun h' => h (Or.inl h')) (by omega)
end Go.Proofs.YtgcdnhjjoidpmaaGreatDoor
/- Contracts of package box: a Sealer: New, Next, its counter. -/
namespace Go.Proofs.YtgcdnhjjoidpmaaGreatDoor
open Go.RowKit
theorem add64 (x : Nat) (hx : x < 18446744073709551615) (w : World) : (Op.intArith .add .u64 (x : Int) 1).run Tryz.prog w = .ok (.int .u64 ((x + 1 : Nat) : Int)) w := by
  have : (x : Int) + 1 = ((x + 1 : Nat) : Int) := by omega
  have h2 : ((x : Int) + 1) % 18446744073709551616 = (x : Int) + 1 := by omega
  simp [go_sem, IntKind.wrap_u64, h2]
theorem count_add (b o x : Nat) (w : World) (hx : x < 18446744073709551615) (hc : w.cell? ⟨b, o, none⟩ = some (.int .u64 (x : Nat))) (hz : w.frozen? ⟨b, o, none⟩ = false) :
    Calls Tryz.prog 35 #[.pointer (some ⟨b, o, none⟩), .int .u64 1] w fun e w' => e = .returned (.int .u64 ((x + 1 : Nat) : Int)) ∧ w' = w.setCell ⟨b, o, none⟩ (.int .u64 ((x + 1 : Nat) : Int)) := by
  have hl := run_call_add (P := Tryz.prog) Tryz.func50 (by kernel_rfl) (by kernel_rfl) (by kernel_rfl) .u64 (by kernel_rfl) hc hz (add64 x hx w)
  go_enter Tryz.func35, Tryz.ntmps35
  go_wp2_with fail
  go_ret
  exact ⟨rfl, rfl⟩
theorem count_load (b o : Nat) (x : Int) (w : World) (hc : w.cell? ⟨b, o, none⟩ = some (.int .u64 x)) :
    Calls Tryz.prog 36 #[.pointer (some ⟨b, o, none⟩)] w fun e w' => e = .returned (.int .u64 x) ∧ w = w' := by
  have hl := run_call_load (P := Tryz.prog) Tryz.func51 (by kernel_rfl) (by kernel_rfl) (by kernel_rfl) .u64 (by kernel_rfl) hc
  go_enter Tryz.func36, Tryz.ntmps36
  go_wp2_with fail
  go_ret
  exact ⟨rfl, rfl⟩
theorem count_store (b o : Nat) (x : Int) (u : Value) (w : World) (hc : w.cell? ⟨b, o, none⟩ = some u) (hz : w.frozen? ⟨b, o, none⟩ = false) :
    Calls Tryz.prog 34 #[.pointer (some ⟨b, o, none⟩), .int .u64 x] w fun e w' => e = .returned (.tuple #[]) ∧ w' = w.setCell ⟨b, o, none⟩ (.int .u64 x) := by
  have hl := run_call_store (P := Tryz.prog) Tryz.func49 (by kernel_rfl) (by kernel_rfl) (by kernel_rfl) (by kernel_rfl) (k := .u64) (y := x) hc hz
  go_enter Tryz.func34, Tryz.ntmps34
  go_wp2_with fail
  go_end0
  exact ⟨rfl, rfl⟩
end Go.Proofs.YtgcdnhjjoidpmaaGreatDoor
