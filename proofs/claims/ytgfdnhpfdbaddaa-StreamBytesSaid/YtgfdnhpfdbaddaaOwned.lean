/- Owned: rows of bytes that may be written over, each by itself. -/
import Derived.Test.YtgfdnhpfdbaddaaAppB
namespace Go.Proofs.Ytgfdnhpfdbaddaa
open Go.RowKit

/-- what row j holds at place t when k rows and u places of the next one are written over -/
def ov (f : Nat → Nat → Nat) (k u j t : Nat) : Nat := if j < k ∨ (j = k ∧ t < u) then j + 1 else f j t
/-- two rows of bytes, known by a row of two slices -/
structure Rws (R : Nat) (w : World) (g3 : Nat) (A : Nat → Option Addr) (n c g : Nat → Nat) (f : Nat → Nat → Nat) (k u : Nat) : Prop where
  cells : ∀ j, j < R → w.cell? ⟨g3, j, none⟩ = some (.slice (A j) (n j) (c j))
  rows : ∀ j, j < R → 0 < c j → RowX w (g j) 5 (c j) (fun t => .int .u8 (ov f k u j t : Nat))
variable {A : Nat → Option Addr} {n c g : Nat → Nat} {f : Nat → Nat → Nat} {R g3 B : Nat}
theorem Rws.next {w : World} {k : Nat} (h : Rws R w g3 A n c g f k (c k)) : Rws R w g3 A n c g f (k + 1) 0 :=
  ⟨h.cells, fun j hj hc => (h.rows j hj hc).congr fun t ht => by
    congr 2
    unfold ov
    by_cases e : j < k ∨ (j = k ∧ t < c k)
    · rw [if_pos e, if_pos (by omega)]
    · rw [if_neg e, if_neg (by
        rintro (h1 | h1)
        · have : j = k := by omega
          subst this
          exact e (Or.inr ⟨rfl, ht⟩)
        · omega)]⟩
theorem Rws.drewN {w : World} {k u : Nat} (h : Rws R w g3 A n c g f k u) (m : Nat) : Rws R (w.drewN m) g3 A n c g f k u := ⟨h.cells, fun j hj hc => (h.rows j hj hc).drewN m⟩
theorem Rws.write {w : World} {k u : Nat} (h : Rws R w g3 A n c g f k u) (hk : k < R) (hc : 0 < c k) (hne : ∀ i j, i < R → j < R → i ≠ j → 0 < c i → 0 < c j → g i ≠ g j) (h3 : g3 ≠ g k) :
    Rws R (w.setCell ⟨g k, u, none⟩ (.int .u8 ((k : Int) + 1))) g3 A n c g f k (u + 1) :=
  ⟨fun j hj => (World.cell?_setCell_other w ⟨g k, u, none⟩ ⟨g3, j, none⟩ _ (fun e => h3 (congrArg Addr.block e).symm)).trans (h.cells j hj), fun j hj hcj => by
    by_cases e : j = k
    · subst e
      refine ((h.rows j hj hcj).set u _).congr fun t _ => ?_
      by_cases et : t = u
      · rw [if_pos et]; unfold ov; rw [if_pos (by omega)]; rfl
      · rw [if_neg et]
        congr 2
        unfold ov
        by_cases e2 : j < j ∨ (j = j ∧ t < u)
        · rw [if_pos e2, if_pos (by omega)]
        · rw [if_neg e2, if_neg (by omega)]
    · refine ((h.rows j hj hcj).setOther (a := ⟨g k, u, none⟩) (hne j k hj hk e hcj hc) _).congr fun t _ => ?_
      congr 2
      unfold ov
      by_cases e2 : j < k ∨ (j = k ∧ t < u)
      · rw [if_pos e2, if_pos (by omega)]
      · rw [if_neg e2, if_neg (by omega)]⟩

set_option maxHeartbeats 1600000 in
theorem owned_any (cap3 : Nat) (w : World) (hR : R ≤ 200) (h2 : Rws R w g3 A n c g f 0 0) (hA : ∀ j, j < R → 0 < c j → A j = some ⟨g j, 0, none⟩)
    (hne : ∀ i j, i < R → j < R → i ≠ j → 0 < c i → 0 < c j → g i ≠ g j) (h3 : ∀ j, j < R → 0 < c j → g3 ≠ g j) (hB : ∀ j, j < R → 0 < c j → B ≤ g j) (hcl : ∀ j, j < R → c j ≤ 140737488351300) :
    Calls Try.prog 13 #[.slice (some ⟨g3, 0, none⟩) R cap3] w fun e w' => e = .returned (.bool true) ∧ Below B w w' := by
  have H2 := Lib.hid h2
  have HA := Lib.hid hA
  have HN := Lib.hid hne
  have H3 := Lib.hid h3
  have HB := Lib.hid hB
  have HC := Lib.hid hcl
  clear h2 hA hne h3 hB hcl
  go_enter Try.func13, Try.ntmps13
  go_wp2_with fail
  go_loopw [3] (fun i wr => ∃ k : Nat, k ≤ R ∧ i = .int .i64 k ∧ Rws R wr g3 A n c g f k 0 ∧ Below B w wr) (fun i _ => R - (intOf i).toNat)
  case atStart => exact ⟨0, by omega, rfl, H2.out, Below.refl _ _⟩
  case round =>
    obtain ⟨k, hk, rfl, htw, hbl⟩ := hrel
    have HT := Lib.hid htw
    have HBL := Lib.hid hbl
    clear htw hbl
    by_cases hlt : k < R
    · have hlti : (k : Int) < R := by omega
      have hk0 : (0 : Int) ≤ (k : Nat) := by omega
      have hcell := HT.out.cells k hlt
      have hck : ((c k : Nat) : Int) ≤ (c k : Nat) := Int.le_refl _
      have hck0 : (0 : Int) ≤ (c k : Nat) := by omega
      have HCK := HC.out k hlt
      go_wp2_with fail
      go_quiet (fail)
      have HTq := Lib.hid (HT.out.drewN nq)
      have HBq := Lib.hid (drawn HBL.out nq)
      generalize wr.drewN nq = W at *
      by_cases hc0 : c k = 0
      · have e0 : ((c k : Nat) : Int) = 0 := by omega
        have HZ := Lib.hid hc0
        generalize hcc : c k = cc at *
        subst hc0
        clear hcell
        go_wp2_with fail
        go_loopw [5] (fun i wr => i = .int .i64 0 ∧ wr = W) (fun _ _ => 0)
        case atStart => exact ⟨rfl, rfl⟩
        case round =>
          obtain ⟨rfl, rfl⟩ := hrel
          go_wp2_with fail
          go_roundw
          case rel => exact ⟨k + 1, by omega, by go_num, Rws.next (by rw [hcc]; exact HTq.out), HBq.out⟩
          case measure => simp [intOf]; omega
      · have hpos : 0 < c k := by omega
        have hAk := HA.out k hlt hpos
        rw [hAk]
        go_wp2_with fail
        go_loopw [5] (fun i wr => ∃ t : Nat, t ≤ c k ∧ i = .int .i64 t ∧ Rws R wr g3 A n c g f k t ∧ Below B w wr) (fun i _ => c k - (intOf i).toNat)
        case atStart => exact ⟨0, Nat.zero_le _, rfl, HTq.out, HBq.out⟩
        case round =>
          obtain ⟨t, ht, rfl, htw, hbl⟩ := hrel
          have HT2 := Lib.hid htw
          have HB2 := Lib.hid hbl
          clear htw hbl
          by_cases htl : t < c k
          · have hcl := (HT2.out.rows k hlt hpos).cell htl
            have hfr := (HT2.out.rows k hlt hpos).frozen htl
            have HW2 := Lib.hid (HT2.out.write hlt hpos HN.out (H3.out k hlt hpos))
            have HB3 := Lib.hid (HB2.out.setCell (p := ⟨g k, t, none⟩) (HB.out k hlt hpos) (.int .u8 ((k : Int) + 1)))
            generalize ov f k t k t = old at hcl
            go_wp2_with fail
            go_roundw
            case rel => exact ⟨t + 1, by omega, by go_num, HW2.out, HB3.out⟩
            case measure => simp [intOf]; omega
          · obtain rfl : t = c k := by omega
            go_wp2_with fail
            go_roundw
            case rel => exact ⟨k + 1, by omega, by go_num, HT2.out.next, HB2.out⟩
            case measure => simp [intOf]; omega
    · have HK := Lib.hid (show k = R by omega)
      have hk2 : ¬ (k : Int) < R := by omega
      go_wp2_with fail
      go_loopw [6] (fun i wr => ∃ j : Nat, j ≤ R ∧ i = .int .i64 j ∧ Rws R wr g3 A n c g f k 0 ∧ Below B w wr) (fun i _ => R - (intOf i).toNat)
      case atStart => exact ⟨0, by omega, rfl, HT.out, HBL.out⟩
      case round =>
        obtain ⟨j, hj, rfl, htw, hbl⟩ := hrel
        have HT5 := Lib.hid htw
        have HB5 := Lib.hid hbl
        clear htw hbl
        by_cases hjl : j < R
        · have hjli : (j : Int) < R := by omega
          have hj0 : (0 : Int) ≤ (j : Nat) := by omega
          have hcell := HT5.out.cells j hjl
          have hck : ((c j : Nat) : Int) ≤ (c j : Nat) := Int.le_refl _
          have hck0 : (0 : Int) ≤ (c j : Nat) := by omega
          have HCK := HC.out j hjl
          go_wp2_with fail
          go_quiet (fail)
          have HTq := Lib.hid (HT5.out.drewN nq)
          have HBq := Lib.hid (drawn HB5.out nq)
          generalize hWW : World.drewN _ nq = W at *
          clear hWW
          by_cases hc0 : c j = 0
          · have HZ := Lib.hid hc0
            generalize hcc : c j = cc at *
            subst hc0
            clear hcell
            go_wp2_with fail
            go_loopw [8] (fun i wr => i = .int .i64 0 ∧ wr = W) (fun _ _ => 0)
            case atStart => exact ⟨rfl, rfl⟩
            case round =>
              obtain ⟨rfl, rfl⟩ := hrel
              go_wp2_with fail
              go_roundw
              case rel => exact ⟨j + 1, by omega, by go_num, HTq.out, HBq.out⟩
              case measure => simp [intOf]; omega
          · have hpos : 0 < c j := by omega
            have hAk := HA.out j hjl hpos
            rw [hAk]
            go_wp2_with fail
            go_loopw [8] (fun i wr => ∃ t : Nat, t ≤ c j ∧ i = .int .i64 t ∧ wr = W) (fun i _ => c j - (intOf i).toNat)
            case atStart => exact ⟨0, Nat.zero_le _, rfl, rfl⟩
            case round =>
              obtain ⟨t, ht, rfl, rfl⟩ := hrel
              by_cases htl : t < c j
              · have hcl := (HTq.out.rows j hjl hpos).cell htl
                have hov : ov f k 0 j t = j + 1 := by unfold ov; rw [if_pos (by have := HK.out; omega)]
                rw [hov] at hcl
                clear hov
                obtain ⟨j1, ej, hj1⟩ : ∃ j1 : Nat, (j : Int) + 1 = j1 ∧ j + 1 = j1 := ⟨j + 1, by omega, rfl⟩
                rw [hj1] at hcl
                have hj13 : j1 ≤ 200 := by omega
                clear hj1
                go_wp2_with fail
                go_roundw
                case rel => exact ⟨t + 1, by omega, by go_num, trivial⟩
                case measure => simp [intOf]; omega
              · obtain rfl : t = c j := by omega
                go_wp2_with fail
                go_roundw
                case rel => exact ⟨j + 1, by omega, by go_num, HTq.out, HBq.out⟩
                case measure => simp [intOf]; omega
        · obtain rfl : j = R := by omega
          go_wp2_with fail
          go_ret
          exact ⟨rfl, HB5.out⟩
end Go.Proofs.Ytgfdnhpfdbaddaa
