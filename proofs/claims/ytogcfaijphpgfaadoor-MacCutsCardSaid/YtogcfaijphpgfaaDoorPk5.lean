/- 8 texts in one, in their order. -/
import Derived.Test.YtogcfaijphpgfaaDoorPk4
import Derived.Deep.Matrix
/- Owned, for rows of which only the length is known. -/
namespace Go.Proofs.YtogcfaijphpgfaaDoor
open Go.RowKit
def ovV (f : Nat → Nat → Value) (k u j t : Nat) : Value := if j < k ∨ (j = k ∧ t < u) then .int .u8 ((j : Int) + 1) else f j t
/-- rows of cells, known by a row of slices -/
structure RwsV (R : Nat) (w : World) (g3 : Nat) (A : Nat → Option Addr) (n c g : Nat → Nat) (f : Nat → Nat → Value) (k u : Nat) : Prop where
  cells : ∀ j, j < R → w.cell? ⟨g3, j, none⟩ = some (.slice (A j) (n j) (c j))
  rows : ∀ j, j < R → 0 < c j → ArrV w (g j) 0 (c j) (ovV f k u j)
variable {A : Nat → Option Addr} {n c g : Nat → Nat} {f : Nat → Nat → Value} {R g3 : Nat}
theorem RwsV.next {w : World} {k : Nat} (h : RwsV R w g3 A n c g f k (c k)) : RwsV R w g3 A n c g f (k + 1) 0 :=
  ⟨h.cells, fun j hj hc => (h.rows j hj hc).congr fun t ht => by
    unfold ovV
    by_cases e : j < k ∨ (j = k ∧ t < c k)
    · rw [if_pos e, if_pos (by omega)]
    · rw [if_neg e, if_neg (by
        rintro (h1 | h1)
        · have : j = k := by omega
          subst this
          exact e (Or.inr ⟨rfl, ht⟩)
        · omega)]⟩
theorem RwsV.drewN {w : World} {k u : Nat} (h : RwsV R w g3 A n c g f k u) (m : Nat) : RwsV R (w.drewN m) g3 A n c g f k u := ⟨h.cells, fun j hj hc => (h.rows j hj hc).drewN m⟩
theorem RwsV.write {w : World} {k u : Nat} (h : RwsV R w g3 A n c g f k u) (hk : k < R) (hc : 0 < c k) (hu : u < c k) (hne : ∀ i j, i < R → j < R → i ≠ j → 0 < c i → 0 < c j → g i ≠ g j) (h3 : g3 ≠ g k) :
    RwsV R (w.setCell ⟨g k, u, none⟩ (.int .u8 ((k : Int) + 1))) g3 A n c g f k (u + 1) :=
  ⟨fun j hj => (World.cell?_setCell_other w ⟨g k, u, none⟩ ⟨g3, j, none⟩ _ (fun e => h3 (congrArg Addr.block e).symm)).trans (h.cells j hj), fun j hj hcj => by
    by_cases e : j = k
    · subst e
      refine ((h.rows j hj hcj).set hu (Nat.zero_add u).symm (.int .u8 ((j : Int) + 1))).congr fun t _ => ?_
      by_cases et : t = u
      · rw [if_pos et]; unfold ovV; rw [if_pos (by omega)]
      · rw [if_neg et]
        unfold ovV
        by_cases e2 : j < j ∨ (j = j ∧ t < u)
        · rw [if_pos e2, if_pos (by omega)]
        · rw [if_neg e2, if_neg (by omega)]
    · refine ((h.rows j hj hcj).setOther (a := ⟨g k, u, none⟩) (hne j k hj hk e hcj hc) _).congr fun t _ => ?_
      unfold ovV
      by_cases e2 : j < k ∨ (j = k ∧ t < u)
      · rw [if_pos e2, if_pos (by omega)]
      · rw [if_neg e2, if_neg (by omega)]⟩

set_option maxHeartbeats 1600000 in
theorem owned_vals (cap3 : Nat) (w : World) (hR : R ≤ 200) (h2 : RwsV R w g3 A n c g f 0 0) (hA : ∀ j, j < R → 0 < c j → A j = some ⟨g j, 0, none⟩)
    (hne : ∀ i j, i < R → j < R → i ≠ j → 0 < c i → 0 < c j → g i ≠ g j) (h3 : ∀ j, j < R → 0 < c j → g3 ≠ g j) (hcl : ∀ j, j < R → c j ≤ 9223372036854775807) :
    Calls Tryd.prog 14 #[.slice (some ⟨g3, 0, none⟩) R cap3] w fun e w' => e = .returned (.bool true) ∧ ChgS (InR R c g) w w' := by
  have H2 := Lib.hid h2
  have HA := Lib.hid hA
  have HN := Lib.hid hne
  have H3 := Lib.hid h3
  have HC := Lib.hid hcl
  clear h2 hA hne h3 hcl
  go_enter Tryd.func14, Tryd.ntmps14
  go_wp2_with fail
  go_loopw [3] (fun i wr => ∃ k : Nat, k ≤ R ∧ i = .int .i64 k ∧ RwsV R wr g3 A n c g f k 0 ∧ ChgS (InR R c g) w wr) (fun i _ => R - (intOf i).toNat)
  case atStart => exact ⟨0, by omega, rfl, H2.out, ChgS.refl _ _⟩
  case round =>
    obtain ⟨k, hk, rfl, htw, hbl⟩ := hrel
    have HT := Lib.hid htw
    have HBL := Lib.hid hbl
    clear htw hbl
    by_cases hlt : k < R
    · have hlti : (k : Int) < R := by omega
      have hk0 : (0 : Int) ≤ (k : Nat) := by omega
      have hcell := HT.out.cells k hlt
      have hck : ((c k : Nat) : Int) ≤ (c k : Nat) := Int.le_refl _
      have hck0 : (0 : Int) ≤ (c k : Nat) := by omega
      have HCK := HC.out k hlt
      go_wp2_with fail
      go_quiet (fail)
      have HTq := Lib.hid (HT.out.drewN nq)
      have HBq := Lib.hid (HBL.out.drewN nq)
      generalize wr.drewN nq = W at *
      by_cases hc0 : c k = 0
      · have e0 : ((c k : Nat) : Int) = 0 := by omega
        have HZ := Lib.hid hc0
        generalize hcc : c k = cc at *
        subst hc0
        clear hcell
        go_wp2_with fail
        go_loopw [5] (fun i wr => i = .int .i64 0 ∧ wr = W) (fun _ _ => 0)
        case atStart => exact ⟨rfl, rfl⟩
        case round =>
          obtain ⟨rfl, rfl⟩ := hrel
          go_wp2_with fail
          go_roundw
          case rel => exact ⟨k + 1, by omega, by go_num, RwsV.next (by rw [hcc]; exact HTq.out), HBq.out⟩
          case measure => simp [intOf]; omega
      · have hpos : 0 < c k := by omega
        have hAk := HA.out k hlt hpos
        rw [hAk]
        go_wp2_with fail
        go_loopw [5] (fun i wr => ∃ t : Nat, t ≤ c k ∧ i = .int .i64 t ∧ RwsV R wr g3 A n c g f k t ∧ ChgS (InR R c g) w wr) (fun i _ => c k - (intOf i).toNat)
        case atStart => exact ⟨0, Nat.zero_le _, rfl, HTq.out, HBq.out⟩
        case round =>
          obtain ⟨t, ht, rfl, htw, hbl⟩ := hrel
          have HT2 := Lib.hid htw
          have HB2 := Lib.hid hbl
          clear htw hbl
          by_cases htl : t < c k
          · have hcl := (HT2.out.rows k hlt hpos).cell htl (Nat.zero_add t).symm
            have hfr := (HT2.out.rows k hlt hpos).frozen htl (Nat.zero_add t).symm
            have HW2 := Lib.hid (HT2.out.write hlt hpos htl HN.out (H3.out k hlt hpos))
            have HB3 := Lib.hid (HB2.out.setCell (a := ⟨g k, t, none⟩) ⟨k, hlt, hpos, rfl⟩ (.int .u8 ((k : Int) + 1)))
            generalize ovV f k t k t = old at hcl
            go_wp2_with fail
            go_roundw
            case rel => exact ⟨t + 1, by omega, by go_num, HW2.out, HB3.out⟩
            case measure => simp [intOf]; omega
          · obtain rfl : t = c k := by omega
            go_wp2_with fail
            go_roundw
            case rel => exact ⟨k + 1, by omega, by go_num, HT2.out.next, HB2.out⟩
            case measure => simp [intOf]; omega
    · have HK := Lib.hid (show k = R by omega)
      have hk2 : ¬ (k : Int) < R := by omega
      go_wp2_with fail
      go_loopw [6] (fun i wr => ∃ j : Nat, j ≤ R ∧ i = .int .i64 j ∧ RwsV R wr g3 A n c g f k 0 ∧ ChgS (InR R c g) w wr) (fun i _ => R - (intOf i).toNat)
      case atStart => exact ⟨0, by omega, rfl, HT.out, HBL.out⟩
      case round =>
        obtain ⟨j, hj, rfl, htw, hbl⟩ := hrel
        have HT5 := Lib.hid htw
        have HB5 := Lib.hid hbl
        clear htw hbl
        by_cases hjl : j < R
        · have hjli : (j : Int) < R := by omega
          have hj0 : (0 : Int) ≤ (j : Nat) := by omega
          have hcell := HT5.out.cells j hjl
          have hck : ((c j : Nat) : Int) ≤ (c j : Nat) := Int.le_refl _
          have hck0 : (0 : Int) ≤ (c j : Nat) := by omega
          have HCK := HC.out j hjl
          go_wp2_with fail
          go_quiet (fail)
          have HTq := Lib.hid (HT5.out.drewN nq)
          have HBq := Lib.hid (HB5.out.drewN nq)
          generalize hWW : World.drewN _ nq = W at *
          clear hWW
          by_cases hc0 : c j = 0
          · have HZ := Lib.hid hc0
            generalize hcc : c j = cc at *
            subst hc0
            clear hcell
            go_wp2_with fail
            go_loopw [8] (fun i wr => i = .int .i64 0 ∧ wr = W) (fun _ _ => 0)
            case atStart => exact ⟨rfl, rfl⟩
            case round =>
              obtain ⟨rfl, rfl⟩ := hrel
              go_wp2_with fail
              go_roundw
              case rel => exact ⟨j + 1, by omega, by go_num, HTq.out, HBq.out⟩
              case measure => simp [intOf]; omega
          · have hpos : 0 < c j := by omega
            have hAk := HA.out j hjl hpos
            rw [hAk]
            go_wp2_with fail
            go_loopw [8] (fun i wr => ∃ t : Nat, t ≤ c j ∧ i = .int .i64 t ∧ wr = W) (fun i _ => c j - (intOf i).toNat)
            case atStart => exact ⟨0, Nat.zero_le _, rfl, rfl⟩
            case round =>
              obtain ⟨t, ht, rfl, rfl⟩ := hrel
              by_cases htl : t < c j
              · have hcl := (HTq.out.rows j hjl hpos).cell htl (Nat.zero_add t).symm
                have hov : ovV f k 0 j t = .int .u8 ((j : Int) + 1) := by unfold ovV; rw [if_pos (by have := HK.out; omega)]
                rw [hov] at hcl
                clear hov
                obtain ⟨j1, ej, hj1⟩ : ∃ j1 : Nat, (j : Int) + 1 = j1 ∧ j + 1 = j1 := ⟨j + 1, by omega, rfl⟩
                rw [ej] at hcl
                have hj13 : j1 ≤ 200 := by omega
                clear hj1
                go_wp2_with fail
                go_roundw
                case rel => exact ⟨t + 1, by omega, by go_num, trivial⟩
                case measure => simp [intOf]; omega
              · obtain rfl : t = c j := by omega
                go_wp2_with fail
                go_roundw
                case rel => exact ⟨j + 1, by omega, by go_num, HTq.out, HBq.out⟩
                case measure => simp [intOf]; omega
        · obtain rfl : j = R := by omega
          go_wp2_with fail
          go_ret
          exact ⟨rfl, HB5.out⟩
theorem ovV_none (f : Nat → Nat → Value) (j t : Nat) : ovV f 0 0 j t = f j t := by unfold ovV; rw [if_neg (by omega)]
/-- a row that may be written to its end -/
def OwnR (W : World) (A : Option Addr) (c g : Nat) : Prop := 0 < c → A = some ⟨g, 0, none⟩ ∧ ∃ f, ArrV W g 0 c f
namespace OwnR
variable {W W' : World} {A : Option Addr} {c g : Nat}
theorem of_block (h : OwnR W A c g) (e : W'.heap[g]? = W.heap[g]?) : OwnR W' A c g := fun hc => by
  obtain ⟨h1, f, h2⟩ := h hc
  exact ⟨h1, f, h2.of_block e⟩
theorem lt (h : OwnR W A c g) (hc : 0 < c) : g < W.heap.size := by
  obtain ⟨_, f, h2⟩ := h hc
  exact h2.lt hc
theorem keep (h : OwnR W A c g) (hb : Below W.heap.size W W') : OwnR W' A c g := fun hc => h.of_block (hb.block g (h.lt hc)) hc
theorem chg {K : Nat} (h : OwnR W A c g) (hb : Chg K W W') (hK : g ≠ K) : OwnR W' A c g := fun hc => h.of_block (hb.block g (h.lt hc) hK) hc
theorem arr {f : Nat → Nat} (h : Arr W g 0 c f) : OwnR W (some ⟨g, 0, none⟩) c g := fun _ => ⟨rfl, fun j => .int .u8 (f j : Nat), h⟩
end OwnR
theorem OwnB.ownR {w : World} {base n : Nat} {v : Value} {f : Nat → Nat} (h : OwnB w base v n f) : ∃ A c g, v = .slice A n c ∧ OwnR w A c g ∧ (0 < c → base ≤ g) ∧ c ≤ maxLen ∧ n ≤ c := by
  rcases h.2 with ⟨rfl, hn⟩ | ⟨g, cap, cur, rfl, hg, hh, h1, h2, h3, _⟩
  · subst hn; exact ⟨none, 0, 0, rfl, fun h => absurd h (Nat.lt_irrefl 0), fun h => absurd h (Nat.lt_irrefl 0), by unfold maxLen; omega, Nat.le_refl _⟩
  · refine ⟨_, cap, g, rfl, fun _ => ⟨rfl, fun j => cur.getD j undef, fun j hj => ⟨?_, ?_⟩⟩, fun _ => hg, h2, h1⟩
    · simp only [World.cell?, hh]
      rw [Nat.zero_add]
      simp [show j < cur.size by omega]
    · simp [World.frozen?, hh]
/-- rows, just put into a row -/
theorem owned_rows (R : Nat) (W : World) (cs : Array Value) (A : Nat → Option Addr) (n c g : Nat → Nat) (hR : R ≤ 200) (hcs : ∀ j, j < R → cs[j]? = some (.slice (A j) (n j) (c j))) (h : ∀ j, j < R → OwnR W (A j) (c j) (g j))
    (hne : ∀ i j, i < j → j < R → 0 < c i → 0 < c j → g i ≠ g j) (hl : ∀ j, j < R → c j ≤ 9223372036854775807) :
    Calls Tryd.prog 14 #[.slice (some ⟨W.heap.size, 0, none⟩) R R] (W.alloc (.cells cs 22)) fun e w' => e = .returned (.bool true) ∧ ChgS (InR R c g) W w' := by
  have hch : ∀ j, ∃ f : Nat → Value, j < R → 0 < c j → ArrV W (g j) 0 (c j) f := fun j => by
    by_cases hj : j < R ∧ 0 < c j
    · obtain ⟨_, f, hf⟩ := h j hj.1 hj.2
      exact ⟨f, fun _ _ => hf⟩
    · exact ⟨fun _ => undef, fun h1 h2 => absurd ⟨h1, h2⟩ hj⟩
  obtain ⟨f, hf⟩ := Classical.axiomOfChoice hch
  refine (owned_vals (R := R) (A := A) (n := n) (c := c) (g := g) (f := f) R _ hR ⟨fun j hj => ?_, fun j hj hc => ?_⟩ (fun j hj hc => (h j hj hc).1) ?_ ?_ hl).mono ?_
  · exact (World.cell?_alloc_at _ _ _ _ rfl).trans (hcs j hj)
  · exact ((hf j hj hc).alloc _).congr fun t _ => (ovV_none f j t).symm
  · intro i j hi hj hij ci cj
    rcases Nat.lt_or_ge i j with h1 | h1
    · exact hne i j h1 hj ci cj
    · exact (hne j i (by omega) hi cj ci).symm
  · exact fun j hj hc => Nat.ne_of_gt ((h j hj).lt hc)
  rintro e w' ⟨he, h⟩
  refine ⟨he, h.os, h.tape, h.output, Nat.le_trans (by simp) h.size, fun k hk hn => ?_⟩
  rw [h.block k (by simp; omega) hn]
  exact Below.heap_alloc W _ k hk
/-- one of four -/
def q4 {α : Type} (x y z u : α) (j : Nat) : α := if j = 0 then x else if j = 1 then y else if j = 2 then z else u
theorem four_of {j : Nat} (h : j < 4) : j = 0 ∨ j = 1 ∨ j = 2 ∨ j = 3 := by omega
end Go.Proofs.YtogcfaijphpgfaaDoor
/- Contracts of package mac: Fold. -/
namespace Go.Proofs.YtogcfaijphpgfaaDoor
open Go.RowKit
/-- a slice of the call's own: its bytes, and that it may be written to its end -/
structure Mine (w : World) (base : Nat) (v : Value) (n : Nat) (f : Nat → Nat) (A : Option Addr) (c g : Nat) : Prop where
  val : v = .slice A n c
  row : SlB w A n f
  own : OwnR w A c g
  from_ : 0 < c → base ≤ g
  le : n ≤ c
  max : c ≤ maxLen
  nil : A = none → n = 0 ∧ c = 0
namespace Mine
variable {w w' : World} {base n : Nat} {v : Value} {f f' : Nat → Nat} {A : Option Addr} {c g : Nat}
theorem keep (h : Mine w base v n f A c g) (hb : Below w.heap.size w w') : Mine w' base v n f A c g := ⟨h.val, h.row.keep hb, h.own.keep hb, h.from_, h.le, h.max, h.nil⟩
theorem congr (h : Mine w base v n f A c g) (e : ∀ j, j < n → f j = f' j) : Mine w base v n f' A c g := ⟨h.val, h.row.congr e, h.own, h.from_, h.le, h.max, h.nil⟩
theorem less (h : Mine w base v n f A c g) {b : Nat} (hb : b ≤ base) : Mine w b v n f A c g := ⟨h.val, h.row, h.own, fun hc => Nat.le_trans hb (h.from_ hc), h.le, h.max, h.nil⟩
theorem of_ownB (h : OwnB w base v n f) (hf : ∀ j, j < n → f j < 256) : ∃ A c g, Mine w base v n f A c g := by
  obtain ⟨A, c, g, rfl, h1, h2, h3, h4⟩ := h.ownR
  obtain ⟨A1, c1, e1, h5⟩ := h.slice hf
  cases e1
  obtain ⟨A2, c2, e2, _, _, h6⟩ := h.cap_le
  cases e2
  exact ⟨A, c, g, rfl, h5, h1, h2, h4, h3, h6⟩
theorem of_arr {d m : Nat} {f : Nat → Nat} (h : Arr w d 0 m f) (hf : By m f) (hd : base ≤ d) (hm : m ≤ maxLen) : Mine w base (.slice (some ⟨d, 0, none⟩) m m) m f (some ⟨d, 0, none⟩) m d :=
  ⟨rfl, h.slB hf, OwnR.arr h, fun _ => hd, Nat.le_refl _, hm, fun h => by cases h⟩
end Mine
/-- what Fold leaves -/
def FoldP (w : World) (n : Nat) (f : Nat → Nat) (e : Ending) (w' : World) : Prop := (∃ v A c g, e = .returned v ∧ Mine w' w.heap.size v n f A c g) ∧ Below w.heap.size w w'
set_option maxRecDepth 100000 in
set_option maxHeartbeats 1600000 in
theorem fold_any (A : Option Addr) (n c : Nat) (key : Nat → Nat) (AL : Option Addr) (L cL : Nat) (s : Nat → ByteArray) (w : World) (hn : n ≤ 1000000000000) (hA : SlB w A n key) (hnil : A = none → n = 0 ∧ c = 0) (hL : L ≤ 1000000) (hS : SlS w AL L s) (hsz : ∀ j, j < L → (s j).size ≤ 1000000000000) (ht : GT w) :
    Calls Tryd.prog 18 #[.slice A n c, .slice AL L cL] w (FoldP w (fkN n L) (fkF n key s L)) := by
  have HCL := Lib.hid (clone_any A n c key w (by omega) hA hnil)
  have HKB := Lib.hid (show By n key from fun j hj => hA.byte hj)
  have HN := Lib.hid hn
  have HS := Lib.hid hS
  have HSZ := Lib.hid hsz
  have HT := Lib.hid ht
  clear hn hA hnil hS hsz ht
  go_enter Tryd.func18, Tryd.ntmps18
  go_wp2_with fail
  refine HCL.out.mono ?_
  rintro e w1 ⟨⟨v, rfl, hown⟩, hb1⟩
  obtain ⟨A1, c1, g1, hmine⟩ := Mine.of_ownB hown HKB.out
  obtain rfl := hmine.val
  have H1 := Lib.hid hmine
  have HB1 := Lib.hid hb1
  clear hown hmine hb1 HCL
  go_wp2_with fail
  go_loopw [5, 13] (fun v i wr => ∃ (k : Nat) (A2 : Option Addr) (c2 g2 : Nat), k ≤ L ∧ i = .int .i64 k ∧ v = .slice A2 (fkN n k) c2 ∧ Mine wr w.heap.size (.slice A2 (fkN n k) c2) (fkN n k) (fkF n key s k) A2 c2 g2 ∧ Below w.heap.size w wr) (fun _ i _ => L - (intOf i).toNat)
  case atStart => exact ⟨0, A1, c1, g1, Nat.zero_le _, rfl, rfl, H1.out, HB1.out⟩
  case round =>
    obtain ⟨k, A2, c2, g2, hk, rfl, rfl, h1, h2⟩ := hrel
    have G1 := Lib.hid h1
    have G2 := Lib.hid h2
    have HNK := Lib.hid (fkN_le (n := n) HN.out (by decide) k)
    clear h1 h2
    by_cases hlt : k < L
    · obtain ⟨B, o, rfl, hB, hsa⟩ := HS.out (by omega)
      have hcell : wr.cell? ⟨B, o + k, none⟩ = some (.string (s k)) := (hsa.keep G2.out) k hlt
      have HZ := Lib.hid (HSZ.out k hlt)
      have hlti : (k : Int) < L := by omega
      have HNX := Lib.hid (show fkF n key s (k + 1) = tag (fkN n k) (fkF n key s k) (8 + (s k).size) (catB 8 (len8 (s k).size) (by_ (s k))) from rfl)
      have HN1 := Lib.hid (show fkN n (k + 1) = 32 from rfl)
      have HFB := Lib.hid (fkF_by (s := s) HKB.out k)
      clear hsa hB
      generalize s k = x at *
      generalize fkN n k = m at *
      generalize fkF n key s k = F at *
      go_wp2_with fail
      refine (length_any x wr (by have := HZ.out; omega)).mono ?_
      rintro e w2 ⟨rfl, hb2⟩
      have HB2 := Lib.hid (G2.out.trans (hb2.mono G2.out.size))
      have HM2 := Lib.hid (G1.out.keep hb2)
      clear hcell hb2
      have HAR := Lib.hid (made8 w2)
      have HM3 := Lib.hid (HM2.out.keep (alloc_below w2 (.cells z8 60)))
      have hB3 := HB2.out.trans ((alloc_below w2 (.cells z8 60)).mono HB2.out.size)
      have HB3 := Lib.hid hB3
      have HWS := Lib.hid (show w.heap.size ≤ w2.heap.size from HB2.out.size)
      clear hB3
      go_wp2_with (refine wpList_storeB rfl 60 (.tmp 8) (.tmp 18) rfl w2.heap.size 0 8 _ _ rfl rfl HAR.out size8b ?_; intro w3 h1 h2; have HA3 := Lib.hid h1; have HC3 := Lib.hid h2; clear h1 h2; obtain ⟨cap, w4, hcv, hb4, hcap, hrow⟩ := bytesOf' x w3; have HB4 := Lib.hid hb4; have HCP := Lib.hid hcap; have HX4 := Lib.hid hrow; clear hb4 hcap hrow)
      clear hcv
      have hm3 := HM3.out
      have HB34 := Lib.hid (HC3.out.below (by simp) (Nat.le_refl _))
      have HG2 := Lib.hid (show 0 < c2 → g2 < w2.heap.size from fun h => HM2.out.own.lt h)
      have HW3 := Lib.hid (HB3.out.trans (HC3.out.below (by have := HWS.out; simp; omega) HWS.out))
      have HWB := Lib.hid (HW3.out.trans (HB4.out.mono HW3.out.size))
      have HM4 := Lib.hid (HM2.out.keep (((alloc_below w2 (.cells z8 60)).trans HB34.out).trans (HB4.out.mono (Nat.le_trans (alloc_below w2 (.cells z8 60)).size HB34.out.size))))
      have HA4 := Lib.hid (HA3.out.keep HB4.out)
      clear hm3
      refine (mac2_any w4 A2 (some ⟨w2.heap.size, 0, none⟩) (some ⟨w3.heap.size, 0, none⟩) m c2 8 x.size 8 cap F (len8 x.size) (by_ x) (catB 8 (len8 x.size) (by_ x)) (by have := HNK.out; omega) (by have := HZ.out; omega) HM4.out.le (Nat.le_refl _) HCP.out HM4.out.row HFB.out (HA4.out.slB fun j _ => len8_lt _ j) HX4.out
        (fun j hj => by unfold catB; rw [if_pos hj]) (fun j _ => by unfold catB; rw [if_neg (by omega), Nat.add_sub_cancel_left]) (HT.out.keep HWB.out)).mono ?_
      rintro e w5 ⟨d, rfl, hd, ha, hb5⟩
      have HB5 := Lib.hid (HWB.out.trans (hb5.mono HWB.out.size))
      have HR := Lib.hid (Mine.of_arr (base := w.heap.size) (f := fkF n key s (k + 1)) (by rw [HNX.out]; exact ha) (by rw [HNX.out]; exact fun j _ => tag_lt _ _ _ _ j) (Nat.le_trans HWB.out.size hd) (by unfold maxLen; omega))
      clear hd ha hb5
      go_wp2_with fail
      go_roundw
      case rel => exact ⟨k + 1, _, 32, d, by omega, by go_num, by rw [HN1.out], by rw [HN1.out]; exact HR.out, HB5.out⟩
      case measure => simp [intOf]; omega
    · obtain rfl : k = L := by omega
      go_wp2_with fail
      go_ret
      exact ⟨⟨_, A2, c2, g2, rfl, G1.out⟩, G2.out⟩
end Go.Proofs.YtogcfaijphpgfaaDoor
/- The laws' small case (layer 6). -/
namespace Go.Proofs.YtogcfaijphpgfaaDoor
open Go.RowKit
def jefeK (j : Nat) : Nat := [74, 101, 102, 101].getD j 0
def jefeA (j : Nat) : Nat := [119, 104, 97, 116, 32, 100, 111, 32, 121, 97, 32, 119, 97, 110, 116, 32].getD j 0
def jefeB (j : Nat) : Nat := [102, 111, 114, 32, 110, 111, 116, 104, 105, 110, 103, 63].getD j 0
def jefeP (j : Nat) : Nat := [119, 104, 97, 116, 32, 100, 111, 32, 121, 97, 32, 119, 97, 110, 116, 32, 102, 111, 114, 32, 110, 111, 116, 104, 105, 110, 103, 63].getD j 0
def jefeT (j : Nat) : Nat := [91, 220, 193, 70, 191, 96, 117, 78, 106, 4, 36, 38, 8, 149, 117, 199, 90, 0, 63, 8, 157, 39, 57, 131, 157, 236, 88, 185, 100, 236, 56, 67].getD j 0
theorem jefe_all : (List.range 32).map (tag 4 jefeK 28 jefeP) = (List.range 32).map jefeT := by decide +kernel
theorem jefe_tag (j : Nat) (hj : j < 32) : tag 4 jefeK 28 jefeP j = jefeT j := by
  have h : ((List.range 32).map (tag 4 jefeK 28 jefeP))[j]? = ((List.range 32).map jefeT)[j]? := by rw [jefe_all]
  rw [List.getElem?_map, List.getElem?_map, List.getElem?_range hj] at h
  simpa using h
theorem jefe_text : strOf 32 (tag 4 jefeK 28 jefeP) = ⟨#[91, 220, 193, 70, 191, 96, 117, 78, 106, 4, 36, 38, 8, 149, 117, 199, 90, 0, 63, 8, 157, 39, 57, 131, 157, 236, 88, 185, 100, 236, 56, 67]⟩ := by
  rw [strOf_congr 32 _ _ jefe_tag]; decide
theorem jefe_same (f : Nat → Nat) : sameB 32 32 f f = true := decide_eq_true ⟨rfl, fun _ _ => rfl⟩
set_option maxRecDepth 100000 in
set_option maxHeartbeats 1600000 in
theorem small6_any (w : World) (ht : GT w) : Calls Tryd.prog 9 #[] w fun e w' => e = .returned (.bool true) ∧ Below w.heap.size w w' := by
  have HT := Lib.hid ht
  clear ht
  have HLJ := Lib.hid (fun w : World => lit_slB w 5 (4, 5) [74, 101, 102, 101] (fun j => by by_cases h : j < 4; exact (show ∀ j, j < 4 → [74, 101, 102, 101].getD j 0 < 256 by decide) j h; rw [List.getD_eq_getElem?_getD, List.getElem?_eq_none (by simp; omega)]; decide))
  have HLA := Lib.hid (fun w : World => lit_slB w 5 (16, 17) [119, 104, 97, 116, 32, 100, 111, 32, 121, 97, 32, 119, 97, 110, 116, 32] (fun j => by by_cases h : j < 16; exact (show ∀ j, j < 16 → [119, 104, 97, 116, 32, 100, 111, 32, 121, 97, 32, 119, 97, 110, 116, 32].getD j 0 < 256 by decide) j h; rw [List.getD_eq_getElem?_getD, List.getElem?_eq_none (by simp; omega)]; decide))
  have HLB := Lib.hid (fun w : World => lit_slB w 5 (12, 13) [102, 111, 114, 32, 110, 111, 116, 104, 105, 110, 103, 63] (fun j => by by_cases h : j < 12; exact (show ∀ j, j < 12 → [102, 111, 114, 32, 110, 111, 116, 104, 105, 110, 103, 63].getD j 0 < 256 by decide) j h; rw [List.getD_eq_getElem?_getD, List.getElem?_eq_none (by simp; omega)]; decide))
  have kc := fun (w : World) C n c => kconv w C n c w.heap.size rfl
  have kc2 := fun (w : World) o C n c => kconv (w.alloc o) C n c (w.heap.size + 1) (by simp)
  have kc3 := fun (w : World) o o2 C n c => kconv ((w.alloc o).alloc o2) C n c (w.heap.size + 1 + 1) (by simp)
  go_enter Tryd.func9, Tryd.ntmps9
  go_wp2_with fail
  clear kc kc2 kc3
  have hb1 : Below w.heap.size w (w.alloc (.cells #[.int .u8 74, .int .u8 101, .int .u8 102, .int .u8 101] 5 (4, 5))) := alloc_below w _
  have hb2 : Below w.heap.size w ((w.alloc (.cells #[.int .u8 74, .int .u8 101, .int .u8 102, .int .u8 101] 5 (4, 5))).alloc (.cells #[.int .u8 119, .int .u8 104, .int .u8 97, .int .u8 116, .int .u8 32, .int .u8 100, .int .u8 111, .int .u8 32, .int .u8 121, .int .u8 97, .int .u8 32, .int .u8 119, .int .u8 97, .int .u8 110, .int .u8 116, .int .u8 32] 5 (16, 17))) := hb1.alloc (by simp) _
  have hb3 : Below w.heap.size w (((w.alloc (.cells #[.int .u8 74, .int .u8 101, .int .u8 102, .int .u8 101] 5 (4, 5))).alloc (.cells #[.int .u8 119, .int .u8 104, .int .u8 97, .int .u8 116, .int .u8 32, .int .u8 100, .int .u8 111, .int .u8 32, .int .u8 121, .int .u8 97, .int .u8 32, .int .u8 119, .int .u8 97, .int .u8 110, .int .u8 116, .int .u8 32] 5 (16, 17))).alloc (.cells #[.int .u8 102, .int .u8 111, .int .u8 114, .int .u8 32, .int .u8 110, .int .u8 111, .int .u8 116, .int .u8 104, .int .u8 105, .int .u8 110, .int .u8 103, .int .u8 63] 5 (12, 13))) := hb2.alloc (by simp; omega) _
  have e1 : (w.alloc (.cells #[.int .u8 74, .int .u8 101, .int .u8 102, .int .u8 101] 5 (4, 5))).heap.size = w.heap.size + 1 := by simp
  have e2 : ((w.alloc (.cells #[.int .u8 74, .int .u8 101, .int .u8 102, .int .u8 101] 5 (4, 5))).alloc (.cells #[.int .u8 119, .int .u8 104, .int .u8 97, .int .u8 116, .int .u8 32, .int .u8 100, .int .u8 111, .int .u8 32, .int .u8 121, .int .u8 97, .int .u8 32, .int .u8 119, .int .u8 97, .int .u8 110, .int .u8 116, .int .u8 32] 5 (16, 17))).heap.size = w.heap.size + 1 + 1 := by simp
  have e3 : (((w.alloc (.cells #[.int .u8 74, .int .u8 101, .int .u8 102, .int .u8 101] 5 (4, 5))).alloc (.cells #[.int .u8 119, .int .u8 104, .int .u8 97, .int .u8 116, .int .u8 32, .int .u8 100, .int .u8 111, .int .u8 32, .int .u8 121, .int .u8 97, .int .u8 32, .int .u8 119, .int .u8 97, .int .u8 110, .int .u8 116, .int .u8 32] 5 (16, 17))).alloc (.cells #[.int .u8 102, .int .u8 111, .int .u8 114, .int .u8 32, .int .u8 110, .int .u8 111, .int .u8 116, .int .u8 104, .int .u8 105, .int .u8 110, .int .u8 103, .int .u8 63] 5 (12, 13))).heap.size = w.heap.size + 1 + 1 + 1 := by simp
  have hJ := ((HLJ.out w).keep (alloc_below _ (.cells #[.int .u8 119, .int .u8 104, .int .u8 97, .int .u8 116, .int .u8 32, .int .u8 100, .int .u8 111, .int .u8 32, .int .u8 121, .int .u8 97, .int .u8 32, .int .u8 119, .int .u8 97, .int .u8 110, .int .u8 116, .int .u8 32] 5 (16, 17)))).keep (alloc_below _ (.cells #[.int .u8 102, .int .u8 111, .int .u8 114, .int .u8 32, .int .u8 110, .int .u8 111, .int .u8 116, .int .u8 104, .int .u8 105, .int .u8 110, .int .u8 103, .int .u8 63] 5 (12, 13)))
  have hA := (HLA.out (w.alloc (.cells #[.int .u8 74, .int .u8 101, .int .u8 102, .int .u8 101] 5 (4, 5)))).keep (alloc_below _ (.cells #[.int .u8 102, .int .u8 111, .int .u8 114, .int .u8 32, .int .u8 110, .int .u8 111, .int .u8 116, .int .u8 104, .int .u8 105, .int .u8 110, .int .u8 103, .int .u8 63] 5 (12, 13)))
  have hB := HLB.out ((w.alloc (.cells #[.int .u8 74, .int .u8 101, .int .u8 102, .int .u8 101] 5 (4, 5))).alloc (.cells #[.int .u8 119, .int .u8 104, .int .u8 97, .int .u8 116, .int .u8 32, .int .u8 100, .int .u8 111, .int .u8 32, .int .u8 121, .int .u8 97, .int .u8 32, .int .u8 119, .int .u8 97, .int .u8 110, .int .u8 116, .int .u8 32] 5 (16, 17)))
  rw [e1] at hA
  rw [e2] at hB
  have HS := mac2_any (((w.alloc (.cells #[.int .u8 74, .int .u8 101, .int .u8 102, .int .u8 101] 5 (4, 5))).alloc (.cells #[.int .u8 119, .int .u8 104, .int .u8 97, .int .u8 116, .int .u8 32, .int .u8 100, .int .u8 111, .int .u8 32, .int .u8 121, .int .u8 97, .int .u8 32, .int .u8 119, .int .u8 97, .int .u8 110, .int .u8 116, .int .u8 32] 5 (16, 17))).alloc (.cells #[.int .u8 102, .int .u8 111, .int .u8 114, .int .u8 32, .int .u8 110, .int .u8 111, .int .u8 116, .int .u8 104, .int .u8 105, .int .u8 110, .int .u8 103, .int .u8 63] 5 (12, 13))) (some ⟨w.heap.size, 0, none⟩) (some ⟨w.heap.size + 1, 0, none⟩) (some ⟨w.heap.size + 1 + 1, 0, none⟩) 4 4 16 12 16 12 jefeK jefeA jefeB jefeP (by decide) (by decide) (by decide) (by decide) (by decide) hJ (fun j hj => hJ.byte hj) hA hB (by decide) (by decide) (HT.out.keep hb3)
  rw [e3] at HS
  have HH := Lib.hid HS
  have HB3 := Lib.hid hb3
  clear hb1 hb2 hb3 e1 e2 e3 hJ hA hB HS HLJ HLA HLB
  refine HH.out.mono ?_
  rintro e w1 ⟨d, rfl, _, ha, hb⟩
  have HB := Lib.hid (HB3.out.trans (hb.mono HB3.out.size))
  have ha' : Arr w1 d 0 32 (tag 4 jefeK 28 jefeP) := ha
  have HSL := Lib.hid (ha'.slB fun j _ => tag_lt _ _ _ _ j)
  have hcv := convSl (cap := 32) HSL.out (Nat.le_refl 32)
  rw [jefe_text] at hcv
  have hb0 := alloc_below w1 (.cells #[] 5)
  obtain ⟨A5, c5, w5, hrun5, _, hs5, _, hb5⟩ := run_appO (w1.alloc (.cells #[] 5)) w1.heap.size _ 0 (fun _ => 0) (OwnB.empty w1 _ _ (Nat.le_refl _)) (some ⟨d, 0, none⟩) 32 32 (tag 4 jefeK 28 jefeP) (HSL.out.keep hb0) (fun h => by cases h) (by decide) hb0.size (fun j hj => absurd hj (Nat.not_lt_zero j)) (fun j _ => tag_lt _ _ _ _ j)
  rw [Nat.zero_add] at hrun5 hs5
  have HR5 := Lib.hid hrun5
  have HS5 := Lib.hid (hs5.congr (f' := tag 4 jefeK 28 jefeP) fun j _ => rfl)
  have HB5 := Lib.hid (HB.out.trans ((hb0.trans hb5).mono HB.out.size))
  have HSA := Lib.hid (HSL.out.keep (hb0.trans hb5))
  have HSM := Lib.hid (same_any (some ⟨d, 0, none⟩) A5 32 32 32 c5 (tag 4 jefeK 28 jefeP) (tag 4 jefeK 28 jefeP) w5 (by decide) (by decide) HSA.out HS5.out)
  clear ha ha' hb hrun5 hs5 hb5 hb0 HH HB3 HT
  go_wp2_with (refine wpList_runA (.tmp 15) (.tmp 16) rfl rfl (by rfl) rfl rfl HR5.out ?_)
  refine HSM.out.mono ?_
  rintro e w6 ⟨rfl, q, rfl⟩
  rw [jefe_same]
  go_wp2_with fail
  go_ret
  exact ⟨rfl, drawn HB5.out q⟩
end Go.Proofs.YtogcfaijphpgfaaDoor
/- Law MacSame (layer 6): the walk. -/
namespace Go.Proofs.YtogcfaijphpgfaaDoor
open Go.RowKit
theorem strOf_inj {n m : Nat} {f g : Nat → Nat} (hf : ∀ j, j < n → f j < 256) (hg : ∀ j, j < m → g j < 256) (h : strOf n f = strOf m g) : n = m ∧ ∀ j, j < n → f j = g j := by
  have hn : n = m := by rw [← strOf_size n f, ← strOf_size m g, h]
  subst hn
  refine ⟨rfl, fun j hj => ?_⟩
  rw [← strOf_at n f 0 j hj (hf j hj), h, strOf_at n g 0 j hj (hg j hj)]
theorem str_eq (s t : ByteArray) : (s.toList == t.toList) = decide (s = t) := by
  rw [Bool.eq_iff_iff, beq_iff_eq, decide_eq_true_iff, ByteArray.toList_eq, ByteArray.toList_eq]
  exact ⟨fun h => ByteArray.ext (Array.ext' h), fun h => by rw [h]⟩
theorem same_str {n m : Nat} {f g : Nat → Nat} (hf : ∀ j, j < n → f j < 256) (hg : ∀ j, j < m → g j < 256) : ((strOf n f).toList == (strOf m g).toList) = sameB n m f g := by
  rw [str_eq]
  unfold sameB
  refine decide_eq_decide.2 ⟨fun h => strOf_inj hf hg h, fun ⟨h1, h2⟩ => ?_⟩
  subst h1
  exact strOf_congr n f g h2
/-- what Lent leaves, as bytes -/
theorem lent_slB {w : World} {g n : Nat} {f : Nat → Nat} (h : w.rowIs g 5 (n + 1) (fun j => .int .u8 (if j < n then f j else 77 : Nat))) (hf : By n f) : SlB w (some ⟨g, 0, none⟩) n f :=
  SlB.of_rowX ((RowX.of_rowIs h).less (Nat.le_succ n)) fun j hj => ⟨hf j hj, by rw [if_pos hj]⟩
set_option maxHeartbeats 1600000 in
theorem msame_any (A B : Option Addr) (n c m c2 : Nat) (f g : Nat → Nat) (w : World) (hn : n ≤ 140737488351232) (hm : m ≤ 140737488351232) (hA : SlB w A n f) (hB : SlB w B m g) (ht : GT w) :
    Calls Tryd.prog 4 #[.slice A n c, .slice B m c2] w fun e w' => e = .returned (.bool true) ∧ Below w.heap.size w w' := by
  have HA := Lib.hid hA
  have HB := Lib.hid hB
  have HT := Lib.hid ht
  have HFA := Lib.hid (show By n f from fun j hj => hA.byte hj)
  have HFB := Lib.hid (show By m g from fun j hj => hB.byte hj)
  clear hA hB ht
  go_enter Tryd.func4, Tryd.ntmps4
  go_wp2_with fail
  refine (small6_any w HT.out).mono ?_
  rintro e w1 ⟨rfl, hb⟩
  have HB1 := Lib.hid hb
  clear hb
  go_wp2_with fail
  refine (lent_any A n c f w1 hn (HA.out.keep HB1.out)).mono ?_
  rintro e w2 ⟨g1, rfl, hg, hrow, hb⟩
  have HR1 := Lib.hid hrow
  have HB2 := Lib.hid (HB1.out.trans (hb.mono HB1.out.size))
  clear hg hrow hb
  go_wp2_with fail
  refine (lent_any B m c2 g w2 hm (HB.out.keep HB2.out)).mono ?_
  rintro e w3 ⟨g2, rfl, hg, hrow, hb⟩
  have HR2 := Lib.hid hrow
  have HR1b := Lib.hid (HR1.out.of_block (hb.block g1 HR1.out.lt))
  have HB3 := Lib.hid (HB2.out.trans (hb.mono HB2.out.size))
  clear hg hrow hb HR1
  go_wp2_with fail
  refine (same_any (some ⟨g1, 0, none⟩) (some ⟨g2, 0, none⟩) n (n + 1) m (m + 1) f g w3 hn hm (lent_slB HR1b.out HFA.out) (lent_slB HR2.out HFB.out)).mono ?_
  rintro e w4 ⟨rfl, q, rfl⟩
  have HB4 := Lib.hid (drawn HB3.out q)
  have HQ1 := Lib.hid (show (w3.drewN q).rowIs g1 5 (n + 1) (fun j => .int .u8 (if j < n then f j else 77 : Nat)) from HR1b.out.of_block rfl)
  have HQ2 := Lib.hid (show (w3.drewN q).rowIs g2 5 (m + 1) (fun j => .int .u8 (if j < m then g j else 77 : Nat)) from HR2.out.of_block rfl)
  generalize w3.drewN q = w5 at *
  have HK1 := Lib.hid (kept_any g1 A n c f w5 hn (HA.out.keep HB4.out) HQ1.out)
  have HK2 := Lib.hid (kept_any g2 B m c2 g w5 hm (HB.out.keep HB4.out) HQ2.out)
  have hcv1 := convSl (cap := c) (HA.out.keep HB4.out) (Nat.le_refl n)
  have hcv2 := convSl (cap := c2) (HB.out.keep HB4.out) (Nat.le_refl m)
  have hs := same_str HFA.out HFB.out
  generalize strOf n f = X at *
  generalize strOf m g = Y at *
  clear HR1b HR2 HQ1 HQ2 HB3
  cases hsb : sameB n m f g
  all_goals
    rw [hsb] at hs
    clear hsb
    go_wp2_with fail
    refine HK1.out.mono ?_
    rintro e w6 ⟨rfl, rfl⟩
    go_wp2_with fail
    refine HK2.out.mono ?_
    rintro e w6 ⟨rfl, rfl⟩
    go_wp2_with fail
    go_ret
    exact ⟨rfl, HB4.out⟩
end Go.Proofs.YtogcfaijphpgfaaDoor
/- Law MacLong (layer 6): the walk. -/
namespace Go.Proofs.YtogcfaijphpgfaaDoor
open Go.RowKit
theorem run_build1 (w : World) (A0 : Option Addr) (n0 c0 : Nat) : (Instr.buildSlice 30 1 #[(0, .slice A0 n0 c0)]).run Tryd.prog w = .ok (.slice (some ⟨w.heap.size, 0, none⟩) 1 1) (w.alloc (.cells #[.slice A0 n0 c0] 22)) := by go_simp
theorem mac1_parts (W : World) (gp cap : Nat) (AK A : Option Addr) (n ck l c : Nat) (key f : Nat → Nat) (hn : n ≤ 10000000000000) (hl : l ≤ 10000000000000) (hck : n ≤ ck) (hc : l ≤ c) (hAK : SlB W AK n key) (hkey : By n key) (hp : Parts W gp 1 (fun _ => A) (fun _ => l) (fun _ => c) (fun _ => f)) (ht : GT W) :
    Calls Tryd.prog 12 #[.slice AK n ck, .slice (some ⟨gp, 0, none⟩) 1 cap] W (TagD n key l f W) := by
  refine mac_any gp 1 cap n ck AK key (fun _ => A) (fun _ => l) (fun _ => c) (fun _ => f) f l _ hn hck hAK hkey (by decide) (by decide) (Nat.zero_add l) hl hp (fun _ _ => hc) (fun i hi j hj => ?_) (fun j hj => (hp.rows 0 (by decide)).byte hj) ht
  obtain rfl : i = 0 := by omega
  show f (0 + j) = f j
  rw [Nat.zero_add]
theorem sum1_parts (W : World) (gp cap : Nat) (A : Option Addr) (n c : Nat) (f : Nat → Nat) (hn : n ≤ 100000000000000) (hc : n ≤ c) (hp : Parts W gp 1 (fun _ => A) (fun _ => n) (fun _ => c) (fun _ => f)) (ht : GT W) :
    Calls Tryd.prog 20 #[.slice (some ⟨gp, 0, none⟩) 1 cap] W (Dig W n f) := by
  refine (sum_any gp 1 cap (fun _ => A) (fun _ => n) (fun _ => c) (fun _ => f) f _ (by decide) (by decide) (by show 0 + n ≤ _; omega) hp (fun _ _ => hc) (fun i hi j hj => ?_) (fun j hj => (hp.rows 0 (by decide)).byte (by have : j < 0 + n := hj; omega)) ht).mono fun e w' h => (Dig.of h (Below.refl _ _)).as (Nat.zero_add n) fun _ _ => rfl
  obtain rfl : i = 0 := by omega
  show f (0 + j) = f j
  rw [Nat.zero_add]
/-- a long key is as its digest -/
theorem tag_long {n : Nat} (hn : 64 < n) (f : Nat → Nat) (m : Nat) (g : Nat → Nat) (j : Nat) : tag 32 (sha n f) m g j = tag n f m g j :=
  tag_halves (fun j _ => by
    unfold kf
    by_cases h : j < 32
    · rw [if_pos (show 32 ≤ 64 by decide), if_pos h, if_neg (by omega)]
    · rw [if_pos (show 32 ≤ 64 by decide), if_neg h, if_neg (by omega)]) (fun _ _ => rfl) j
--DEFS lo
def loG (A B : Option Addr) (n c m c2 : Nat) (f g : Nat → Nat) : Nat → Value → World → Prop
  | 0, v, _ => v = .bool true
  | 1, v, _ => v = .bool true
  | 2, v, _ => v = .slice A n c
  | 3, v, _ => v = .slice B m c2
  | 4, v, w => ∃ p, v = .slice (some ⟨p, 0, none⟩) 1 1 ∧ Parts w p 1 (fun _ => B) (fun _ => m) (fun _ => c2) (fun _ => g)
  | 5, v, w => ∃ d, v = .slice (some ⟨d, 0, none⟩) 32 32 ∧ Arr w d 0 32 (tag n f m g)
  | 6, v, _ => v = .string (strOf 32 (tag n f m g))
  | 7, v, _ => v = .slice A n c
  | 8, v, w => ∃ p, v = .slice (some ⟨p, 0, none⟩) 1 1 ∧ Parts w p 1 (fun _ => A) (fun _ => n) (fun _ => c) (fun _ => f)
  | 9, v, w => ∃ d, v = .slice (some ⟨d, 0, none⟩) 32 32 ∧ Arr w d 0 32 (sha n f)
  | 10, v, _ => v = .slice B m c2
  | 11, v, w => ∃ p, v = .slice (some ⟨p, 0, none⟩) 1 1 ∧ Parts w p 1 (fun _ => B) (fun _ => m) (fun _ => c2) (fun _ => g)
  | 12, v, w => ∃ d, v = .slice (some ⟨d, 0, none⟩) 32 32 ∧ Arr w d 0 32 (tag n f m g)
  | 13, v, _ => v = .string (strOf 32 (tag n f m g))
  | 14, v, _ => v = .bool true
  | 15, v, _ => v = .bool true
  | _, _, _ => True
theorem loG_stays (A B : Option Addr) (n c m c2 : Nat) (f g : Nat → Nat) : ∀ i v w w', loG A B n c m c2 f g i v w → Below w.heap.size w w' → loG A B n c m c2 f g i v w'
  | 0, _, _, _, h, _ => h
  | 1, _, _, _, h, _ => h
  | 2, _, _, _, h, _ => h
  | 3, _, _, _, h, _ => h
  | 4, v, w, w', h_, hb => by
    obtain ⟨p, h1, h2⟩ := h_; exact ⟨p, h1, h2.keep hb⟩
  | 5, v, w, w', h_, hb => by
    obtain ⟨p, h1, h2⟩ := h_; exact ⟨p, h1, h2.keep hb⟩
  | 6, _, _, _, h, _ => h
  | 7, _, _, _, h, _ => h
  | 8, v, w, w', h_, hb => by
    obtain ⟨p, h1, h2⟩ := h_; exact ⟨p, h1, h2.keep hb⟩
  | 9, v, w, w', h_, hb => by
    obtain ⟨p, h1, h2⟩ := h_; exact ⟨p, h1, h2.keep hb⟩
  | 10, _, _, _, h, _ => h
  | 11, v, w, w', h_, hb => by
    obtain ⟨p, h1, h2⟩ := h_; exact ⟨p, h1, h2.keep hb⟩
  | 12, v, w, w', h_, hb => by
    obtain ⟨p, h1, h2⟩ := h_; exact ⟨p, h1, h2.keep hb⟩
  | 13, _, _, _, h, _ => h
  | 14, _, _, _, h, _ => h
  | 15, _, _, _, h, _ => h
  | _ + 16, _, _, _, _, _ => trivial
--END DEFS lo
set_option maxRecDepth 100000 in
set_option maxHeartbeats 1600000 in
theorem long_any (A B : Option Addr) (n c m c2 : Nat) (f g : Nat → Nat) (w0 : World) (hn : 64 < n) (hn2 : n ≤ 4096) (hm : m ≤ 4096) (hc : n ≤ c) (hc2 : m ≤ c2) (hA : SlB w0 A n f) (hB : SlB w0 B m g) (ht : GT w0) :
    Calls Tryd.prog 7 #[.slice A n c, .slice B m c2] w0 fun e w' => e = .returned (.bool true) ∧ Below w0.heap.size w0 w' := by
  have HA := Lib.hid hA
  have HB := Lib.hid hB
  have HT := Lib.hid ht
  have HFA := Lib.hid (show By n f from fun j hj => hA.byte hj)
  have HCA := Lib.hid hc
  have HCB := Lib.hid hc2
  have HTG := Lib.hid (tag_long hn f m g)
  have hd1 : decide ((n : Int) ≤ 64) = false := by simp; omega
  have hd2 : decide (4096 < (n : Int)) = false := by simp; omega
  have hd3 : decide (4096 < (m : Int)) = false := by simp; omega
  clear hA hB ht
  go_enter Tryd.func7, Tryd.ntmps7
  go_wp2_with fail
  refine (small6_any w0 HT.out).mono ?_
  rintro e w1 ⟨rfl, hb⟩
  have HB1 := Lib.hid hb
  have HAk := Lib.hid (show ∀ w', Below w1.heap.size w1 w' → SlB w' A n f from fun w' h => (HA.out.keep hb).keep h)
  have HBk := Lib.hid (show ∀ w', Below w1.heap.size w1 w' → SlB w' B m g from fun w' h => (HB.out.keep hb).keep h)
  have HTk := Lib.hid (show ∀ w', Below w1.heap.size w1 w' → GT w' from fun w' h => (HT.out.keep hb).keep h)
  clear hb
  go_wp2_with fail
  refine ord.wp_region_ordT 16 [[], [0], [1], [1], [3, 1], [2, 4, 1], [5, 1], [1], [7, 1], [8, 1], [1], [10, 1], [9, 11, 1], [12, 1], [6, 13, 1], [1, 14]] [(0, 21), (1, 22), (2, 23), (3, 24), (4, 25), (5, 26), (6, 27), (7, 28), (8, 29), (9, 30), (10, 31), (11, 32), (12, 33), (13, 34), (14, 35), (15, 36)] (loG A B n c m c2 f g) (by kernel_rfl) (by kernel_rfl) (by kernel_rfl) (loG_stays _ _ _ _ _ _ _ _) ((ord.steps_cons ?_ (ord.steps_cons ?_ (ord.steps_cons ?_ (ord.steps_cons ?_ (ord.steps_cons ?_ (ord.steps_cons ?_ (ord.steps_cons ?_ (ord.steps_cons ?_ (ord.steps_cons ?_ (ord.steps_cons ?_ (ord.steps_cons ?_ (ord.steps_cons ?_ (ord.steps_cons ?_ (ord.steps_cons ?_ (ord.steps_cons ?_ (ord.steps_cons ?_ ord.steps_nil))))))))))))))))) ?_
  --STEPS lo
  · intro o ho x w hb hG
    obtain rfl := Option.some.inj ho
    clear ho
    refine Or.inl ⟨ord.want0 rfl, ?_⟩
    exact ord.makes_move rfl ⟨Below.refl _ _, rfl⟩
  · intro o ho x w hb hG
    obtain rfl := Option.some.inj ho
    clear ho
    have h21 : x 0 = .bool true := hG (0, 21) (List.mem_of_getElem? (i := 0) rfl) rfl
    refine Or.inl ⟨ord.want0 rfl, ?_⟩
    exact ord.makes_move rfl ⟨Below.refl _ _, h21⟩
  · intro o ho x w hb hG
    obtain rfl := Option.some.inj ho
    clear ho
    have h22 : x 1 = .bool true := hG (1, 22) (List.mem_of_getElem? (i := 1) rfl) rfl
    refine Or.inl ⟨ord.wantG rfl rfl h22, ?_⟩
    exact ord.makes_move rfl ⟨Below.refl _ _, rfl⟩
  · intro o ho x w hb hG
    obtain rfl := Option.some.inj ho
    clear ho
    have h22 : x 1 = .bool true := hG (1, 22) (List.mem_of_getElem? (i := 1) rfl) rfl
    refine Or.inl ⟨ord.wantG rfl rfl h22, ?_⟩
    exact ord.makes_move rfl ⟨Below.refl _ _, rfl⟩
  · intro o ho x w hb hG
    obtain rfl := Option.some.inj ho
    clear ho
    have h24 : x 3 = .slice B m c2 := hG (3, 24) (List.mem_of_getElem? (i := 3) rfl) rfl
    have h22 : x 1 = .bool true := hG (1, 22) (List.mem_of_getElem? (i := 1) rfl) rfl
    refine Or.inl ⟨ord.wantG rfl rfl h22, ?_⟩
    exact ord.makes_build1 rfl h24 (run_build1 w _ _ _) ⟨alloc_below w _, _, rfl, parts1 _ _ _ _ (HBk.out w (of_drew hb))⟩
  · intro o ho x w hb hG
    obtain rfl := Option.some.inj ho
    clear ho
    have h23 : x 2 = .slice A n c := hG (2, 23) (List.mem_of_getElem? (i := 2) rfl) rfl
    have h25 : loG A B n c m c2 f g 4 (x 4) w := hG (4, 25) (List.mem_of_getElem? (i := 4) rfl) rfl
    have h22 : x 1 = .bool true := hG (1, 22) (List.mem_of_getElem? (i := 1) rfl) rfl
    refine Or.inl ⟨ord.wantG rfl rfl h22, ?_⟩
    obtain ⟨p, hv, hp⟩ := h25
    exact ord.makes_call2 Tryd.func12 (by kernel_rfl) (by kernel_rfl) rfl h23 hv (mac1_parts w p 1 A B n c m c2 f g (by omega) (by omega) HCA.out HCB.out (HAk.out w (of_drew hb)) HFA.out hp (HTk.out w (of_drew hb))) (fun e w' h => by obtain ⟨d, he, _, h2, h4⟩ := h; exact ⟨_, he, h4, d, rfl, h2⟩)
  · intro o ho x w hb hG
    obtain rfl := Option.some.inj ho
    clear ho
    have h26 : loG A B n c m c2 f g 5 (x 5) w := hG (5, 26) (List.mem_of_getElem? (i := 5) rfl) rfl
    have h22 : x 1 = .bool true := hG (1, 22) (List.mem_of_getElem? (i := 1) rfl) rfl
    refine Or.inl ⟨ord.wantG rfl rfl h22, ?_⟩
    obtain ⟨d, hv, ha⟩ := h26
    exact ord.makes_conv rfl hv (convSl (ha.slB fun j _ => tag_lt _ _ _ _ j) (Nat.le_refl 32)) ⟨Below.refl _ _, rfl⟩
  · intro o ho x w hb hG
    obtain rfl := Option.some.inj ho
    clear ho
    have h22 : x 1 = .bool true := hG (1, 22) (List.mem_of_getElem? (i := 1) rfl) rfl
    refine Or.inl ⟨ord.wantG rfl rfl h22, ?_⟩
    exact ord.makes_move rfl ⟨Below.refl _ _, rfl⟩
  · intro o ho x w hb hG
    obtain rfl := Option.some.inj ho
    clear ho
    have h28 : x 7 = .slice A n c := hG (7, 28) (List.mem_of_getElem? (i := 7) rfl) rfl
    have h22 : x 1 = .bool true := hG (1, 22) (List.mem_of_getElem? (i := 1) rfl) rfl
    refine Or.inl ⟨ord.wantG rfl rfl h22, ?_⟩
    exact ord.makes_build1 rfl h28 (run_build1 w _ _ _) ⟨alloc_below w _, _, rfl, parts1 _ _ _ _ (HAk.out w (of_drew hb))⟩
  · intro o ho x w hb hG
    obtain rfl := Option.some.inj ho
    clear ho
    have h29 : loG A B n c m c2 f g 8 (x 8) w := hG (8, 29) (List.mem_of_getElem? (i := 8) rfl) rfl
    have h22 : x 1 = .bool true := hG (1, 22) (List.mem_of_getElem? (i := 1) rfl) rfl
    refine Or.inl ⟨ord.wantG rfl rfl h22, ?_⟩
    obtain ⟨p, hv, hp⟩ := h29
    exact ord.makes_call1 Tryd.func20 (by kernel_rfl) (by kernel_rfl) rfl hv (sum1_parts w p 1 A n c f (by omega) HCA.out hp (HTk.out w (of_drew hb))) (fun e w' h => by obtain ⟨d, he, _, h2, h4⟩ := h; exact ⟨_, he, h4, d, rfl, h2⟩)
  · intro o ho x w hb hG
    obtain rfl := Option.some.inj ho
    clear ho
    have h22 : x 1 = .bool true := hG (1, 22) (List.mem_of_getElem? (i := 1) rfl) rfl
    refine Or.inl ⟨ord.wantG rfl rfl h22, ?_⟩
    exact ord.makes_move rfl ⟨Below.refl _ _, rfl⟩
  · intro o ho x w hb hG
    obtain rfl := Option.some.inj ho
    clear ho
    have h31 : x 10 = .slice B m c2 := hG (10, 31) (List.mem_of_getElem? (i := 10) rfl) rfl
    have h22 : x 1 = .bool true := hG (1, 22) (List.mem_of_getElem? (i := 1) rfl) rfl
    refine Or.inl ⟨ord.wantG rfl rfl h22, ?_⟩
    exact ord.makes_build1 rfl h31 (run_build1 w _ _ _) ⟨alloc_below w _, _, rfl, parts1 _ _ _ _ (HBk.out w (of_drew hb))⟩
  · intro o ho x w hb hG
    obtain rfl := Option.some.inj ho
    clear ho
    have h30 : loG A B n c m c2 f g 9 (x 9) w := hG (9, 30) (List.mem_of_getElem? (i := 9) rfl) rfl
    have h32 : loG A B n c m c2 f g 11 (x 11) w := hG (11, 32) (List.mem_of_getElem? (i := 11) rfl) rfl
    have h22 : x 1 = .bool true := hG (1, 22) (List.mem_of_getElem? (i := 1) rfl) rfl
    refine Or.inl ⟨ord.wantG rfl rfl h22, ?_⟩
    obtain ⟨d, hvd, hd⟩ := h30
    obtain ⟨p, hv, hp⟩ := h32
    exact ord.makes_call2 Tryd.func12 (by kernel_rfl) (by kernel_rfl) rfl hvd hv (mac1_parts w p 1 (some ⟨d, 0, none⟩) B 32 32 m c2 (sha n f) g (by decide) (by omega) (Nat.le_refl _) HCB.out (hd.slB fun j _ => sha_lt _ _ j) (fun j _ => sha_lt _ _ j) hp (HTk.out w (of_drew hb))) (fun e w' h => by obtain ⟨d, he, _, h2, h4⟩ := h; exact ⟨_, he, h4, d, rfl, h2.congr fun j _ => HTG.out j⟩)
  · intro o ho x w hb hG
    obtain rfl := Option.some.inj ho
    clear ho
    have h33 : loG A B n c m c2 f g 12 (x 12) w := hG (12, 33) (List.mem_of_getElem? (i := 12) rfl) rfl
    have h22 : x 1 = .bool true := hG (1, 22) (List.mem_of_getElem? (i := 1) rfl) rfl
    refine Or.inl ⟨ord.wantG rfl rfl h22, ?_⟩
    obtain ⟨d, hv, ha⟩ := h33
    exact ord.makes_conv rfl hv (convSl (ha.slB fun j _ => tag_lt _ _ _ _ j) (Nat.le_refl 32)) ⟨Below.refl _ _, rfl⟩
  · intro o ho x w hb hG
    obtain rfl := Option.some.inj ho
    clear ho
    have h27 : x 6 = .string (strOf 32 (tag n f m g)) := hG (6, 27) (List.mem_of_getElem? (i := 6) rfl) rfl
    have h34 : x 13 = .string (strOf 32 (tag n f m g)) := hG (13, 34) (List.mem_of_getElem? (i := 13) rfl) rfl
    have h22 : x 1 = .bool true := hG (1, 22) (List.mem_of_getElem? (i := 1) rfl) rfl
    refine Or.inl ⟨ord.wantG rfl rfl h22, ?_⟩
    exact ord.makes_bin rfl h27 h34 (by exact str_same2 _ _ _ _) ⟨Below.refl _ _, rfl⟩
  · intro o ho x w hb hG
    obtain rfl := Option.some.inj ho
    clear ho
    have h22 : x 1 = .bool true := hG (1, 22) (List.mem_of_getElem? (i := 1) rfl) rfl
    have h35 : x 14 = .bool true := hG (14, 35) (List.mem_of_getElem? (i := 14) rfl) rfl
    refine Or.inl ⟨ord.want0 rfl, ?_⟩
    exact ord.makes_pick rfl h22 ⟨Below.refl _ _, h35⟩
  --END STEPS lo
  · intro x w5 hb hG
    have e36 : x 15 = .bool true := hG (15, 36) (List.mem_of_getElem? (i := 15) rfl)
    clear hG
    have HB5 := Lib.hid (HB1.out.trans (hb.mono HB1.out.size))
    clear hb
    simp only [ord.puts, ord.put', List.set_cons_zero, List.set_cons_succ, if_true]
    rw [e36]
    simp only [List.drop_succ_cons, List.drop_zero]
    go_wp2_with fail
    go_ret
    exact ⟨rfl, HB5.out⟩
theorem long_all (A B : Option Addr) (n c m c2 : Nat) (f g : Nat → Nat) (w0 : World) (hc : n ≤ c) (hc2 : m ≤ c2) (hn : n ≤ 140737488351232) (hm : m ≤ 140737488351232) (hA : SlB w0 A n f) (hB : SlB w0 B m g) (ht : GT w0) :
    Calls Tryd.prog 7 #[.slice A n c, .slice B m c2] w0 fun e w' => e = .returned (.bool true) ∧ Below w0.heap.size w0 w' := by
  by_cases h1 : n ≤ 64
  · have hd1 : decide ((n : Int) ≤ 64) = true := by simp; omega
    have HT := Lib.hid ht
    clear hA hB ht
    go_enter Tryd.func7, Tryd.ntmps7
    go_wp2_with fail
    refine (small6_any w0 HT.out).mono ?_
    rintro e w1 ⟨rfl, hb⟩
    have HB1 := Lib.hid hb
    clear hb
    go_wp2_with fail
    go_ret
    exact ⟨rfl, HB1.out⟩
  · have hd1 : decide ((n : Int) ≤ 64) = false := by simp; omega
    by_cases h2 : 4096 < n
    · have hd2 : decide (4096 < (n : Int)) = true := by simp; omega
      have HT := Lib.hid ht
      clear hA hB ht
      go_enter Tryd.func7, Tryd.ntmps7
      go_wp2_with fail
      refine (small6_any w0 HT.out).mono ?_
      rintro e w1 ⟨rfl, hb⟩
      have HB1 := Lib.hid hb
      clear hb
      go_wp2_with fail
      go_ret
      exact ⟨rfl, HB1.out⟩
    · have hd2 : decide (4096 < (n : Int)) = false := by simp; omega
      by_cases h3 : 4096 < m
      · have hd3 : decide (4096 < (m : Int)) = true := by simp; omega
        have HT := Lib.hid ht
        clear hA hB ht
        go_enter Tryd.func7, Tryd.ntmps7
        go_wp2_with fail
        refine (small6_any w0 HT.out).mono ?_
        rintro e w1 ⟨rfl, hb⟩
        have HB1 := Lib.hid hb
        clear hb
        go_wp2_with fail
        go_ret
        exact ⟨rfl, HB1.out⟩
      · exact long_any A B n c m c2 f g w0 (by omega) (by omega) (by omega) hc hc2 hA hB ht
end Go.Proofs.YtogcfaijphpgfaaDoor
/- As OrdT, but any reflexive and transitive relation of worlds stands where 'nothing that was there has changed' stands. Written by specs/mkordr.py out of OrdT. Nothing here hangs on the program. -/
namespace Go.Proofs.YtogcfaijphpgfaaDoor.ord
open Go Go.RowKit

structure Pre (R : World → World → Prop) : Prop where
  refl : ∀ w, R w w
  trans : ∀ a b c, R a b → R b c → R a c
def StepR (R : World → World → Prop) (P : Program) (ops : Array Oper) (D : List (List Nat)) (L : List (Nat × Nat)) (G : Nat → Value → World → Prop) (a0 : Act) (w0 : World) (p : Nat × Nat) : Prop :=
  ∀ o, ops[p.1]? = some o → ∀ (x : Nat → Value) (w : World), R w0 w → (∀ q ∈ L, dep D p.1 q.1 = true → G q.1 (x q.1) w) →
    (Region.wanted o (yielded ops (puts x (dep D p.1) L a0).tmps) = true ∧ makes P o (puts x (dep D p.1) L a0) w (fun v w' => R w w' ∧ G p.1 v w')) ∨
    (Region.wanted o (yielded ops (puts x (dep D p.1) L a0).tmps) = false ∧ G p.1 undef w)

section
variable {P : Program} {ops : Array Oper} {Q : Exit → Act → World → Prop} {D : List (List Nat)} {L : List (Nat × Nat)} {G : Nat → Value → World → Prop} {a0 : Act} {w0 : World} {listed0 : Array Bool} {R : World → World → Prop}

structure InvR (R : World → World → Prop) (N : Nat) (ops : Array Oper) (L : List (Nat × Nat)) (G : Nat → Value → World → Prop) (a0 : Act) (w0 : World) (listed0 listed : Array Bool) (a : Act) (w : World) : Prop where
  grow : R w0 w
  defers : a.defers = a0.defers
  size : a.tmps.size = a0.tmps.size
  lsize : listed.size = listed0.size
  old : ∀ s, (∀ q ∈ L, q.2 = s → listed.getD q.1 false = false) → a.tmps[s]? = a0.tmps[s]?
  new : ∀ q ∈ L, listed.getD q.1 false = true → ∃ v, a.tmps[q.2]? = some v ∧ G q.1 v w
  closed : ∀ q ∈ L, listed.getD q.1 false = true → ∀ o, ops[q.1]? = some o → ∀ j, waits o j = true → listed.getD j false = true
  tail : ∀ t, N ≤ t → t < ops.size → listed.getD t true = false

theorem step_invR {N : Nat} (hok : okT N ops listed0 a0.tmps.size D L = true) (hR : Pre R) (hst : ∀ i v w w', G i v w → R w w' → G i v w') (hstep : ∀ p ∈ L, StepR R P ops D L G a0 w0 p)
    {listed : Array Bool} {a : Act} {w : World} (I : InvR R N ops L G a0 w0 listed0 listed a w) {i : Nat} (hi : i ∈ Region.ready .any ops listed) (hiN : i < N) :
    wpOp P ops Q i (fun a' w' => InvR R N ops L G a0 w0 listed0 (listed.setIfInBounds i true) a' w') a w := by
  obtain ⟨hun, o, ho, hdeps⟩ := mem_ready.1 hi
  have hdeps' : ∀ j, waits o j = true → listed.getD j false = true := fun j hj => by
    obtain ⟨e, he, hb, rfl⟩ := waits_iff.1 hj; exact hdeps e he hb
  unfold okT at hok
  simp only [Bool.and_eq_true, decide_eq_true_eq, List.all_eq_true] at hok
  obtain ⟨p, hp, rfl⟩ : ∃ p ∈ L, p.1 = i := by
    obtain ⟨q, hq, e⟩ := List.any_eq_true.1 (hok.1.1.2 i (List.mem_range.2 hiN))
    exact ⟨q, hq, by simpa using e⟩
  obtain ⟨⟨⟨_, _⟩, hn1, hn2⟩, hall⟩ := hok
  have hp0 := hall p hp
  obtain ⟨hpN, ⟨⟨hsz, hls⟩, _⟩, hpo⟩ := hp0
  rw [ho] at hpo
  simp only [Bool.and_eq_true, List.all_eq_true, beq_iff_eq, Bool.or_eq_true, Bool.not_eq_true', beq_eq_false_iff_ne] at hpo
  obtain ⟨⟨⟨_, hDw, hdst⟩, hsel⟩, hlooks⟩ := hpo
  have hD : ∀ j, dep D p.1 j = true → waits o j = true := fun j hj => by
    unfold dep at hj
    obtain ⟨k, hk, e⟩ := List.any_eq_true.1 hj
    have := Nat.eq_of_beq_eq_true e
    subst this
    exact hDw _ hk
  have hsel' : ∀ cs b, o.op ≠ .select cs b := fun cs b e => by rw [e] at hsel; cases hsel
  have hli : p.1 < listed.size := by rw [I.lsize]; exact hls
  have hunF : listed.getD p.1 false = false := by
    simp only [Array.getD_eq_getD_getElem?, Array.getElem?_eq_getElem hli, Option.getD_some] at hun ⊢; exact hun
  -- the values of the listed operations
  have hx : ∃ x : Nat → Value, ∀ q ∈ L, listed.getD q.1 false = true → a.tmps[q.2]? = some (x q.1) ∧ G q.1 (x q.1) w := by
    refine ⟨fun j => match L.find? (fun q => q.1 == j) with | some q => a.tmps.getD q.2 undef | none => undef, fun q hq hl => ?_⟩
    obtain ⟨v, hv, hg⟩ := I.new q hq hl
    have hf : L.find? (fun r => r.1 == q.1) = some q := by
      cases hfd : L.find? (fun r => r.1 == q.1) with
      | none => have := List.find?_eq_none.1 hfd q hq; simp at this
      | some r =>
        have h1 := List.find?_some hfd
        have h2 := List.mem_of_find?_eq_some hfd
        have e : r.1 = q.1 := by simpa using h1
        have : r = q := by
          exact nodup_inj (f := (·.1)) hn1 h2 hq e
        rw [this]
    simp only [hf, Array.getD_eq_getD_getElem?, hv, Option.getD_some]
    exact ⟨trivial, hg⟩
  obtain ⟨x, hx⟩ := hx
  have hsame : ∀ t ∈ o.looksAt ops, a.tmps[t]? = (puts x (dep D p.1) L a0).tmps[t]? := fun t ht => by
    rcases Classical.em (∃ q ∈ L, q.2 = t ∧ dep D p.1 q.1 = true) with ⟨q, hq, rfl, hw⟩ | hno
    · have hsq : q.2 < a0.tmps.size := (hall q hq).2.1.1.1
      rw [puts_at x (dep D p.1) L a0 q hn2 hq hw hsq]
      exact (hx q hq (hdeps' _ (hD _ hw))).1
    · rw [puts_not x (dep D p.1) L a0 t fun q hq e => by
        cases hw : dep D p.1 q.1
        · rfl
        · exact absurd ⟨q, hq, e, hw⟩ hno]
      refine I.old t fun q hq e => ?_
      rcases hlooks t ht q hq with (h | h) | h
      · exact absurd e h
      · exact absurd ⟨q, hq, e, h⟩ hno
      · cases hl : listed.getD q.1 false
        · rfl
        · cases hoq : ops[q.1]? with
          | none => rw [hoq] at h; cases h
          | some o' =>
            rw [hoq] at h
            have := I.closed q hq hl o' hoq p.1 h
            rw [hunF] at this; cases this
  have hS := hstep p hp o ho x w I.grow fun q hq hw => (hx q hq (hdeps' _ (hD _ hw))).2
  rw [← wanted_of hsame] at hS
  have keep : ∀ v w', R w w' → G p.1 v w' → InvR R N ops L G a0 w0 listed0 (listed.setIfInBounds p.1 true) (a.put o.dst v) w' := fun v w' hb hg => by
    have hput : ∀ s, s ≠ p.2 → (a.put o.dst v).tmps[s]? = a.tmps[s]? := fun s hs => by
      rw [hdst]; simp [Act.put, Array.getElem?_setIfInBounds_ne (Ne.symm hs)]
    have hputp : (a.put o.dst v).tmps[p.2]? = some v := by
      rw [hdst]; simp [Act.put, I.size, hsz]
    have hset : ∀ j, j ≠ p.1 → (listed.setIfInBounds p.1 true).getD j false = listed.getD j false := fun j hj => getD_set_ne false (Ne.symm hj)
    have hsetp : (listed.setIfInBounds p.1 true).getD p.1 false = true := by simp [hli]
    have uniq : ∀ q ∈ L, q.2 = p.2 → q = p := fun q hq e => by
      exact nodup_inj (f := (·.2)) hn2 hq hp e
    have uniq1 : ∀ q ∈ L, q.1 = p.1 → q = p := fun q hq e => by
      exact nodup_inj (f := (·.1)) hn1 hq hp e
    refine ⟨hR.trans _ _ _ I.grow hb, ?_, ?_, ?_, fun s hs => ?_, fun q hq hl => ?_, fun q hq hl o' ho' j hj => ?_, fun s hs ht => ?_⟩
    · rw [hdst]; exact I.defers
    · rw [hdst]; simp [Act.put, I.size]
    · simp [I.lsize]
    · have hsp : s ≠ p.2 := fun e => by
        have := hs p hp e.symm
        rw [hsetp] at this; cases this
      rw [hput s hsp]
      refine I.old s fun q hq e => ?_
      have := hs q hq e
      have hqp : q.1 ≠ p.1 := fun e2 => hsp (by rw [← e, uniq1 q hq e2])
      rwa [hset _ hqp] at this
    · by_cases e : q.1 = p.1
      · obtain rfl := uniq1 q hq e
        exact ⟨v, hputp, hg⟩
      · rw [hset _ e] at hl
        obtain ⟨u, hu, hgu⟩ := I.new q hq hl
        have : q.2 ≠ p.2 := fun e2 => e (by rw [uniq q hq e2])
        exact ⟨u, by rw [hput _ this]; exact hu, hst _ _ _ _ hgu hb⟩
    · by_cases e : q.1 = p.1
      · obtain rfl := uniq1 q hq e
        rw [ho] at ho'
        cases ho'
        have := hdeps' j hj
        exact getD_set_true this
      · rw [hset _ e] at hl
        exact getD_set_true (I.closed q hq hl o' ho' j hj)
    · rw [getD_set_ne true (show p.1 ≠ s by omega)]
      exact I.tail s hs ht
  unfold wpOp
  rw [ho]
  show if Region.wanted o (yielded ops a.tmps) = true then _ else _
  rcases hS with ⟨hw, hm⟩ | ⟨hw, hg⟩
  · rw [if_pos hw]
    refine Or.inl (wp_of_makes (N := fun v w' => R w w' ∧ G p.1 v w') ?_ fun v w' h => keep v w' h.1 h.2)
    unfold makes at hm ⊢
    rw [exec_of hsel' hsame]
    exact hm
  · rw [hw, if_neg (by decide)]
    exact keep _ _ (hR.refl _) hg
theorem done_eqRR {N : Nat} (hn2 : (L.map (·.2)).Nodup) (hsz : ∀ q ∈ L, q.2 < a0.tmps.size) {listed : Array Bool} {a : Act} {w : World} (I : InvR R N ops L G a0 w0 listed0 listed a w) (hl : ∀ q ∈ L, listed.getD q.1 false = true) (hn1 : (L.map (·.1)).Nodup) :
    ∃ x : Nat → Value, (∀ q ∈ L, G q.1 (x q.1) w) ∧ a = puts x (fun _ => true) L a0 := by
  have hx : ∃ x : Nat → Value, ∀ q ∈ L, a.tmps[q.2]? = some (x q.1) ∧ G q.1 (x q.1) w := by
    refine ⟨fun j => match L.find? (fun q => q.1 == j) with | some q => a.tmps.getD q.2 undef | none => undef, fun q hq => ?_⟩
    obtain ⟨v, hv, hg⟩ := I.new q hq (hl q hq)
    have hf : L.find? (fun r => r.1 == q.1) = some q := by
      cases hfd : L.find? (fun r => r.1 == q.1) with
      | none => have := List.find?_eq_none.1 hfd q hq; simp at this
      | some r =>
        have h1 := List.find?_some hfd
        have h2 := List.mem_of_find?_eq_some hfd
        have e : r.1 = q.1 := by simpa using h1
        have : r = q := by
          exact nodup_inj (f := (·.1)) hn1 h2 hq e
        rw [this]
    simp only [hf, Array.getD_eq_getD_getElem?, hv, Option.getD_some]
    exact ⟨trivial, hg⟩
  obtain ⟨x, hx⟩ := hx
  refine ⟨x, fun q hq => (hx q hq).2, ?_⟩
  have ht : a.tmps = (puts x (fun _ => true) L a0).tmps := by
    apply Array.ext_getElem?
    intro s
    rcases Classical.em (∃ q ∈ L, q.2 = s) with ⟨q, hq, rfl⟩ | hno
    · rw [puts_at x _ L a0 q hn2 hq rfl (hsz q hq), (hx q hq).1]
    · rw [puts_not x _ L a0 s fun q hq e => absurd ⟨q, hq, e⟩ hno]
      exact I.old s fun q hq e => absurd ⟨q, hq, e⟩ hno
  have hd : a.defers = (puts x (fun _ => true) L a0).defers := by rw [puts_defers, I.defers]
  cases a
  simp only at ht hd
  rw [ht, hd]
/-- none is ready only where all are listed -/
theorem all_listedR {N n : Nat} (hok : okT N ops listed0 n D L = true) {listed : Array Bool} (hs : listed.size = listed0.size) (h0 : Region.ready .any ops listed = []) :
    ∀ q ∈ L, listed.getD q.1 false = true := by
  unfold okT at hok
  simp only [Bool.and_eq_true, decide_eq_true_eq, List.all_eq_true, beq_iff_eq] at hok
  obtain ⟨⟨⟨_, hany⟩, _, _⟩, hall⟩ := hok
  have key : ∀ k, ∀ q ∈ L, q.1 = k → listed.getD q.1 false = true := by
    intro k
    induction k using Nat.strongRecOn with
    | _ k ih =>
      intro q hq hk
      have hq0 := hall q hq
      obtain ⟨hqN, ⟨⟨_, hls⟩, _⟩, hpo⟩ := hq0
      have hli : q.1 < listed.size := by rw [hs]; exact hls
      cases ho : ops[q.1]? with
      | none => rw [ho] at hpo; cases hpo
      | some o =>
        rw [ho] at hpo
        simp only [Bool.and_eq_true] at hpo
        have hlow := hpo.1.1.1
        rw [Array.all_eq_true_iff_forall_mem] at hlow
        cases hl : listed.getD q.1 true
        · exfalso
          have : q.1 ∈ Region.ready .any ops listed := mem_ready.2 ⟨hl, o, ho, fun e he _ => by
            have hlt : e.on < q.1 := by simpa using hlow e he
            obtain ⟨r, hr, er⟩ := List.any_eq_true.1 (hany e.on (List.mem_range.2 (by omega)))
            have hre : r.1 = e.on := by simpa using er
            rw [← hre]; exact ih r.1 (by omega) r hr rfl⟩
          rw [h0] at this; cases this
        · simp only [Array.getD_eq_getD_getElem?, Array.getElem?_eq_getElem hli, Option.getD_some] at hl ⊢
          exact hl
  exact fun q hq => key q.1 q hq rfl

theorem head_ofR {N : Nat} {listed : Array Bool} {a : Act} {w : World} (hls : listed0.size = ops.size) (hany : ∀ i, i < N → ∃ q ∈ L, q.1 = i) (I : InvR R N ops L G a0 w0 listed0 listed a w) : HeadInv .any ops N listed := by
  refine ⟨by rw [I.lsize, hls], fun j oj hj hl e he hb => ?_, I.tail⟩
  have hlt : j < ops.size := (Array.getElem?_eq_some_iff.1 hj).1
  rcases Nat.lt_or_ge j N with h | h
  · obtain ⟨q, hq, rfl⟩ := hany j h
    exact I.closed q hq hl oj hj e.on (waits_iff.2 ⟨e, he, hb, rfl⟩)
  · have h1 := I.tail j h hlt
    have hs : listed.size = ops.size := by rw [I.lsize, hls]
    have hlt2 : j < listed.size := by omega
    simp only [Array.getD_eq_getD_getElem?, Array.getElem?_eq_getElem hlt2, Option.getD_some] at h1 hl
    rw [h1] at hl; cases hl
theorem todo_zeroR (listed : Array Bool) : ∀ n, todo listed n = 0 → ∀ i, i < n → listed.getD i true = true
  | 0, _, i, hi => absurd hi (Nat.not_lt_zero i)
  | n + 1, h, i, hi => by
    unfold todo at h
    by_cases e : listed.getD n true = true
    · rcases Nat.lt_or_ge i n with h1 | h1
      · exact todo_zeroR listed n (by omega) i h1
      · obtain rfl : i = n := by omega
        exact e
    · rw [if_neg e] at h; omega
theorem todo_posR (listed : Array Bool) (n : Nat) (h : 0 < todo listed n) : ∃ i, i < n ∧ listed.getD i true = false := by
  induction n with
  | zero => exact absurd h (Nat.lt_irrefl 0)
  | succ n ih =>
    unfold todo at h
    by_cases e : listed.getD n true = true
    · rw [if_pos e] at h
      obtain ⟨i, hi, h1⟩ := ih (by omega)
      exact ⟨i, by omega, h1⟩
    · exact ⟨n, Nat.lt_succ_self n, by simpa using e⟩
theorem wpAny_R {N g : Nat} (hok : okT N ops listed0 a0.tmps.size D L = true) (hN : N < ops.size) (hs : Region.sinkB .any ops N = true) (hc : Region.chainB .any ops N = true)
    (hR : Pre R) (hst : ∀ i v w w', G i v w → R w w' → G i v w') (hstep : ∀ p ∈ L, StepR R P ops D L G a0 w0 p)
    (hdone : ∀ (listed : Array Bool) (a : Act) (w : World), InvR R N ops L G a0 w0 listed0 listed a w → (∀ i, i < N → listed.getD i true = true) → wpAny P .any ops Q g listed a w) :
    ∀ (m : Nat) (listed : Array Bool) (a : Act) (w : World), todo listed N = m → InvR R N ops L G a0 w0 listed0 listed a w → wpAny P .any ops Q (m + g) listed a w
  | 0, listed, a, w, hm, I => by
    rw [Nat.zero_add]
    exact hdone _ _ _ I (todo_zeroR listed N hm)
  | m + 1, listed, a, w, hm, I => by
    have hok' := hok
    unfold okT at hok'
    simp only [Bool.and_eq_true, decide_eq_true_eq, List.all_eq_true, beq_iff_eq] at hok'
    obtain ⟨⟨⟨hls, hany⟩, _, _⟩, _⟩ := hok'
    have hany' : ∀ i, i < N → ∃ q ∈ L, q.1 = i := fun i hi => by
      obtain ⟨q, hq, e⟩ := List.any_eq_true.1 (hany i (List.mem_range.2 hi))
      exact ⟨q, hq, by simpa using e⟩
    have HI := head_ofR hls hany' I
    obtain ⟨i0, hi0, hu0⟩ := todo_posR listed N (by omega)
    rw [show m + 1 + g = (m + g) + 1 by omega]
    refine ⟨fun h0 => ?_, fun i hi => ?_⟩
    · exfalso
      obtain ⟨q, hq, rfl⟩ := hany' i0 hi0
      have := all_listedR hok I.lsize h0 q hq
      have hlt : q.1 < listed.size := by rw [I.lsize, hls]; omega
      simp only [Array.getD_eq_getD_getElem?, Array.getElem?_eq_getElem hlt, Option.getD_some] at this hu0
      rw [this] at hu0; cases hu0
    · have hiN : i < N := by
        rcases Nat.lt_or_ge i N with h | h
        · exact h
        · exact absurd hi (tail_waits hs hc hN HI _ i0 rfl hi0 hu0 i h)
      refine wpOp_mono (fun a' w' I' => wpAny_R hok hN hs hc hR hst hstep hdone m _ a' w' ?_ I') (step_invR hok hR hst hstep I hi hiN)
      have := todo_set listed i (mem_ready.1 hi).1 N
      rw [if_pos hiN] at this
      omega
theorem todo_noneR (n : Nat) : ∀ m, m ≤ n → todo (Array.replicate n false) m = m
  | 0, _ => rfl
  | m + 1, h => by
    unfold todo
    rw [todo_noneR n m (by omega), if_neg]
    simp [show m < n by omega]
end
/-- a region whose tail is forced: from its begin on -/
theorem wp_region_ordR {P : Program} {l : List Oper} {Q : Exit → Act → World → Prop} {a0 : Act} {w : World} {id : Nat} (R : World → World → Prop) (N : Nat) (D : List (List Nat)) (L : List (Nat × Nat)) (G : Nat → Value → World → Prop) (hm : P.follows .mixedOrders = true)
    (hok : okT N l.toArray (Array.replicate l.toArray.size false) a0.tmps.size D L = true) (hB : (decide (N < l.toArray.size) && Region.sinkB .any l.toArray N && Region.chainB .any l.toArray N && Region.seqB .any l.toArray (l.toArray.size - N) N (Array.replicate N true ++ Array.replicate (l.toArray.size - N) false)) = true)
    (hR : Pre R) (hst : ∀ i v w w', G i v w → R w w' → G i v w') (hstep : ∀ p ∈ L, StepR R P l.toArray D L G a0 w.drew p)
    (hdr : ∀ w', R w.drew w' → R w w') (hdone : ∀ (x : Nat → Value) (w' : World), R w w' → (∀ q ∈ L, G q.1 (x q.1) w') → wpList P l.toArray Q (l.drop N) (puts x (fun _ => true) L a0) w') :
    (Code.region id l.toArray true).wp P Q a0 w := by
  simp only [Bool.and_eq_true, decide_eq_true_eq] at hB
  obtain ⟨⟨⟨hN, hs⟩, hc⟩, hseq⟩ := hB
  have hok' := hok
  unfold okT at hok'
  simp only [Bool.and_eq_true, decide_eq_true_eq, List.all_eq_true, beq_iff_eq] at hok'
  obtain ⟨⟨_, hn1, hn2⟩, hall⟩ := hok'
  refine wp_region_any hm ?_
  have hF : ∀ i, (Array.replicate l.toArray.size false).getD i false = false := fun i => getD_replicate_false _ _
  have key := wpAny_R (P := P) (Q := Q) (w0 := w.drew) (g := l.toArray.size - N) hok hN hs hc hR hst hstep (fun listed a w1 I hl => by
    have hall' : ∀ q ∈ L, listed.getD q.1 false = true := fun q hq => by
      have h1 := hl q.1 (hall q hq).1
      have hlt : q.1 < listed.size := by rw [I.lsize]; simp; have := (hall q hq).1; simp at hN; omega
      simp only [Array.getD_eq_getD_getElem?, Array.getElem?_eq_getElem hlt, Option.getD_some] at h1 ⊢
      exact h1
    obtain ⟨x, hx, rfl⟩ := done_eqRR hn2 (fun q hq => (hall q hq).2.1.1.1) I hall' hn1
    have hls : listed.size = l.toArray.size := by rw [I.lsize]; simp
    have hle : listed = Array.replicate N true ++ Array.replicate (l.toArray.size - N) false := by
      apply Array.ext
      · simp at hls hN ⊢; omega
      · intro i h1 h2
        rcases Nat.lt_or_ge i N with h | h
        · have h3 := hl i h
          simp only [Array.getD_eq_getD_getElem?, Array.getElem?_eq_getElem h1, Option.getD_some] at h3
          rw [h3, Array.getElem_append_left (by simpa using h)]; simp
        · have h3 := I.tail i h (by omega)
          simp only [Array.getD_eq_getD_getElem?, Array.getElem?_eq_getElem h1, Option.getD_some] at h3
          rw [h3, Array.getElem_append_right (by simpa using h)]; simp
    have hdl : (l.drop N).length = l.toArray.size - N := by simp
    have := wpAny_of_seq (P := P) (md := .any) (Q' := Q) (ops := l.toArray) (l.drop N) N listed (puts x (fun _ => true) L a0) w1 (fun j => by simp [List.getElem?_drop]) (by rw [hdl, hle]; exact hseq) (hdone x w1 (hdr _ I.grow) hx)
    rwa [hdl] at this) N (Array.replicate l.toArray.size false) a0 w.drew (todo_noneR _ _ (Nat.le_of_lt hN)) ⟨hR.refl _, rfl, rfl, rfl, fun _ _ => rfl, (fun q hq hl => absurd hl (by rw [hF]; decide)), (fun q hq hl => absurd hl (by rw [hF]; decide)), (fun t _ ht => getD_in (by simpa using ht) (hF t))⟩
  rw [show N + (l.toArray.size - N) = l.toArray.size by omega] at key
  exact key
end Go.Proofs.YtogcfaijphpgfaaDoor.ord
/- Worlds that are alike but for some blocks, with a fact that stays: a relation for regions that draw their order. -/
namespace Go.Proofs.YtogcfaijphpgfaaDoor
open Go.RowKit
namespace ChgS
variable {S : Nat → Prop} {w w' w'' : World}
theorem trans (h : ChgS S w w') (h' : ChgS S w' w'') : ChgS S w w'' :=
  ⟨h'.os.trans h.os, h'.tape.trans h.tape, h'.output.trans h.output, Nat.le_trans h.size h'.size, fun k hk hn => (h'.block k (Nat.lt_of_lt_of_le hk h.size) hn).trans (h.block k hk hn)⟩
theorem of_below (h : Below w.heap.size w w') : ChgS S w w' := ⟨h.os, h.tape, h.output, h.size, fun k hk _ => h.block k hk⟩
theorem of_chg {K : Nat} (h : Chg K w w') (hK : S K) : ChgS S w w' := ⟨h.os, h.tape, h.output, h.size, fun k hk hn => h.block k hk (fun e => hn (e ▸ hK))⟩
theorem cell (h : ChgS S w w') {g o : Nat} (hg : g < w.heap.size) (hK : ¬ S g) : w'.cell? ⟨g, o, none⟩ = w.cell? ⟨g, o, none⟩ := World.cell?_of_block (h.block g hg hK)
theorem of_drew (h : ChgS S w.drew w') : ChgS S w w' := ⟨h.os, h.tape, h.output, h.size, h.block⟩
end ChgS
/-- w' is w but for the blocks of S and what is new, and where I held it holds -/
def RelI (S : Nat → Prop) (I : World → Prop) (w w' : World) : Prop := ChgS S w w' ∧ (I w → I w')
namespace RelI
variable {S : Nat → Prop} {I : World → Prop} {w w' : World}
theorem pre (S : Nat → Prop) (I : World → Prop) : ord.Pre (RelI S I) := ⟨fun _ => ⟨ChgS.refl _ _, id⟩, fun _ _ _ h h' => ⟨h.1.trans h'.1, h'.2 ∘ h.2⟩⟩
theorem of_below (hI : ∀ w w', I w → Below w.heap.size w w' → I w') (h : Below w.heap.size w w') : RelI S I w w' := ⟨ChgS.of_below h, fun hi => hI _ _ hi h⟩
theorem of_drew (hI : ∀ w, I w → I w.drew) (h : RelI S I w.drew w') : RelI S I w w' := ⟨h.1.of_drew, fun hi => h.2 (hI _ hi)⟩
end RelI
/-- bytes that lie outside the blocks of S -/
def OffS (S : Nat → Prop) (A : Option Addr) (n : Nat) : Prop := 0 < n → ∀ B o, A = some ⟨B, o, none⟩ → ¬ S B
theorem SlB.chgS {S : Nat → Prop} {w w' : World} {A : Option Addr} {n : Nat} {f : Nat → Nat} (h : SlB w A n f) (hc : ChgS S w w') (hO : OffS S A n) : SlB w' A n f := fun hn => by
  obtain ⟨B, o, hA, hB, h⟩ := h hn
  exact ⟨B, o, hA, Nat.lt_of_lt_of_le hB hc.size, fun j hj => ⟨(h j hj).1, (hc.cell hB (hO hn B o hA)).trans (h j hj).2⟩⟩
theorem SlB.offS {S : Nat → Prop} {w : World} {A : Option Addr} {n : Nat} {f : Nat → Nat} (h : SlB w A n f) (hS : ∀ k, S k → w.heap.size ≤ k) : OffS S A n := fun hn B o e => by
  obtain ⟨B', o', e', hB, _⟩ := h hn
  rw [e] at e'
  injection e' with e'
  injection e' with e1 _ _
  intro hk
  have := hS B hk
  omega
theorem Arr.chgS {S : Nat → Prop} {w w' : World} {g o n : Nat} {f : Nat → Nat} (h : Arr w g o n f) (hc : ChgS S w w') (hg : ¬ S g) : Arr w' g o n f := fun j hj => (h.of_block (hc.block g (h.lt (by omega)) hg)) j hj
theorem GT.chgS {S : Nat → Prop} {w w' : World} (h : GT w) (hc : ChgS S w w') (h1 : ¬ S 1) (h2 : ¬ S 0) : GT w' := ⟨fun i hi => (hc.cell h.ltk h1).trans (h.k i hi), fun i hi => (hc.cell h.lth h2).trans (h.h i hi)⟩
theorem parts_one {w : World} {p : Nat} {A : Option Addr} {l c : Nat} {f : Nat → Nat} (hc : w.cell? ⟨p, 0, none⟩ = some (.slice A l c)) (hA : SlB w A l f) : Parts w p 1 (fun _ => A) (fun _ => l) (fun _ => c) (fun _ => f) :=
  ⟨fun j hj => by
    obtain rfl : j = 0 := by omega
    exact hc, fun _ _ => hA⟩
theorem parts_two {w : World} {p : Nat} {A0 A1 : Option Addr} {l0 l1 c0 c1 : Nat} {f0 f1 : Nat → Nat} (hc0 : w.cell? ⟨p, 0, none⟩ = some (.slice A0 l0 c0)) (hc1 : w.cell? ⟨p, 1, none⟩ = some (.slice A1 l1 c1)) (h0 : SlB w A0 l0 f0) (h1 : SlB w A1 l1 f1) : Parts w p 2 (t2 A0 A1) (t2 l0 l1) (t2 c0 c1) (t2 f0 f1) :=
  ⟨fun j hj => by
    rcases two_of hj with rfl | rfl
    · exact hc0
    · exact hc1, fun j hj => by
    rcases two_of hj with rfl | rfl
    · exact h0
    · exact h1⟩
theorem cell_built (w : World) (c : Array Value) (t : TypeId) (j : Nat) {v : Value} (h : c[j]? = some v) : (w.alloc (.cells c t)).cell? ⟨w.heap.size, j, none⟩ = some v := (World.cell?_alloc_at _ _ _ _ rfl).trans h
end Go.Proofs.YtogcfaijphpgfaaDoor
/- Rows of bytes that came in, and a row that grows beside a block that changes (layer 5). -/
namespace Go.Proofs.YtogcfaijphpgfaaDoor
open Go.RowKit
/-- a row of rows of bytes that came in -/
def RowsIn (w : World) (AB : Option Addr) (nb : Nat) : Prop :=
  0 < nb → ∃ B o, AB = some ⟨B, o, none⟩ ∧ B < w.heap.size ∧ ∀ j, j < nb → ∃ (R : Option Addr) (l c : Nat) (f : Nat → Nat), w.cell? ⟨B, o + j, none⟩ = some (.slice R l c) ∧ SlB w R l f ∧ l ≤ c ∧ (R = none → l = 0 ∧ c = 0)
open Go.ChangeShapes Go.WideShapes Go.ChangeAt in
/-- a [][]byte parameter, opened -/
theorem open_rows {H : Type} {enc : TypeId × Value → H} {W : World} {base : Nat} {v : Value} {d : DataW H} {p : List MemPlace}
    (hval : Value.okWide Tryd.prog W .any base 30 v) (h : DataW.Trod enc Tryd.prog W 0 (fun _ => true) true 30 v d p) :
    ∃ A n c, v = .slice A n c ∧ RowsIn W A n ∧ (n ≤ c ∧ ∃ els sp, (d = .slice els sp ∧ els.length + sp.length = c) ∨ (d = .nil ∧ c = 0)) := by
  obtain ⟨a0, len, cap, rfl⟩ := okWide_slice Tryd.underlying30 hval
  obtain ⟨fuel, hf⟩ := h
  rcases Deep.open_int_rows Tryd.underlying30 Tryd.underlying22 Tryd.underlying5 (show Tryd.prog.cellsOf 22 = 1 by kernel_rfl) (show Tryd.prog.cellsOf 5 = 1 by kernel_rfl) hf with ⟨hcs, hx⟩ | ⟨a, len', cap', Ar, L, C, Z, hcs, _, hl, hm, hx, hr⟩
  · simp only [Value.cells] at hcs
    injection hcs with hcs
    injection hcs with h1 h2 h3
    subst h1 h2 h3
    injection hx with hd _
    exact ⟨none, 0, 0, rfl, fun h => absurd h (Nat.lt_irrefl 0), Nat.le_refl _, [], [], Or.inr ⟨hd, rfl⟩⟩
  · simp only [Value.cells] at hcs
    injection hcs with hcs
    injection hcs with h1 h2 h3
    subst h1 h2 h3
    injection hx with hd _
    refine ⟨some a, len, cap, rfl, fun hn => ?_, hl, _, _, Or.inl ⟨hd, by simp; omega⟩⟩
    obtain ⟨b, off, spot⟩ := a
    have hspot : spot = none := by simpa [Addr.add] using World.cell?_spot (hr 0 (by omega)).1
    subst hspot
    have hb0 := block_lt (hr 0 (by omega)).1
    refine ⟨b, off, rfl, hb0, fun j hj => ?_⟩
    obtain ⟨k1, k2, k3, k4, k5, k6, k7⟩ := hr j (by omega)
    have hml : maxLen = 9223372036854775807 := by decide
    have k1' : W.cell? ⟨b, off + j, none⟩ = some (.slice (Ar j) (L j) (C j)) := by
      by_cases h0 : j = 0
      · subst h0; simpa [Addr.add] using k1
      · simpa [Addr.add, h0] using k1
    refine ⟨Ar j, L j, C j, fun i => ((Z j).getD i 0).toNat, k1', fun hn2 => ?_, k2, fun h => ⟨by have := k6 h; omega, k6 h⟩⟩
    cases hA : Ar j with
    | none => have := k6 hA; omega
    | some a' =>
      obtain ⟨b2, off2, rfl, hc⟩ := ints_at (fun i hi => (k7 a' hA).2 i (by omega)) (by omega)
      refine ⟨b2, off2, rfl, block_lt (hc 0 (by omega)), fun i hi => ?_⟩
      have hr := range_u8 k5 i
      rw [← List.getD_eq_getElem?_getD] at hr
      refine ⟨by show ((Z j).getD i 0).toNat < 256; omega, ?_⟩
      show _ = some (Value.int .u8 (((Z j).getD i 0).toNat : Nat))
      rw [hc i (by omega), Int.toNat_of_nonneg hr.1]
open Go.ChangeShapes Go.WideShapes Go.ChangeAt in
theorem rows_len {H : Type} {ts : List TypeId} {ds : List (DataW H)} (h : (DataW.weightsEach Tryd.prog ts ds).all (· ≤ reachBytes) = true) {j : Nat} {d : DataW H} (ht : ts[j]? = some 30) (hd : ds[j]? = some d)
    {n c : Nat} (z : n ≤ c ∧ ∃ els sp, (d = .slice els sp ∧ els.length + sp.length = c) ∨ (d = .nil ∧ c = 0)) : n ≤ 140737488351232 := by
  obtain ⟨h1, els, sp, h2⟩ := z
  rcases h2 with ⟨rfl, h2⟩ | ⟨_, h2⟩
  · have h3 := sized_slice h ht hd Tryd.underlying30
    rw [show Tryd.prog.bytesOf 22 = 24 by kernel_rfl] at h3
    have : reachBytes = 140737488351232 := rfl
    omega
  · omega
theorem OwnB.chg {w w' : World} {base n K : Nat} {v : Value} {f : Nat → Nat} (h : OwnB w base v n f) (hc : Chg K w w') (hK : K < base) : OwnB w' base v n f := by
  rcases h with ⟨h1, h2 | ⟨g, cap, cur, e, hg, hh, r⟩⟩
  · exact ⟨h1, Or.inl h2⟩
  · exact ⟨h1, Or.inr ⟨g, cap, cur, e, hg, (hc.block g (Array.getElem?_eq_some_iff.1 hh).1 (by omega)).trans hh, r⟩⟩
end Go.Proofs.YtogcfaijphpgfaaDoor
