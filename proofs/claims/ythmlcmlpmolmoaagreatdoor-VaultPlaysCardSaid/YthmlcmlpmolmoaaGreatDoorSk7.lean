/- 18 texts in one, in their order: what the cards need of them. -/
import Derived.Test.YthmlcmlpmolmoaaGreatDoorSk6
import Derived.Lib.LaidTab
namespace Go.Proofs.YthmlcmlpmolmoaaGreatDoor
open Go.RowKit
def InR (R : Nat) (c g : Nat → Nat) (k : Nat) : Prop := ∃ j, j < R ∧ 0 < c j ∧ k = g j
structure RwsA (R : Nat) (w : World) (g3 : Nat) (A : Nat → Option Addr) (n c g : Nat → Nat) (f : Nat → Nat → Nat) (k u : Nat) : Prop where
  cells : ∀ j, j < R → w.cell? ⟨g3, j, none⟩ = some (.slice (A j) (n j) (c j))
  rows : ∀ j, j < R → 0 < c j → Arr w (g j) 0 (c j) (ov f k u j)
variable {A : Nat → Option Addr} {n c g : Nat → Nat} {f : Nat → Nat → Nat} {R g3 : Nat}
theorem RwsA.next {w : World} {k : Nat} (h : RwsA R w g3 A n c g f k (c k)) : RwsA R w g3 A n c g f (k + 1) 0 :=
  ⟨h.cells, fun j hj hc => (h.rows j hj hc).congr fun t ht => by
    unfold ov
    by_cases e : j < k ∨ (j = k ∧ t < c k)
    · rw [if_pos e, if_pos (by omega)]
    · rw [if_neg e, if_neg (by
        rintro (h1 | h1)
        · have : j = k := by omega
          subst this
          exact e (Or.inr ⟨rfl, ht⟩)
        · omega)]⟩
theorem RwsA.drewN {w : World} {k u : Nat} (h : RwsA R w g3 A n c g f k u) (m : Nat) : RwsA R (w.drewN m) g3 A n c g f k u := ⟨h.cells, fun j hj hc => (h.rows j hj hc).drewN m⟩
theorem RwsA.write {w : World} {k u : Nat} (h : RwsA R w g3 A n c g f k u) (hk : k < R) (hc : 0 < c k) (hu : u < c k) (hne : ∀ i j, i < R → j < R → i ≠ j → 0 < c i → 0 < c j → g i ≠ g j) (h3 : g3 ≠ g k) :
    RwsA R (w.setCell ⟨g k, u, none⟩ (.int .u8 ((k : Int) + 1))) g3 A n c g f k (u + 1) :=
  ⟨fun j hj => (World.cell?_setCell_other w ⟨g k, u, none⟩ ⟨g3, j, none⟩ _ (fun e => h3 (congrArg Addr.block e).symm)).trans (h.cells j hj), fun j hj hcj => by
    by_cases e : j = k
    · subst e
      refine ((h.rows j hj hcj).set hu (Nat.zero_add u).symm (j + 1) rfl).congr fun t _ => ?_
      by_cases et : t = u
      · rw [if_pos et]; unfold ov; rw [if_pos (by omega)]
      · rw [if_neg et]
        unfold ov
        by_cases e2 : j < j ∨ (j = j ∧ t < u)
        · rw [if_pos e2, if_pos (by omega)]
        · rw [if_neg e2, if_neg (by omega)]
    · refine ((h.rows j hj hcj).setOther (a := ⟨g k, u, none⟩) (hne j k hj hk e hcj hc) _).congr fun t _ => ?_
      unfold ov
      by_cases e2 : j < k ∨ (j = k ∧ t < u)
      · rw [if_pos e2, if_pos (by omega)]
      · rw [if_neg e2, if_neg (by omega)]⟩
set_option maxHeartbeats 1600000 in
theorem owned_arr (cap3 : Nat) (w : World) (hR : R ≤ 200) (h2 : RwsA R w g3 A n c g f 0 0) (hA : ∀ j, j < R → 0 < c j → A j = some ⟨g j, 0, none⟩)
    (hne : ∀ i j, i < R → j < R → i ≠ j → 0 < c i → 0 < c j → g i ≠ g j) (h3 : ∀ j, j < R → 0 < c j → g3 ≠ g j) (hcl : ∀ j, j < R → c j ≤ 140737488351300) :
    Calls Tryz.prog 14 #[.slice (some ⟨g3, 0, none⟩) R cap3] w fun e w' => e = .returned (.bool true) ∧ ChgS (InR R c g) w w' := by
  have H2 := Lib.hid h2
  have HA := Lib.hid hA
  have HN := Lib.hid hne
  have H3 := Lib.hid h3
  have HC := Lib.hid hcl
  clear h2 hA hne h3 hcl
  go_enter Tryz.func14, Tryz.ntmps14
  go_wp2_with fail
  go_loopw [3] (fun i wr => ∃ k : Nat, k ≤ R ∧ i = .int .i64 k ∧ RwsA R wr g3 A n c g f k 0 ∧ ChgS (InR R c g) w wr) (fun i _ => R - (intOf i).toNat)
  case atStart => exact ⟨0, by omega, rfl, H2.out, ChgS.refl _ _⟩
  case round =>
    obtain ⟨k, hk, rfl, htw, hbl⟩ := hrel
    have HT := Lib.hid htw
    have HBL := Lib.hid hbl
    clear htw hbl
    by_cases hlt : k < R
    · have hlti : (k : Int) < R := by omega
      have hk0 : (0 : Int) ≤ (k : Nat) := by omega
      have hcell := HT.out.cells k hlt
      have hck : ((c k : Nat) : Int) ≤ (c k : Nat) := Int.le_refl _
      have hck0 : (0 : Int) ≤ (c k : Nat) := by omega
      have HCK := HC.out k hlt
      go_wp2_with fail
      go_quiet (fail)
      have HTq := Lib.hid (HT.out.drewN nq)
      have HBq := Lib.hid (HBL.out.drewN nq)
      generalize wr.drewN nq = W at *
      by_cases hc0 : c k = 0
      · have e0 : ((c k : Nat) : Int) = 0 := by omega
        have HZ := Lib.hid hc0
        generalize hcc : c k = cc at *
        subst hc0
        clear hcell
        go_wp2_with fail
        go_loopw [5] (fun i wr => i = .int .i64 0 ∧ wr = W) (fun _ _ => 0)
        case atStart => exact ⟨rfl, rfl⟩
        case round =>
          obtain ⟨rfl, rfl⟩ := hrel
          go_wp2_with fail
          go_roundw
          case rel => exact ⟨k + 1, by omega, by go_num, RwsA.next (by rw [hcc]; exact HTq.out), HBq.out⟩
          case measure => simp [intOf]; omega
      · have hpos : 0 < c k := by omega
        have hAk := HA.out k hlt hpos
        rw [hAk]
        go_wp2_with fail
        go_loopw [5] (fun i wr => ∃ t : Nat, t ≤ c k ∧ i = .int .i64 t ∧ RwsA R wr g3 A n c g f k t ∧ ChgS (InR R c g) w wr) (fun i _ => c k - (intOf i).toNat)
        case atStart => exact ⟨0, Nat.zero_le _, rfl, HTq.out, HBq.out⟩
        case round =>
          obtain ⟨t, ht, rfl, htw, hbl⟩ := hrel
          have HT2 := Lib.hid htw
          have HB2 := Lib.hid hbl
          clear htw hbl
          by_cases htl : t < c k
          · have hcl := (HT2.out.rows k hlt hpos).cell htl (Nat.zero_add t).symm
            have hfr := (HT2.out.rows k hlt hpos).frozen htl (Nat.zero_add t).symm
            have HW2 := Lib.hid (HT2.out.write hlt hpos htl HN.out (H3.out k hlt hpos))
            have HB3 := Lib.hid (HB2.out.setCell (a := ⟨g k, t, none⟩) ⟨k, hlt, hpos, rfl⟩ (.int .u8 ((k : Int) + 1)))
            generalize ov f k t k t = old at hcl
            go_wp2_with fail
            go_roundw
            case rel => exact ⟨t + 1, by omega, by go_num, HW2.out, HB3.out⟩
            case measure => simp [intOf]; omega
          · obtain rfl : t = c k := by omega
            go_wp2_with fail
            go_roundw
            case rel => exact ⟨k + 1, by omega, by go_num, HT2.out.next, HB2.out⟩
            case measure => simp [intOf]; omega
    · have HK := Lib.hid (show k = R by omega)
      have hk2 : ¬ (k : Int) < R := by omega
      go_wp2_with fail
      go_loopw [6] (fun i wr => ∃ j : Nat, j ≤ R ∧ i = .int .i64 j ∧ RwsA R wr g3 A n c g f k 0 ∧ ChgS (InR R c g) w wr) (fun i _ => R - (intOf i).toNat)
      case atStart => exact ⟨0, by omega, rfl, HT.out, HBL.out⟩
      case round =>
        obtain ⟨j, hj, rfl, htw, hbl⟩ := hrel
        have HT5 := Lib.hid htw
        have HB5 := Lib.hid hbl
        clear htw hbl
        by_cases hjl : j < R
        · have hjli : (j : Int) < R := by omega
          have hj0 : (0 : Int) ≤ (j : Nat) := by omega
          have hcell := HT5.out.cells j hjl
          have hck : ((c j : Nat) : Int) ≤ (c j : Nat) := Int.le_refl _
          have hck0 : (0 : Int) ≤ (c j : Nat) := by omega
          have HCK := HC.out j hjl
          go_wp2_with fail
          go_quiet (fail)
          have HTq := Lib.hid (HT5.out.drewN nq)
          have HBq := Lib.hid (HB5.out.drewN nq)
          generalize hWW : World.drewN _ nq = W at *
          clear hWW
          by_cases hc0 : c j = 0
          · have HZ := Lib.hid hc0
            generalize hcc : c j = cc at *
            subst hc0
            clear hcell
            go_wp2_with fail
            go_loopw [8] (fun i wr => i = .int .i64 0 ∧ wr = W) (fun _ _ => 0)
            case atStart => exact ⟨rfl, rfl⟩
            case round =>
              obtain ⟨rfl, rfl⟩ := hrel
              go_wp2_with fail
              go_roundw
              case rel => exact ⟨j + 1, by omega, by go_num, HTq.out, HBq.out⟩
              case measure => simp [intOf]; omega
          · have hpos : 0 < c j := by omega
            have hAk := HA.out j hjl hpos
            rw [hAk]
            go_wp2_with fail
            go_loopw [8] (fun i wr => ∃ t : Nat, t ≤ c j ∧ i = .int .i64 t ∧ wr = W) (fun i _ => c j - (intOf i).toNat)
            case atStart => exact ⟨0, Nat.zero_le _, rfl, rfl⟩
            case round =>
              obtain ⟨t, ht, rfl, rfl⟩ := hrel
              by_cases htl : t < c j
              · have hcl := (HTq.out.rows j hjl hpos).cell htl (Nat.zero_add t).symm
                have hov : ov f k 0 j t = j + 1 := by unfold ov; rw [if_pos (by have := HK.out; omega)]
                rw [hov] at hcl
                clear hov
                obtain ⟨j1, ej, hj1⟩ : ∃ j1 : Nat, (j : Int) + 1 = j1 ∧ j + 1 = j1 := ⟨j + 1, by omega, rfl⟩
                rw [hj1] at hcl
                have hj13 : j1 ≤ 200 := by omega
                clear hj1
                go_wp2_with fail
                go_roundw
                case rel => exact ⟨t + 1, by omega, by go_num, trivial⟩
                case measure => simp [intOf]; omega
              · obtain rfl : t = c j := by omega
                go_wp2_with fail
                go_roundw
                case rel => exact ⟨j + 1, by omega, by go_num, HTq.out, HBq.out⟩
                case measure => simp [intOf]; omega
        · obtain rfl : j = R := by omega
          go_wp2_with fail
          go_ret
          exact ⟨rfl, HB5.out⟩
def t3 {α : Type} (x y z : α) (j : Nat) : α := if j = 0 then x else if j = 1 then y else z
theorem ov_none (f : Nat → Nat → Nat) (j t : Nat) : ov f 0 0 j t = f j t := by unfold ov; rw [if_neg (by omega)]
theorem owned_one (W : World) (g0 n0 c0 : Nat) (f0 : Nat → Nat) (h0 : Arr W g0 0 c0 f0) (l0 : c0 ≤ 140737488351300) :
    Calls Tryz.prog 14 #[.slice (some ⟨W.heap.size, 0, none⟩) 1 1] (W.alloc (.cells #[.slice (some ⟨g0, 0, none⟩) n0 c0] 22)) fun e w' => e = .returned (.bool true) ∧ Chg g0 W w' := by
  refine (owned_arr (R := 1) (A := fun _ => some ⟨g0, 0, none⟩) (n := fun _ => n0) (c := fun _ => c0) (g := fun _ => g0) (f := fun _ => f0) 1 _ (by decide) ⟨fun j hj => ?_, fun j hj hc => ?_⟩ ?_ ?_ ?_ ?_).mono ?_
  · obtain rfl : j = 0 := by omega
    exact (World.cell?_alloc_at _ _ _ _ rfl).trans rfl
  · exact (h0.alloc _).congr fun t _ => (ov_none (fun _ => f0) j t).symm
  · exact fun _ _ _ => rfl
  · intro i j hi hj hij _ _
    omega
  · intro j _ hc
    exact Nat.ne_of_gt (h0.lt hc)
  · exact fun _ _ => l0
  rintro e w' ⟨he, h⟩
  refine ⟨he, (Chg.of_below ((Below.refl W.heap.size W).alloc (Nat.le_refl _) _)).trans ⟨h.os, h.tape, h.output, h.size, fun k hk hn => h.block k hk fun hs => ?_⟩⟩
  obtain ⟨_, _, _, e⟩ := hs
  exact hn e
end Go.Proofs.YthmlcmlpmolmoaaGreatDoor
namespace Go.Proofs.YthmlcmlpmolmoaaGreatDoor
open Go.RowKit
variable {A : Nat → Option Addr} {n c g : Nat → Nat} {f : Nat → Nat → Value} {R g3 : Nat}
def OwnR (W : World) (A : Option Addr) (c g : Nat) : Prop := 0 < c → A = some ⟨g, 0, none⟩ ∧ ∃ f, ArrV W g 0 c f
namespace OwnR
variable {W W' : World} {A : Option Addr} {c g : Nat}
theorem of_block (h : OwnR W A c g) (e : W'.heap[g]? = W.heap[g]?) : OwnR W' A c g := fun hc => by
  obtain ⟨h1, f, h2⟩ := h hc
  exact ⟨h1, f, h2.of_block e⟩
theorem lt (h : OwnR W A c g) (hc : 0 < c) : g < W.heap.size := by
  obtain ⟨_, f, h2⟩ := h hc
  exact h2.lt hc
theorem keep (h : OwnR W A c g) (hb : Below W.heap.size W W') : OwnR W' A c g := fun hc => h.of_block (hb.block g (h.lt hc)) hc
theorem chg {K : Nat} (h : OwnR W A c g) (hb : Chg K W W') (hK : g ≠ K) : OwnR W' A c g := fun hc => h.of_block (hb.block g (h.lt hc) hK) hc
theorem arr {f : Nat → Nat} (h : Arr W g 0 c f) : OwnR W (some ⟨g, 0, none⟩) c g := fun _ => ⟨rfl, fun j => .int .u8 (f j : Nat), h⟩
end OwnR
theorem OwnB.ownR {w : World} {base n : Nat} {v : Value} {f : Nat → Nat} (h : OwnB w base v n f) : ∃ A c g, v = .slice A n c ∧ OwnR w A c g ∧ (0 < c → base ≤ g) ∧ c ≤ maxLen ∧ n ≤ c := by
  rcases h.2 with ⟨rfl, hn⟩ | ⟨g, cap, cur, rfl, hg, hh, h1, h2, h3, _⟩
  · subst hn; exact ⟨none, 0, 0, rfl, fun h => absurd h (Nat.lt_irrefl 0), fun h => absurd h (Nat.lt_irrefl 0), by unfold maxLen; omega, Nat.le_refl _⟩
  · refine ⟨_, cap, g, rfl, fun _ => ⟨rfl, fun j => cur.getD j undef, fun j hj => ⟨?_, ?_⟩⟩, fun _ => hg, h2, h1⟩
    · simp only [World.cell?, hh]
      rw [Nat.zero_add]
      simp [show j < cur.size by omega]
    · simp [World.frozen?, hh]
def q4 {α : Type} (x y z u : α) (j : Nat) : α := if j = 0 then x else if j = 1 then y else if j = 2 then z else u
end Go.Proofs.YthmlcmlpmolmoaaGreatDoor
namespace Go.Proofs.YthmlcmlpmolmoaaGreatDoor
open Go.RowKit
structure Mine (w : World) (base : Nat) (v : Value) (n : Nat) (f : Nat → Nat) (A : Option Addr) (c g : Nat) : Prop where
  val : v = .slice A n c
  row : SlB w A n f
  own : OwnR w A c g
  from_ : 0 < c → base ≤ g
  le : n ≤ c
  max : c ≤ maxLen
  nil : A = none → n = 0 ∧ c = 0
namespace Mine
variable {w w' : World} {base n : Nat} {v : Value} {f f' : Nat → Nat} {A : Option Addr} {c g : Nat}
theorem keep (h : Mine w base v n f A c g) (hb : Below w.heap.size w w') : Mine w' base v n f A c g := ⟨h.val, h.row.keep hb, h.own.keep hb, h.from_, h.le, h.max, h.nil⟩
theorem congr (h : Mine w base v n f A c g) (e : ∀ j, j < n → f j = f' j) : Mine w base v n f' A c g := ⟨h.val, h.row.congr e, h.own, h.from_, h.le, h.max, h.nil⟩
theorem less (h : Mine w base v n f A c g) {b : Nat} (hb : b ≤ base) : Mine w b v n f A c g := ⟨h.val, h.row, h.own, fun hc => Nat.le_trans hb (h.from_ hc), h.le, h.max, h.nil⟩
theorem of_ownB (h : OwnB w base v n f) (hf : ∀ j, j < n → f j < 256) : ∃ A c g, Mine w base v n f A c g := by
  obtain ⟨A, c, g, rfl, h1, h2, h3, h4⟩ := h.ownR
  obtain ⟨A1, c1, e1, h5⟩ := h.slice hf
  cases e1
  obtain ⟨A2, c2, e2, _, _, h6⟩ := h.cap_le
  cases e2
  exact ⟨A, c, g, rfl, h5, h1, h2, h4, h3, h6⟩
theorem of_arr {d m : Nat} {f : Nat → Nat} (h : Arr w d 0 m f) (hf : By m f) (hd : base ≤ d) (hm : m ≤ maxLen) : Mine w base (.slice (some ⟨d, 0, none⟩) m m) m f (some ⟨d, 0, none⟩) m d :=
  ⟨rfl, h.slB hf, OwnR.arr h, fun _ => hd, Nat.le_refl _, hm, fun h => by cases h⟩
end Mine
def FoldP (w : World) (n : Nat) (f : Nat → Nat) (e : Ending) (w' : World) : Prop := (∃ v A c g, e = .returned v ∧ Mine w' w.heap.size v n f A c g) ∧ Below w.heap.size w w'
set_option maxRecDepth 100000 in
set_option maxHeartbeats 1600000 in
theorem fold_any (A : Option Addr) (n c : Nat) (key : Nat → Nat) (AL : Option Addr) (L cL : Nat) (s : Nat → ByteArray) (w : World) (hn : n ≤ 1000000000000) (hA : SlB w A n key) (hnil : A = none → n = 0 ∧ c = 0) (hL : L ≤ 1000000) (hS : SlS w AL L s) (hsz : ∀ j, j < L → (s j).size ≤ 1000000000000) (ht : GT w) :
    Calls Tryz.prog 31 #[.slice A n c, .slice AL L cL] w (FoldP w (fkN n L) (fkF n key s L)) := by
  have HCL := Lib.hid (clone_any A n c key w (by omega) hA hnil)
  have HKB := Lib.hid (show By n key from fun j hj => hA.byte hj)
  have HN := Lib.hid hn
  have HS := Lib.hid hS
  have HSZ := Lib.hid hsz
  have HT := Lib.hid ht
  clear hn hA hnil hS hsz ht
  go_enter Tryz.func31, Tryz.ntmps31
  go_wp2_with fail
  refine HCL.out.mono ?_
  rintro e w1 ⟨⟨v, rfl, hown⟩, hb1⟩
  obtain ⟨A1, c1, g1, hmine⟩ := Mine.of_ownB hown HKB.out
  obtain rfl := hmine.val
  have H1 := Lib.hid hmine
  have HB1 := Lib.hid hb1
  clear hown hmine hb1 HCL
  go_wp2_with fail
  go_loopw [5, 13] (fun v i wr => ∃ (k : Nat) (A2 : Option Addr) (c2 g2 : Nat), k ≤ L ∧ i = .int .i64 k ∧ v = .slice A2 (fkN n k) c2 ∧ Mine wr w.heap.size (.slice A2 (fkN n k) c2) (fkN n k) (fkF n key s k) A2 c2 g2 ∧ Below w.heap.size w wr) (fun _ i _ => L - (intOf i).toNat)
  case atStart => exact ⟨0, A1, c1, g1, Nat.zero_le _, rfl, rfl, H1.out, HB1.out⟩
  case round =>
    obtain ⟨k, A2, c2, g2, hk, rfl, rfl, h1, h2⟩ := hrel
    have G1 := Lib.hid h1
    have G2 := Lib.hid h2
    have HNK := Lib.hid (fkN_le (n := n) HN.out (by decide) k)
    clear h1 h2
    by_cases hlt : k < L
    · obtain ⟨B, o, rfl, hB, hsa⟩ := HS.out (by omega)
      have hcell : wr.cell? ⟨B, o + k, none⟩ = some (.string (s k)) := (hsa.keep G2.out) k hlt
      have HZ := Lib.hid (HSZ.out k hlt)
      have hlti : (k : Int) < L := by omega
      have HNX := Lib.hid (show fkF n key s (k + 1) = tag (fkN n k) (fkF n key s k) (8 + (s k).size) (catB 8 (len8 (s k).size) (by_ (s k))) from rfl)
      have HN1 := Lib.hid (show fkN n (k + 1) = 32 from rfl)
      have HFB := Lib.hid (fkF_by (s := s) HKB.out k)
      clear hsa hB
      generalize s k = x at *
      generalize fkN n k = m at *
      generalize fkF n key s k = F at *
      go_wp2_with fail
      refine (length_any x wr (by have := HZ.out; omega)).mono ?_
      rintro e w2 ⟨rfl, hb2⟩
      have HB2 := Lib.hid (G2.out.trans (hb2.mono G2.out.size))
      have HM2 := Lib.hid (G1.out.keep hb2)
      clear hcell hb2
      have HAR := Lib.hid (made8 w2)
      have HM3 := Lib.hid (HM2.out.keep (alloc_below w2 (.cells z8 107)))
      have hB3 := HB2.out.trans ((alloc_below w2 (.cells z8 107)).mono HB2.out.size)
      have HB3 := Lib.hid hB3
      have HWS := Lib.hid (show w.heap.size ≤ w2.heap.size from HB2.out.size)
      clear hB3
      go_wp2_with (refine wpList_storeB rfl 107 (.tmp 8) (.tmp 18) rfl w2.heap.size 0 8 _ _ rfl rfl HAR.out size8b ?_; intro w3 h1 h2; have HA3 := Lib.hid h1; have HC3 := Lib.hid h2; clear h1 h2; obtain ⟨cap, w4, hcv, hb4, hcap, hrow⟩ := bytesOf' x w3; have HB4 := Lib.hid hb4; have HCP := Lib.hid hcap; have HX4 := Lib.hid hrow; clear hb4 hcap hrow)
      clear hcv
      have hm3 := HM3.out
      have HB34 := Lib.hid (HC3.out.below (by simp) (Nat.le_refl _))
      have HG2 := Lib.hid (show 0 < c2 → g2 < w2.heap.size from fun h => HM2.out.own.lt h)
      have HW3 := Lib.hid (HB3.out.trans (HC3.out.below (by have := HWS.out; simp; omega) HWS.out))
      have HWB := Lib.hid (HW3.out.trans (HB4.out.mono HW3.out.size))
      have HM4 := Lib.hid (HM2.out.keep (((alloc_below w2 (.cells z8 107)).trans HB34.out).trans (HB4.out.mono (Nat.le_trans (alloc_below w2 (.cells z8 107)).size HB34.out.size))))
      have HA4 := Lib.hid (HA3.out.keep HB4.out)
      clear hm3
      refine (mac2_any w4 A2 (some ⟨w2.heap.size, 0, none⟩) (some ⟨w3.heap.size, 0, none⟩) m c2 8 x.size 8 cap F (len8 x.size) (by_ x) (catB 8 (len8 x.size) (by_ x)) (by have := HNK.out; omega) (by have := HZ.out; omega) HM4.out.le (Nat.le_refl _) HCP.out HM4.out.row HFB.out (HA4.out.slB fun j _ => len8_lt _ j) HX4.out
        (fun j hj => by unfold catB; rw [if_pos hj]) (fun j _ => by unfold catB; rw [if_neg (by omega), Nat.add_sub_cancel_left]) (HT.out.keep HWB.out)).mono ?_
      rintro e w5 ⟨d, rfl, hd, ha, hb5⟩
      have HB5 := Lib.hid (HWB.out.trans (hb5.mono HWB.out.size))
      have HR := Lib.hid (Mine.of_arr (base := w.heap.size) (f := fkF n key s (k + 1)) (by rw [HNX.out]; exact ha) (by rw [HNX.out]; exact fun j _ => tag_lt _ _ _ _ j) (Nat.le_trans HWB.out.size hd) (by unfold maxLen; omega))
      clear hd ha hb5
      go_wp2_with fail
      go_roundw
      case rel => exact ⟨k + 1, _, 32, d, by omega, by go_num, by rw [HN1.out], by rw [HN1.out]; exact HR.out, HB5.out⟩
      case measure => simp [intOf]; omega
    · obtain rfl : k = L := by omega
      go_wp2_with fail
      go_ret
      exact ⟨⟨_, A2, c2, g2, rfl, G1.out⟩, G2.out⟩
end Go.Proofs.YthmlcmlpmolmoaaGreatDoor
namespace Go.Proofs.YthmlcmlpmolmoaaGreatDoor
open Go.RowKit
def nmS (p : Int) : ByteArray :=
  if p = 1 then { data := #[116, 111, 107, 101, 110] } else if p = 2 then { data := #[115, 116, 111, 114, 101] } else if p = 3 then { data := #[116, 97, 103] } else if p = 4 then { data := #[97, 117, 100, 105, 116] } else { data := #[] }
def nmB (p : Int) : Bool := decide (1 ≤ p ∧ p ≤ 4)
theorem nmS_size (p : Int) : (nmS p).size ≤ 5 := by
  unfold nmS
  split
  · decide
  · split
    · decide
    · split
      · decide
      · split <;> decide
def kok (t p v : Int) : Bool := decide ((1 ≤ t ∧ t ≤ 64) ∧ (1 ≤ p ∧ p ≤ 4) ∧ (1 ≤ v ∧ v ≤ 255))
def kN (b : Bool) : Nat := if b = true then 32 else 0
def kE (b : Bool) : Int := if b = true then 0 else 1
theorem within_any (n a b : Int) (w : World) : Calls Tryz.prog 69 #[.int .i64 n, .int .i64 a, .int .i64 b] w fun e w' => e = .returned (.bool (decide (a ≤ n ∧ n ≤ b))) ∧ w' = w := by
  by_cases h1 : a ≤ n
  · by_cases h2 : n ≤ b
    · have hd1 : decide (a ≤ n) = true := decide_eq_true h1
      have hd2 : decide (n ≤ b) = true := decide_eq_true h2
      have hr : decide (a ≤ n ∧ n ≤ b) = true := decide_eq_true ⟨h1, h2⟩
      rw [hr]
      clear hr h1 h2
      go_enter Tryz.func69, Tryz.ntmps69
      go_wp2_with fail
      go_ret
      exact ⟨rfl, rfl⟩
    · have hd1 : decide (a ≤ n) = true := decide_eq_true h1
      have hd2 : decide (n ≤ b) = false := decide_eq_false h2
      have hr : decide (a ≤ n ∧ n ≤ b) = false := decide_eq_false fun h => h2 h.2
      rw [hr]
      clear hr h1 h2
      go_enter Tryz.func69, Tryz.ntmps69
      go_wp2_with fail
      go_ret
      exact ⟨rfl, rfl⟩
  · have hd1 : decide (a ≤ n) = false := decide_eq_false h1
    have hr : decide (a ≤ n ∧ n ≤ b) = false := decide_eq_false fun h => h1 h.1
    rw [hr]
    clear hr h1
    go_enter Tryz.func69, Tryz.ntmps69
    go_wp2_with fail
    go_ret
    exact ⟨rfl, rfl⟩
theorem name_cases (p : Int) : p = 1 ∨ p = 2 ∨ p = 3 ∨ p = 4 ∨ ((p == 1) = false ∧ (p == 2) = false ∧ (p == 3) = false ∧ (p == 4) = false ∧ nmS p = { data := #[] } ∧ nmB p = false) := by
  by_cases h1 : p = 1
  · exact Or.inl h1
  by_cases h2 : p = 2
  · exact Or.inr (Or.inl h2)
  by_cases h3 : p = 3
  · exact Or.inr (Or.inr (Or.inl h3))
  by_cases h4 : p = 4
  · exact Or.inr (Or.inr (Or.inr (Or.inl h4)))
  refine Or.inr (Or.inr (Or.inr (Or.inr ⟨by simpa using h1, by simpa using h2, by simpa using h3, by simpa using h4, ?_, decide_eq_false (by omega)⟩)))
  unfold nmS
  rw [if_neg h1, if_neg h2, if_neg h3, if_neg h4]
theorem name_any (p : Int) (w : World) : Calls Tryz.prog 70 #[.int .i64 p] w fun e w' => e = .returned (.tuple #[.string (nmS p), .bool (nmB p)]) ∧ w' = w := by
  rcases name_cases p with rfl | rfl | rfl | rfl | ⟨h1, h2, h3, h4, e1, e2⟩
  · go_enter Tryz.func70, Tryz.ntmps70
    go_wp2_with fail
    go_ret2
    exact ⟨rfl, rfl⟩
  · go_enter Tryz.func70, Tryz.ntmps70
    go_wp2_with fail
    go_ret2
    exact ⟨rfl, rfl⟩
  · go_enter Tryz.func70, Tryz.ntmps70
    go_wp2_with fail
    go_ret2
    exact ⟨rfl, rfl⟩
  · go_enter Tryz.func70, Tryz.ntmps70
    go_wp2_with fail
    go_ret2
    exact ⟨rfl, rfl⟩
  · rw [e1, e2]
    clear e1 e2
    go_enter Tryz.func70, Tryz.ntmps70
    go_wp2_with fail
    go_ret2
    exact ⟨rfl, rfl⟩
theorem rname13_any (p : Int) (w : World) : Calls Tryz.prog 74 #[.int .i64 p] w fun e w' => e = .returned (.tuple #[.string (nmS p), .bool (nmB p)]) ∧ w' = w := by
  rcases name_cases p with rfl | rfl | rfl | rfl | ⟨h1, h2, h3, h4, e1, e2⟩
  · go_enter Tryz.func74, Tryz.ntmps74
    go_wp2_with fail
    go_ret2
    exact ⟨rfl, rfl⟩
  · go_enter Tryz.func74, Tryz.ntmps74
    go_wp2_with fail
    go_ret2
    exact ⟨rfl, rfl⟩
  · go_enter Tryz.func74, Tryz.ntmps74
    go_wp2_with fail
    go_ret2
    exact ⟨rfl, rfl⟩
  · go_enter Tryz.func74, Tryz.ntmps74
    go_wp2_with fail
    go_ret2
    exact ⟨rfl, rfl⟩
  · rw [e1, e2]
    clear e1 e2
    go_enter Tryz.func74, Tryz.ntmps74
    go_wp2_with fail
    go_ret2
    exact ⟨rfl, rfl⟩
theorem rmay_any (A : Option Addr) (n c : Nat) (w : World) : Calls Tryz.prog 38 #[.slice A n c] w fun e w' => e = .returned (.bool (decide (16 ≤ n ∧ n ≤ 64))) ∧ w' = w := by
  by_cases h1 : 16 ≤ n
  · have hd1 : decide ((16 : Int) ≤ n) = true := decide_eq_true (by omega)
    by_cases h2 : n ≤ 64
    · have hd2 : decide ((n : Int) ≤ 64) = true := decide_eq_true (by omega)
      have hr : decide (16 ≤ n ∧ n ≤ 64) = true := decide_eq_true ⟨h1, h2⟩
      rw [hr]
      clear hr h1 h2
      go_enter Tryz.func38, Tryz.ntmps38
      go_wp2_with fail
      go_ret
      exact ⟨rfl, rfl⟩
    · have hd2 : decide ((n : Int) ≤ 64) = false := decide_eq_false (by omega)
      have hr : decide (16 ≤ n ∧ n ≤ 64) = false := decide_eq_false fun h => h2 h.2
      rw [hr]
      clear hr h1 h2
      go_enter Tryz.func38, Tryz.ntmps38
      go_wp2_with fail
      go_ret
      exact ⟨rfl, rfl⟩
  · have hd1 : decide ((16 : Int) ≤ n) = false := decide_eq_false (by omega)
    have hr : decide (16 ≤ n ∧ n ≤ 64) = false := decide_eq_false fun h => h1 h.1
    rw [hr]
    clear hr h1
    go_enter Tryz.func38, Tryz.ntmps38
    go_wp2_with fail
    go_ret
    exact ⟨rfl, rfl⟩
end Go.Proofs.YthmlcmlpmolmoaaGreatDoor
namespace Go.Proofs.YthmlcmlpmolmoaaGreatDoor
open Go.RowKit
abbrev bTenant : ByteArray := { data := #[116, 101, 110, 97, 110, 116] }
abbrev bVersion : ByteArray := { data := #[118, 101, 114, 115, 105, 111, 110] }
def lab2 (a b : ByteArray) (j : Nat) : ByteArray := if j = 0 then a else b
def lab3 (a b c : ByteArray) (j : Nat) : ByteArray := if j = 0 then a else if j = 1 then b else c
def ownF (n : Nat) (key : Nat → Nat) (t : Nat) : Nat → Nat := fkF n key (lab2 bTenant (itoaB t)) 2
theorem ownF_lt (n : Nat) (key : Nat → Nat) (t j : Nat) : ownF n key t j < 256 := tag_lt _ _ _ _ j
def keyF (n : Nat) (key : Nat → Nat) (t : Nat) (s : ByteArray) (v : Nat) : Nat → Nat := fkF 32 (ownF n key t) (lab3 s bVersion (itoaB v)) 3
theorem keyF_lt (n : Nat) (key : Nat → Nat) (t : Nat) (s : ByteArray) (v j : Nat) : keyF n key t s v j < 256 := tag_lt _ _ _ _ j
theorem itoaB_small : ∀ n : Nat, n < 256 → (itoaB (n : Int)).size ≤ 3 := by decide +kernel
structure Sect (G a b : Nat) (w w' : World) : Prop where
  chg : Chg G w w'
  cell : ∀ j, j < a ∨ b ≤ j → w'.cell? ⟨G, j, none⟩ = w.cell? ⟨G, j, none⟩
  froz : ∀ j, w'.frozen? ⟨G, j, none⟩ = w.frozen? ⟨G, j, none⟩
namespace Sect
variable {G a b : Nat} {w w' w'' : World}
theorem refl (G a b : Nat) (w : World) : Sect G a b w w := ⟨Chg.refl _ _, fun _ _ => rfl, fun _ => rfl⟩
theorem trans (h : Sect G a b w w') (h' : Sect G a b w' w'') : Sect G a b w w'' := ⟨h.chg.trans h'.chg, fun j hj => (h'.cell j hj).trans (h.cell j hj), fun j => (h'.froz j).trans (h.froz j)⟩
theorem below (h : Sect G a b w w') (hb : Below w'.heap.size w' w'') (hG : G < w.heap.size) : Sect G a b w w'' :=
  have e := hb.block G (Nat.lt_of_lt_of_le hG h.chg.size)
  ⟨h.chg.thenBelow hb, fun j hj => (World.cell?_of_block e).trans (h.cell j hj), fun j => (World.frozen?_of_block e).trans (h.froz j)⟩
theorem setCell (h : Sect G a b w w') {k : Nat} (h1 : a ≤ k) (h2 : k < b) (v : Value) : Sect G a b w (w'.setCell ⟨G, k, none⟩ v) :=
  ⟨h.chg.setCell (Or.inl rfl) v, fun j hj => (cell_off (by omega) v).trans (h.cell j hj), fun j => by rw [World.frozen?_setCell]; exact h.froz j⟩
theorem setCells : ∀ (vs : List Value) (o : Nat) (w' : World), Sect G a b w w' → a ≤ o → o + vs.length ≤ b → Sect G a b w (w'.setCells G o vs)
  | [], _, _, h, _, _ => h
  | v :: r, o, w', h, h1, h2 => by
    rw [World.setCells]
    rw [List.length_cons] at h2
    exact setCells r (o + 1) _ (h.setCell h1 (by omega) v) (by omega) (by omega)
theorem drew (h : Sect G a b w w') : Sect G a b w w'.drew := ⟨h.chg.drew, h.cell, h.froz⟩
end Sect
theorem slB_chg {w w' : World} {M n K : Nat} {f : Nat → Nat} (h : SlB w (some ⟨M, 0, none⟩) n f) (hc : Chg K w w') (hK : M ≠ K) : SlB w' (some ⟨M, 0, none⟩) n f := fun hn => by
  obtain ⟨B, o, e, hB, hh⟩ := h hn
  cases e
  exact ⟨M, 0, rfl, Nat.lt_of_lt_of_le hB hc.size, fun j hj => ⟨(hh j hj).1, (hc.cell hB hK).trans (hh j hj).2⟩⟩
def TenAt (w : World) (G o : Nat) (own : Nat → Nat) : Prop := (OnceAt w G o 0 0 ∧ Arr w G (o + 3) 32 (fun _ => 0)) ∨ (OnceAt w G o 1 0 ∧ Arr w G (o + 3) 32 own)
theorem TenAt.of_block {w w' : World} {G o : Nat} {own : Nat → Nat} (h : TenAt w G o own) (e : w'.heap[G]? = w.heap[G]?) : TenAt w' G o own := h.imp (fun h => ⟨once_block h.1 e, h.2.of_block e⟩) (fun h => ⟨once_block h.1 e, h.2.of_block e⟩)
theorem TenAt.sect {w w' : World} {G o a b : Nat} {own : Nat → Nat} (h : TenAt w G o own) (hs : Sect G a b w w') (hd : o + 35 ≤ a ∨ b ≤ o) : TenAt w' G o own := by
  have h1 : ∀ {d m : Int}, OnceAt w G o d m → OnceAt w' G o d m := fun h => ⟨(hs.cell o (by omega)).trans h.done, (hs.cell (o + 1) (by omega)).trans h.lock, (hs.froz o).trans h.fdone, (hs.froz (o + 1)).trans h.flock⟩
  have h2 : ∀ {f : Nat → Nat}, Arr w G (o + 3) 32 f → Arr w' G (o + 3) 32 f := fun h j hj => ⟨(hs.cell (o + 3 + j) (by omega)).trans (h j hj).1, (hs.froz _).trans (h j hj).2⟩
  exact h.imp (fun h => ⟨h1 h.1, h2 h.2⟩) (fun h => ⟨h1 h.1, h2 h.2⟩)
structure RingAt (u w : World) (G M c n : Nat) (key : Nat → Nat) : Prop where
  gt : GT u
  p10 : P10 u
  bel : Below u.heap.size u w
  uG : u.heap.size ≤ G
  uM : u.heap.size ≤ M
  ne : M ≠ G
  len : 16 ≤ n ∧ n ≤ 64
  cap : n ≤ c
  cell : w.cell? ⟨G, 0, none⟩ = some (.slice (some ⟨M, 0, none⟩) n c)
  bytes : SlB w (some ⟨M, 0, none⟩) n key
  ten : ∀ k, k < 64 → TenAt w G (1 + k * 35) (ownF n key (k + 1))
namespace RingAt
variable {u w w' : World} {G M c n : Nat} {key : Nat → Nat}
theorem lt (h : RingAt u w G M c n key) : G < w.heap.size := block_lt h.cell
theorem ltM (h : RingAt u w G M c n key) : M < w.heap.size := by
  obtain ⟨B, o, e, hB, _⟩ := h.bytes (by have := h.len; omega)
  cases e; exact hB
theorem tables (h : RingAt u w G M c n key) : GT w ∧ P10 w := ⟨h.gt.keep h.bel, h.p10.keep h.bel⟩
theorem blocks (h : RingAt u w G M c n key) (hb : Below u.heap.size u w') (e1 : w'.heap[G]? = w.heap[G]?) (e2 : w'.heap[M]? = w.heap[M]?) : RingAt u w' G M c n key :=
  ⟨h.gt, h.p10, hb, h.uG, h.uM, h.ne, h.len, h.cap, (World.cell?_of_block e1).trans h.cell, fun hn => by
    obtain ⟨B, o, e, hB, hc⟩ := h.bytes hn
    cases e
    have hl := (hc 0 hn).2
    rw [← World.cell?_of_block e2] at hl
    exact ⟨M, 0, rfl, block_lt hl, fun j hj => ⟨(hc j hj).1, (World.cell?_of_block e2).trans (hc j hj).2⟩⟩, fun k hk => (h.ten k hk).of_block e1⟩
theorem keep (h : RingAt u w G M c n key) (hb : Below w.heap.size w w') : RingAt u w' G M c n key := h.blocks (h.bel.trans (hb.mono h.bel.size)) (hb.block G h.lt) (hb.block M h.ltM)
theorem chg {K : Nat} (h : RingAt u w G M c n key) (hc : Chg K w w') (hK : u.heap.size ≤ K) (h1 : G ≠ K) (h2 : M ≠ K) : RingAt u w' G M c n key :=
  h.blocks (h.bel.trans (hc.below h.bel.size hK)) (hc.block G h.lt h1) (hc.block M h.ltM h2)
theorem chgS {S : Nat → Prop} (h : RingAt u w G M c n key) (hc : ChgS S w w') (hS : ∀ k, S k → u.heap.size ≤ k) (h1 : ¬ S G) (h2 : ¬ S M) : RingAt u w' G M c n key :=
  h.blocks (h.bel.trans (hc.below h.bel.size hS)) (hc.block G h.lt h1) (hc.block M h.ltM h2)
theorem sect {k : Nat} (h : RingAt u w G M c n key) (hs : Sect G (1 + k * 35) (1 + k * 35 + 35) w w') (ht : TenAt w' G (1 + k * 35) (ownF n key (k + 1))) : RingAt u w' G M c n key :=
  ⟨h.gt, h.p10, h.bel.trans (hs.chg.below h.bel.size h.uG), h.uG, h.uM, h.ne, h.len, h.cap, (hs.cell 0 (by omega)).trans h.cell, slB_chg h.bytes hs.chg h.ne, fun k' hk' => by
    by_cases e : k' = k
    · subst e; exact ht
    · exact (h.ten k' hk').sect hs (by omega)⟩
end RingAt
end Go.Proofs.YthmlcmlpmolmoaaGreatDoor
namespace Go.Proofs.YthmlcmlpmolmoaaGreatDoor.ord
open Go Go.RowKit
theorem makes_ld {P : Program} {o : Oper} {a : Act} {w : World} {N : Value → World → Prop} {t : TypeId} {x : Operand} {vx u : Value} (ho : o.op = .load t x) (hx : a.eval x = vx) (hrun : (Instr.loadAt t vx).run P w = .ok u w) (hN : N u w) : makes P o a w N := by
  unfold makes
  have : (execOp a.eval o).run P w = .ok (.value u) w := by
    simp only [execOp, ho, hx, Sem.run_bind]
    rw [hrun]; rfl
  rw [this]; exact hN
end Go.Proofs.YthmlcmlpmolmoaaGreatDoor.ord
namespace Go.Proofs.YthmlcmlpmolmoaaGreatDoor
set_option maxRecDepth 100000
open Go.RowKit
theorem run_ldPB (A p : Addr) (w : World) (h : w.cell? A = some (.pointer (some p))) : (Instr.loadAt 176 (.pointer (some A))).run Tryz.prog w = .ok (.pointer (some p)) w := by go_simp
theorem run_ldPR (A p : Addr) (w : World) (h : w.cell? A = some (.pointer (some p))) : (Instr.loadAt 63 (.pointer (some A))).run Tryz.prog w = .ok (.pointer (some p)) w := by go_simp
theorem run_ldI (A : Addr) (x : Int) (w : World) (h : w.cell? A = some (.int .i64 x)) : (Instr.loadAt 3 (.pointer (some A))).run Tryz.prog w = .ok (.int .i64 x) w := by go_simp
theorem run_ldSl (A p : Addr) (n c : Nat) (w : World) (h : w.cell? A = some (.slice (some p) n c)) : (Instr.loadAt 22 (.pointer (some A))).run Tryz.prog w = .ok (.slice (some p) n c) w := by go_simp
theorem run_fbK (G o : Nat) (w : World) : (Instr.fieldAt 127 (.pointer (some ⟨G, o, none⟩)) 1).run Tryz.prog w = .ok (.pointer (some ⟨G, o + 3, none⟩)) w := by go_simp
theorem run_fbM (G : Nat) (w : World) : (Instr.fieldAt 130 (.pointer (some ⟨G, 0, none⟩)) 0).run Tryz.prog w = .ok (.pointer (some ⟨G, 0, none⟩)) w := by go_simp
theorem run_bs2 (a b : ByteArray) (w : World) : (Instr.buildSlice 36 2 #[(0, .string a), (1, .string b)]).run Tryz.prog w = .ok (.slice (some ⟨w.heap.size, 0, none⟩) 2 2) (w.alloc (.cells #[.string a, .string b] 9)) := by go_simp
theorem sls2 {w : World} {B : Nat} {a b : ByteArray} (h : w.heap[B]? = some (.cells #[.string a, .string b] 9 (0, 0))) : SlS w (some ⟨B, 0, none⟩) 2 (lab2 a b) := fun _ =>
  ⟨B, 0, rfl, (Array.getElem?_eq_some_iff.1 h).1, fun j hj => by
    rcases (show j = 0 ∨ j = 1 by omega) with rfl | rfl
    · exact (Lib.cell_of_heap h 0).trans rfl
    · exact (Lib.cell_of_heap h 1).trans rfl⟩
theorem lab2_size {a b : ByteArray} {K : Nat} (ha : a.size ≤ K) (hb : b.size ≤ K) (j : Nat) : (lab2 a b j).size ≤ K := by
  unfold lab2
  split
  · exact ha
  · exact hb
theorem run_copy32 (w : World) (ty : TypeId) (G o : Nat) (A : Option Addr) (c : Nat) (f cur : Nat → Nat) (hA : SlB w A 32 f) (hG : Arr w G o 32 cur) :
    (Builtin.copy_ #[22, 22] ty #[.slice (some ⟨G, o, none⟩) 32 32, .slice A 32 c]).run Tryz.prog w = .ok (goInt 32) (w.setCells G o (bytesL 32 f)) := by
  obtain ⟨B, q, rfl, _, hc⟩ := hA (by decide)
  have hl : (bytesL 32 f).length = 32 := bytesL_length _ _
  have := run_copy_cells (P := Tryz.prog) w 22 22 ty 5 G o 32 32 ⟨B, q, none⟩ 32 c (bytesL 32 f) Tryz.underlying22 sizeOf8 hl
    (fun j v hj => by
      obtain ⟨hj2, rfl⟩ := bytesL_get _ _ j v hj
      rw [Go.WideShapes.add_plain]
      exact (hc j hj2).2)
    (fun j hj => by rw [hl] at hj; rw [(hG j hj).1]; rfl) (fun j hj => by rw [hl] at hj; exact (hG j hj).2) (bytes_one 32 f)
  rw [hl] at this
  exact this
def kbG (G o M n c : Nat) (tn : Int) (F : Nat → Nat) : Nat → Value → World → Prop
  | 0, v, _ => v = .pointer (some ⟨G, o, none⟩)
  | 1, v, _ => v = .pointer (some ⟨G, o, none⟩)
  | 2, v, _ => v = .pointer (some ⟨G, o + 3, none⟩)
  | 3, v, _ => v = .slice (some ⟨G, o + 3, none⟩) 32 32
  | 4, v, _ => v = .pointer (some ⟨G, 0, none⟩)
  | 5, v, _ => v = .pointer (some ⟨G, 0, none⟩)
  | 6, v, _ => v = .pointer (some ⟨G, 0, none⟩)
  | 7, v, _ => v = .slice (some ⟨M, 0, none⟩) n c
  | 8, v, _ => v = .int .i64 tn
  | 9, v, _ => v = .string (itoaB tn)
  | 10, v, w => ∃ B, v = .slice (some ⟨B, 0, none⟩) 2 2 ∧ w.heap[B]? = some (.cells #[.string bTenant, .string (itoaB tn)] 9 (0, 0))
  | 11, v, w => ∃ A c, v = .slice A 32 c ∧ SlB w A 32 F
  | _, _, _ => True
theorem kbG_stays (G o M n c : Nat) (tn : Int) (F : Nat → Nat) : ∀ i v w w', kbG G o M n c tn F i v w → Below w.heap.size w w' → kbG G o M n c tn F i v w'
  | 0, _, _, _, h, _ => h
  | 1, _, _, _, h, _ => h
  | 2, _, _, _, h, _ => h
  | 3, _, _, _, h, _ => h
  | 4, _, _, _, h, _ => h
  | 5, _, _, _, h, _ => h
  | 6, _, _, _, h, _ => h
  | 7, _, _, _, h, _ => h
  | 8, _, _, _, h, _ => h
  | 9, _, _, _, h, _ => h
  | 10, v, w, w', h_, hb => by
    obtain ⟨B, h1, h2⟩ := h_; exact ⟨B, h1, (hb.block B (Array.getElem?_eq_some_iff.1 h2).1).trans h2⟩
  | 11, v, w, w', h_, hb => by
    obtain ⟨A, c, h1, h2⟩ := h_; exact ⟨A, c, h1, h2.keep hb⟩
  | _ + 12, _, _, _, _, _ => trivial
set_option maxHeartbeats 1600000 in
theorem make_key (G o M n c bb br bt : Nat) (t : Nat) (key : Nat → Nat) (w : World) (hn : n ≤ 64) (ht : t ≤ 64) (he : GT w ∧ P10 w)
    (hb : w.cell? ⟨bb, 0, none⟩ = some (.pointer (some ⟨G, o, none⟩))) (hr : w.cell? ⟨br, 0, none⟩ = some (.pointer (some ⟨G, 0, none⟩))) (hv : w.cell? ⟨bt, 0, none⟩ = some (.int .i64 (t : Int)))
    (hm : w.cell? ⟨G, 0, none⟩ = some (.slice (some ⟨M, 0, none⟩) n c)) (hk : SlB w (some ⟨M, 0, none⟩) n key) (hg : Arr w G (o + 3) 32 (fun _ => 0)) :
    Calls Tryz.prog 114 #[.pointer (some ⟨bb, 0, none⟩), .pointer (some ⟨br, 0, none⟩), .pointer (some ⟨bt, 0, none⟩)] w fun e w' => e = .returned (.tuple #[]) ∧
      ∃ W, Below w.heap.size w W ∧ w' = W.setCells G (o + 3) (bytesL 32 (ownF n key t)) := by
  have HCB := Lib.hid (show ∀ w', Below w.heap.size w w' → w'.cell? ⟨bb, 0, none⟩ = some (.pointer (some ⟨G, o, none⟩)) from fun w' h => (h.cell (p := ⟨bb, 0, none⟩) (block_lt hb)).trans hb)
  have HCR := Lib.hid (show ∀ w', Below w.heap.size w w' → w'.cell? ⟨br, 0, none⟩ = some (.pointer (some ⟨G, 0, none⟩)) from fun w' h => (h.cell (p := ⟨br, 0, none⟩) (block_lt hr)).trans hr)
  have HCT := Lib.hid (show ∀ w', Below w.heap.size w w' → w'.cell? ⟨bt, 0, none⟩ = some (.int .i64 (t : Int)) from fun w' h => (h.cell (p := ⟨bt, 0, none⟩) (block_lt hv)).trans hv)
  have HCM := Lib.hid (show ∀ w', Below w.heap.size w w' → w'.cell? ⟨G, 0, none⟩ = some (.slice (some ⟨M, 0, none⟩) n c) from fun w' h => (h.cell (p := ⟨G, 0, none⟩) (block_lt hm)).trans hm)
  have HEN := Lib.hid (show ∀ w', Below w.heap.size w w' → GT w' ∧ P10 w' from fun w' h => ⟨he.1.keep h, he.2.keep h⟩)
  have HFO := Lib.hid (show ∀ w' B, Below w.heap.size w w' → w'.heap[B]? = some (.cells #[.string bTenant, .string (itoaB (t : Int))] 9 (0, 0)) →
      Calls Tryz.prog 31 #[.slice (some ⟨M, 0, none⟩) n c, .slice (some ⟨B, 0, none⟩) 2 2] w' (FoldP w' 32 (ownF n key t)) from fun w' B h hh =>
    fold_any (some ⟨M, 0, none⟩) n c key (some ⟨B, 0, none⟩) 2 2 (lab2 bTenant (itoaB (t : Int))) w' (by omega) (hk.keep h) (fun h => by cases h) (by decide) (sls2 hh)
      (fun j _ => Nat.le_trans (lab2_size (K := 6) (by decide) (Nat.le_trans (itoaB_small t (by omega)) (by decide)) j) (by decide)) (he.1.keep h))
  have HTN := Lib.hid (show -9223372036854775808 ≤ (t : Int) ∧ (t : Int) ≤ 9223372036854775807 by omega)
  have HG := Lib.hid hg
  obtain ⟨tn, htn⟩ : ∃ tn : Int, tn = (t : Int) := ⟨_, rfl⟩
  obtain ⟨F, hF⟩ : ∃ F, F = ownF n key t := ⟨_, rfl⟩
  rw [← htn] at HCT HTN
  rw [← htn, ← hF] at HFO
  rw [← hF]
  clear hb hr hv hm hk hg he hn ht htn hF
  go_enter Tryz.func114, Tryz.ntmps114
  go_wp2_with fail
  refine ord.wp_region_ordT 12 [[], [0], [1], [2], [], [4], [5], [6], [], [8], [9], [7, 10]] [(0, 3), (1, 4), (2, 5), (3, 6), (4, 7), (5, 8), (6, 9), (7, 10), (8, 11), (9, 12), (10, 13), (11, 14)] (kbG G o M n c tn F) (by kernel_rfl) (by kernel_rfl) (by kernel_rfl) (kbG_stays _ _ _ _ _ _ _) ((ord.steps_cons ?_ (ord.steps_cons ?_ (ord.steps_cons ?_ (ord.steps_cons ?_ (ord.steps_cons ?_ (ord.steps_cons ?_ (ord.steps_cons ?_ (ord.steps_cons ?_ (ord.steps_cons ?_ (ord.steps_cons ?_ (ord.steps_cons ?_ (ord.steps_cons ?_ ord.steps_nil))))))))))))) ?_
  · intro o ho x w hb hG
    obtain rfl := Option.some.inj ho
    clear ho
    refine Or.inl ⟨ord.want0 rfl, ?_⟩
    exact ord.makes_ld rfl rfl (run_ldPB _ _ w (HCB.out w (of_drew hb))) ⟨Below.refl _ _, rfl⟩
  · intro o ho x w hb hG
    obtain rfl := Option.some.inj ho
    clear ho
    have h3 : x 0 = .pointer (some ⟨G, o, none⟩) := hG (0, 3) (List.mem_of_getElem? (i := 0) rfl) rfl
    refine Or.inl ⟨ord.want0 rfl, ?_⟩
    exact ord.makes_nilCheck rfl h3 ⟨Below.refl _ _, rfl⟩
  · intro o ho x w hb hG
    obtain rfl := Option.some.inj ho
    clear ho
    have h4 : x 1 = .pointer (some ⟨G, o, none⟩) := hG (1, 4) (List.mem_of_getElem? (i := 1) rfl) rfl
    refine Or.inl ⟨ord.want0 rfl, ?_⟩
    exact ord.makes_fieldAddr rfl h4 (run_fbK G o w) ⟨Below.refl _ _, rfl⟩
  · intro o ho x w hb hG
    obtain rfl := Option.some.inj ho
    clear ho
    have h5 : x 2 = .pointer (some ⟨G, o + 3, none⟩) := hG (2, 5) (List.mem_of_getElem? (i := 2) rfl) rfl
    refine Or.inl ⟨ord.want0 rfl, ?_⟩
    exact ord.makes_slice rfl h5 rfl rfl rfl (all_arr 125 32 G (o + 3) Tryz.underlying125 (by decide) w) ⟨Below.refl _ _, rfl⟩
  · intro o ho x w hb hG
    obtain rfl := Option.some.inj ho
    clear ho
    refine Or.inl ⟨ord.want0 rfl, ?_⟩
    exact ord.makes_ld rfl rfl (run_ldPR _ _ w (HCR.out w (of_drew hb))) ⟨Below.refl _ _, rfl⟩
  · intro o ho x w hb hG
    obtain rfl := Option.some.inj ho
    clear ho
    have h7 : x 4 = .pointer (some ⟨G, 0, none⟩) := hG (4, 7) (List.mem_of_getElem? (i := 4) rfl) rfl
    refine Or.inl ⟨ord.want0 rfl, ?_⟩
    exact ord.makes_nilCheck rfl h7 ⟨Below.refl _ _, rfl⟩
  · intro o ho x w hb hG
    obtain rfl := Option.some.inj ho
    clear ho
    have h8 : x 5 = .pointer (some ⟨G, 0, none⟩) := hG (5, 8) (List.mem_of_getElem? (i := 5) rfl) rfl
    refine Or.inl ⟨ord.want0 rfl, ?_⟩
    exact ord.makes_fieldAddr rfl h8 (run_fbM G w) ⟨Below.refl _ _, rfl⟩
  · intro o ho x w hb hG
    obtain rfl := Option.some.inj ho
    clear ho
    have h9 : x 6 = .pointer (some ⟨G, 0, none⟩) := hG (6, 9) (List.mem_of_getElem? (i := 6) rfl) rfl
    refine Or.inl ⟨ord.want0 rfl, ?_⟩
    exact ord.makes_ld rfl h9 (run_ldSl _ _ _ _ w (HCM.out w (of_drew hb))) ⟨Below.refl _ _, rfl⟩
  · intro o ho x w hb hG
    obtain rfl := Option.some.inj ho
    clear ho
    refine Or.inl ⟨ord.want0 rfl, ?_⟩
    exact ord.makes_ld rfl rfl (run_ldI _ _ w (HCT.out w (of_drew hb))) ⟨Below.refl _ _, rfl⟩
  · intro o ho x w hb hG
    obtain rfl := Option.some.inj ho
    clear ho
    have h11 : x 8 = .int .i64 tn := hG (8, 11) (List.mem_of_getElem? (i := 8) rfl) rfl
    refine Or.inl ⟨ord.want0 rfl, ?_⟩
    exact ord.makes_call1 Tryz.func72 (by kernel_rfl) (by kernel_rfl) rfl h11 (itoa_any tn w HTN.out.1 HTN.out.2 (HEN.out w (of_drew hb)).2) (fun e w' h => ⟨_, h.1, h.2, rfl⟩)
  · intro o ho x w hb hG
    obtain rfl := Option.some.inj ho
    clear ho
    have h12 : x 9 = .string (itoaB tn) := hG (9, 12) (List.mem_of_getElem? (i := 9) rfl) rfl
    refine Or.inl ⟨ord.want0 rfl, ?_⟩
    exact ord.makes_build2 rfl rfl h12 (run_bs2 bTenant (itoaB tn) w) ⟨(Below.refl _ _).alloc (Nat.le_refl _) _, _, rfl, heap_alloc_new w _⟩
  · intro o ho x w hb hG
    obtain rfl := Option.some.inj ho
    clear ho
    have h10 : x 7 = .slice (some ⟨M, 0, none⟩) n c := hG (7, 10) (List.mem_of_getElem? (i := 7) rfl) rfl
    have h13 : kbG G o M n c tn F 10 (x 10) w := hG (10, 13) (List.mem_of_getElem? (i := 10) rfl) rfl
    refine Or.inl ⟨ord.want0 rfl, ?_⟩
    obtain ⟨B, hv, hh⟩ := h13
    exact ord.makes_call2 Tryz.func31 (by kernel_rfl) (by kernel_rfl) rfl h10 hv (HFO.out w B (of_drew hb) hh) (fun e w' h => by obtain ⟨⟨v, A, c2, g, he, hm⟩, h4⟩ := h; exact ⟨_, he, h4, A, c2, hm.val, hm.row⟩)
  · intro x w5 hb hG
    have e6 : x 3 = .slice (some ⟨G, o + 3, none⟩) 32 32 := hG (3, 6) (List.mem_of_getElem? (i := 3) rfl)
    obtain ⟨A, c2, e14, hs⟩ : kbG G o M n c tn F 11 (x 11) w5 := hG (11, 14) (List.mem_of_getElem? (i := 11) rfl)
    clear hG
    simp only [ord.puts, ord.put', List.set_cons_zero, List.set_cons_succ, if_true]
    rw [e6, e14]
    simp only [List.drop_succ_cons, List.drop_zero]
    have HB5 := Lib.hid hb
    have HCP := Lib.hid (fun ty => run_copy32 w5 ty G (o + 3) A c2 F _ hs (HG.out.keep hb))
    clear hb hs e6 e14
    have hcp := HCP.out 3
    go_wp2_with fail
    go_end0
    exact ⟨rfl, w5, HB5.out, rfl⟩
end Go.Proofs.YthmlcmlpmolmoaaGreatDoor
namespace Go.Proofs.YthmlcmlpmolmoaaGreatDoor
open Go.MuLone
set_option maxRecDepth 100000 in
set_option maxHeartbeats 1600000 in
theorem slow_key (b off : Nat) (p1 p2 p3 : Value) (w : World) (h : OnceAt w b off 0 0) (R : World → Prop)
    (hF : Calls Tryz.prog 114 #[p1, p2, p3] (w.setCell ⟨b, off + 1, none⟩ (.int .i32 1)) fun e w' => e = .returned (.tuple #[]) ∧ R w') (hR : ∀ w', R w' → OnceAt w' b off 0 1) :
    Calls Tryz.prog 119 #[.pointer (some ⟨b, off, none⟩), .func (.func 114) #[] #[p1, p2, p3]] w fun e w' => e = .returned (.tuple #[]) ∧
      ∃ w1, R w1 ∧ w' = (w1.drew.setCell ⟨b, off, none⟩ (.int .u32 1)).setCell ⟨b, off + 1, none⟩ (.int .i32 0) := by
  have hl := run_call_load (P := Tryz.prog) Tryz.func149 (by kernel_rfl) (by kernel_rfl) (by kernel_rfl) .u32 (by kernel_rfl) (w := w.setCell ⟨b, off + 1, none⟩ (.int .i32 1)) (a := ⟨b, off, none⟩) (x := 0) ((World.cell?_setCell_other _ ⟨b, off + 1, none⟩ ⟨b, off, none⟩ _ (by simp)).trans h.done)
  have hnot : ∀ (x : Bool) (w : World), (Op.unary .not (.bool x)).run Tryz.prog w = .ok (.bool (!x)) w := fun _ _ => rfl
  have HR := Lib.hid hR
  have HF := Lib.hid hF
  have H := Lib.hid h
  clear hR hF h
  go_enter_defers Tryz.func119, Tryz.ntmps119
  go_wp2_with (first | (go_at_call 150; refine (lock_free muLib ⟨b, off + 1, none⟩ _ H.out.lock H.out.flock).mono ?_; rintro e w' ⟨rfl, rfl⟩) | (go_at_call 118; go_in) | (go_at_call 114; refine HF.out.mono ?_; rintro e w' ⟨rfl, hw⟩; have HW := Lib.hid hw; clear hw))
  have h1 := HR.out _ HW.out
  refine leaves_cons (f := 152) (args := #[.pointer (some ⟨b, off, none⟩), .bool true]) (by simp) (by simp [go_sem]) ?_
  refine (store_deferred ⟨b, off, none⟩ (.int .u32 0) .returning _ h1.done h1.fdone).mono ?_
  rintro e u' w'' ⟨rfl, rfl, rfl⟩
  refine leaves_cons (f := 151) (args := #[.pointer (some ⟨b, off + 1, none⟩)]) (by simp [settle]) (by simp [go_sem]) ?_
  refine (unlock_deferred muLib ⟨b, off + 1, none⟩ _ _ ?_ (by simp [h1.flock])).mono ?_
  · refine (World.cell?_setCell_other _ ⟨b, off, none⟩ ⟨b, off + 1, none⟩ _ (by simp)).trans ?_
    rw [World.cell?_drew]
    exact h1.lock
  rintro e u' w'' ⟨rfl, rfl, rfl⟩
  exact ⟨_, results_none rfl _ _ _, rfl, w', HW.out, rfl⟩
theorem do_first_key (b off : Nat) (p1 p2 p3 : Value) (w : World) (h : OnceAt w b off 0 0) (R : World → Prop)
    (hF : Calls Tryz.prog 114 #[p1, p2, p3] (w.setCell ⟨b, off + 1, none⟩ (.int .i32 1)) fun e w' => e = .returned (.tuple #[]) ∧ R w') (hR : ∀ w', R w' → OnceAt w' b off 0 1) :
    Calls Tryz.prog 78 #[.pointer (some ⟨b, off, none⟩), .func (.func 114) #[] #[p1, p2, p3]] w fun e w' => e = .returned (.tuple #[]) ∧
      ∃ w1, R w1 ∧ w' = (w1.drew.setCell ⟨b, off, none⟩ (.int .u32 1)).setCell ⟨b, off + 1, none⟩ (.int .i32 0) := by
  have hl := run_call_load (P := Tryz.prog) Tryz.func149 (by kernel_rfl) (by kernel_rfl) (by kernel_rfl) .u32 (by kernel_rfl) h.done
  have hnot : ∀ (x : Bool) (w : World), (Op.unary .not (.bool x)).run Tryz.prog w = .ok (.bool (!x)) w := fun _ _ => rfl
  have HS := Lib.hid (slow_key b off p1 p2 p3 w h R hF hR)
  clear hR hF h
  go_enter Tryz.func78, Tryz.ntmps78
  go_wp2_with (first | (go_at_call 119; refine HS.out.mono ?_; rintro e w' ⟨rfl, hw⟩; have HW := Lib.hid hw; clear hw) | (go_at_call 118; go_in))
  go_end0
  exact ⟨rfl, HW.out⟩
end Go.Proofs.YthmlcmlpmolmoaaGreatDoor
namespace Go.Proofs.YthmlcmlpmolmoaaGreatDoor
set_option maxRecDepth 100000
open Go.RowKit
theorem fin_once {G o : Nat} {W0 W : World} {F : Nat → Nat} (o1 : OnceAt W0 G o 0 1) (hG0 : G < W0.heap.size) (hW : Below W0.heap.size W0 W) : OnceAt (W.setCells G (o + 3) (bytesL 32 F)) G o 0 1 := by
  have s := Sect.setCells (G := G) (a := o + 3) (b := o + 35) (bytesL 32 F) (o + 3) W (Sect.refl _ _ _ _) (Nat.le_refl _) (by rw [bytesL_length]; omega)
  have o2 := once_block o1 (hW.block G hG0)
  exact ⟨(s.cell o (by omega)).trans o2.done, (s.cell (o + 1) (by omega)).trans o2.lock, (s.froz o).trans o2.fdone, (s.froz (o + 1)).trans o2.flock⟩
theorem last_once {G o : Nat} {w3 : World} {F : Nat → Nat} (o3 : OnceAt w3 G o 0 1) (a3 : Arr w3 G (o + 3) 32 F) :
    OnceAt ((w3.drew.setCell ⟨G, o, none⟩ (.int .u32 1)).setCell ⟨G, o + 1, none⟩ (.int .i32 0)) G o 1 0 ∧ Arr ((w3.drew.setCell ⟨G, o, none⟩ (.int .u32 1)).setCell ⟨G, o + 1, none⟩ (.int .i32 0)) G (o + 3) 32 F := by
  refine ⟨⟨(cell_off (by omega) _).trans (World.cell?_setCell_same w3.drew ⟨G, o, none⟩ _ (u := .int .u32 0) ?_), World.cell?_setCell_same _ ⟨G, o + 1, none⟩ _ (u := .int .i32 1) ((cell_off (by omega) _).trans ?_), ?_, ?_⟩, (a3.drew.setApart (k := o) (by omega) (.int .u32 1)).setApart (k := o + 1) (by omega) (.int .i32 0)⟩
  · exact o3.done
  · exact o3.lock
  · rw [World.frozen?_setCell, World.frozen?_setCell]; exact o3.fdone
  · rw [World.frozen?_setCell, World.frozen?_setCell]; exact o3.flock
theorem lock_once {G o : Nat} {w : World} (h1 : OnceAt w G o 0 0) (h2 : Arr w G (o + 3) 32 (fun _ => 0)) :
    OnceAt (w.setCell ⟨G, o + 1, none⟩ (.int .i32 1)) G o 0 1 ∧ Arr (w.setCell ⟨G, o + 1, none⟩ (.int .i32 1)) G (o + 3) 32 (fun _ => 0) :=
  ⟨⟨(cell_off (by omega) _).trans h1.done, World.cell?_setCell_same w ⟨G, o + 1, none⟩ _ h1.lock, by rw [World.frozen?_setCell]; exact h1.fdone, by rw [World.frozen?_setCell]; exact h1.flock⟩, h2.setApart (by omega) _⟩
theorem first_ring (G M c n o t bb br bt : Nat) (key F : Nat → Nat) (u w : World) (hgt : GT u) (hp : P10 u) (hbel : Below u.heap.size u w) (huG : u.heap.size ≤ G) (hne : M ≠ G) (hn : n ≤ 64) (ht : t ≤ 64) (hF : ownF n key t = F)
    (ho : 1 ≤ o) (hcell : w.cell? ⟨G, 0, none⟩ = some (.slice (some ⟨M, 0, none⟩) n c)) (hbytes : SlB w (some ⟨M, 0, none⟩) n key) (h1 : OnceAt w G o 0 0) (h2 : Arr w G (o + 3) 32 (fun _ => 0))
    (hb : w.cell? ⟨bb, 0, none⟩ = some (.pointer (some ⟨G, o, none⟩))) (hr : w.cell? ⟨br, 0, none⟩ = some (.pointer (some ⟨G, 0, none⟩))) (hv : w.cell? ⟨bt, 0, none⟩ = some (.int .i64 (t : Int)))
    (nb : bb ≠ G) (nr : br ≠ G) (nt : bt ≠ G) :
    Calls Tryz.prog 78 #[.pointer (some ⟨G, o, none⟩), .func (.func 114) #[] #[.pointer (some ⟨bb, 0, none⟩), .pointer (some ⟨br, 0, none⟩), .pointer (some ⟨bt, 0, none⟩)]] w fun e w' =>
      e = .returned (.tuple #[]) ∧ OnceAt w' G o 1 0 ∧ Arr w' G (o + 3) 32 F ∧ Sect G o (o + 35) w w' := by
  have hlt : G < w.heap.size := block_lt hcell
  have s1 : Sect G o (o + 35) w (w.setCell ⟨G, o + 1, none⟩ (.int .i32 1)) := (Sect.refl _ _ _ _).setCell (by omega) (by omega) _
  obtain ⟨o1, a1⟩ := lock_once h1 h2
  have hcl : ∀ q v, q ≠ G → w.cell? ⟨q, 0, none⟩ = some v → (w.setCell ⟨G, o + 1, none⟩ (.int .i32 1)).cell? ⟨q, 0, none⟩ = some v := fun q v hq hc => (s1.chg.cell (block_lt hc) hq).trans hc
  have b1 : Below u.heap.size u (w.setCell ⟨G, o + 1, none⟩ (.int .i32 1)) := hbel.trans (s1.chg.below hbel.size huG)
  have hmk := make_key G o M n c bb br bt t key (w.setCell ⟨G, o + 1, none⟩ (.int .i32 1)) hn ht ⟨hgt.keep b1, hp.keep b1⟩ (hcl _ _ nb hb) (hcl _ _ nr hr) (hcl _ _ nt hv) ((s1.cell 0 (by omega)).trans hcell) (slB_chg hbytes s1.chg hne) a1
  rw [hF] at hmk
  have hG0 : G < (w.setCell ⟨G, o + 1, none⟩ (.int .i32 1)).heap.size := Nat.lt_of_lt_of_le hlt s1.chg.size
  refine (do_first_key G o _ _ _ w h1 (fun w1 => ∃ W, Below (w.setCell ⟨G, o + 1, none⟩ (.int .i32 1)).heap.size (w.setCell ⟨G, o + 1, none⟩ (.int .i32 1)) W ∧ w1 = W.setCells G (o + 3) (bytesL 32 F)) hmk ?_).mono ?_
  · intro w1 hw
    obtain ⟨W, hW, e⟩ := hw
    rw [e]
    exact fin_once o1 hG0 hW
  · intro e w' hw
    obtain ⟨he, w1, hw1, e2⟩ := hw
    obtain ⟨W, hW, e1⟩ := hw1
    have s3 : Sect G o (o + 35) w w1 := by rw [e1]; exact Sect.setCells _ _ W (s1.below hW hlt) (by omega) (by rw [bytesL_length]; omega)
    have o3 : OnceAt w1 G o 0 1 := by rw [e1]; exact fin_once o1 hG0 hW
    have a3 : Arr w1 G (o + 3) 32 F := by rw [e1]; exact (a1.of_block (hW.block G hG0)).setCells _
    obtain ⟨o5, a5⟩ := last_once o3 a3
    rw [e2]
    exact ⟨he, o5, a5, (s3.drew.setCell (k := o) (Nat.le_refl _) (by omega) (.int .u32 1)).setCell (k := o + 1) (by omega) (by omega) (.int .i32 0)⟩
theorem once_ring (G M c n k bb br bt : Nat) (key : Nat → Nat) (u w : World) (h : RingAt u w G M c n key) (hk : k < 64)
    (hb : w.cell? ⟨bb, 0, none⟩ = some (.pointer (some ⟨G, 1 + k * 35, none⟩))) (hr : w.cell? ⟨br, 0, none⟩ = some (.pointer (some ⟨G, 0, none⟩))) (hv : w.cell? ⟨bt, 0, none⟩ = some (.int .i64 ((k + 1 : Nat) : Int)))
    (nb : bb ≠ G) (nr : br ≠ G) (nt : bt ≠ G) :
    Calls Tryz.prog 78 #[.pointer (some ⟨G, 1 + k * 35, none⟩), .func (.func 114) #[] #[.pointer (some ⟨bb, 0, none⟩), .pointer (some ⟨br, 0, none⟩), .pointer (some ⟨bt, 0, none⟩)]] w fun e w' =>
      e = .returned (.tuple #[]) ∧ RingAt u w' G M c n key ∧ Arr w' G (1 + k * 35 + 3) 32 (ownF n key (k + 1)) ∧ Chg G w w' := by
  rcases h.ten k hk with ⟨h1, h2⟩ | ⟨h1, h2⟩
  · refine (first_ring G M c n (1 + k * 35) (k + 1) bb br bt key (ownF n key (k + 1)) u w h.gt h.p10 h.bel h.uG h.ne h.len.2 (by omega) rfl (by omega) h.cell h.bytes h1 h2 hb hr hv nb nr nt).mono ?_
    rintro e w' ⟨he, h3, h4, h5⟩
    exact ⟨he, h.sect (k := k) h5 (Or.inr ⟨h3, h4⟩), h4, h5.chg⟩
  · refine (do_done G (1 + k * 35) _ 0 w h1).mono ?_
    rintro e w' ⟨he, rfl⟩
    exact ⟨he, h, h2, Chg.refl _ _⟩
set_option maxHeartbeats 1600000 in
theorem begin_any (G M c n k : Nat) (tn : Int) (key : Nat → Nat) (u w : World) (h : RingAt u w G M c n key) (hk : k < 64) (ht : tn = ((k + 1 : Nat) : Int)) :
    Calls Tryz.prog 71 #[.pointer (some ⟨G, 0, none⟩), .int .i64 tn] w fun e w' =>
      e = .returned (.slice (some ⟨G, 1 + k * 35 + 3, none⟩) 32 32) ∧ RingAt u w' G M c n key ∧ Arr w' G (1 + k * 35 + 3) 32 (ownF n key (k + 1)) ∧ Chg G w w' := by
  have ht1 : tn - 1 = (k : Int) := by omega
  have ht2 : 1 ≤ tn := by omega
  have ht3 : tn ≤ 64 := by omega
  have hki : (k : Int) < 64 := by omega
  have H := Lib.hid h
  have HT := Lib.hid ht
  clear h ht
  go_enter Tryz.func71, Tryz.ntmps71
  go_wp2_with fail
  go_region
  have e1 : (w.alloc (.cells #[.pointer (some ⟨G, 0, none⟩)] 63)).heap.size = w.heap.size + 1 := by simp
  have e2 : ((w.alloc (.cells #[.pointer (some ⟨G, 0, none⟩)] 63)).alloc (.cells #[.int .i64 tn] 3)).heap.size = w.heap.size + 1 + 1 := by simp
  have b1 := alloc_below w (.cells #[.pointer (some ⟨G, 0, none⟩)] 63)
  have c1 : (w.alloc (.cells #[.pointer (some ⟨G, 0, none⟩)] 63)).cell? ⟨w.heap.size, 0, none⟩ = some (.pointer (some ⟨G, 0, none⟩)) := (World.cell?_alloc_at _ _ _ _ rfl).trans rfl
  generalize w.alloc (.cells #[.pointer (some ⟨G, 0, none⟩)] 63) = w1 at *
  have b2 := alloc_below w1 (.cells #[.int .i64 tn] 3)
  have c2 : (w1.alloc (.cells #[.int .i64 tn] 3)).cell? ⟨w.heap.size + 1, 0, none⟩ = some (.int .i64 tn) := by rw [← e1]; exact (World.cell?_alloc_at _ _ _ _ rfl).trans rfl
  generalize w1.alloc (.cells #[.int .i64 tn] 3) = w2 at *
  have b3 := alloc_below w2 (.cells #[.pointer (some ⟨G, 1 + k * 35, none⟩)] 176)
  have c3 : (w2.alloc (.cells #[.pointer (some ⟨G, 1 + k * 35, none⟩)] 176)).cell? ⟨w.heap.size + 1 + 1, 0, none⟩ = some (.pointer (some ⟨G, 1 + k * 35, none⟩)) := by rw [← e2]; exact (World.cell?_alloc_at _ _ _ _ rfl).trans rfl
  generalize w2.alloc (.cells #[.pointer (some ⟨G, 1 + k * 35, none⟩)] 176) = w3 at *
  have b13 : Below w.heap.size w w3 := (b1.trans (b2.mono (by omega))).trans (b3.mono (by omega))
  have c2' := (b3.cell (p := ⟨w.heap.size + 1, 0, none⟩) (block_lt c2)).trans c2
  have c1' := (b3.cell (p := ⟨w.heap.size, 0, none⟩) (show w.heap.size < w2.heap.size by omega)).trans ((b2.cell (p := ⟨w.heap.size, 0, none⟩) (block_lt c1)).trans c1)
  have HO := Lib.hid (once_ring G M c n k (w.heap.size + 1 + 1) w.heap.size (w.heap.size + 1) key u w3.drew ((H.out.keep b13).keep (Below.refl _ _).drew) hk c3 c1' (by rw [← HT.out]; exact c2') (by have := H.out.lt; omega) (by have := H.out.lt; omega) (by have := H.out.lt; omega))
  have HB3 := Lib.hid b13
  have HC3 := Lib.hid c3
  have c3d : w3.drew.cell? ⟨w.heap.size + 1 + 1, 0, none⟩ = some (.pointer (some ⟨G, 1 + k * 35, none⟩)) := c3
  clear b1 b2 b3 c1 c2 c1' c2' b13 c3 e1 e2
  have hmf : ∀ (fn : Fn) (first cap : Array Value) (w : World), (Instr.makeFunc fn first cap).run Tryz.prog w = .ok (.func fn first cap) w := fun _ _ _ _ => rfl
  go_wp2_with fail
  refine HO.out.mono ?_
  rintro e w4 ⟨rfl, h1, h2, h3⟩
  have c4 : w4.cell? ⟨w.heap.size + 1 + 1, 0, none⟩ = some (.pointer (some ⟨G, 1 + k * 35, none⟩)) := (h3.cell (g := w.heap.size + 1 + 1) (block_lt c3d) (by have := H.out.lt; omega)).trans c3d
  have H1 := Lib.hid h1
  have H2 := Lib.hid h2
  have H3 := Lib.hid ((Chg.of_below (K := G) HB3.out).drew.trans h3)
  have hsa : ∀ W : World, (Instr.sliceAt 125 (.pointer (some ⟨G, 1 + k * 35 + 3, none⟩)) none none none).run Tryz.prog W = .ok (.slice (some ⟨G, 1 + k * 35 + 3, none⟩) 32 32) W := all_arr 125 32 G (1 + k * 35 + 3) Tryz.underlying125 (by decide)
  clear h1 h2 h3 c3d
  go_wp2_with fail
  go_ret
  exact ⟨rfl, H1.out, H2.out, H3.out⟩
end Go.Proofs.YthmlcmlpmolmoaaGreatDoor
namespace Go.Proofs.YthmlcmlpmolmoaaGreatDoor
set_option maxRecDepth 100000
open Go.RowKit
theorem Mine.none0 (w : World) (base : Nat) (f : Nat → Nat) (g : Nat) : Mine w base (.slice none 0 0) 0 f none 0 g :=
  ⟨rfl, fun h => absurd h (Nat.lt_irrefl 0), fun h => absurd h (Nat.lt_irrefl 0), fun h => absurd h (Nat.lt_irrefl 0), Nat.le_refl _, by unfold maxLen; omega, fun _ => ⟨rfl, rfl⟩⟩
theorem sls3 (w : World) (a b c : ByteArray) : SlS (w.alloc (.cells #[.string a, .string b, .string c] 9)) (some ⟨w.heap.size, 0, none⟩) 3 (lab3 a b c) := fun _ =>
  ⟨w.heap.size, 0, rfl, by simp, fun j hj => by
    rcases (show j = 0 ∨ j = 1 ∨ j = 2 by omega) with rfl | rfl | rfl
    · exact (World.cell?_alloc_at _ _ _ _ rfl).trans rfl
    · exact (World.cell?_alloc_at _ _ _ _ rfl).trans rfl
    · exact (World.cell?_alloc_at _ _ _ _ rfl).trans rfl⟩
theorem lab3_size {a b c : ByteArray} {K : Nat} (ha : a.size ≤ K) (hb : b.size ≤ K) (hc : c.size ≤ K) (j : Nat) : (lab3 a b c j).size ≤ K := by
  unfold lab3
  split
  · exact ha
  · split
    · exact hb
    · exact hc
def KeyP (u w : World) (G M c n : Nat) (key : Nat → Nat) (t p v : Int) (e : Ending) (w' : World) : Prop :=
  (∃ A c2 g, e = .returned (.tuple #[.slice A (kN (kok t p v)) c2, .int .i64 (kE (kok t p v))]) ∧ Mine w' w.heap.size (.slice A (kN (kok t p v)) c2) (kN (kok t p v)) (keyF n key t.toNat (nmS p) v.toNat) A c2 g) ∧
    RingAt u w' G M c n key ∧ Chg G w w'
set_option maxHeartbeats 1600000 in
theorem key_bad (G M c n : Nat) (t p v : Int) (key : Nat → Nat) (u w : World) (h : RingAt u w G M c n key) (hk : kok t p v = false) :
    Calls Tryz.prog 36 #[.pointer (some ⟨G, 0, none⟩), .int .i64 t, .int .i64 p, .int .i64 v] w (KeyP u w G M c n key t p v) := by
  have H := Lib.hid (show KeyP u w G M c n key t p v (.returned (.tuple #[.slice none 0 0, .int .i64 1])) w by
    unfold KeyP
    rw [hk]
    exact ⟨⟨none, 0, 0, rfl, Mine.none0 _ _ _ _⟩, h, Chg.refl _ _⟩)
  have hb : nmB p = false ∨ nmB p = true ∧ (decide (1 ≤ t ∧ t ≤ 64) = false ∨ decide (1 ≤ t ∧ t ≤ 64) = true ∧ decide (1 ≤ v ∧ v ≤ 255) = false) := by
    unfold kok at hk
    unfold nmB
    have hk := of_decide_eq_false hk
    by_cases h1 : 1 ≤ p ∧ p ≤ 4
    · refine Or.inr ⟨decide_eq_true h1, ?_⟩
      by_cases h2 : 1 ≤ t ∧ t ≤ 64
      · exact Or.inr ⟨decide_eq_true h2, decide_eq_false fun h3 => hk ⟨h2, h1, h3⟩⟩
      · exact Or.inl (decide_eq_false h2)
    · exact Or.inl (decide_eq_false h1)
  have HN := Lib.hid (name_any p w)
  have HT := Lib.hid (within_any t 1 64 w)
  have HV := Lib.hid (within_any v 1 255 w)
  clear h hk
  rcases hb with hb | ⟨hb, hb2 | ⟨hb2, hb3⟩⟩
  · rw [hb] at HN
    clear hb
    go_enter Tryz.func36, Tryz.ntmps36
    go_wp2_with (first | (go_at_call 70; refine HN.out.mono ?_; rintro e w1 ⟨rfl, rfl⟩) | (go_at_call 69; refine HT.out.mono ?_; rintro e w1 ⟨rfl, rfl⟩))
    go_ret2
    exact H.out
  · rw [hb] at HN
    rw [hb2] at HT
    clear hb hb2
    go_enter Tryz.func36, Tryz.ntmps36
    go_wp2_with (first | (go_at_call 70; refine HN.out.mono ?_; rintro e w1 ⟨rfl, rfl⟩) | (go_at_call 69; refine HT.out.mono ?_; rintro e w1 ⟨rfl, rfl⟩))
    go_ret2
    exact H.out
  · rw [hb] at HN
    rw [hb2] at HT
    rw [hb3] at HV
    clear hb hb2 hb3
    go_enter Tryz.func36, Tryz.ntmps36
    go_wp2_with (first | (go_at_call 70; refine HN.out.mono ?_; rintro e w1 ⟨rfl, rfl⟩) | (go_at_call 69; first | (with_reducible refine HT.out.mono ?_; rintro e w1 ⟨rfl, rfl⟩) | (with_reducible refine HV.out.mono ?_; rintro e w1 ⟨rfl, rfl⟩)))
    go_ret2
    exact H.out
set_option maxHeartbeats 1600000 in
theorem key_good (G M c n : Nat) (t p v : Int) (key : Nat → Nat) (u w : World) (h : RingAt u w G M c n key) (hk : kok t p v = true) :
    Calls Tryz.prog 36 #[.pointer (some ⟨G, 0, none⟩), .int .i64 t, .int .i64 p, .int .i64 v] w (KeyP u w G M c n key t p v) := by
  have hk' := hk
  unfold kok at hk'
  have ⟨⟨t1, t2⟩, ⟨p1, p2⟩, v1, v2⟩ := of_decide_eq_true hk'
  clear hk'
  obtain ⟨k, rfl⟩ : ∃ k : Nat, t = ((k + 1 : Nat) : Int) := ⟨t.toNat - 1, by omega⟩
  obtain ⟨m, rfl⟩ : ∃ m : Nat, v = (m : Int) := ⟨v.toNat, by omega⟩
  have HN := Lib.hid (name_any p w)
  have HT := Lib.hid (within_any ((k + 1 : Nat) : Int) 1 64 w)
  have HV := Lib.hid (within_any (m : Int) 1 255 w)
  rw [show nmB p = true from decide_eq_true ⟨p1, p2⟩] at HN
  rw [show decide (1 ≤ ((k + 1 : Nat) : Int) ∧ ((k + 1 : Nat) : Int) ≤ 64) = true from decide_eq_true ⟨t1, t2⟩] at HT
  rw [show decide (1 ≤ (m : Int) ∧ (m : Int) ≤ 255) = true from decide_eq_true ⟨v1, v2⟩] at HV
  have hm : m < 256 := by omega
  have HBG := Lib.hid (begin_any G M c n k ((k + 1 : Nat) : Int) key u w h (by omega) rfl)
  have HLT := Lib.hid h.lt
  have HIS := Lib.hid (itoaB_small m hm)
  have HNS := Lib.hid (nmS_size p)
  have HRET := Lib.hid (show ∀ A c2 g w', Mine w' w.heap.size (.slice A 32 c2) 32 (fkF 32 (ownF n key (k + 1)) (lab3 (nmS p) bVersion (itoaB (m : Int))) 3) A c2 g → RingAt u w' G M c n key → Chg G w w' → KeyP u w G M c n key ((k + 1 : Nat) : Int) p (m : Int) (.returned (.tuple #[.slice A 32 c2, .int .i64 0])) w' from fun A c2 g w' h1 h2 h3 => by
    unfold KeyP
    rw [hk]
    exact ⟨⟨A, c2, g, rfl, h1⟩, h2, h3⟩)
  clear hk t1 t2 p1 p2 v1 v2 h
  generalize nmS p = sn at *
  obtain ⟨ti, hti⟩ : ∃ ti : Int, ti = ((k + 1 : Nat) : Int) := ⟨_, rfl⟩
  rw [← hti] at HT HBG HRET ⊢
  clear hti
  go_enter Tryz.func36, Tryz.ntmps36
  go_wp2_with (first | (go_at_call 70; refine HN.out.mono ?_; rintro e w1 ⟨rfl, rfl⟩) | (go_at_call 69; first | (with_reducible refine HT.out.mono ?_; rintro e w1 ⟨rfl, rfl⟩) | (with_reducible refine HV.out.mono ?_; rintro e w1 ⟨rfl, rfl⟩)))
  refine HBG.out.mono ?_
  rintro e w2 ⟨rfl, h1, h2, h3⟩
  have H1 := Lib.hid h1
  have H2 := Lib.hid h2
  have H3 := Lib.hid h3
  have HI := Lib.hid (itoa_any (m : Int) w2 (by omega) (by omega) h1.tables.2)
  clear h1 h2 h3 HBG HN HT HV
  go_wp2_with fail
  refine HI.out.mono ?_
  rintro e w3 ⟨rfl, hb3⟩
  have HB3 := Lib.hid hb3
  clear hb3 HI
  go_wp2_with fail
  have hsls := sls3 w3 sn bVersion (itoaB (m : Int))
  have HB4 := Lib.hid (HB3.out.trans ((alloc_below w3 (.cells #[.string sn, .string bVersion, .string (itoaB (m : Int))] 9)).mono HB3.out.size))
  generalize hA3 : some (⟨w3.heap.size, 0, none⟩ : Addr) = A3 at *
  generalize w3.alloc (.cells #[.string sn, .string bVersion, .string (itoaB (m : Int))] 9) = w4 at *
  have hR4 := H1.out.keep HB4.out
  refine (fold_any (some ⟨G, 1 + k * 35 + 3, none⟩) 32 32 (ownF n key (k + 1)) A3 3 3 (lab3 sn bVersion (itoaB (m : Int))) w4 (by decide) ((H2.out.keep HB4.out).slB fun j _ => ownF_lt _ _ _ j) (fun h => by cases h) (by decide) hsls
    (fun j _ => Nat.le_trans (lab3_size (K := 7) (Nat.le_trans HNS.out (by decide)) (by decide) (Nat.le_trans HIS.out (by decide)) j) (by decide)) hR4.tables.1).mono ?_
  rintro e w5 ⟨⟨x, A5, c5, g5, rfl, hmine⟩, hb5⟩
  obtain rfl := hmine.val
  have H5 := Lib.hid (hmine.less (H3.out.trans (Chg.of_below HB4.out)).size)
  have HR5 := Lib.hid (hR4.keep hb5)
  have HC5 := Lib.hid ((H3.out.trans (Chg.of_below HB4.out)).trans (Chg.of_below hb5))
  clear hmine hb5 hR4 hsls
  go_wp2_with fail
  go_ret2
  exact HRET.out _ _ _ _ H5.out HR5.out HC5.out
theorem key_any (G M c n : Nat) (t p v : Int) (key : Nat → Nat) (u w : World) (h : RingAt u w G M c n key) :
    Calls Tryz.prog 36 #[.pointer (some ⟨G, 0, none⟩), .int .i64 t, .int .i64 p, .int .i64 v] w (KeyP u w G M c n key t p v) := by
  cases hk : kok t p v with
  | false => exact key_bad G M c n t p v key u w h hk
  | true => exact key_good G M c n t p v key u w h hk
end Go.Proofs.YthmlcmlpmolmoaaGreatDoor
namespace Go.Proofs.YthmlcmlpmolmoaaGreatDoor
set_option maxRecDepth 100000
open Go.RowKit
structure CipNew (w : World) (base c g t : Nat) : Prop where
  cn : base ≤ c
  gn : base ≤ g
  tw : ∀ A cap B o, w.cell? ⟨c, 1, none⟩ = some (.slice A t cap) → A = some ⟨B, o, none⟩ → base ≤ B
theorem Cip.chgS {S : Nat → Prop} {w w' : World} {c g n t base : Nat} {key T : Nat → Nat} (h : Cip w c g n key t T) (hN : CipNew w base c g t) (hc : ChgS S w w') (hS : ∀ k, S k → k < base) : Cip w' c g n key t T := by
  obtain ⟨A, cap, h1, h2, h3, h4, h5⟩ := h.tw
  have nS : ∀ k, base ≤ k → ¬ S k := fun k hk hs => by have := hS k hs; omega
  refine ⟨h.key.of_block (hc.block g h.key.lt (nS g hN.gn)), (hc.cell h.lt (nS c hN.cn)).trans h.ptr, A, cap, (hc.cell h.lt (nS c hN.cn)).trans h1, fun h0 => ?_, h3, h4, h5⟩
  obtain ⟨B, o, e, hB, hj⟩ := h2 h0
  exact ⟨B, o, e, Nat.lt_of_lt_of_le hB hc.size, fun j hj' => ⟨(hj j hj').1, (hc.cell hB (nS B (hN.tw A cap B o h1 e))).trans (hj j hj').2⟩⟩
theorem CipNew.alloc {w : World} {base c g t : Nat} (h : CipNew w base c g t) (hc : c < w.heap.size) (o : Obj) : CipNew (w.alloc o) base c g t :=
  ⟨h.cn, h.gn, fun A cap B o' h1 e => h.tw A cap B o' (((Below.refl w.heap.size w).alloc (Nat.le_refl _) o).cell (p := ⟨c, 1, none⟩) hc ▸ h1) e⟩
end Go.Proofs.YthmlcmlpmolmoaaGreatDoor
namespace Go.Proofs.YthmlcmlpmolmoaaGreatDoor
open Go.RowKit
theorem whole_regrown (W : World) (a b c : ByteArray) (ha : a.size ≤ 1000) (hb : b.size ≤ 1000) (hc : c.size ≤ 1000) (d : Nat) (os : Array Obj) :
    Calls Tryz.prog 53 #[.agg #[.string a, .string b, .string c]] (Go.Sort.grow (redrawn W d) os) fun e w'' => e = .returned (.string (a ++ b ++ c)) ∧ ∃ p : Regrown, w'' = Go.Sort.grow (redrawn W p.d) p.os :=
  Calls.regrown_of (whole_any a b c _ ha hb hc)
theorem cutV_no {s : ByteArray} (hz : shp s = false) : cutV s = .agg #[.string ⟨#[]⟩, .string ⟨#[]⟩, .string ⟨#[]⟩] := by unfold cutV; rw [pB_no hz, pM_no hz, pL_no hz]
set_option maxHeartbeats 1600000 in
theorem token_any (s : ByteArray) (v : Int) (w : World) (hs : s.size ≤ maxLen) (hw : PT w) :
    Calls Tryz.prog 40 #[.string s, .int .i64 v] w fun e w' => e = .returned (.tuple #[.string (tokV s v), .int .i64 (tokE s v)]) ∧ Below w.heap.size w w' := by
  have HW := Lib.hid hw
  clear hw
  cases hz : shp s with
  | false =>
    have hC := cutV_no hz
    have HE := Lib.hid (show tokE s v = 10 by unfold tokE; rw [hz]; rfl)
    have HV := Lib.hid (show tokV s v = ⟨#[]⟩ by unfold tokV; rw [HE.out]; rfl)
    clear hz
    go_enter Tryz.func40, Tryz.ntmps40
    go_wp2_with fail
    refine (cut_any s _ hs HW.out.wts).mono ?_
    rintro e w1 ⟨rfl, hb1⟩
    rw [hC]
    go_wp2_with fail
    go_ret2
    exact ⟨by rw [HE.out, HV.out]; rfl, hb1⟩
  | true =>
    have e1 := no_list (s := pB s) (by rw [pB_size hz]; decide)
    have hl : s.size ≤ 1000 := by have := (shp_parts hz).2.2; omega
    have hC : cutV s = .agg #[.string (pB s), .string (pM s), .string (pL s)] := rfl
    by_cases hv : 1 ≤ v ∧ v ≤ 255
    · have HE := Lib.hid (show tokE s v = 0 by unfold tokE; rw [hz, if_pos rfl, if_neg (by omega)])
      have HV := Lib.hid (show tokV s v = tkS s v by unfold tokV; rw [if_pos HE.out])
      have HN := Lib.hid (show (decide (v < 1) || decide (255 < v)) = false by rw [decide_eq_false (by omega), decide_eq_false (by omega)]; rfl)
      have HI := Lib.hid hv
      clear hz hv
      go_enter Tryz.func40, Tryz.ntmps40
      go_wp2_with fail
      refine (cut_any s _ hs HW.out.wts).mono ?_
      rintro e w1 ⟨rfl, hb1⟩
      rw [hC]
      have HB1 := Lib.hid hb1
      clear hb1 hC
      generalize pB s = a at *
      generalize pM s = b at *
      generalize pL s = c at *
      go_wp2_with (go_at_call 77; refine (wrong_any v _).mono ?_; rintro e w5 ⟨rfl, rfl⟩; rw [HN.out])
      refine (join11_any s v _ hl (by have := HI.out; omega) (by have := HI.out; omega) (HW.out.keep HB1.out).p10).mono ?_
      rintro e w2 ⟨rfl, hb2⟩
      go_wp2_with fail
      go_ret2
      exact ⟨by rw [HE.out, HV.out]; rfl, HB1.out.trans (hb2.mono HB1.out.size)⟩
    · have HE := Lib.hid (show tokE s v = 1 by unfold tokE; rw [hz, if_pos rfl, if_pos (by omega)])
      have HV := Lib.hid (show tokV s v = ⟨#[]⟩ by unfold tokV; rw [HE.out]; rfl)
      have HN := Lib.hid (show (decide (v < 1) || decide (255 < v)) = true by
        rcases (show v < 1 ∨ 255 < v by omega) with h | h
        · rw [decide_eq_true h]; rfl
        · rw [decide_eq_true h, Bool.or_true])
      clear hz hv
      go_enter Tryz.func40, Tryz.ntmps40
      go_wp2_with fail
      refine (cut_any s _ hs HW.out.wts).mono ?_
      rintro e w1 ⟨rfl, hb1⟩
      rw [hC]
      have HB1 := Lib.hid hb1
      clear hb1 hC
      generalize pB s = a at *
      generalize pM s = b at *
      generalize pL s = c at *
      go_wp2_with (go_at_call 77; refine (wrong_any v _).mono ?_; rintro e w5 ⟨rfl, rfl⟩; rw [HN.out])
      go_ret2
      exact ⟨by rw [HE.out, HV.out]; rfl, HB1.out⟩
set_option maxHeartbeats 1600000 in
theorem split_any (t : ByteArray) (w : World) (hs : t.size ≤ maxLen) (hw : PT w) :
    Calls Tryz.prog 26 #[.string t] w fun e w' => e = .returned (.tuple #[.string (splV t), .int .i64 (splN t), .int .i64 (splE t)]) ∧ Below w.heap.size w w' := by
  have HW := Lib.hid hw
  clear hw
  cases hn : isTk t with
  | false =>
    have hR : rdV t = .agg #[.string ⟨#[]⟩, .string ⟨#[]⟩, .string ⟨#[]⟩, .int .i64 0] := by
      unfold rdV rdA rdB rdC splN; rw [hn]; rfl
    have HE := Lib.hid (show splE t = 11 ∧ splV t = ⟨#[]⟩ ∧ splN t = 0 by unfold splE splV splN; rw [hn]; exact ⟨rfl, rfl, rfl⟩)
    clear hn
    go_enter Tryz.func26, Tryz.ntmps26
    go_wp2_with fail
    refine (read_any t _ hs HW.out).mono ?_
    rintro e w1 ⟨rfl, hb1⟩
    rw [hR]
    have HB1 := Lib.hid hb1
    clear hb1
    go_wp2_with fail
    go_ret3
    exact ⟨by rw [HE.out.1, HE.out.2.1, HE.out.2.2]; rfl, HB1.out.alloc HB1.out.size _⟩
  | true =>
    obtain ⟨hz1, hv1, hv2⟩ := isTk_parts hn
    have hR : rdV t = .agg #[.string (pB (tkA t)), .string (pM (tkA t)), .string (pL (tkA t)), .int .i64 (tkN t)] := by
      unfold rdV rdA rdB rdC splN; rw [hn]; rfl
    have HE := Lib.hid (show splE t = 0 ∧ splV t = pB (tkA t) ++ pM (tkA t) ++ pL (tkA t) ∧ splN t = tkN t by
      unfold splE splV splN; rw [hn, whole_eq hz1]; exact ⟨rfl, rfl, rfl⟩)
    have e1 := no_list (s := pB (tkA t)) (by rw [pB_size hz1]; decide)
    have hB := pB_le (tkA t)
    have hM := pM_le (tkA t)
    have hL := pL_le (tkA t)
    clear hn hz1
    go_enter Tryz.func26, Tryz.ntmps26
    go_wp2_with fail
    refine (read_any t _ hs HW.out).mono ?_
    rintro e w2 ⟨rfl, hb1⟩
    rw [hR]
    have HB3 := Lib.hid hb1
    clear hb1 hR
    generalize pB (tkA t) = a at *
    generalize pM (tkA t) = b at *
    generalize pL (tkA t) = c at *
    generalize tkN t = v at *
    have HB4 := Lib.hid (HB3.out.alloc HB3.out.size (.cells #[.string a, .string b, .string c, .int .i64 v] 102))
    have hw1 : (w2.alloc (.cells #[.string a, .string b, .string c, .int .i64 v] 102)).cell? ⟨w2.heap.size, 0, none⟩ = some (.string a) := (World.cell?_alloc_at _ _ _ _ rfl).trans rfl
    have hw2 : (w2.alloc (.cells #[.string a, .string b, .string c, .int .i64 v] 102)).cell? ⟨w2.heap.size, 1, none⟩ = some (.string b) := (World.cell?_alloc_at _ _ _ _ rfl).trans rfl
    have hw3 : (w2.alloc (.cells #[.string a, .string b, .string c, .int .i64 v] 102)).cell? ⟨w2.heap.size, 2, none⟩ = some (.string c) := (World.cell?_alloc_at _ _ _ _ rfl).trans rfl
    have hw4 : (w2.alloc (.cells #[.string a, .string b, .string c, .int .i64 v] 102)).cell? ⟨w2.heap.size, 3, none⟩ = some (.int .i64 v) := (World.cell?_alloc_at _ _ _ _ rfl).trans rfl
    have k1 := cell_regrown hw1
    have k2 := cell_regrown hw2
    have k3 := cell_regrown hw3
    have k4 := cell_regrown hw4
    clear hw1 hw2 hw3 hw4
    go_wp2_with fail
    generalize w2.alloc (.cells #[.string a, .string b, .string c, .int .i64 v] 102) = W at *
    have cW := whole_regrown W a b c (by omega) (by omega) (by omega)
    refine wp_region_quiet_below (by kernel_rfl) (by kernel_rfl) ?_
    repeat (quiet_step (with_reducible exact cW _ _))
    refine wpQuiet_nil ?_
    intro _ hw'
    obtain ⟨⟨dq, osq⟩, hw''⟩ := hw'
    subst hw''
    have HB5 := Lib.hid (HB4.out.trans ((below_regrown W dq osq).mono HB4.out.size))
    generalize Go.Sort.grow (redrawn W dq) osq = W2 at *
    go_wp2_with fail
    go_ret3
    exact ⟨by rw [HE.out.1, HE.out.2.1, HE.out.2.2]; rfl, HB5.out⟩
end Go.Proofs.YthmlcmlpmolmoaaGreatDoor
namespace Go.Proofs.YthmlcmlpmolmoaaGreatDoor
set_option maxRecDepth 100000
open Go.RowKit
structure Tabs (w : World) : Prop where
  gt : GT w
  pt : PT w
  pws : Pws w
theorem Tabs.keep {w w' : World} (h : Tabs w) (hb : Below w.heap.size w w') : Tabs w' := ⟨h.gt.keep hb, h.pt.keep hb, h.pws.keep hb⟩
theorem Tabs.p10 {w : World} (h : Tabs w) : P10 w := h.pt.p10
def roV (V : Int) : Int := if V < 255 then V + 1 else 0
def roE (V : Int) : Int := if V < 255 then 0 else 14
def roN (V : Int) : Int := if V < 255 then V + 1 else V
def vK (n : Nat) (key : Nat → Nat) (t : Int) (v : Int) : Nat → Nat := keyF n key t.toNat (nmS 1) v.toNat
def VStep (VA : World → Int → (Nat → Prop) → Prop) (w : World) (O : Nat → Prop) (w' : World) (V : Int) : Prop := ∃ O', VA w' V O' ∧ ChgS O w w' ∧ ∀ k, O' k → O k ∨ w.heap.size ≤ k
structure VKitS (u : World) (G : Nat) (K : Int → Nat → Nat) (VA : Nat → World → Int → (Nat → Prop) → Prop) : Prop where
  bel : ∀ {f : Nat} w V O, VA f w V O → Below u.heap.size u w
  own : ∀ {f : Nat} w V O, VA f w V O → ∀ k, O k → u.heap.size ≤ k ∧ k < w.heap.size
  rng : ∀ {f : Nat} w V O, VA f w V O → 1 ≤ V ∧ V ≤ 255
  kind : ∀ {f : Nat} w V O, VA f w V O → ∀ k, O k → ∀ s, w.cell? ⟨k, 0, none⟩ ≠ some (.string s)
  keep : ∀ {f : Nat} (w w' : World) (V : Int) (O T : Nat → Prop), VA f w V O → ChgS T w w' → (∀ k, T k → u.heap.size ≤ k ∧ ¬ O k) → VA f w' V O
  token : ∀ {f : Nat} (w : World) (V : Int) (O : Nat → Prop) (s : ByteArray), VA f w V O → s.size ≤ maxLen → Calls Tryz.prog 16 #[.pointer (some ⟨G, 0, none⟩), .string s] w fun e w' => e = .returned (.tuple #[.string (vtV K V s), .int .i64 (vtE s)]) ∧ VStep (VA f) w O w' V
  back : ∀ {f : Nat} (w : World) (V : Int) (O : Nat → Prop) (s : ByteArray), VA f w V O → s.size ≤ maxLen → Calls Tryz.prog 18 #[.pointer (some ⟨G, 0, none⟩), .string s] w fun e w' => e = .returned (.tuple #[.string (vbV K V s), .int .i64 (vbE K V s)]) ∧ VStep (VA f) w O w' V
  renew : ∀ {f : Nat} (w : World) (V : Int) (O : Nat → Prop) (s : ByteArray), VA f w V O → s.size ≤ maxLen → Calls Tryz.prog 22 #[.pointer (some ⟨G, 0, none⟩), .string s] w fun e w' => e = .returned (.tuple #[.string (vrV K V s), .int .i64 (vbE K V s)]) ∧ VStep (VA f) w O w' V
  rotate : ∀ {f : Nat} (w : World) (V : Int) (O : Nat → Prop), VA (f + 1) w V O → Calls Tryz.prog 20 #[.pointer (some ⟨G, 0, none⟩)] w fun e w' => e = .returned (.tuple #[.int .i64 (roV V), .int .i64 (roE V)]) ∧ VStep (VA f) w O w' (roN V)
  version : ∀ {f : Nat} (w : World) (V : Int) (O : Nat → Prop), VA f w V O → Calls Tryz.prog 24 #[.pointer (some ⟨G, 0, none⟩)] w fun e w' => e = .returned (.int .i64 V) ∧ VStep (VA f) w O w' V
theorem VKitS.below {u w w' : World} {G : Nat} {K : Int → Nat → Nat} {VA : Nat → World → Int → (Nat → Prop) → Prop} {f : Nat} {V : Int} {O : Nat → Prop} (h : VKitS u G K VA) (hv : VA f w V O) (hb : Below w.heap.size w w') : VA f w' V O :=
  h.keep w w' V O (fun _ => False) hv (ChgS.of_below hb) (fun _ hk => absurd hk id)
structure VKit (u : World) (G : Nat) (S : Nat → Prop) (K : Int → Nat → Nat) (VA : Nat → World → Int → Prop) : Prop where
  bel : ∀ {f : Nat} w V, VA f w V → Below u.heap.size u w
  rng : ∀ {f : Nat} w V, VA f w V → 1 ≤ V ∧ V ≤ 255
  new : ∀ {f : Nat} (w w' : World) (V : Int), VA f w V → Below w.heap.size w w' → VA f w' V
  token : ∀ {f : Nat} (w : World) (V : Int) (s : ByteArray), VA f w V → s.size ≤ maxLen → Calls Tryz.prog 16 #[.pointer (some ⟨G, 0, none⟩), .string s] w fun e w' => e = .returned (.tuple #[.string (vtV K V s), .int .i64 (vtE s)]) ∧ VA f w' V ∧ True
  back : ∀ {f : Nat} (w : World) (V : Int) (s : ByteArray), VA f w V → s.size ≤ maxLen → Calls Tryz.prog 18 #[.pointer (some ⟨G, 0, none⟩), .string s] w fun e w' => e = .returned (.tuple #[.string (vbV K V s), .int .i64 (vbE K V s)]) ∧ VA f w' V ∧ True
  renew : ∀ {f : Nat} (w : World) (V : Int) (s : ByteArray), VA f w V → s.size ≤ maxLen → Calls Tryz.prog 22 #[.pointer (some ⟨G, 0, none⟩), .string s] w fun e w' => e = .returned (.tuple #[.string (vrV K V s), .int .i64 (vbE K V s)]) ∧ VA f w' V ∧ True
  rotate : ∀ {f : Nat} (w : World) (V : Int), VA (f + 1) w V → Calls Tryz.prog 20 #[.pointer (some ⟨G, 0, none⟩)] w fun e w' => e = .returned (.tuple #[.int .i64 (roV V), .int .i64 (roE V)]) ∧ VA f w' (roN V) ∧ True
  version : ∀ {f : Nat} (w : World) (V : Int), VA f w V → Calls Tryz.prog 24 #[.pointer (some ⟨G, 0, none⟩)] w fun e w' => e = .returned (.int .i64 V) ∧ VA f w' V ∧ True
theorem VKit.below {u w w' : World} {G : Nat} {S : Nat → Prop} {K : Int → Nat → Nat} {VA : Nat → World → Int → Prop} {f : Nat} {V : Int} (h : VKit u G S K VA) (hv : VA f w V) (hb : Below w.heap.size w w') : VA f w' V := h.new w w' V hv hb
theorem VKitS.weak {u : World} {G : Nat} {K : Int → Nat → Nat} {VA : Nat → World → Int → (Nat → Prop) → Prop} (h : VKitS u G K VA) : VKit u G (fun _ => True) K (fun f w V => ∃ O, VA f w V O) where
  bel := fun w V ⟨O, hv⟩ => h.bel w V O hv
  rng := fun w V ⟨O, hv⟩ => h.rng w V O hv
  new := fun _ _ _ ⟨O, hv⟩ hb => ⟨O, h.below hv hb⟩
  token := fun w V s ⟨O, hv⟩ hs => (h.token w V O s hv hs).mono fun _ _ ⟨he, O', h1, _, _⟩ => ⟨he, ⟨O', h1⟩, trivial⟩
  back := fun w V s ⟨O, hv⟩ hs => (h.back w V O s hv hs).mono fun _ _ ⟨he, O', h1, _, _⟩ => ⟨he, ⟨O', h1⟩, trivial⟩
  renew := fun w V s ⟨O, hv⟩ hs => (h.renew w V O s hv hs).mono fun _ _ ⟨he, O', h1, _, _⟩ => ⟨he, ⟨O', h1⟩, trivial⟩
  rotate := fun w V ⟨O, hv⟩ => (h.rotate w V O hv).mono fun _ _ ⟨he, O', h1, _, _⟩ => ⟨he, ⟨O', h1⟩, trivial⟩
  version := fun w V ⟨O, hv⟩ => (h.version w V O hv).mono fun _ _ ⟨he, O', h1, _, _⟩ => ⟨he, ⟨O', h1⟩, trivial⟩
def vok (n : Nat) (t V : Int) : Bool := decide ((16 ≤ n ∧ n ≤ 64) ∧ (1 ≤ t ∧ t ≤ 64) ∧ (1 ≤ V ∧ V ≤ 255))
def NewOkS : Prop := ∀ (A : Option Addr) (n c : Nat) (key : Nat → Nat) (t V : Int) (u w : World), vok n t V = true → SlB w A n key → (A = none → n = 0 ∧ c = 0) → Tabs u → Below u.heap.size u w →
  Calls Tryz.prog 12 #[.slice A n c, .int .i64 t, .int .i64 V] w fun e w' => ∃ G VA O, e = .returned (.tuple #[.pointer (some ⟨G, 0, none⟩), .int .i64 0]) ∧ VKitS u G (vK n key t) VA ∧ VA 1000 w' V O ∧ (∀ k, O k → w.heap.size ≤ k) ∧ Below w.heap.size w w'
def NewOk : Prop := ∀ (A : Option Addr) (n c : Nat) (key : Nat → Nat) (t V : Int) (u w : World), vok n t V = true → SlB w A n key → (A = none → n = 0 ∧ c = 0) → Tabs u → Below u.heap.size u w →
  Calls Tryz.prog 12 #[.slice A n c, .int .i64 t, .int .i64 V] w fun e w' => ∃ G S VA, e = .returned (.tuple #[.pointer (some ⟨G, 0, none⟩), .int .i64 0]) ∧ VKit u G S (vK n key t) VA ∧ VA 1000 w' V ∧ True ∧ Below w.heap.size w w'
theorem NewOkS.weak (h : NewOkS) : NewOk := fun A n c key t V u w h1 h2 h3 h4 h5 => (h A n c key t V u w h1 h2 h3 h4 h5).mono fun _ _ ⟨G, _, O, he, hk, hv, _, hb⟩ => ⟨G, _, _, he, hk.weak, ⟨O, hv⟩, trivial, hb⟩
def NewBad : Prop := ∀ (A : Option Addr) (n c : Nat) (key : Nat → Nat) (t V : Int) (w : World), vok n t V = false → n ≤ 140737488351232 → SlB w A n key → (A = none → n = 0 ∧ c = 0) → Tabs w →
  Calls Tryz.prog 12 #[.slice A n c, .int .i64 t, .int .i64 V] w fun e w' => e = .returned (.tuple #[.pointer none, .int .i64 1]) ∧ Below w.heap.size w w'
end Go.Proofs.YthmlcmlpmolmoaaGreatDoor
namespace Go.Proofs.YthmlcmlpmolmoaaGreatDoor
set_option maxRecDepth 100000
open Go.ChangeShapes Go.WideShapes Go.ChangeAt Go.RowKit
theorem own : ownKnob Tryz.prog.godebug = none := by kernel_rfl
theorem laidOut : laidOutB Tryz.prog = true := by kernel_rfl
theorem gK : Tryz.prog.globalNamed "moneyer/sha.roundWords" = some 4 := by kernel_rfl
theorem gKType : (Tryz.prog.globals[4]?).map (·.type) = some 249 := by kernel_rfl
theorem gS : Tryz.prog.globalNamed "moneyer/sha.startWords" = some 1 := by kernel_rfl
theorem gSType : (Tryz.prog.globals[1]?).map (·.type) = some 221 := by kernel_rfl
theorem gP10Type : (Tryz.prog.globals[5]?).map (·.type) = some 254 := by kernel_rfl
theorem gTab : Tryz.prog.globalNamed "moneyer/digits.weights" = some 0 := by kernel_rfl
theorem gTabType : (Tryz.prog.globals[0]?).map (·.type) = some 186 := by kernel_rfl
theorem gPow : Tryz.prog.globalNamed "moneyer/radix.powers" = some 2 := by kernel_rfl
theorem gPowType : (Tryz.prog.globals[2]?).map (·.type) = some 225 := by kernel_rfl
theorem cellsK : Tryz.prog.cellsOf 249 = 64 := by kernel_rfl
theorem cellsS : Tryz.prog.cellsOf 221 = 8 := by kernel_rfl
theorem cellsU32 : Tryz.prog.cellsOf 75 = 1 := by kernel_rfl
theorem cellsP10 : Tryz.prog.cellsOf 254 = 20 := by kernel_rfl
theorem cellsU64 : Tryz.prog.cellsOf 190 = 1 := by kernel_rfl
theorem cellsTab : Tryz.prog.cellsOf 186 = 20 := by kernel_rfl
theorem cellsRow : Tryz.prog.cellsOf 185 = 10 := by kernel_rfl
theorem cellsInt : Tryz.prog.cellsOf 3 = 1 := by kernel_rfl
theorem cellsPow : Tryz.prog.cellsOf 225 = 16 := by kernel_rfl
def row0 : List Int := [0, 1, 2, 3, 4, 5, 6, 7, 8, 9]
def row1 : List Int := [0, 2, 4, 6, 8, 1, 3, 5, 7, 9]
def powL : List Int := (List.range 16).map fun i => ((10 ^ (i + 1) : Nat) : Int)
theorem laidK_eq {H : Type} : (Rows.laid_moneyer_sha_roundWords : DataW H) = Lib.tabData .u32 (kcL.map fun x => (x : Nat)) := rfl
theorem laidS_eq {H : Type} : (Rows.laid_moneyer_sha_startWords : DataW H) = Lib.tabData .u32 ((List.range 8).map fun i => ((at8 st0 i : Nat) : Int)) := rfl
theorem laidP10_eq {H : Type} : (Rows.laid_internal_strconv_uint64pow10 : DataW H) = Lib.tabData .u64 Lib.pow10Tab := rfl
theorem laidPow_eq {H : Type} : (Rows.laid_moneyer_radix_powers : DataW H) = Lib.tabData .i64 powL := rfl
theorem tabs_of {W : World} (h : laidMetH Tryz.prog [("math/bits.deBruijn32tab", Rows.laid_math_bits_deBruijn32tab), ("math/bits.deBruijn64tab", Rows.laid_math_bits_deBruijn64tab), ("internal/strconv.uint64pow10", Rows.laid_internal_strconv_uint64pow10), ("moneyer/digits.weights", Rows.laid_moneyer_digits_weights), ("moneyer/radix.powers", Rows.laid_moneyer_radix_powers), ("moneyer/sha.roundWords", Rows.laid_moneyer_sha_roundWords), ("moneyer/sha.startWords", Rows.laid_moneyer_sha_startWords)] W) : Tabs W := by
  have h' : laidMet Tryz.prog [("math/bits.deBruijn32tab", Rows.laid_math_bits_deBruijn32tab), ("math/bits.deBruijn64tab", Rows.laid_math_bits_deBruijn64tab), ("internal/strconv.uint64pow10", Rows.laid_internal_strconv_uint64pow10), ("moneyer/digits.weights", Rows.laid_moneyer_digits_weights), ("moneyer/radix.powers", Rows.laid_moneyer_radix_powers), ("moneyer/sha.roundWords", Rows.laid_moneyer_sha_roundWords), ("moneyer/sha.startWords", Rows.laid_moneyer_sha_startWords)] W := h
  obtain ⟨ps, ⟨_, _, _, _, _, _, _, _, _, _, hr1, _⟩, _⟩ := h'
  obtain ⟨_, _, _, _, _, _, _, _, _, _, hr2, _⟩ := hr1
  obtain ⟨g3, t3, cs3, fuel3, p3, q3, hg3, ht3, hvar3, hd3, hr3, _⟩ := hr2
  obtain ⟨g, t, cs, fuel, p, q, hg, ht, hvar, hd, hr4, _⟩ := hr3
  obtain ⟨g4, t4, cs4, fuel4, p4, q4, hg4, ht4, hvar4, hd4, hr5, _⟩ := hr4
  obtain ⟨g5, t5, cs5, fuel5, p5, q5, hg5, ht5, hvar5, hd5, hr6, _⟩ := hr5
  obtain ⟨g6, t6, cs6, fuel6, p6, q6, hg6, ht6, hvar6, hd6, _, _⟩ := hr6
  obtain rfl := Option.some.inj (gP10.symm.trans hg3)
  obtain rfl := Option.some.inj (gP10Type.symm.trans ht3)
  obtain rfl := Option.some.inj (gTab.symm.trans hg)
  obtain rfl := Option.some.inj (gTabType.symm.trans ht)
  obtain rfl := Option.some.inj (gPow.symm.trans hg4)
  obtain rfl := Option.some.inj (gPowType.symm.trans ht4)
  obtain rfl := Option.some.inj (gK.symm.trans hg5)
  obtain rfl := Option.some.inj (gKType.symm.trans ht5)
  obtain rfl := Option.some.inj (gS.symm.trans hg6)
  obtain rfl := Option.some.inj (gSType.symm.trans ht6)
  rw [laidK_eq] at hd5
  rw [laidS_eq] at hd6
  rw [laidP10_eq] at hd3
  rw [laidPow_eq] at hd4
  have e3 := Lib.cells_of_tab Tryz.underlying254 Tryz.underlying190 cellsU64 cellsP10 hd3
  have e4 := Lib.cells_of_tab Tryz.underlying225 Tryz.underlying3 cellsInt cellsPow hd4
  have e5 := Lib.cells_of_tab Tryz.underlying249 Tryz.underlying75 cellsU32 cellsK hd5
  have e6 := Lib.cells_of_tab Tryz.underlying221 Tryz.underlying75 cellsU32 cellsS hd6
  refine ⟨⟨fun i hi => ?_, fun i hi => ?_⟩, ⟨?_, hvar3.trans (congrArg some (Array.ext' e3))⟩, fun i hi => ?_⟩
  · rw [World.var?_cell gK hvar5 i, ← Array.getElem?_toList, e5, List.getElem?_map, List.getElem?_map]
    have hl : i < kcL.length := hi
    unfold kc
    rw [List.getD_eq_getElem?_getD, List.getElem?_eq_getElem hl]; rfl
  · rw [World.var?_cell gS hvar6 i, ← Array.getElem?_toList, e6]
    rw [List.getElem?_map, List.getElem?_map, List.getElem?_range hi]; rfl
  · obtain ⟨xs, m, rfl, hx, hl, hn, he⟩ := DataW.trod_array Tryz.underlying186 hd
    rw [cellsTab] at hl
    simp only [cellsRow] at he
    have hx1 : xs.map (·.1) = [Lib.tabData .i64 row0, Lib.tabData .i64 row1] := by
      have := congrArg Prod.fst hx
      simp only [Rows.laid_moneyer_digits_weights] at this
      injection this with this
      exact this.symm
    match xs, hn, hx1, he with
    | [⟨a, pa⟩, ⟨b, pb⟩], _, hx1, he =>
      simp only [List.map_cons, List.map_nil, List.cons.injEq, and_true] at hx1
      obtain ⟨rfl, rfl⟩ := hx1
      have e0 := Lib.cells_of_tab Tryz.underlying185 Tryz.underlying3 cellsInt cellsRow (he 0 (by omega))
      have e1 := Lib.cells_of_tab Tryz.underlying185 Tryz.underlying3 cellsInt cellsRow (he 1 (by omega))
      intro i hi
      rw [World.var?_cell gTab hvar i, ← Array.getElem?_toList]
      rcases Nat.lt_or_ge i 10 with h10 | h10
      · have h2 := congrArg (·[i]?) e0
        simp only [Nat.zero_mul, List.drop_zero, List.getElem?_take, if_pos h10] at h2
        rw [h2]
        have : ∀ i < 10, row0[i]? = some (wtab i) := by decide
        rw [List.getElem?_map, this i h10]; rfl
      · have h2 := congrArg (·[i - 10]?) e1
        simp only [Nat.one_mul, List.getElem?_take, if_pos (show i - 10 < 10 by omega), List.getElem?_drop, show 10 + (i - 10) = i by omega] at h2
        rw [h2]
        have : ∀ i < 10, row1[i]? = some (wtab (10 + i)) := by decide
        have h3 := this (i - 10) (by omega)
        rw [show 10 + (i - 10) = i by omega] at h3
        rw [List.getElem?_map, h3]; rfl
  · rw [World.var?_cell gPow hvar4 i, ← Array.getElem?_toList, e4]
    unfold powL
    rw [List.getElem?_map, List.getElem?_map, List.getElem?_range hi]; rfl
def withCells (l : List Value) : Obj → Obj
  | .cells _ t frozen => .cells l.toArray t frozen
  | o => o
def t32 : List Int := [0, 1, 28, 2, 29, 14, 24, 3, 30, 22, 20, 15, 25, 17, 4, 8, 31, 27, 13, 23, 21, 19, 16, 7, 26, 12, 18, 6, 11, 5, 10, 9]
def t64 : List Int := [0, 1, 56, 2, 57, 49, 28, 3, 61, 58, 42, 50, 38, 29, 17, 4, 62, 47, 59, 36, 45, 43, 51, 22, 53, 39, 33, 30, 24, 18, 12, 5, 63, 55, 48, 27, 60, 41, 37, 16, 46, 35, 44, 21, 52, 32, 23, 11, 54, 26, 40, 15, 34, 20, 31, 10, 25, 14, 19, 9, 13, 8, 7, 6]
noncomputable def laidWorld (os : Os) : World :=
  { World.holding Tryz.prog os ⟨#[], #[], []⟩ with heap := (((((((World.holding Tryz.prog os ⟨#[], #[], []⟩).heap.modify 4 (withCells (kcL.map fun (x : Nat) => Value.int .u32 (x : Int)))).modify 1 (withCells ((List.range 8).map fun i => Value.int .u32 ((at8 st0 i : Nat) : Int)))).modify 5 (withCells (Lib.pow10Tab.map fun z => Value.int .u64 z))).modify 0 (withCells ((row0 ++ row1).map fun z => Value.int .i64 z))).modify 2 (withCells (powL.map fun z => Value.int .i64 z))).modify 6 (withCells (t32.map fun z => Value.int .u8 z))).modify 7 (withCells (t64.map fun z => Value.int .u8 z)) }
end Go.Proofs.YthmlcmlpmolmoaaGreatDoor
namespace Go.Proofs.YthmlcmlpmolmoaaGreatDoor
open Go.RowKit
theorem Mine.chg {w w' : World} {base n K : Nat} {v : Value} {f : Nat → Nat} {A : Option Addr} {c g : Nat} (h : Mine w base v n f A c g) (hc : Chg K w w') (hK : K < base) : Mine w' base v n f A c g :=
  ⟨h.val, fun hn => by
    have hc0 : 0 < c := Nat.lt_of_lt_of_le hn h.le
    obtain ⟨B, o, e, hB, hh⟩ := h.row hn
    have e2 := (h.own hc0).1
    rw [e] at e2
    injection e2 with e2
    injection e2 with e3 _ _
    have := h.from_ hc0
    exact ⟨B, o, e, Nat.lt_of_lt_of_le hB hc.size, fun j hj => ⟨(hh j hj).1, (hc.cell hB (by omega)).trans (hh j hj).2⟩⟩,
    fun hc0 => (h.own.chg hc (by have := h.from_ hc0; omega)) hc0, h.from_, h.le, h.max, h.nil⟩
theorem Mine.chgS {w w' : World} {base n : Nat} {v : Value} {f : Nat → Nat} {A : Option Addr} {c g : Nat} {S : Nat → Prop} (h : Mine w base v n f A c g) (hc : ChgS S w w') (hK : 0 < c → ¬ S g) : Mine w' base v n f A c g :=
  ⟨h.val, fun hn => by
    have hc0 : 0 < c := Nat.lt_of_lt_of_le hn h.le
    obtain ⟨B, o, e, hB, hh⟩ := h.row hn
    have e2 := (h.own hc0).1
    rw [e] at e2
    injection e2 with e2
    injection e2 with e3 _ _
    subst e3
    exact ⟨B, o, e, Nat.lt_of_lt_of_le hB hc.size, fun j hj => ⟨(hh j hj).1, (World.cell?_of_block (hc.block B hB (hK hc0))).trans (hh j hj).2⟩⟩,
    fun hc0 => (h.own.of_block (hc.block g (h.own.lt hc0) (hK hc0))) hc0, h.from_, h.le, h.max, h.nil⟩
end Go.Proofs.YthmlcmlpmolmoaaGreatDoor
namespace Go.Proofs.YthmlcmlpmolmoaaGreatDoor
set_option maxRecDepth 100000
open Go.RowKit
theorem tk_size (s : ByteArray) (v : Int) : (tkS s v).size = s.size + 1 + (itoaB v).size := by unfold tkS; rw [app_size, app_size]; rfl
theorem vt_size {K : Int → Nat → Nat} {V : Int} {s : ByteArray} (hs : isV s = true) : (vtV K V s).size = s.size + 1 + (itoaB V).size := by
  have e : vtV K V s = tkS (vEn (K V) s) V := if_pos hs
  rw [e, tk_size, (vEn_parts (K V) (isV_shp hs)).2.2.2.2]
theorem isV_size {s : ByteArray} (h : isV s = true) : 16 ≤ s.size ∧ s.size ≤ 19 := (shp_parts (isV_shp h)).2
theorem vt_le {K : Int → Nat → Nat} {V : Int} (s : ByteArray) (h1 : 1 ≤ V) (h2 : V ≤ 255) : (vtV K V s).size ≤ 41 := by
  cases h : isV s with
  | false =>
    have e : vtV K V s = ⟨#[]⟩ := if_neg (by rw [h]; decide)
    rw [e]; decide
  | true =>
    rw [vt_size h]
    have := itoaB_size V (by omega) (by omega)
    have := isV_size h
    omega
theorem vtE_ok {s : ByteArray} (h : isV s = true) : vtE s = 0 := if_pos h
theorem vtE_no {s : ByteArray} (h : isV s = false) : vtE s = 10 := if_neg (by rw [h]; decide)
theorem vtV_no {K : Int → Nat → Nat} {V : Int} {s : ByteArray} (h : isV s = false) : vtV K V s = { data := #[] } := if_neg (by rw [h]; decide)
end Go.Proofs.YthmlcmlpmolmoaaGreatDoor
namespace Go.Proofs.YthmlcmlpmolmoaaGreatDoor
set_option maxRecDepth 100000
open Go.RowKit
theorem bytes0 (n : Nat) : bytesL n (fun _ => 0) = List.replicate n (Value.int .u8 0) := by
  apply List.ext_getElem?
  intro j
  by_cases hj : j < n
  · rw [bytesL_at hj, List.getElem?_replicate, if_pos hj]; rfl
  · rw [List.getElem?_eq_none (by rw [bytesL_length]; omega), List.getElem?_eq_none (by rw [List.length_replicate]; omega)]
theorem madeN (n : Nat) (w : World) : SlB (w.alloc (.cells (madeCells #[.int .u8 0] n) 5)) (some ⟨w.heap.size, 0, none⟩) n (fun _ => 0) :=
  (arr_made w _ _ n (fun _ => 0) (Array.ext' (by rw [toList_madeCells_one, bytes0]))).slB fun _ _ => Nat.zero_lt_succ _
abbrev cS1 : ByteArray := { data := #[52, 49, 49, 49, 49, 49, 49, 49, 49, 49, 49, 49, 49, 49, 49, 49] }
abbrev cS2 : ByteArray := { data := #[52, 49, 49, 49, 49, 49, 49, 49, 49, 49, 49, 49, 49, 49, 49, 50] }
theorem cs1_ok : isV cS1 = true := by decide +kernel
theorem cs2_no : isV cS2 = false := by decide +kernel
set_option maxHeartbeats 1600000 in
theorem small14_any (hN : NewOk) (w : World) (ht : Tabs w) : Calls Tryz.prog 10 #[] w fun e w' => e = .returned (.bool true) ∧ Below w.heap.size w w' := by
  have HT := Lib.hid ht
  have hmk : ∀ W : World, (Instr.makeSlice 22 (.int .i64 16) (.int .i64 16)).run Tryz.prog W = .ok (.slice (some ⟨W.heap.size, 0, none⟩) 16 16) (W.alloc (.cells (madeCells #[.int .u8 0] 16) 5)) := fun W => mk8 16 (by decide) W
  clear ht
  go_enter Tryz.func10, Tryz.ntmps10
  go_wp2_with fail
  have HS := Lib.hid (madeN 16 w)
  have HB := Lib.hid (alloc_below w (.cells (madeCells #[.int .u8 0] 16) 5))
  generalize w.alloc (.cells (madeCells #[.int .u8 0] 16) 5) = w1 at *
  refine (hN _ 16 16 _ 1 1 w w1 rfl HS.out (fun h => by cases h) HT.out HB.out).mono ?_
  rintro e w2 ⟨G, S, VA, rfl, hk, hv, _, _⟩
  have HK := Lib.hid hk
  have HV := Lib.hid hv
  clear hmk hk hv
  go_wp2_with fail
  refine (HK.out.token w2 1 cS1 HV.out (by decide)).mono ?_
  rintro e w3 ⟨rfl, hv3, _⟩
  have HV3 := Lib.hid hv3
  have hsz : (vtV (vK 16 (fun _ => 0) 1) 1 cS1).size = 18 := by rw [vt_size cs1_ok]; decide +kernel
  have HBK := Lib.hid (vb_vt (K := vK 16 (fun _ => 0) 1) (V := 1) (W := 2) cs1_ok (by decide) (by decide) (by decide))
  rw [vtE_ok cs1_ok]
  clear hv3
  generalize hK : vK 16 (fun _ => 0) 1 = K at *
  generalize hT : vtV K 1 cS1 = tk at *
  clear hT hK
  go_wp2_with fail
  refine (HK.out.rotate w3 1 HV3.out).mono ?_
  rintro e w4 ⟨rfl, hv4, _⟩
  have HV4 := Lib.hid (show VA 999 w4 2 from hv4)
  rw [show roV 1 = 2 from rfl, show roE 1 = 0 from rfl]
  clear hv4
  go_wp2_with fail
  refine (HK.out.back w4 2 tk HV4.out (by rw [hsz]; decide)).mono ?_
  rintro e w5 ⟨rfl, hv5, _⟩
  have HV5 := Lib.hid hv5
  rw [HBK.out.1, HBK.out.2]
  clear hv5
  go_wp2_with fail
  refine (HK.out.token w5 2 cS2 HV5.out (by decide)).mono ?_
  rintro e w6 ⟨rfl, hv6, _⟩
  have HB6 := Lib.hid (HK.out.bel _ _ hv6)
  rw [vtE_no cs2_no, vtV_no cs2_no]
  clear hv6
  go_wp2_with fail
  go_ret
  exact ⟨rfl, HB6.out⟩
end Go.Proofs.YthmlcmlpmolmoaaGreatDoor
namespace Go.Proofs.YthmlcmlpmolmoaaGreatDoor
open Go.RowKit
theorem conv1c (x : Int) (W : World) (B : Nat) (h : W.cell? ⟨B, 0, none⟩ = some (.int .u8 x)) :
    (convert 22 9 (.slice (some ⟨B, 0, none⟩) 1 1)).run Tryz.prog W = .ok (.string ⟨#[chr x.toNat]⟩) W :=
  run_convert_bytes_arg _ _ _ Tryz.underlying22 Tryz.underlying5 _ 0 1 1 [x] rfl (fun i hi => by
    obtain rfl : i = 0 := by omega
    exact h) _ Tryz.underlying9
theorem run_byte1 (w : World) (x : Int) : (Instr.buildSlice 22 1 #[(0, .int .u8 x)]).run Tryz.prog w = .ok (.slice (some ⟨w.heap.size, 0, none⟩) 1 1) (w.alloc (.cells #[.int .u8 x] 5)) := by
  go_simp
end Go.Proofs.YthmlcmlpmolmoaaGreatDoor
