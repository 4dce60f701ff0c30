/- The document's ledger (layer 17): may, at, Total. -/
import Derived.Test.YtlglkfgephilnaaLedE
namespace Go.Proofs.Ytlglkfgephilnaa
set_option maxRecDepth 100000
open Go.RowKit
/-- what a ledger is made of, but for its total -/
structure LgIn (L : List Po) : Prop where
  few : L.length ≤ 24
  apart : L.Pairwise fun a b => a.k ≠ b.k
  each : ∀ p ∈ L, PoOk p
theorem LgOk.inn {L : List Po} (h : LgOk L) : LgIn L := ⟨h.few, h.apart, h.each⟩
/-- the document's ledger in block X, its row v; u: a world before it -/
structure RLg (u : World) (X : Nat) (w : World) (L : List Po) (v : Value) : Prop where
  bel : Below u.heap.size u w
  uX : u.heap.size ≤ X
  cell : w.cell? ⟨X, 0, none⟩ = some v
  froz : w.frozen? ⟨X, 0, none⟩ = false
  own : OwL poE 31 w u.heap.size v L
  ne : ∀ g, v.ownBlock = some g → g ≠ X
  ok : LgIn L
theorem RLg.keep {u w w' : World} {X : Nat} {L : List Po} {v : Value} (h : RLg u X w L v) (hb : Below w.heap.size w w') : RLg u X w' L v :=
  ⟨h.bel.trans (hb.mono h.bel.size), h.uX, (hb.cell (p := ⟨X, 0, none⟩) (block_lt h.cell)).trans h.cell, (World.frozen?_of_block (hb.block X (block_lt (a := ⟨X, 0, none⟩) h.cell))).trans h.froz, h.own.keep hb, h.ne, h.ok⟩
/-- may a post be? -/
def pmK (p : Po) : Bool := decide ((p.s = 1 ∨ p.s = 2) ∧ 1 ≤ p.k.size ∧ p.k.size ≤ 40 ∧ 0 ≤ p.a ∧ p.a ≤ 999999999999 ∧ p.t.size ≤ 256)
theorem pm_iff {p : Po} : pmK p = true ↔ PoOk p := by
  unfold pmK
  rw [decide_eq_true_iff]
  exact ⟨fun ⟨h1, h2, h3, h4, h5, h6⟩ => ⟨h2, h3, h4, h5, h1, h6⟩, fun ⟨h2, h3, h4, h5, h1, h6⟩ => ⟨h1, h2, h3, h4, h5, h6⟩⟩
/-- where the first of the tests fails, if one does -/
theorem pm_ways (p : Po) : (p.s ≠ 1 ∧ p.s ≠ 2 ∧ pmK p = false) ∨ ((p.s = 1 ∨ p.s = 2) ∧
    ((p.k.size = 0 ∧ pmK p = false) ∨ (1 ≤ p.k.size ∧ 40 < p.k.size ∧ pmK p = false) ∨ (1 ≤ p.k.size ∧ p.k.size ≤ 40 ∧ p.a < 0 ∧ pmK p = false) ∨
    (1 ≤ p.k.size ∧ p.k.size ≤ 40 ∧ 0 ≤ p.a ∧ 999999999999 < p.a ∧ pmK p = false) ∨ (1 ≤ p.k.size ∧ p.k.size ≤ 40 ∧ 0 ≤ p.a ∧ p.a ≤ 999999999999 ∧ 256 < p.t.size ∧ pmK p = false) ∨
    (1 ≤ p.k.size ∧ p.k.size ≤ 40 ∧ 0 ≤ p.a ∧ p.a ≤ 999999999999 ∧ p.t.size ≤ 256 ∧ pmK p = true))) := by
  by_cases hs : p.s = 1 ∨ p.s = 2
  · refine Or.inr ⟨hs, ?_⟩
    have hf : ∀ h : ¬ (1 ≤ p.k.size ∧ p.k.size ≤ 40 ∧ 0 ≤ p.a ∧ p.a ≤ 999999999999 ∧ p.t.size ≤ 256), pmK p = false := fun h => decide_eq_false fun e => h e.2
    by_cases h1 : 1 ≤ p.k.size
    · by_cases h2 : p.k.size ≤ 40
      · by_cases h3 : 0 ≤ p.a
        · by_cases h4 : p.a ≤ 999999999999
          · by_cases h5 : p.t.size ≤ 256
            · exact Or.inr (Or.inr (Or.inr (Or.inr (Or.inr ⟨h1, h2, h3, h4, h5, decide_eq_true ⟨hs, h1, h2, h3, h4, h5⟩⟩))))
            · exact Or.inr (Or.inr (Or.inr (Or.inr (Or.inl ⟨h1, h2, h3, h4, by omega, hf fun h => h5 h.2.2.2.2⟩))))
          · exact Or.inr (Or.inr (Or.inr (Or.inl ⟨h1, h2, h3, by omega, hf fun h => h4 h.2.2.2.1⟩)))
        · exact Or.inr (Or.inr (Or.inl ⟨h1, h2, by omega, hf fun h => h3 h.2.2.1⟩))
      · exact Or.inr (Or.inl ⟨h1, by omega, hf fun h => h2 h.2.1⟩)
    · exact Or.inl ⟨by omega, hf fun h => h1 h.1⟩
  · exact Or.inl ⟨fun e => hs (Or.inl e), fun e => hs (Or.inr e), decide_eq_false fun e => hs e.1⟩
theorem nil17 {c : ByteArray} (h : c.size = 0) : c.toList = [] := by
  rw [ByteArray.toList_eq]
  exact List.eq_nil_of_length_eq_zero (Array.length_toList.trans h)
theorem not_nil17 {c : ByteArray} (h : 1 ≤ c.size) : ¬ c.toList = [] := fun e => by
  rw [ByteArray.toList_eq] at e
  have : c.data.toList.length = 0 := by rw [e]; rfl
  rw [Array.length_toList] at this
  have h2 : c.size = c.data.size := rfl
  omega
set_option maxHeartbeats 3200000 in
theorem rmay17_any (p : Po) (w : World) : Calls Try.prog 27 #[poV p] w fun e w' => e = .returned (.bool (pmK p)) ∧ Below w.heap.size w w' := by
  have HBL := Lib.hid (alloc_below w (.cells #[.string p.k, .int .i64 p.a, .int .i64 p.s, .string p.t] 31))
  obtain ⟨b, hb⟩ : ∃ b, pmK p = b := ⟨_, rfl⟩
  have hw := pm_ways p
  rw [hb] at hw ⊢
  clear hb
  obtain ⟨k, a, s, t⟩ := p
  simp only at hw HBL ⊢
  rcases hw with ⟨q1, q2, rfl⟩ | ⟨hs, hw⟩
  · have e1 : (s == 1) = false := by simpa using q1
    have e2 : (s == 2) = false := by simpa using q2
    clear q1 q2
    go_enter Try.func27, Try.ntmps27
    go_wp2_with fail
    go_ret
    exact ⟨rfl, HBL.out⟩
  · rcases hs with rfl | rfl
    all_goals
      rcases hw with ⟨q2, rfl⟩ | ⟨q2, q3, rfl⟩ | ⟨q2, q3, q4, rfl⟩ | ⟨q2, q3, q4, q5, rfl⟩ | ⟨q2, q3, q4, q5, q6, rfl⟩ | ⟨q2, q3, q4, q5, q6, rfl⟩
      all_goals
        try (have d1 : decide (((k.size : Nat) : Int) ≤ 40) = true := decide_eq_true (by omega))
        try (have d1 : decide (((k.size : Nat) : Int) ≤ 40) = false := decide_eq_false (by omega))
        try (have d2 : decide (0 ≤ a) = true := decide_eq_true (by omega))
        try (have d2 : decide (0 ≤ a) = false := decide_eq_false (by omega))
        try (have d3 : decide (a ≤ 999999999999) = true := decide_eq_true (by omega))
        try (have d3 : decide (a ≤ 999999999999) = false := decide_eq_false (by omega))
        try (have d4 : decide (((t.size : Nat) : Int) ≤ 256) = true := decide_eq_true (by omega))
        try (have d4 : decide (((t.size : Nat) : Int) ≤ 256) = false := decide_eq_false (by omega))
        try (have e1 := nil17 q2)
        try (have e1 := not_nil17 q2; have e0 : k.toList.isEmpty = false := by simpa using not_nil17 q2)
        go_enter Try.func27, Try.ntmps27
        go_wp2_with fail
        go_ret
        exact ⟨rfl, HBL.out⟩
/-- what at tells -/
def AtL (L : List Po) (c : ByteArray) (q : Int) : Prop := (q = -1 ∧ fndP L c = none) ∨ ∃ (k : Nat) (hk : k < L.length), q = (k : Int) ∧ fndP L c = some L[k]
theorem rat17_any (u : World) (X : Nat) (L : List Po) (v : Value) (c : ByteArray) (w : World) (h : RLg u X w L v) :
    Calls Try.prog 28 #[.pointer (some ⟨X, 0, none⟩), .string c] w fun e w' => ∃ q, e = .returned (.int .i64 q) ∧ AtL L c q ∧ w' = w := by
  obtain ⟨A, cc, rfl, hl⟩ := h.own.slice
  have HL := Lib.hid hl
  have HOK := Lib.hid h.ok
  have hcell := h.cell
  have hL16 : (L.length : Int) ≤ 24 := by have := h.ok.few; omega
  clear h hl
  go_enter Try.func28, Try.ntmps28
  go_wp2_with fail
  go_loopw [5] (fun i wr => ∃ k : Nat, k ≤ L.length ∧ i = .int .i64 k ∧ wr = w ∧ ∀ j (h : j < L.length), j < k → L[j].k ≠ c) (fun i _ => L.length - (intOf i).toNat)
  case atStart => exact ⟨0, Nat.zero_le _, rfl, rfl, fun j _ hj => absurd hj (Nat.not_lt_zero j)⟩
  case round =>
    obtain ⟨k, hk, rfl, rfl, hno⟩ := hrel
    have HNO := Lib.hid hno
    clear hno
    by_cases hlt : k < L.length
    · obtain ⟨B, o, rfl, hBl, c1, _, _, _⟩ := po_at HL.out hlt
      have hk1 : (k : Int) < L.length := by omega
      by_cases he : L[k].k = c
      · have HE := Lib.hid (show AtL L c (k : Int) from Or.inr ⟨k, hlt, rfl, by rw [← he]; exact fndP_of HOK.out.apart (List.getElem_mem hlt)⟩)
        have q1 : (L[k].k.toList == c.toList) = true := by rw [he]; simp
        generalize L[k].k = x at *
        clear he
        go_wp2_with fail
        go_ret
        exact ⟨_, rfl, HE.out, rfl⟩
      · have HE := Lib.hid he
        have q1 : (L[k].k.toList == c.toList) = false := by rw [str_eq17]; exact decide_eq_false he
        have HN := Lib.hid (show ∀ j (h : j < L.length), j < k + 1 → L[j].k ≠ c from fun j hj hjk => by
          rcases Nat.lt_or_ge j k with h1 | h1
          · exact HNO.out j hj h1
          · obtain rfl : j = k := by omega
            exact HE.out)
        clear he HE
        generalize L[k].k = x at *
        go_wp2_with fail
        go_roundw
        case rel => exact ⟨k + 1, by omega, by go_num, trivial, HN.out⟩
        case measure => simp [intOf]; omega
    · have hk1 : ¬ (k : Int) < L.length := by omega
      have HE := Lib.hid (show AtL L c (-1) from Or.inl ⟨rfl, fndP_none.2 fun v hv => by
        obtain ⟨j, hj, rfl⟩ := List.getElem_of_mem hv
        exact HNO.out j hj (by omega)⟩)
      go_wp2_with fail
      go_ret
      exact ⟨_, rfl, HE.out, rfl⟩
theorem tot_take {L : List Po} {k : Nat} (hk : k < L.length) : totP (L.take (k + 1)) = totP (L.take k) + (if L[k].s = 1 then L[k].a else 0) := by
  rw [List.take_succ_eq_append_getElem hk, totP_app]
  simp only [totP]
  omega
theorem rtotal17_any (u : World) (X : Nat) (L : List Po) (v : Value) (w : World) (h : RLg u X w L v) :
    Calls Try.prog 29 #[.pointer (some ⟨X, 0, none⟩)] w fun e w' => e = .returned (.int .i64 (totP L)) ∧ w' = w := by
  obtain ⟨A, cc, rfl, hl⟩ := h.own.slice
  have HL := Lib.hid hl
  have HOK := Lib.hid h.ok
  have hcell := h.cell
  have hL16 : (L.length : Int) ≤ 24 := by have := h.ok.few; omega
  clear h hl
  go_enter Try.func29, Try.ntmps29
  go_wp2_with fail
  go_loopw [3, 4] (fun n i wr => ∃ k : Nat, k ≤ L.length ∧ n = .int .i64 (totP (L.take k)) ∧ i = .int .i64 k ∧ wr = w) (fun _ i _ => L.length - (intOf i).toNat)
  case atStart => exact ⟨0, Nat.zero_le _, rfl, rfl, rfl⟩
  case round =>
    obtain ⟨k, hk, rfl, rfl, rfl⟩ := hrel
    by_cases hlt : k < L.length
    · obtain ⟨B, o, rfl, hBl, _, c1, c2, _⟩ := po_at HL.out hlt
      have hk1 : (k : Int) < L.length := by omega
      have HT := Lib.hid (tot_take hlt)
      have hp := HOK.out.each _ (List.getElem_mem hlt)
      have hs := hp.s
      have h1 := totP_nn (L := L.take k) fun q hq => HOK.out.each q (List.mem_of_mem_take hq)
      have h2 := totP_le (L := L.take k) fun q hq => HOK.out.each q (List.mem_of_mem_take hq)
      have h3 : (L.take k).length ≤ 24 := by rw [List.length_take]; omega
      have hw1 : IntKind.i64.wrap (totP (L.take k) + L[k].a) = totP (L.take k) + L[k].a := by
        rw [IntKind.wrap_i64]
        have := hp.a0
        have := hp.aB
        omega
      clear h1 h2 h3 hp
      generalize L[k] = x at *
      obtain ⟨T, hT⟩ : ∃ T, totP (L.take k) = T := ⟨_, rfl⟩
      rw [hT] at HT hw1 ⊢
      clear hT
      rcases hs with hs | hs
      · have q1 : (x.s == 1) = true := by simpa using hs
        rw [if_pos hs] at HT
        clear hs
        go_wp2_with fail
        go_roundw
        case rel => exact ⟨k + 1, by omega, by rw [HT.out], by go_num, trivial⟩
        case measure => simp [intOf]; omega
      · have q1 : (x.s == 1) = false := by rw [hs]; rfl
        rw [if_neg (by rw [hs]; decide), Int.add_zero] at HT
        clear hs
        go_wp2_with fail
        go_roundw
        case rel => exact ⟨k + 1, by omega, by rw [HT.out], by go_num, trivial⟩
        case measure => simp [intOf]; omega
    · have hk1 : ¬ (k : Int) < L.length := by omega
      have HE := Lib.hid (show totP (L.take k) = totP L by rw [List.take_of_length_le (by omega)])
      go_wp2_with fail
      go_ret
      exact ⟨by rw [HE.out]; rfl, rfl⟩
end Go.Proofs.Ytlglkfgephilnaa
