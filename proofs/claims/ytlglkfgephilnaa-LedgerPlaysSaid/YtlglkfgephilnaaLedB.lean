/- Layer 17, the code: counted, isPost, copyOf, Total. -/
import Derived.Test.YtlglkfgephilnaaLedA
import Derived.Test.YtlglkfgephilnaaLedU
import Derived.Test.YtlglkfgephilnaaShClone
namespace Go.Proofs.Ytlglkfgephilnaa
set_option maxRecDepth 100000
open Go.RowKit
/-- the code's ledger: its struct in block G, its map in block B, its row v; u: a world before it -/
structure LgA (u : World) (G B : Nat) (w : World) (L : List Po) (v : Value) : Prop where
  r : RLg u G w L v
  uB : u.heap.size ≤ B
  cel1 : w.cell? ⟨G, 1, none⟩ = some (.map (some B))
  mp : MpP w B L
  neB : G ≠ B
  neV : v.ownBlock ≠ some B
  tot : totP L ≤ 5000000000000
theorem LgA.ok {u w : World} {G B : Nat} {L : List Po} {v : Value} (h : LgA u G B w L v) : LgOk L := ⟨h.r.ok.few, h.r.ok.apart, h.r.ok.each, h.tot⟩
theorem LgA.keep {u w w' : World} {G B : Nat} {L : List Po} {v : Value} (h : LgA u G B w L v) (hb : Below w.heap.size w w') : LgA u G B w' L v :=
  ⟨h.r.keep hb, h.uB, (hb.cell (p := ⟨G, 1, none⟩) (block_lt (a := ⟨G, 1, none⟩) h.cel1)).trans h.cel1, h.mp.block (hb.block B h.mp.lt), h.neB, h.neV, h.tot⟩
/-- what a post adds to the total, as the code counts -/
def cntP (p : Po) : Int := if p.s = 2 then 0 else p.a
theorem cnt_ok {p : Po} (h : PoOk p) : cntP p = if p.s = 1 then p.a else 0 := by
  unfold cntP
  rcases h.s with e | e <;> rw [e] <;> rfl
theorem counted17_any (p : Po) (w : World) : Calls Try.prog 31 #[poV p] w fun e w' => e = .returned (.int .i64 (cntP p)) ∧ Below w.heap.size w w' := by
  have HBL := Lib.hid (alloc_below w (.cells #[.string p.k, .int .i64 p.a, .int .i64 p.s, .string p.t] 31))
  obtain ⟨k, a, s, t⟩ := p
  simp only at HBL ⊢
  by_cases hs : s = 2
  · have HE := Lib.hid (show cntP ⟨k, a, s, t⟩ = 0 from if_pos hs)
    have q1 : (s == 2) = true := by simpa using hs
    clear hs
    go_enter Try.func31, Try.ntmps31
    go_wp2_with fail
    go_ret
    exact ⟨by rw [HE.out]; rfl, HBL.out⟩
  · have HE := Lib.hid (show cntP ⟨k, a, s, t⟩ = a from if_neg hs)
    have q1 : (s == 2) = false := by simpa using hs
    clear hs
    go_enter Try.func31, Try.ntmps31
    go_wp2_with fail
    go_ret
    exact ⟨by rw [HE.out]; rfl, HBL.out⟩
/-- where the first of the code's tests fails, if one does -/
theorem ip_ways (p : Po) : (p.k.size < 1 ∧ pmK p = false) ∨ (1 ≤ p.k.size ∧ 40 < p.k.size ∧ pmK p = false) ∨ (1 ≤ p.k.size ∧ p.k.size ≤ 40 ∧ p.a < 0 ∧ pmK p = false) ∨
    (1 ≤ p.k.size ∧ p.k.size ≤ 40 ∧ 0 ≤ p.a ∧ 999999999999 < p.a ∧ pmK p = false) ∨ (1 ≤ p.k.size ∧ p.k.size ≤ 40 ∧ 0 ≤ p.a ∧ p.a ≤ 999999999999 ∧ p.s ≠ 1 ∧ p.s ≠ 2 ∧ pmK p = false) ∨
    (1 ≤ p.k.size ∧ p.k.size ≤ 40 ∧ 0 ≤ p.a ∧ p.a ≤ 999999999999 ∧ (p.s = 1 ∨ p.s = 2) ∧ pmK p = decide (p.t.size ≤ 256)) := by
  by_cases h1 : 1 ≤ p.k.size
  · by_cases h2 : p.k.size ≤ 40
    · by_cases h3 : 0 ≤ p.a
      · by_cases h4 : p.a ≤ 999999999999
        · by_cases hs : p.s = 1 ∨ p.s = 2
          · refine Or.inr (Or.inr (Or.inr (Or.inr (Or.inr ⟨h1, h2, h3, h4, hs, ?_⟩))))
            unfold pmK
            simp [h1, h2, h3, h4, hs]
          · exact Or.inr (Or.inr (Or.inr (Or.inr (Or.inl ⟨h1, h2, h3, h4, fun e => hs (Or.inl e), fun e => hs (Or.inr e), decide_eq_false fun e => hs e.1⟩))))
        · exact Or.inr (Or.inr (Or.inr (Or.inl ⟨h1, h2, h3, by omega, decide_eq_false fun e => h4 e.2.2.2.2.1⟩)))
      · exact Or.inr (Or.inr (Or.inl ⟨h1, h2, by omega, decide_eq_false fun e => h3 e.2.2.2.1⟩))
    · exact Or.inr (Or.inl ⟨h1, by omega, decide_eq_false fun e => h2 e.2.2.1⟩)
  · exact Or.inl ⟨by omega, decide_eq_false fun e => h1 e.2.1⟩
set_option maxHeartbeats 3200000 in
theorem ispost_any (p : Po) (w : World) : Calls Try.prog 32 #[poV p] w fun e w' => e = .returned (.bool (pmK p)) ∧ Below w.heap.size w w' := by
  have HBL := Lib.hid (alloc_below w (.cells #[.string p.k, .int .i64 p.a, .int .i64 p.s, .string p.t] 31))
  obtain ⟨b, hb⟩ : ∃ b, pmK p = b := ⟨_, rfl⟩
  have hw := ip_ways p
  rw [hb] at hw ⊢
  clear hb
  obtain ⟨k, a, s, t⟩ := p
  simp only at hw HBL ⊢
  have fin : ∀ b : Bool, b = decide (t.size ≤ 256) → b = decide (((t.size : Nat) : Int) ≤ 256) := fun b h => by rw [h, decide_eq_decide]; omega
  rcases hw with ⟨q1, rfl⟩ | ⟨q1, q2, rfl⟩ | ⟨q1, q2, q3, rfl⟩ | ⟨q1, q2, q3, q4, rfl⟩ | ⟨q1, q2, q3, q4, q5, q6, rfl⟩ | ⟨q1, q2, q3, q4, q5, rfl⟩
  · have d1 : decide ((1 : Int) ≤ ((k.size : Nat) : Int)) = false := decide_eq_false (by omega)
    clear fin q1
    go_enter Try.func32, Try.ntmps32
    go_wp2_with fail
    go_ret
    exact ⟨rfl, HBL.out⟩
  · have d1 : decide ((1 : Int) ≤ ((k.size : Nat) : Int)) = true := decide_eq_true (by omega)
    have d2 : decide (((k.size : Nat) : Int) ≤ 40) = false := decide_eq_false (by omega)
    clear fin q1 q2
    go_enter Try.func32, Try.ntmps32
    go_wp2_with fail
    go_ret
    exact ⟨rfl, HBL.out⟩
  all_goals
    have d1 : decide ((1 : Int) ≤ ((k.size : Nat) : Int)) = true := decide_eq_true (by omega)
    have d2 : decide (((k.size : Nat) : Int) ≤ 40) = true := decide_eq_true (by omega)
    clear q1 q2
  · have d3 : decide (0 ≤ a) = false := decide_eq_false (by omega)
    clear fin q3
    go_enter Try.func32, Try.ntmps32
    go_wp2_with fail
    go_ret
    exact ⟨rfl, HBL.out⟩
  · have d3 : decide (0 ≤ a) = true := decide_eq_true (by omega)
    have d4 : decide (a ≤ 999999999999) = false := decide_eq_false (by omega)
    clear fin q3 q4
    go_enter Try.func32, Try.ntmps32
    go_wp2_with fail
    go_ret
    exact ⟨rfl, HBL.out⟩
  · have d3 : decide (0 ≤ a) = true := decide_eq_true (by omega)
    have d4 : decide (a ≤ 999999999999) = true := decide_eq_true (by omega)
    have d5 : (s == 1) = false := by simpa using q5
    have d6 : (s == 2) = false := by simpa using q6
    clear fin q3 q4 q5 q6
    go_enter Try.func32, Try.ntmps32
    go_wp2_with fail
    go_ret
    exact ⟨rfl, HBL.out⟩
  · have d3 : decide (0 ≤ a) = true := decide_eq_true (by omega)
    have d4 : decide (a ≤ 999999999999) = true := decide_eq_true (by omega)
    rw [fin _ rfl]
    clear fin q3 q4
    rcases q5 with rfl | rfl
    all_goals
      go_enter Try.func32, Try.ntmps32
      go_wp2_with fail
      go_ret
      exact ⟨rfl, HBL.out⟩
set_option maxHeartbeats 1600000 in
theorem copyof17_any (p : Po) (w : World) (hk : p.k.size ≤ 281474976710656) (ht : p.t.size ≤ 281474976710656) : Calls Try.prog 30 #[.agg #[.string p.k, .int .i64 p.a, .int .i64 p.s, .string p.t]] w fun e w' => e = .returned (.agg #[.string p.k, .int .i64 p.a, .int .i64 p.s, .string p.t]) ∧ Below w.heap.size w w' := by
  have HC := Lib.hid (fun V => sclone_any p.k V hk)
  have HD := Lib.hid (fun V => sclone_any p.t V ht)
  clear hk ht
  obtain ⟨k, a, s, t⟩ := p
  simp only at HC HD ⊢
  obtain ⟨w1, hw1⟩ : ∃ w1, w1 = (w.alloc (.cells #[.string k, .int .i64 a, .int .i64 s, .string t] 31)).alloc (.cells #[.string ⟨#[]⟩, .int .i64 0, .int .i64 0, .string ⟨#[]⟩] 31) := ⟨_, rfl⟩
  have hA : w1.heap[w.heap.size]? = some (.cells #[.string k, .int .i64 a, .int .i64 s, .string t] 31) := by
    rw [hw1]
    have h1 := heap_alloc_new w (.cells #[.string k, .int .i64 a, .int .i64 s, .string t] 31)
    exact ((alloc_below _ _).block _ (Array.getElem?_eq_some_iff.1 h1).1).trans h1
  have hB : w1.heap[w.heap.size + 1]? = some (.cells #[.string ⟨#[]⟩, .int .i64 0, .int .i64 0, .string ⟨#[]⟩] 31) := by
    have h := heap_alloc_new (w.alloc (.cells #[.string k, .int .i64 a, .int .i64 s, .string t] 31)) (.cells #[.string ⟨#[]⟩, .int .i64 0, .int .i64 0, .string ⟨#[]⟩] 31)
    rw [hw1]
    have e : (w.alloc (.cells #[.string k, .int .i64 a, .int .i64 s, .string t] 31)).heap.size = w.heap.size + 1 := by simp
    rwa [e] at h
  have hb : Below w.heap.size w w1 := by rw [hw1]; exact (alloc_below w _).alloc (by simp) _
  have HW1 := Lib.hid hw1
  have HA := Lib.hid hA
  have HB := Lib.hid hB
  have HBL := Lib.hid hb
  clear hw1 hA hB hb
  go_enter Try.func30, Try.ntmps30
  go_wp2_with fail
  rw [← HW1.out]
  refine (HC.out _).mono ?_
  rintro e w2 ⟨rfl, hb2⟩
  have HB2 := Lib.hid (HBL.out.trans (hb2.mono HBL.out.size))
  have hA2 : w2.heap[w.heap.size]? = some (.cells #[.string k, .int .i64 a, .int .i64 s, .string t] 31) := (hb2.block _ (Array.getElem?_eq_some_iff.1 HA.out).1).trans HA.out
  have hB2 : w2.heap[w.heap.size + 1]? = some (.cells #[.string ⟨#[]⟩, .int .i64 0, .int .i64 0, .string ⟨#[]⟩] 31) := (hb2.block _ (Array.getElem?_eq_some_iff.1 HB.out).1).trans HB.out
  have hA3 := Lib.heap_setCell_same (i := 0) hA2 (.string k)
  have hB3 : (w2.setCell ⟨w.heap.size, 0, none⟩ (.string k)).heap[w.heap.size + 1]? = some (.cells #[.string ⟨#[]⟩, .int .i64 0, .int .i64 0, .string ⟨#[]⟩] 31) := (Below.heap_setCell w2 ⟨w.heap.size, 0, none⟩ (.string k) _ (by simp)).trans hB2
  have b3 : Below w.heap.size w (w2.setCell ⟨w.heap.size, 0, none⟩ (.string k)) := HB2.out.setCell (Nat.le_refl _) _
  obtain ⟨c0, _⟩ := po_cells (z := ⟨k, a, s, t⟩) hA2
  have cf := fz_of17 hA2 0
  obtain ⟨_, _, _, c4⟩ := po_cells (z := ⟨k, a, s, t⟩) hA3
  have HA3 := Lib.hid hA3
  have HB3 := Lib.hid hB3
  have HBB3 := Lib.hid b3
  simp only at c0 c4
  clear HC HW1 HA HB HBL HB2 hb2 hA2 hB2 hA3 hB3 b3
  go_wp2_with fail
  generalize w2.setCell ⟨w.heap.size, 0, none⟩ (.string k) = w3 at *
  refine (HD.out _).mono ?_
  rintro e w4 ⟨rfl, hb4⟩
  have HB4 := Lib.hid (HBB3.out.trans (hb4.mono HBB3.out.size))
  have hA4 : w4.heap[w.heap.size]? = some (.cells #[.string k, .int .i64 a, .int .i64 s, .string t] 31) := (hb4.block _ (Array.getElem?_eq_some_iff.1 HA3.out).1).trans HA3.out
  have hB4 : w4.heap[w.heap.size + 1]? = some (.cells #[.string ⟨#[]⟩, .int .i64 0, .int .i64 0, .string ⟨#[]⟩] 31) := (hb4.block _ (Array.getElem?_eq_some_iff.1 HB3.out).1).trans HB3.out
  have hA5 := Lib.heap_setCell_same (i := 3) hA4 (.string t)
  have hB5 : (w4.setCell ⟨w.heap.size, 3, none⟩ (.string t)).heap[w.heap.size + 1]? = some (.cells #[.string ⟨#[]⟩, .int .i64 0, .int .i64 0, .string ⟨#[]⟩] 31) := (Below.heap_setCell w4 ⟨w.heap.size, 3, none⟩ (.string t) _ (by simp)).trans hB4
  have b5 : Below w.heap.size w (w4.setCell ⟨w.heap.size, 3, none⟩ (.string t)) := HB4.out.setCell (Nat.le_refl _) _
  obtain ⟨_, _, _, d3⟩ := po_cells (z := ⟨k, a, s, t⟩) hA4
  have df := fz_of17 hA4 3
  obtain ⟨e0, e1, e2, e3⟩ := po_cells (z := ⟨k, a, s, t⟩) hA5
  obtain ⟨⟨k0, f0⟩, ⟨k1, f1⟩, ⟨k2, f2⟩, ⟨k3, f3⟩⟩ := stp_facts (y := ⟨⟨#[]⟩, 0, 0, ⟨#[]⟩⟩) hB5 (.string k) (.int .i64 a) (.int .i64 s)
  have HST := Lib.hid (po_cells (stp_heap (y := ⟨⟨#[]⟩, 0, 0, ⟨#[]⟩⟩) (z := ⟨k, a, s, t⟩) hB5))
  have HSB := Lib.hid (stp_below (b := w.heap.size + 1) (z := ⟨k, a, s, t⟩) b5 (Nat.le_succ _))
  unfold stP at HST HSB
  simp only at HST HSB k0 k1 k2 k3 d3 e0 e1 e2 e3
  clear HD HA3 HB3 HBB3 HB4 hb4 hA4 hB4 hA5 hB5 b5 c0 c4 cf
  go_wp2_with fail
  obtain ⟨q0, q1, q2, q3⟩ := HST.out
  exact bodyPost_ret (v := poV ⟨k, a, s, t⟩) (by simp [results, Try.results30, go_sem, q0, q1, q2, q3]) rfl ⟨rfl, HSB.out⟩
end Go.Proofs.Ytlglkfgephilnaa
