/- The document's table of routes in memory; Find. -/
import Derived.Test.YtcohkhjfncknpaaRouE
namespace Go.Proofs.Ytcohkhjfncknpaa
set_option maxRecDepth 100000
open Go.RowKit
/-- what a table holds -/
structure RtOk (L : List Rt) : Prop where
  rise : Rise L
  few : L.length ≤ 24
  size : ∀ r ∈ L, 1 ≤ r.p.size ∧ r.p.size ≤ 8
/-- the document's table in block X, its row v; u: a world before it -/
structure RTb (u : World) (X : Nat) (w : World) (L : List Rt) (v : Value) : Prop where
  bel : Below u.heap.size u w
  uX : u.heap.size ≤ X
  cell : w.cell? ⟨X, 0, none⟩ = some v
  froz : w.frozen? ⟨X, 0, none⟩ = false
  own : OwL rtE 41 w u.heap.size v L
  ne : ∀ g, v.ownBlock = some g → g ≠ X
  ok : RtOk L
/-- does a text begin with a route's prefix? -/
def Mt (s : ByteArray) (r : Rt) : Prop := r.p.size ≤ s.size ∧ s.extract 0 r.p.size = r.p
/-- the best one of the first i -/
def BestI (L : List Rt) (s : ByteArray) (i : Nat) (best : Int) : Prop :=
  (best = -1 ∧ ∀ j (h : j < L.length), j < i → ¬ Mt s L[j]) ∨ (∃ b : Nat, best = (b : Int) ∧ b < i ∧ ∃ hb : b < L.length, Mt s L[b] ∧ ∀ j (h : j < L.length), j < i → Mt s L[j] → L[j].p.size ≤ L[b].p.size)
def fdI (L : List Rt) (s : ByteArray) : Bool := (fndR L s 8).isSome
def fdV (L : List Rt) (s : ByteArray) : Int := (fndR L s 8).getD 0
theorem best_none {L : List Rt} {s : ByteArray} {i : Nat} (h : BestI L s i (-1)) (hi : L.length ≤ i) : fndR L s 8 = none := by
  have hno : ∀ j (h : j < L.length), ¬ Mt s L[j] := by
    rcases h with ⟨_, h⟩ | ⟨b, h, _⟩
    · exact fun j hj => h j hj (by omega)
    · omega
  cases hf : fndR L s 8 with
  | none => rfl
  | some t =>
    obtain ⟨j, h1, _, h3, h4, _⟩ := fndR_some hf
    obtain ⟨k, hk, e⟩ := List.getElem_of_mem (atR_mem h4)
    refine absurd ?_ (hno k hk)
    rw [e]
    have hz : (s.extract 0 j).size = j := by rw [ByteArray.size_extract]; omega
    exact ⟨by rw [hz]; exact h3, by rw [hz]⟩
theorem best_some {L : List Rt} {s : ByteArray} {i b : Nat} (ok : RtOk L) (h : BestI L s i (b : Int)) (hi : L.length ≤ i) (hb : b < L.length) : fndR L s 8 = some L[b].t := by
  rcases h with ⟨h, _⟩ | ⟨b', e, _, hb', hm, hmax⟩
  · omega
  · obtain rfl : b = b' := by omega
    have hsz := ok.size L[b] (List.getElem_mem hb)
    refine fndR_of (j := L[b].p.size) hsz.1 hsz.2 hm.1 ?_ fun k h1 h2 h3 => ?_
    · rw [hm.2]
      exact atR_of ok.rise (List.getElem_mem hb)
    · cases ha : atR L (s.extract 0 k) with
      | none => rfl
      | some t =>
        obtain ⟨q, hq, e⟩ := List.getElem_of_mem (atR_mem ha)
        have hz : (s.extract 0 k).size = k := by rw [ByteArray.size_extract]; omega
        have := hmax q hq (by omega) (by rw [e]; exact ⟨by rw [hz]; exact h3, by rw [hz]⟩)
        rw [e] at this
        simp only [hz] at this
        omega
theorem best_no {L : List Rt} {s : ByteArray} {k : Nat} {best : Int} (hk : k < L.length) (h : BestI L s k best) (hm : ¬ Mt s L[k]) : BestI L s (k + 1) best := by
  rcases h with ⟨e, h⟩ | ⟨b, e, hb, hl, h1, h2⟩
  · refine Or.inl ⟨e, fun j hj hjk => ?_⟩
    rcases Nat.lt_or_ge j k with h3 | h3
    · exact h j hj h3
    · obtain rfl : j = k := by omega
      exact hm
  · refine Or.inr ⟨b, e, by omega, hl, h1, fun j hj hjk hmj => ?_⟩
    rcases Nat.lt_or_ge j k with h3 | h3
    · exact h2 j hj h3 hmj
    · obtain rfl : j = k := by omega
      exact absurd hmj hm
theorem best_first {L : List Rt} {s : ByteArray} {k : Nat} (hk : k < L.length) (h : BestI L s k (-1)) (hm : Mt s L[k]) : BestI L s (k + 1) (k : Int) := by
  rcases h with ⟨_, h⟩ | ⟨b, e, _⟩
  · refine Or.inr ⟨k, rfl, by omega, hk, hm, fun j hj hjk hmj => ?_⟩
    rcases Nat.lt_or_ge j k with h3 | h3
    · exact absurd hmj (h j hj h3)
    · obtain rfl : j = k := by omega
      exact Nat.le_refl _
  · omega
theorem best_more {L : List Rt} {s : ByteArray} {k b : Nat} (hk : k < L.length) (hb : b < L.length) (h : BestI L s k (b : Int)) (hm : Mt s L[k]) (hl : L[b].p.size < L[k].p.size) : BestI L s (k + 1) (k : Int) := by
  rcases h with ⟨h, _⟩ | ⟨b', e, _, _, _, h2⟩
  · omega
  · obtain rfl : b = b' := by omega
    refine Or.inr ⟨k, rfl, by omega, hk, hm, fun j hj hjk hmj => ?_⟩
    rcases Nat.lt_or_ge j k with h3 | h3
    · have := h2 j hj h3 hmj
      omega
    · obtain rfl : j = k := by omega
      exact Nat.le_refl _
theorem best_keep {L : List Rt} {s : ByteArray} {k b : Nat} (hk : k < L.length) (hb : b < L.length) (h : BestI L s k (b : Int)) (hl : ¬ L[b].p.size < L[k].p.size) : BestI L s (k + 1) (b : Int) := by
  rcases h with ⟨h, _⟩ | ⟨b', e, h0, h1, h3, h2⟩
  · omega
  · obtain rfl : b = b' := by omega
    refine Or.inr ⟨b, rfl, by omega, h1, h3, fun j hj hjk hmj => ?_⟩
    rcases Nat.lt_or_ge j k with h3 | h3
    · exact h2 j hj h3 hmj
    · obtain rfl : j = k := by omega
      omega
theorem best_cases {L : List Rt} {s : ByteArray} {k : Nat} {best : Int} (h : BestI L s k best) : best = -1 ∨ ∃ b : Nat, best = (b : Int) ∧ b < L.length := by
  rcases h with ⟨e, _⟩ | ⟨b, e, _, hb, _⟩
  · exact Or.inl e
  · exact Or.inr ⟨b, e, hb⟩
theorem mt_list {s : ByteArray} {r : Rt} (h1 : r.p.size ≤ s.size) (h2 : (s.extract 0 r.p.size).toList = r.p.toList) : Mt s r := ⟨h1, toList_inj h2⟩
set_option maxHeartbeats 3200000 in
theorem rfind15_any (u : World) (X : Nat) (L : List Rt) (v : Value) (s : ByteArray) (w : World) (h : RTb u X w L v) (hs : s.size ≤ maxLen) :
    Calls Try.prog 16 #[.pointer (some ⟨X, 0, none⟩), .string s] w fun e w' => e = .returned (.tuple #[.int .i64 (fdV L s), .bool (fdI L s)]) ∧ Below w.heap.size w w' := by
  obtain ⟨A, c, rfl, hl⟩ := h.own.slice
  have HL := Lib.hid hl
  have HOK := Lib.hid h.ok
  have hcell := h.cell
  have hL24 : (L.length : Int) ≤ 24 := by have := h.ok.few; omega
  have HS := Lib.hid hs
  clear h hl hs
  go_enter Try.func16, Try.ntmps16
  go_wp2_with fail
  go_loopw [6, 7] (fun bv i wr => ∃ (k : Nat) (best : Int), k ≤ L.length ∧ i = .int .i64 k ∧ bv = .int .i64 best ∧ wr = w ∧ BestI L s k best) (fun _ i _ => L.length - (intOf i).toNat)
  case atStart => exact ⟨0, -1, Nat.zero_le _, rfl, rfl, rfl, Or.inl ⟨rfl, fun j _ hj => absurd hj (Nat.not_lt_zero j)⟩⟩
  case round =>
    obtain ⟨k, best, hk, rfl, rfl, rfl, hb⟩ := hrel
    have HB := Lib.hid hb
    clear hb
    by_cases hlt : k < L.length
    · obtain ⟨B, o, rfl, hBl, c1, c2⟩ := rt_at HL.out hlt
      have hk1 : (k : Int) < L.length := by omega
      generalize hx : L[k] = x at *
      have HX := Lib.hid hx
      clear hx c2
      by_cases m1 : x.p.size ≤ s.size
      · by_cases m2 : (s.extract 0 x.p.size).toList = x.p.toList
        · have HM := Lib.hid (mt_list m1 m2)
          rcases best_cases HB.out with rfl | ⟨b, rfl, hbL⟩
          · go_wp2_with fail
            go_roundw
            case rel => exact ⟨k + 1, (k : Int), by omega, by go_num, rfl, trivial, best_first hlt HB.out (by rw [HX.out]; exact HM.out)⟩
            case measure => simp [intOf]; omega
          · obtain ⟨B', o', e, _, c3, _⟩ := rt_at HL.out hbL
            cases e
            have hb1 : (b : Int) < L.length := by omega
            have hb2 : ¬ (b : Int) < 0 := by omega
            generalize hy : L[b] = y at *
            have HY := Lib.hid hy
            clear hy
            by_cases hmore : y.p.size < x.p.size
            · have hmi : (y.p.size : Int) < x.p.size := by omega
              go_wp2_with fail
              go_roundw
              case rel => exact ⟨k + 1, (k : Int), by omega, by go_num, rfl, trivial, best_more hlt hbL HB.out (by rw [HX.out]; exact HM.out) (by rw [HX.out, HY.out]; exact hmore)⟩
              case measure => simp [intOf]; omega
            · have hmi : ¬ (y.p.size : Int) < x.p.size := by omega
              go_wp2_with fail
              go_roundw
              case rel => exact ⟨k + 1, (b : Int), by omega, by go_num, rfl, trivial, best_keep hlt hbL HB.out (by rw [HX.out, HY.out]; exact hmore)⟩
              case measure => simp [intOf]; omega
        · have HM := Lib.hid (show ¬ Mt s x from fun h => m2 (by rw [h.2]))
          go_wp2_with fail
          go_roundw
          case rel => exact ⟨k + 1, best, by omega, by go_num, rfl, trivial, best_no hlt HB.out (by rw [HX.out]; exact HM.out)⟩
          case measure => simp [intOf]; omega
      · have HM := Lib.hid (show ¬ Mt s x from fun h => m1 h.1)
        go_wp2_with fail
        go_roundw
        case rel => exact ⟨k + 1, best, by omega, by go_num, rfl, trivial, best_no hlt HB.out (by rw [HX.out]; exact HM.out)⟩
        case measure => simp [intOf]; omega
    · obtain rfl : k = L.length := by omega
      have hk1 : ¬ ((L.length : Nat) : Int) < L.length := by omega
      rcases best_cases HB.out with rfl | ⟨b, rfl, hbL⟩
      · have HE := Lib.hid (best_none HB.out (Nat.le_refl _))
        go_wp2_with fail
        go_ret2
        exact ⟨by unfold fdV fdI; rw [HE.out]; rfl, Below.refl _ _⟩
      · obtain ⟨B', o', rfl, _, _, c4⟩ := rt_at HL.out hbL
        have HE := Lib.hid (best_some HOK.out HB.out (Nat.le_refl _) hbL)
        have hb1 : (b : Int) < L.length := by omega
        have hb2 : ¬ (b : Int) < 0 := by omega
        generalize L[b].t = y at *
        go_wp2_with fail
        go_ret2
        exact ⟨by unfold fdV fdI; rw [HE.out]; rfl, Below.refl _ _⟩
end Go.Proofs.Ytcohkhjfncknpaa
