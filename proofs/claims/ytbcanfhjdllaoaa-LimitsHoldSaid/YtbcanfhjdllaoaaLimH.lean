/- Layer 16: what one card is let through in one window (LimitsHold), as plain data. -/
import Derived.Test.YtbcanfhjdllaoaaLimM
namespace Go.Proofs.Ytbcanfhjdllaoaa
open Go.RowKit
/-- no window is behind B -/
def LowW (L : List Us) (B : Int) : Prop := ∀ u ∈ L, u.w ≤ B
theorem low_put {L : List Us} {B : Int} (h : LowW L B) {u : Us} (hw : u.w ≤ B) : LowW (putU L u) B := by
  unfold putU
  intro v hv
  split at hv
  · rcases mem_set hv with rfl | ⟨hv, _⟩
    · exact hw
    · exact h v hv
  · split at hv
    · rcases List.mem_append.1 hv with hv | hv
      · exact h v hv
      · rw [List.mem_singleton.1 hv]; exact hw
    · rcases List.mem_append.1 hv with hv | hv
      · exact h v (mem_out hv)
      · rw [List.mem_singleton.1 hv]; exact hw
theorem put_mem {L : List Us} {u : Us} : u ∈ putU L u := by
  unfold putU
  split
  · rename_i hf
    cases h : fndU L u.c with
    | none => rw [h] at hf; cases hf
    | some v =>
      obtain ⟨h1, h2⟩ := fnd_mem h
      unfold setU
      exact List.mem_map.2 ⟨v, h1, if_pos h2⟩
  · split
    · exact List.mem_append.2 (Or.inr (List.mem_singleton.2 rfl))
    · exact List.mem_append.2 (Or.inr (List.mem_singleton.2 rfl))
/-- what was let through of a card in a window, of a book at a tick -/
structure HoldI (L : List Us) (rk : Int) (card : ByteArray) (now W n s : Int) : Prop where
  low : LowW L (now / rk)
  seen : (∃ u ∈ L, u.c = card ∧ u.w = W ∧ u.n = n ∧ u.s = s) ∨ ((∀ u ∈ L, u.c ≠ card) ∧ W < now / rk)
  n0 : 0 ≤ n ∧ n ≤ 1125899906842624
  s0 : 0 ≤ s ∧ s ≤ 1125899906842624
theorem HoldI.start {rk : Int} {card : ByteArray} : HoldI [] rk card 0 (-1) 0 0 :=
  ⟨fun u hu => (by cases hu), Or.inr ⟨fun u hu => (by cases hu), by rw [Int.zero_ediv]; decide⟩, by decide, by decide⟩
theorem HoldI.later {L : List Us} {rk : Int} {card : ByteArray} {now now' W n s : Int} (h : HoldI L rk card now W n s) (hk : 1 ≤ rk) (hn : now ≤ now') : HoldI L rk card now' W n s := by
  have hle : now / rk ≤ now' / rk := Int.ediv_le_ediv (by omega) hn
  refine ⟨fun u hu => Int.le_trans (h.low u hu) hle, ?_, h.n0, h.s0⟩
  rcases h.seen with h1 | ⟨h1, h2⟩
  · exact Or.inl h1
  · exact Or.inr ⟨h1, by omega⟩
/-- another card is let through -/
theorem HoldI.other {L : List Us} {r : Rl} {card c : ByteArray} {now W n s a : Int} (h : HoldI L r.k card now W n s) (ok : BkOk L) (k : TrK L r c a now) (hc : c ≠ card) : HoldI (trN L r c a now) r.k card now W n s := by
  have hgc := get_card (L := L) (c := c) (W := winW r now)
  unfold trN
  rw [if_pos (tr_iff.2 k)]
  have hu : (nxtU (getU L c (winW r now)) a).c = c := hgc.1
  have hw : (nxtU (getU L c (winW r now)) a).w = now / r.k := hgc.2
  generalize nxtU (getU L c (winW r now)) a = u at *
  refine ⟨low_put h.low (Int.le_of_eq hw), ?_, h.n0, h.s0⟩
  rcases h.seen with ⟨v, hv, v1, v2, v3, v4⟩ | ⟨h1, h2⟩
  · have hvu : v.c ≠ u.c := fun e => hc (by rw [← hu, ← e, v1])
    unfold putU
    split
    · refine Or.inl ⟨v, ?_, v1, v2, v3, v4⟩
      unfold setU
      exact List.mem_map.2 ⟨v, hv, if_neg hvu⟩
    · split
      · exact Or.inl ⟨v, List.mem_append.2 (Or.inl hv), v1, v2, v3, v4⟩
      · by_cases hin : v ∈ outU L u.w
        · exact Or.inl ⟨v, List.mem_append.2 (Or.inl hin), v1, v2, v3, v4⟩
        · refine Or.inr ⟨fun q hq e => ?_, ?_⟩
          · rcases List.mem_append.1 hq with hq | hq
            · have hqL := mem_out hq
              have : q = v := by
                have f1 := fnd_of ok.apart hqL
                have f2 := fnd_of ok.apart hv
                rw [e, ← v1, f2] at f1
                injection f1 with f1
                exact f1.symm
              exact hin (this ▸ hq)
            · rw [List.mem_singleton.1 hq, hu] at e
              exact hc e
          · have hvw : v.w ≠ u.w := fun e => hin (by
              unfold outU
              exact (List.mem_eraseP_of_neg (by simp [e])).2 hv)
            have := h.low v hv
            rw [← v2]
            rw [hw] at hvw
            omega
  · refine Or.inr ⟨fun q hq e => ?_, h2⟩
    unfold putU at hq
    split at hq
    · rcases mem_set hq with rfl | ⟨hq, _⟩
      · exact hc (by rw [← hu, e])
      · exact h1 q hq e
    · split at hq
      · rcases List.mem_append.1 hq with hq | hq
        · exact h1 q hq e
        · rw [List.mem_singleton.1 hq, hu] at e
          exact hc e
      · rcases List.mem_append.1 hq with hq | hq
        · exact h1 q (mem_out hq) e
        · rw [List.mem_singleton.1 hq, hu] at e
          exact hc e
/-- the card itself is let through: what it had used of the window -/
theorem HoldI.used {L : List Us} {rk : Int} {card : ByteArray} {now W n s : Int} (h : HoldI L rk card now W n s) (ok : BkOk L) : getU L card (now / rk) = if now / rk = W then ⟨card, now / rk, n, s⟩ else ⟨card, now / rk, 0, 0⟩ := by
  unfold getU
  rcases h.seen with ⟨v, hv, v1, v2, v3, v4⟩ | ⟨h1, h2⟩
  · have f2 := fnd_of ok.apart hv
    rw [v1] at f2
    rw [f2]
    show (if v.w = now / rk then v else ⟨card, now / rk, 0, 0⟩ : Us) = _
    by_cases e : now / rk = W
    · rw [if_pos e, if_pos (by rw [v2, e])]
      cases v
      simp only at v1 v2 v3 v4
      rw [v1, v2, v3, v4, e]
    · rw [if_neg e, if_neg (by rw [v2]; exact fun h => e h.symm)]
  · rw [fnd_none.2 h1, if_neg (by omega)]
theorem HoldI.own {L : List Us} {r : Rl} {card : ByteArray} {now W n s a n' s' : Int} (h : HoldI L r.k card now W n s) (ok : BkOk L) (k : TrK L r card a now) (hn : n' = (getU L card (winW r now)).n + 1) (hs : s' = (getU L card (winW r now)).s + a) :
    HoldI (trN L r card a now) r.k card now (now / r.k) n' s' ∧ n' ≤ r.t ∧ s' ≤ r.s := by
  have hgc := get_card (L := L) (c := card) (W := winW r now)
  have g := get_ok ok k.my.c (win_nn (t := now) k.my.rk.1 k.my.t.1) (win_le (t := now) k.my.rk.1 k.my.t)
  have g1 := g.n0
  have g2 := g.s0
  have k1 := k.times
  have k2 := k.sum
  have k3 := k.my.rt
  have k4 := k.my.rs
  have k5 := k.my.a
  unfold trN
  rw [if_pos (tr_iff.2 k)]
  refine ⟨⟨low_put h.low (Int.le_of_eq hgc.2), Or.inl ⟨_, put_mem, hgc.1, hgc.2, hn.symm, hs.symm⟩, by omega, by omega⟩, by omega, by omega⟩
theorem tr_same {L : List Us} {r : Rl} {c : ByteArray} {a t : Int} (h : ¬ trE L r c a t = 0) : trN L r c a t = L := by
  unfold trN
  rw [if_neg h]
theorem tr_wrong {L : List Us} {r : Rl} {c : ByteArray} {a t : Int} (h : rlK r = false) : trE L r c a t = 1 := by
  unfold trE myK
  rw [h, Bool.false_and, if_neg (by decide)]
end Go.Proofs.Ytbcanfhjdllaoaa
