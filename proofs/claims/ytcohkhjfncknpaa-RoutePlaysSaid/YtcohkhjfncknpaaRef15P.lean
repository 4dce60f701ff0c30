/- The document's Put (layer 15). -/
import Derived.Test.YtcohkhjfncknpaaRef15D
import Derived.Test.YtcohkhjfncknpaaRpkA
namespace Go.Proofs.Ytcohkhjfncknpaa
set_option maxRecDepth 100000
open Go.RowKit
/-- may this be a route? -/
def puK (p : ByteArray) (t : Int) : Bool := decide (faultOf p.data.toList = 0 ∧ (1 ≤ p.size ∧ p.size ≤ 8) ∧ 1 ≤ t ∧ t ≤ 99)
def puE (L : List Rt) (p : ByteArray) (t : Int) : Int := if puK p t = true then (if (atR L p).isSome = true then 0 else if 24 ≤ L.length then 14 else 0) else 1
def puN (L : List Rt) (p : ByteArray) (t : Int) : List Rt := if puE L p t = 0 then putR L p t else L
/-- the place of a prefix -/
structure PuAt (L : List Rt) (p : ByteArray) (k : Nat) : Prop where
  le : k ≤ L.length
  low : ∀ j (h : j < L.length), j < k → lsB L[j].p p = true
theorem putR_app {L M : List Rt} {p : ByteArray} {t : Int} (h : ∀ r ∈ L, lsB r.p p = true) : putR (L ++ M) p t = L ++ putR M p t := by
  induction L with
  | nil => rfl
  | cons r L ih =>
    show (if lsB r.p p = true then r :: putR (L ++ M) p t else _) = _
    rw [if_pos (h r (List.mem_cons_self ..)), ih fun q hq => h q (List.mem_cons_of_mem _ hq)]
    rfl
theorem atR_app {L M : List Rt} {p : ByteArray} (h : ∀ r ∈ L, lsB r.p p = true) : atR (L ++ M) p = atR M p := by
  induction L with
  | nil => rfl
  | cons r L ih =>
    show (if r.p = p then _ else atR (L ++ M) p) = _
    rw [if_neg (lsB_ne (h r (List.mem_cons_self ..))), ih fun q hq => h q (List.mem_cons_of_mem _ hq)]
theorem PuAt.take {L : List Rt} {p : ByteArray} {k : Nat} (h : PuAt L p k) : ∀ r ∈ L.take k, lsB r.p p = true := fun r hr => by
  obtain ⟨j, hj, e⟩ := List.getElem_of_mem hr
  rw [List.length_take] at hj
  rw [← e, List.getElem_take]
  exact h.low j (by omega) (by omega)
theorem drop_cons {L : List Rt} {k : Nat} (h : k < L.length) : L.drop k = L[k] :: L.drop (k + 1) := List.drop_eq_getElem_cons h
/-- it is there -/
theorem pu_there {L : List Rt} {p : ByteArray} {t : Int} {k : Nat} (h : PuAt L p k) (hk : k < L.length) (e : L[k].p = p) : putR L p t = L.set k ⟨p, t⟩ ∧ (atR L p).isSome = true := by
  have h1 := putR_app (t := t) (M := L.drop k) h.take
  have h2 := atR_app (M := L.drop k) h.take
  rw [List.take_append_drop, drop_cons hk] at h1 h2
  refine ⟨?_, ?_⟩
  · rw [h1, List.set_eq_take_append_cons_drop, if_pos hk]
    show _ ++ (if lsB L[k].p p = true then _ else if L[k].p = p then _ else _) = _
    rw [e, lsB_irr, if_neg (by decide), if_pos rfl]
  · rw [h2]
    show (if L[k].p = p then _ else _ : Option Int).isSome = true
    rw [if_pos e]; rfl
/-- it is not -/
theorem pu_not {L : List Rt} {p : ByteArray} {t : Int} {k : Nat} (hr : Rise L) (h : PuAt L p k) (h2 : ∀ hk : k < L.length, lsB L[k].p p = false ∧ L[k].p ≠ p) : putR L p t = L.take k ++ [⟨p, t⟩] ++ L.drop k ∧ (atR L p).isSome = false := by
  have h1 := putR_app (t := t) (M := L.drop k) h.take
  have h3 := atR_app (M := L.drop k) h.take
  rw [List.take_append_drop] at h1 h3
  by_cases hk : k < L.length
  · obtain ⟨e1, e2⟩ := h2 hk
    refine ⟨?_, ?_⟩
    · rw [h1, drop_cons hk, List.append_assoc]
      show _ ++ (if lsB L[k].p p = true then _ else if L[k].p = p then _ else _) = _
      rw [e1, if_neg (by decide), if_neg e2]
      rfl
    · have hp : lsB p L[k].p = true := by
        cases h4 : lsB p L[k].p with
        | true => rfl
        | false => exact absurd (lsB_tri e1 h4) e2
      rw [h3, atR_none fun r hm => ?_]
      · rfl
      · rw [drop_cons hk] at hm
        rcases List.mem_cons.1 hm with rfl | hm
        · exact e2
        · obtain ⟨j, hj, e⟩ := List.getElem_of_mem hm
          rw [List.length_drop] at hj
          rw [List.getElem_drop] at e
          have h5 := (List.pairwise_iff_getElem.1 hr) k (k + 1 + j) hk (by omega) (by omega)
          rw [e] at h5
          exact (lsB_ne (lsB_trans hp h5)).symm
  · rw [List.drop_eq_nil_of_le (by omega)] at h1 h3
    exact ⟨by rw [h1, List.drop_eq_nil_of_le (by omega), List.append_nil]; rfl, by rw [h3]; rfl⟩
theorem puK_ok {L : List Rt} {p : ByteArray} {t : Int} (h : RtOk L) (hk : puK p t = true) (h2 : (atR L p).isSome = true ∨ L.length < 24) : RtOk (putR L p t) := by
  have hk := of_decide_eq_true hk
  refine ⟨putR_rise h.rise p t, ?_, fun r hr => ?_⟩
  · rw [putR_length h.rise]
    have := h.few
    rcases h2 with h2 | h2
    · rw [if_pos h2]; exact this
    · split <;> omega
  · rcases putR_mem hr with rfl | hr
    · exact hk.2.1
    · exact h.size r hr
set_option maxHeartbeats 3200000 in
theorem rput15_bad (u : World) (X : Nat) (L : List Rt) (v : Value) (p : ByteArray) (t : Int) (w : World) (h : RTb u X w L v) (hp : p.size ≤ maxLen) (hk : puK p t = false) :
    Calls Try.prog 12 #[.pointer (some ⟨X, 0, none⟩), .string p, .int .i64 t] w fun e w' => e = .returned (.int .i64 1) ∧ RtS u X w v w' L := by
  have HP := Lib.hid (rpack_all p w hp)
  have HS := Lib.hid (fun w' (hb : Below w.heap.size w w') => RtS.same h hb)
  have hb : ¬ faultOf p.data.toList = 0 ∨ faultOf p.data.toList = 0 ∧ (p.toList = [] ∨ ¬ p.toList = [] ∧ (8 < p.size ∨ p.size ≤ 8 ∧ (t < 1 ∨ 1 ≤ t ∧ 99 < t))) := by
    have hk := of_decide_eq_false hk
    by_cases h1 : faultOf p.data.toList = 0
    · refine Or.inr ⟨h1, ?_⟩
      by_cases h2 : p.toList = []
      · exact Or.inl h2
      · have : 1 ≤ p.size := by
          rcases Nat.eq_zero_or_pos p.size with h3 | h3
          · refine absurd ?_ h2
            rw [ByteArray.toList_eq]
            exact List.eq_nil_of_length_eq_zero (by rw [Array.length_toList]; exact h3)
          · exact h3
        exact Or.inr ⟨h2, by omega⟩
    · exact Or.inl h1
  obtain ⟨f, hf⟩ : ∃ f, faultOf p.data.toList = f := ⟨_, rfl⟩
  rw [hf] at HP hb
  clear h hk hp hf
  rcases hb with hb | ⟨rfl, hb⟩
  · have hq : (f == 0) = false := by simpa using hb
    go_enter Try.func12, Try.ntmps12
    go_wp2_with fail
    refine HP.out.mono ?_
    rintro e w1 ⟨⟨v1, rfl⟩, hb1⟩
    have HS1 := Lib.hid (HS.out w1 hb1)
    clear hb1
    go_wp2_with fail
    go_ret
    exact ⟨rfl, HS1.out⟩
  · rcases hb with hb | ⟨hb, hb2⟩
    · have hq := hb
      have hq2 : p.toList.isEmpty = true := by rw [hb]; rfl
      go_enter Try.func12, Try.ntmps12
      go_wp2_with fail
      refine HP.out.mono ?_
      rintro e w1 ⟨⟨v1, rfl⟩, hb1⟩
      have HS1 := Lib.hid (HS.out w1 hb1)
      clear hb1
      go_wp2_with fail
      go_ret
      exact ⟨rfl, HS1.out⟩
    · have hq2 : p.toList.isEmpty = false := by cases h : p.toList with | nil => exact absurd h hb | cons => rfl
      rcases hb2 with hb2 | ⟨hb2, hb3⟩
      · have hq3 : (8 : Int) < p.size := by omega
        go_enter Try.func12, Try.ntmps12
        go_wp2_with fail
        refine HP.out.mono ?_
        rintro e w1 ⟨⟨v1, rfl⟩, hb1⟩
        have HS1 := Lib.hid (HS.out w1 hb1)
        clear hb1
        go_wp2_with fail
        go_ret
        exact ⟨rfl, HS1.out⟩
      · have hq3 : ¬ (8 : Int) < p.size := by omega
        rcases hb3 with hb3 | ⟨hb3, hb4⟩
        · go_enter Try.func12, Try.ntmps12
          go_wp2_with fail
          refine HP.out.mono ?_
          rintro e w1 ⟨⟨v1, rfl⟩, hb1⟩
          have HS1 := Lib.hid (HS.out w1 hb1)
          clear hb1
          go_wp2_with fail
          go_ret
          exact ⟨rfl, HS1.out⟩
        · have hq4 : ¬ t < 1 := by omega
          go_enter Try.func12, Try.ntmps12
          go_wp2_with fail
          refine HP.out.mono ?_
          rintro e w1 ⟨⟨v1, rfl⟩, hb1⟩
          have HS1 := Lib.hid (HS.out w1 hb1)
          clear hb1
          go_wp2_with fail
          go_ret
          exact ⟨rfl, HS1.out⟩
end Go.Proofs.Ytcohkhjfncknpaa
