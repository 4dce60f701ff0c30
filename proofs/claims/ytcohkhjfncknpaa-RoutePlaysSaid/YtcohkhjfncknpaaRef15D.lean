/- The document's Drop (layer 15). -/
import Derived.Test.YtcohkhjfncknpaaRef15A
namespace Go.Proofs.Ytcohkhjfncknpaa
set_option maxRecDepth 100000
open Go.RowKit
/-- what a call leaves of the document's table: its list is L', in a row v' -/
def RtS (u : World) (X : Nat) (w : World) (v : Value) (w' : World) (L' : List Rt) : Prop :=
  ∃ v', RTb u X w' L' v' ∧ ChgS (fun k => k = X ∨ v.ownBlock = some k) w w' ∧ ∀ g, v'.ownBlock = some g → v.ownBlock = some g ∨ w.heap.size ≤ g
theorem RTb.keep {u w w' : World} {X : Nat} {L : List Rt} {v : Value} (h : RTb u X w L v) (hb : Below w.heap.size w w') : RTb u X w' L v :=
  ⟨h.bel.trans (hb.mono h.bel.size), h.uX, (hb.cell (p := ⟨X, 0, none⟩) (block_lt h.cell)).trans h.cell, (World.frozen?_of_block (hb.block X (block_lt (a := ⟨X, 0, none⟩) h.cell))).trans h.froz, h.own.keep hb, h.ne, h.ok⟩
theorem RtS.same {u w w' : World} {X : Nat} {L : List Rt} {v : Value} (h : RTb u X w L v) (hb : Below w.heap.size w w') : RtS u X w v w' L :=
  ⟨v, h.keep hb, ChgS.of_below hb, fun _ hg => Or.inl hg⟩
/-- the row replaced by a new one -/
theorem RtS.new {u w w' : World} {X : Nat} {L L' : List Rt} {v v' : Value} (h : RTb u X w L v) (hb : Below w.heap.size w w') (h' : OwL rtE 41 w' w.heap.size v' L') (ok : RtOk L') : RtS u X w v (w'.setCell ⟨X, 0, none⟩ v') L' := by
  have hX := block_lt (a := ⟨X, 0, none⟩) h.cell
  have k := h.keep hb
  have hne : ∀ g, v'.ownBlock = some g → g ≠ X := fun g hg => by
    have := (h'.lt g hg).1
    show g ≠ X
    have hX' : X < w.heap.size := hX
    omega
  refine ⟨v', ⟨?_, h.uX, World.cell?_setCell_same _ ⟨X, 0, none⟩ _ k.cell, by rw [World.frozen?_setCell]; exact k.froz, (h'.setOther (a := ⟨X, 0, none⟩) hX v').less h.bel.size, hne, ok⟩, (ChgS.of_below hb).setCell (Or.inl rfl) _, fun g hg => Or.inr (h'.lt g hg).1⟩
  have := (Chg.refl X w').setCell (a := ⟨X, 0, none⟩) (Or.inl rfl) v'
  exact k.bel.trans (this.below k.bel.size h.uX)
def drE (L : List Rt) (p : ByteArray) : Int := if (atR L p).isSome = true then 0 else 15
theorem dropR_next {L : List Rt} {p : ByteArray} {k : Nat} (hk : k < L.length) : dropR (L.take (k + 1)) p = dropR (L.take k) p ++ (if L[k].p = p then [] else [L[k]]) := by
  unfold dropR
  rw [List.take_add_one, List.filter_append, List.getElem?_eq_getElem hk]
  congr 1
  by_cases e : L[k].p = p
  · simp [e]
  · simp [e]
theorem dropR_ok {L : List Rt} (h : RtOk L) (p : ByteArray) : RtOk (dropR L p) := ⟨dropR_rise h.rise p, Nat.le_trans (List.length_filter_le _ _) h.few, fun r hr => h.size r (List.mem_filter.1 hr).1⟩
theorem dropR_none {L : List Rt} {p : ByteArray} (h : atR L p = none) : dropR L p = L := by
  unfold dropR
  rw [List.filter_eq_self]
  intro r hr
  refine decide_eq_true fun e => ?_
  induction L with
  | nil => cases hr
  | cons q L ih =>
    unfold atR at h
    by_cases e2 : q.p = p
    · rw [if_pos e2] at h; cases h
    · rw [if_neg e2] at h
      rcases List.mem_cons.1 hr with rfl | hr
      · exact e2 e
      · exact ih h hr
theorem dropR_some {L : List Rt} {p : ByteArray} {t : Int} (h : atR L p = some t) : (dropR L p).length < L.length := by
  unfold dropR
  refine List.length_filter_lt_length_iff_exists.2 ⟨_, atR_mem h, ?_⟩
  simp
theorem dropR_le (L : List Rt) (p : ByteArray) (k : Nat) : (dropR (L.take k) p).length ≤ L.length := Nat.le_trans (List.length_filter_le _ _) (by rw [List.length_take]; omega)
set_option maxHeartbeats 3200000 in
theorem rdrop15_any (u : World) (X : Nat) (L : List Rt) (v : Value) (p : ByteArray) (w : World) (h : RTb u X w L v) :
    Calls Try.prog 14 #[.pointer (some ⟨X, 0, none⟩), .string p] w fun e w' => e = .returned (.int .i64 (drE L p)) ∧ RtS u X w v w' (dropR L p) := by
  have HH := Lib.hid h
  have HOK := Lib.hid h.ok
  have HC := Lib.hid (show ∀ W, Below w.heap.size w W → W.cell? ⟨X, 0, none⟩ = some v from fun W hb => (h.keep hb).cell)
  have HF := Lib.hid (show ∀ W, Below w.heap.size w W → W.frozen? ⟨X, 0, none⟩ = false from fun W hb => (h.keep hb).froz)
  obtain ⟨A, c, hv, hl⟩ := h.own.slice
  have HL := Lib.hid hl
  have HV := Lib.hid hv
  rw [hv] at HC
  have hL24 : (L.length : Int) ≤ 24 := by have := h.ok.few; omega
  have hcell := HC.out w (Below.refl _ _)
  clear h hl hv
  go_enter Try.func14, Try.ntmps14
  go_wp2_with fail
  clear hcell
  go_loopw [5, 6] (fun ov i wr => ∃ (k : Nat) (A' : Option Addr) (c' : Nat), k ≤ L.length ∧ i = .int .i64 k ∧ ov = .slice A' (dropR (L.take k) p).length c' ∧ OwL rtE 41 wr w.heap.size (.slice A' (dropR (L.take k) p).length c') (dropR (L.take k) p) ∧ Below w.heap.size w wr) (fun _ i _ => L.length - (intOf i).toNat)
  case atStart => exact ⟨0, none, 0, Nat.zero_le _, rfl, rfl, OwL.nil _ _ _, Below.refl _ _⟩
  case round =>
    obtain ⟨k, A', c', hk, rfl, rfl, ho, hb⟩ := hrel
    have HO := Lib.hid ho
    have HB := Lib.hid hb
    clear ho hb
    have hcell := HC.out wr HB.out
    by_cases hlt : k < L.length
    · obtain ⟨B, o, rfl, hBl, c1, c2⟩ := rt_at (HL.out.keep HB.out) hlt
      have hk1 : (k : Int) < L.length := by omega
      have HNX := Lib.hid (dropR_next (p := p) hlt)
      have HLE := Lib.hid (dropR_le L p k)
      generalize hx : L[k] = x at *
      have HX := Lib.hid hx
      clear hx
      by_cases hp : x.p.toList = p.toList
      · have HE := Lib.hid (show dropR (L.take (k + 1)) p = dropR (L.take k) p by rw [HNX.out, if_pos (toList_inj hp), List.append_nil])
        go_wp2_with fail
        go_roundw
        case rel => exact ⟨k + 1, A', c', by omega, by go_num, by rw [HE.out], by rw [HE.out]; exact HO.out, HB.out⟩
        case measure => simp [intOf]; omega
      · have HE := Lib.hid (show dropR (L.take (k + 1)) p = dropR (L.take k) p ++ [x] by rw [HNX.out, if_neg fun e => hp (by rw [e])])
        obtain ⟨A2, c2', w2, hr, ho2, _, _, hb2⟩ := run_appL rtTy (wr.alloc (.cells #[.string x.p, .int .i64 x.t] 41)) w.heap.size _ _ (HO.out.alloc _) _ 1 [x] (one_el (E := rtE) (T := 41) wr x) (fun h => by cases h) (by have := HLE.out; have := HOK.out.few; simp only [List.length_singleton]; omega) (by have := HLE.out; have := HOK.out.few; simp only [List.length_singleton]; omega) (by have := HB.out.size; simp; omega)
        have HR := Lib.hid hr
        have HO2 := Lib.hid ho2
        have HB2 := Lib.hid ((HB.out.alloc HB.out.size (.cells #[.string x.p, .int .i64 x.t] 41)).trans hb2)
        clear hr ho2 hb2
        have hq : (x.p.toList == p.toList) = false := by simpa using hp
        go_wp2_with (at_builtin; refine wpList_runL (.tmp 26) (.tmp 34) rfl rfl rfl rfl rfl HR.out ?_)
        go_roundw
        case rel => exact ⟨k + 1, A2, c2', by omega, by go_num, by rw [HE.out, List.length_append]; rfl, by rw [HE.out, List.length_append]; exact HO2.out, HB2.out⟩
        case measure => simp [intOf]; omega
    · obtain rfl : k = L.length := by omega
      have hk1 : ¬ ((L.length : Nat) : Int) < L.length := by omega
      rw [List.take_length] at HO ⊢
      cases ha : atR L p with
      | none =>
        have HD := Lib.hid (dropR_none ha)
        have HE := Lib.hid (show drE L p = 15 by unfold drE; rw [ha]; rfl)
        rw [HD.out]
        clear ha
        go_wp2_with fail
        go_ret
        exact ⟨by rw [HE.out]; rfl, by rw [HD.out]; exact RtS.same HH.out HB.out⟩
      | some t =>
        have hlt2 := dropR_some ha
        have HE := Lib.hid (show drE L p = 0 by unfold drE; rw [ha]; rfl)
        have hne : (((dropR L p).length : Int) == L.length) = false := by simp; omega
        have HN := Lib.hid (RtS.new HH.out HB.out HO.out (dropR_ok HOK.out p))
        have hfz := HF.out wr HB.out
        clear ha
        go_wp2_with fail
        go_ret
        exact ⟨by rw [HE.out]; rfl, HN.out⟩
end Go.Proofs.Ytcohkhjfncknpaa
