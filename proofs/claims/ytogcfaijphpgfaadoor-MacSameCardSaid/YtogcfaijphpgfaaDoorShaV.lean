/- Contracts of package sha: a digest is told. -/
import Derived.Test.YtogcfaijphpgfaaDoorShaU
namespace Go.Proofs.YtogcfaijphpgfaaDoor
open Go.RowKit
theorem sizeHash : (Tryd.prog.info? 66).map (·.size) = some 73 := by kernel_rfl
theorem size8w : (Tryd.prog.info? 64).map (·.size) = some 8 := by kernel_rfl
def s80 : S8 := ⟨0, 0, 0, 0, 0, 0, 0, 0⟩
theorem zeroHash : (Tryd.prog.info? 66).map (·.zero) = some (some (.agg (valsL 73 (hv s80 (fun _ => 0) 0)).toArray)) := by kernel_rfl
theorem zero_hash (w : World) : (zeroValue 66).run Tryd.prog w = .ok (.agg (valsL 73 (hv s80 (fun _ => 0) 0)).toArray) w := by
  have h := zeroHash
  cases hq : Tryd.prog.info? 66 with
  | none => rw [hq] at h; cases h
  | some i =>
    rw [hq] at h
    have hs : i.zero = some (.agg (valsL 73 (hv s80 (fun _ => 0) 0)).toArray) := by simpa using h
    simp [zeroValue, typeInfo, hq, hs]
theorem hv_one (s : S8) (b : Nat → Nat) (n j : Nat) : (hv s b n j).oneCell' = true := by
  unfold hv; split
  · rfl
  · split <;> rfl
theorem setCells_shape (g : Nat) (t : TypeId) (fr : Nat × Nat) : ∀ (vs : List Value) (o : Nat) (w : World) (c : Array Value), w.heap[g]? = some (.cells c t fr) → ∃ c', (w.setCells g o vs).heap[g]? = some (.cells c' t fr) ∧ c'.size = c.size
  | [], _, _, c, h => ⟨c, h, rfl⟩
  | v :: r, o, w, c, h => by
    rw [World.setCells]
    obtain ⟨c', h1, h2⟩ := setCells_shape g t fr r (o + 1) (w.setCell ⟨g, o, none⟩ v) (c.setIfInBounds o v) (by simp [World.setCell, Array.getElem?_modify, h])
    exact ⟨c', h1, by rw [h2]; simp⟩
theorem RowV.of_arr {w : World} {g n : Nat} {t : TypeId} {f : Nat → Value} {c : Array Value} (h : w.heap[g]? = some (.cells c t (0, 0))) (hc : c.size = n) (ha : ArrV w g 0 n f) : RowV w g t n f := by
  unfold RowV
  rw [h]
  congr 2
  apply Array.ext'
  apply List.ext_getElem?
  intro j
  rcases Nat.lt_or_ge j n with hj | hj
  · have := (ha j hj).1
    rw [Nat.zero_add] at this
    rw [show (valsL n f).toArray.toList = valsL n f from rfl, valsL_at hj]
    simpa [World.cell?, h] using this
  · rw [List.getElem?_eq_none (by simpa [hc] using hj), List.getElem?_eq_none (by simpa [valsL] using hj)]
theorem RowV.setCells {w : World} {g n : Nat} {t : TypeId} {cur : Nat → Value} (h : RowV w g t n cur) (f : Nat → Value) : RowV (w.setCells g 0 (valsL n f)) g t n f := by
  obtain ⟨c', h1, h2⟩ := setCells_shape g t (0, 0) (valsL n f) 0 w _ h
  exact RowV.of_arr h1 (by rw [h2]; simp [valsL]) (h.arr.setCells f)
/-- the store of a whole block -/
theorem wpList_storeW {ops : Array Oper} {rest : List Oper} {op : Oper} {a : Act} {w : World} {Q : Exit → Act → World → Prop} (hgd : op.guard = none) (ty : TypeId) (x y : Operand) (ho : op.op = .store ty x y)
    (b : Nat) (t : TypeId) (n : Nat) (f cur : Nat → Value) (hx : a.eval x = .pointer (some ⟨b, 0, none⟩)) (hy : a.eval y = .agg (valsL n f).toArray) (hc : RowV w b t n cur) (h1 : ∀ j, j < n → (f j).oneCell' = true) (hi : (Tryd.prog.info? ty).map (·.size) = some n)
    (h : ∀ w', RowV w' b t n f → Chg b w w' → wpList Tryd.prog ops Q rest (a.put op.dst undef) w') : wpList Tryd.prog ops Q (op :: rest) a w := by
  refine wpList_store_mid hgd ty x y ho b 0 (valsL n f).toArray hx hy (hc.arr.there' f) (by rw [List.size_toArray, valsL_length]; exact hi) (all_oneCell_toArray (vals_one h1)) ?_
  rw [List.toList_toArray]
  exact h _ (hc.setCells f) (Chg.setCells b (Or.inl rfl) _ _ w (Chg.refl _ _))
/-- k words of a digest -/
def dg (s : S8) (k j : Nat) : Nat := if j < 4 * k then dig s j else 0
theorem dg_step (s : S8) (k j : Nat) : putw (4 * k) (at8 s k) (dg s k) j = dg s (k + 1) j := by
  unfold putw dg
  by_cases h : 4 * k ≤ j ∧ j < 4 * k + 4
  · rw [if_pos h, if_pos (by omega)]
    unfold dig
    rw [show j / 4 = k by omega, show j % 4 = j - 4 * k by omega]
  · rw [if_neg h]
    by_cases h2 : j < 4 * k
    · rw [if_pos h2, if_pos (by omega)]
    · rw [if_neg h2, if_neg (by omega)]
set_option maxRecDepth 100000 in
set_option maxHeartbeats 3200000 in
theorem hsum_any (g n : Nat) (f : Nat → Nat) (w : World) (hn : n ≤ 100000000000000) (hm : HM w g n f) (hf : By n f) (ht : GT w) :
    Calls Tryd.prog 25 #[.pointer (some ⟨g, 0, none⟩)] w fun e w' => ∃ d, e = .returned (.slice (some ⟨d, 0, none⟩) 32 32) ∧ w.heap.size ≤ d ∧ Arr w' d 0 32 (sha n f) ∧ Below w.heap.size w w' := by
  obtain ⟨b, hr, hb⟩ := hm
  have HR := Lib.hid hr
  have HB := Lib.hid hb
  have HY := Lib.hid hf
  have HT := Lib.hid ht
  have hz := zero_hash
  clear hr hb hf ht
  go_enter Tryd.func25, Tryd.ntmps25
  have HR1 := Lib.hid (rowV_made w _ 66 73 (hv s80 (fun _ => 0) 0) rfl)
  go_wp2_with (first | (refine wpList_load_mid rfl 66 (.tmp 8) rfl g 0 rfl _ _ HR.out.arr.range Tryd.underlying66 rfl (by rw [valsL_length]; exact sizeHash) ?_) |
    (refine wpList_storeW rfl 66 (.tmp 3) (.tmp 9) rfl w.heap.size 66 73 _ _ rfl rfl HR1.out (fun j _ => hv_one _ _ _ j) sizeHash ?_; intro w2 h1 h2; have HR2 := Lib.hid h1; have HC2 := Lib.hid h2; clear h1 h2))
  have hltk := HT.out.ltk
  have hlth := HT.out.lth
  have HT2 := Lib.hid ((HT.out.alloc (.cells (valsL 73 (hv s80 (fun _ => 0) 0)).toArray 66)).chg HC2.out ⟨by omega, by omega⟩)
  have HG := Lib.hid (show 1 ≠ w.heap.size ∧ 0 ≠ w.heap.size from ⟨by omega, by omega⟩)
  have HB2 := Lib.hid (show Below w.heap.size w w2 from ((Below.refl _ _).alloc (Nat.le_refl _) _).trans (HC2.out.below (by simp) (Nat.le_refl _)))
  have HM2 := Lib.hid (show HM w2 w.heap.size n f from ⟨b, HR2.out, HB.out⟩)
  clear HR1 HR2 HC2 hltk hlth
  refine (pad_any w.heap.size n f w2 hn HM2.out HY.out HT2.out HG.out).mono ?_
  rintro e w3 ⟨rfl, ⟨b3, hr3, _⟩, h2⟩
  have HB3 := Lib.hid (HB2.out.trans (h2.below HB2.out.size (Nat.le_refl _)))
  rw [show padL n / 64 = (n + 72) / 64 by unfold padL; omega] at hr3
  have HS := Lib.hid (hs_ok (padf n f) ((n + 72) / 64))
  have HD := Lib.hid (show ∀ j, sha n f j = dig (hs (padf n f) ((n + 72) / 64)) j from fun _ => rfl)
  generalize hs (padf n f) ((n + 72) / 64) = s at *
  have HR3 := Lib.hid hr3
  clear hr3 h2 HM2 HT2 HB2 hz
  have hmk : ∀ W : World, (Instr.makeSlice 22 (.int .i64 32) (.int .i64 32)).run Tryd.prog W = .ok (.slice (some ⟨W.heap.size, 0, none⟩) 32 32) (W.alloc (.cells (madeCells #[.int .u8 0] 32) 5)) := mk8 32 (by decide)
  have HRG := Lib.hid (show (w3.alloc (.cells (madeCells #[.int .u8 0] 32) 5)).rangeAt w.heap.size 0 (valsL 8 fun j => .int .u32 (at8 s j : Nat)) from
    (((HR3.out.arr.sub (a := 0) (m := 8) (o' := 0) (by decide) rfl).congr fun j hj => by rw [Nat.zero_add]; exact hv_state _ _ _ _ hj).alloc _).range)
  have HA4 := Lib.hid (show Arr (w3.alloc (.cells (madeCells #[.int .u8 0] 32) 5)) w3.heap.size 0 32 (dg s 0) from arr_new (by
    apply Array.ext'
    rw [toList_madeCells_one]; rfl) rfl)
  have HB4 := Lib.hid (HB3.out.alloc HB3.out.size (.cells (madeCells #[.int .u8 0] 32) 5))
  have HSZ := Lib.hid HB3.out.size
  go_wp2_with (refine wpList_load_mid rfl 64 (.tmp 12) rfl w.heap.size 0 rfl _ _ HRG.out Tryd.underlying64 rfl (by rw [valsL_length]; exact size8w) ?_)
  generalize w3.heap.size = D at *
  generalize w3.alloc (.cells (madeCells #[.int .u8 0] 32) 5) = w4 at *
  clear hmk HR3 HRG HB3
  go_loopw [14] (fun v wr => ∃ k : Nat, k ≤ 8 ∧ v = .int .i64 k ∧ Arr wr D 0 32 (dg s k) ∧ Below w.heap.size w wr) (fun v _ => 8 - (intOf v).toNat)
  case atStart => exact ⟨0, Nat.zero_le _, rfl, HA4.out, HB4.out⟩
  case round =>
    obtain ⟨k, hk, rfl, h1, h2⟩ := hrel
    have H1 := Lib.hid h1
    have H2 := Lib.hid h2
    clear h1 h2 HA4 HB4
    by_cases hlt : k < 8
    · have hix := index_vals 64 8 (fun j => .int .u32 (at8 s j : Nat)) k Tryd.underlying64 hlt
      have hsh : ∀ W : World, (Instr.sliceAt 22 (.slice (some ⟨D, 0, none⟩) 32 32) (some (.int .i64 ((k : Int) * 4))) none none).run Tryd.prog W = .ok (.slice (some ⟨D, 4 * k, none⟩) (32 - 4 * k) (32 - 4 * k)) W := fun W => by
        have h := run_hi W (some ⟨D, 0, none⟩) 32 32 (4 * k) (by omega)
        rw [show ((4 * k : Nat) : Int) = (k : Int) * 4 by omega] at h
        rw [h]
        unfold hiA
        rw [if_neg (by omega), Option.map_some, Go.WideShapes.add_plain, Nat.zero_add, Nat.mul_one]
      have hki : (k : Int) < 8 := by omega
      go_wp2_with fail
      refine (putWord_any D 0 (4 * k) (4 * k) 32 (32 - 4 * k) (32 - 4 * k) (at8 s k) _ (at8_lt HS.out k) (by omega) (by omega) _ H1.out (Nat.zero_add _).symm (by omega)).mono ?_
      rintro e w5 ⟨rfl, h1, h2⟩
      have K1 := Lib.hid (h1.congr fun j _ => dg_step s k j)
      have K2 := Lib.hid (H2.out.trans (h2.below H2.out.size HSZ.out))
      clear h1 h2
      go_wp2_with fail
      go_roundw
      case rel => exact ⟨k + 1, by omega, by go_num, K1.out, K2.out⟩
      case measure => simp [intOf]; omega
    · obtain rfl : k = 8 := by omega
      go_wp2_with fail
      go_ret
      exact ⟨D, rfl, HSZ.out, H1.out.congr fun j hj => by rw [HD.out]; exact if_pos hj, H2.out⟩
end Go.Proofs.YtogcfaijphpgfaaDoor
