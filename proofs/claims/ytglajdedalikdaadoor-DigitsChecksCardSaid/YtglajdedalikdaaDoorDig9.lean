import Derived.Test.YtglajdedalikdaaDoorDig8
import Derived.OwnWalk
import Derived.StillTailTactics
import Derived.Deep.RegionLaw
namespace Go.Proofs.YtglajdedalikdaaDoor
open Go.RowKit

/-- the text with a 0 ahead of an odd number of digits -/
def padded (s : ByteArray) : ByteArray := if s.size % 2 = 1 then ByteArray.mk #[chr 48] ++ s else s
theorem padded_size (s : ByteArray) : (padded s).size = 2 * ((s.size + 1) / 2) := by
  unfold padded
  split
  · rw [ByteArray.size_append]; show 1 + s.size = _; omega
  · omega
theorem padded_dig (s : ByteArray) (hd : s.data.toList.all isDig = true) : (padded s).data.toList.all isDig = true := by
  unfold padded
  split
  · rw [ByteArray.data_append, Array.toList_append, List.all_append, hd]; decide
  · exact hd
theorem padded_at (s : ByteArray) (t : Nat) : dg (padded s) t = half s t := by
  unfold padded half
  by_cases h : s.size % 2 = 1
  · rw [if_pos h, if_neg (by omega)]
    unfold dg
    rw [ByteArray.data_append, Array.toList_append]
    cases t with
    | zero => rfl
    | succ t => rfl
  · rw [if_neg h, if_pos (by omega)]

/-- append of one byte to a row of the call's own -/
theorem wpList_app8 {ops : Array Oper} {rest : List Oper} {o : Oper} {a : Act} {Q : Exit → Act → World → Prop} {w : World} (hgd : o.guard = none) (s x : Operand)
    (ho : o.op = .call { callee := .builtin .append, args := #[s, x], argTypes := #[22, 22] })
    (base : Nat) (v : Value) (n : Nat) (xs : List Value) (hs : a.eval s = v) (hown : w.ownsRow base 5 1 v n xs)
    (g : Nat) (y : Int) (hx : a.eval x = .slice (some ⟨g, 0, none⟩) 1 1) (hc : w.cell? ⟨g, 0, none⟩ = some (.int .u8 y)) (hn : n ≤ 1000000000000) (hbase : base ≤ w.heap.size)
    (h : ∀ v' w', w'.ownsRow base 5 1 v' (n + 1) (xs ++ [.int .u8 y]) → Below base w w' → wpList Tryd.prog ops Q rest (a.put o.dst v') w') : wpList Tryd.prog ops Q (o :: rest) a w := by
  obtain ⟨i, hi, hz, hsz, hb⟩ := info_parts info8
  refine wpList_append_own w hgd s x 22 ho base 5 i (.int .u8 0) 1 1 Tryd.underlying22 hi hz hsz hb rfl (by decide) v n xs hs hown ⟨g, 0, none⟩ 1 1 [.int .u8 y] hx rfl ?_ ?_ (by unfold maxLen; omega) (by omega) hbase ?_
  · intro j u hj
    match j, hj with
    | 0, hj => simp at hj; subst hj; exact hc
  · intro u hu; simp at hu; subst hu; rfl
  · intro v' w' h1 h2 _
    exact h v' w' h1 ((Below.refl base w).grown h2 hbase fun k hk => (hown.lt k hk).1)

theorem step_app8 {ops : Array Oper} {o : Oper} {a : Act} {w : World} {K : Act → World → Prop} {Q : Exit → Act → World → Prop} {E : Prop} (hgd : o.guard = none) (s x : Operand)
    (ho : o.op = .call { callee := .builtin .append, args := #[s, x], argTypes := #[22, 22] })
    (base : Nat) (v : Value) (n : Nat) (xs : List Value) (hs : a.eval s = v) (hown : w.ownsRow base 5 1 v n xs)
    (g : Nat) (y : Int) (hx : a.eval x = .slice (some ⟨g, 0, none⟩) 1 1) (hc : w.cell? ⟨g, 0, none⟩ = some (.int .u8 y)) (hn : n ≤ 1000000000000) (hbase : base ≤ w.heap.size)
    (h : ∀ v' w', w'.ownsRow base 5 1 v' (n + 1) (xs ++ [.int .u8 y]) → Below base w w' → K (a.put o.dst v') w') :
    if Region.wanted o (yielded ops a.tmps) = true then Oper.wp Tryd.prog o a w K Q else E := by
  have hw : Region.wanted o (yielded ops a.tmps) = true := by simp [Region.wanted, hgd]
  rw [if_pos hw]
  obtain ⟨i, hi, hz, hsz, hb⟩ := info_parts info8
  refine wp_append_own w s x 22 ho base 5 i (.int .u8 0) 1 1 Tryd.underlying22 hi hz hsz hb rfl (by decide) v n xs hs hown ⟨g, 0, none⟩ 1 1 [.int .u8 y] hx rfl ?_ ?_ (by unfold maxLen; omega) (by omega) hbase ?_
  · intro j u hj
    match j, hj with
    | 0, hj => simp at hj; subst hj; exact hc
  · intro u hu; simp at hu; subst hu; rfl
  · intro v' w' h1 h2 _
    exact h v' w' h1 ((Below.refl base w).grown h2 hbase fun k hk => (hown.lt k hk).1)

theorem own_snoc {w : World} {base : Nat} {e : TypeId} {v : Value} {j : Nat} {f : Nat → Value} {y : Value} (h : w.ownsRow base e 1 v (j + 1) ((List.range j).map f ++ [y])) (hy : y = f j) :
    w.ownsRow base e 1 v (j + 1) ((List.range (j + 1)).map f) := by
  rw [List.range_succ, List.map_append]; subst hy; exact h

set_option maxHeartbeats 1600000 in
theorem rpack_ok (s : ByteArray) (w : World) (hd : s.data.toList.all isDig = true) (hl : s.size ≤ 999) :
    Calls Tryd.prog 13 #[.string s] w fun e w' => ∃ v, e = .returned (.tuple #[v, .int .i64 0]) ∧
      w'.ownsRow w.heap.size 5 1 v ((s.size + 1) / 2) ((List.range ((s.size + 1) / 2)).map fun j => .int .u8 (pb s j : Nat)) ∧ Below w.heap.size w w' := by
  have HT := Lib.hid (padded_size s)
  have HTd := Lib.hid (padded_dig s hd)
  have HPB := Lib.hid (show ∀ j, pb s j = 16 * dg (padded s) (2 * j) + dg (padded s) (2 * j + 1) from fun j => by rw [padded_at, padded_at]; rfl)
  have HF := Lib.hid (fault_ok hd (by simpa using hl))
  have hm5 : (s.size + 1) / 2 ≤ 500 := by omega
  clear hd
  generalize pb s = PB at *
  generalize (s.size + 1) / 2 = m at *
  by_cases h2 : s.size % 2 = 1
  · have h2' : (s.size : Int).tmod 2 = 1 := by rw [Int.tmod_eq_emod_of_nonneg (by omega)]; omega
    obtain ⟨t, ht⟩ : ∃ t, ByteArray.mk #[48] ++ s = t := ⟨_, rfl⟩
    have HP2 := Lib.hid (show padded s = t from (show padded s = _ by unfold padded; rw [if_pos h2]; rfl).trans ht)
    clear h2
    go_enter Tryd.func13, Tryd.ntmps13
    go_wp2_with (go_at_call 29; refine (texts_any _ _ (by unfold maxLen; omega)).mono ?_; rintro e w' ⟨rfl, rfl⟩; rw [HF.out])
    go_loopw [5, 6] (fun v c wr => ∃ j : Nat, j ≤ m ∧ c = .int .i64 (2 * j) ∧ wr.ownsRow w.heap.size 5 1 v j ((List.range j).map fun j => .int .u8 (PB j : Nat)) ∧ Below w.heap.size w wr) (fun _ c _ => 2 * m - (intOf c).toNat)
    case atStart => exact ⟨0, Nat.zero_le _, rfl, World.ownsRow_nil _ _ _ _, Below.refl _ _⟩
    case round =>
      obtain ⟨j, hj, rfl, hown, hb⟩ := hrel
      have HO := Lib.hid hown
      have HB := Lib.hid hb
      clear hown hb
      have hts : t.size = 2 * m := by rw [← HP2.out, HT.out]
      by_cases hlt : j < m
      · obtain ⟨q, eq1, hq⟩ : ∃ q : Nat, (2 : Int) * j = q ∧ q = 2 * j := ⟨2 * j, by omega, rfl⟩
        obtain ⟨q1, eq2, hq1⟩ : ∃ q1 : Nat, (q : Int) + 1 = q1 ∧ q1 = q + 1 := ⟨q + 1, by omega, rfl⟩
        have hqs : q < t.size := by omega
        have hqs1 : q1 < t.size := by omega
        have HTd2 := Lib.hid (show t.data.toList.all isDig = true by rw [← HP2.out]; exact HTd.out)
        obtain ⟨ha1, ha2⟩ := dig_at t q hqs HTd2.out
        obtain ⟨hb1, hb2⟩ := dig_at t q1 hqs1 HTd2.out
        obtain ⟨x, ex, hx⟩ : ∃ x : Nat, (t[q].toNat : Int) - 48 = x ∧ dg t q = x := ⟨t[q].toNat - 48, by omega, dg_eq t q hqs⟩
        obtain ⟨y, ey, hy⟩ : ∃ y : Nat, (t[q1].toNat : Int) - 48 = y ∧ dg t q1 = y := ⟨t[q1].toNat - 48, by omega, dg_eq t q1 hqs1⟩
        have HPj := Lib.hid (show PB j = 16 * x + y by rw [HPB.out j, HP2.out, ← hq, hx, ← hq1, hy])
        have hx9 : x ≤ 9 := by omega
        have hy9 : y ≤ 9 := by omega
        have hw1 : IntKind.i64.wrap (q1 : Int) = q1 := IntWalk.i64_in _ (by omega)
        have hw2 : IntKind.u8.wrap (x : Int) = x := IntWalk.u8_in _ (by omega)
        have hw3 : IntKind.u8.wrap (y : Int) = y := IntWalk.u8_in _ (by omega)
        obtain ⟨x16, ez, hz⟩ : ∃ z : Nat, IntKind.u8.wrap ((x : Int) * 16) = z ∧ z = x * 16 := ⟨x * 16, by rw [IntWalk.u8_in _ (by omega)]; omega, rfl⟩
        obtain ⟨z, ez2, hz2⟩ : ∃ z : Nat, IntKind.u8.wrap ((x16 : Int) + y) = z ∧ z = x16 + y := ⟨x16 + y, by rw [IntWalk.u8_in _ (by omega)]; omega, rfl⟩
        have HPz := Lib.hid (show PB j = z by rw [HPj.out]; omega)
        clear hq hq1 hx hy hts hz hz2
        go_wp2_with fail
        have hj12 : j ≤ 1000000000000 := by omega
        have hsz := HB.out.size
        have hcell : ((wr.alloc (.cells #[.int .u8 z] 5)).drew).cell? ⟨wr.heap.size, 0, none⟩ = some (.int .u8 z) := World.cell?_alloc_at _ _ _ _ rfl
        have hsz2 : w.heap.size ≤ ((wr.alloc (.cells #[.int .u8 z] 5)).drew).heap.size := by show _ ≤ (wr.heap.push _).size; simp; omega
        go_region_law (refine step_app8 rfl (.tmp 24) (.tmp 36) rfl w.heap.size _ j _ rfl ((HO.out.alloc _).drew) wr.heap.size z rfl hcell hj12 hsz2 ?_; intro v' w' hown' hb')
        all_goals
          clear hcell hsz2
          go_wp2_with fail
          go_roundw
          case rel => exact ⟨j + 1, by omega, by go_num, own_snoc hown' (by rw [HPz.out]), ((HB.out.alloc HB.out.size _).drew).trans hb'⟩
          case measure => simp [intOf]; omega
      · obtain rfl : j = m := by omega
        go_wp2_with fail
        go_ret2
        exact ⟨u5, rfl, HO.out, HB.out⟩
  · have h2' : (s.size : Int).tmod 2 = 0 := by rw [Int.tmod_eq_emod_of_nonneg (by omega)]; omega
    obtain ⟨t, rfl⟩ : ∃ t, t = s := ⟨_, rfl⟩
    have HP2 := Lib.hid (show padded t = t by unfold padded; rw [if_neg h2])
    clear h2
    go_enter Tryd.func13, Tryd.ntmps13
    go_wp2_with (go_at_call 29; refine (texts_any _ _ (by unfold maxLen; omega)).mono ?_; rintro e w' ⟨rfl, rfl⟩; rw [HF.out])
    go_loopw [5, 6] (fun v c wr => ∃ j : Nat, j ≤ m ∧ c = .int .i64 (2 * j) ∧ wr.ownsRow w.heap.size 5 1 v j ((List.range j).map fun j => .int .u8 (PB j : Nat)) ∧ Below w.heap.size w wr) (fun _ c _ => 2 * m - (intOf c).toNat)
    case atStart => exact ⟨0, Nat.zero_le _, rfl, World.ownsRow_nil _ _ _ _, Below.refl _ _⟩
    case round =>
      obtain ⟨j, hj, rfl, hown, hb⟩ := hrel
      have HO := Lib.hid hown
      have HB := Lib.hid hb
      clear hown hb
      have hts : t.size = 2 * m := by rw [← HP2.out, HT.out]
      by_cases hlt : j < m
      · obtain ⟨q, eq1, hq⟩ : ∃ q : Nat, (2 : Int) * j = q ∧ q = 2 * j := ⟨2 * j, by omega, rfl⟩
        obtain ⟨q1, eq2, hq1⟩ : ∃ q1 : Nat, (q : Int) + 1 = q1 ∧ q1 = q + 1 := ⟨q + 1, by omega, rfl⟩
        have hqs : q < t.size := by omega
        have hqs1 : q1 < t.size := by omega
        have HTd2 := Lib.hid (show t.data.toList.all isDig = true by rw [← HP2.out]; exact HTd.out)
        obtain ⟨ha1, ha2⟩ := dig_at t q hqs HTd2.out
        obtain ⟨hb1, hb2⟩ := dig_at t q1 hqs1 HTd2.out
        obtain ⟨x, ex, hx⟩ : ∃ x : Nat, (t[q].toNat : Int) - 48 = x ∧ dg t q = x := ⟨t[q].toNat - 48, by omega, dg_eq t q hqs⟩
        obtain ⟨y, ey, hy⟩ : ∃ y : Nat, (t[q1].toNat : Int) - 48 = y ∧ dg t q1 = y := ⟨t[q1].toNat - 48, by omega, dg_eq t q1 hqs1⟩
        have HPj := Lib.hid (show PB j = 16 * x + y by rw [HPB.out j, HP2.out, ← hq, hx, ← hq1, hy])
        have hx9 : x ≤ 9 := by omega
        have hy9 : y ≤ 9 := by omega
        have hw1 : IntKind.i64.wrap (q1 : Int) = q1 := IntWalk.i64_in _ (by omega)
        have hw2 : IntKind.u8.wrap (x : Int) = x := IntWalk.u8_in _ (by omega)
        have hw3 : IntKind.u8.wrap (y : Int) = y := IntWalk.u8_in _ (by omega)
        obtain ⟨x16, ez, hz⟩ : ∃ z : Nat, IntKind.u8.wrap ((x : Int) * 16) = z ∧ z = x * 16 := ⟨x * 16, by rw [IntWalk.u8_in _ (by omega)]; omega, rfl⟩
        obtain ⟨z, ez2, hz2⟩ : ∃ z : Nat, IntKind.u8.wrap ((x16 : Int) + y) = z ∧ z = x16 + y := ⟨x16 + y, by rw [IntWalk.u8_in _ (by omega)]; omega, rfl⟩
        have HPz := Lib.hid (show PB j = z by rw [HPj.out]; omega)
        clear hq hq1 hx hy hts hz hz2
        go_wp2_with fail
        have hj12 : j ≤ 1000000000000 := by omega
        have hsz := HB.out.size
        have hcell : ((wr.alloc (.cells #[.int .u8 z] 5)).drew).cell? ⟨wr.heap.size, 0, none⟩ = some (.int .u8 z) := World.cell?_alloc_at _ _ _ _ rfl
        have hsz2 : w.heap.size ≤ ((wr.alloc (.cells #[.int .u8 z] 5)).drew).heap.size := by show _ ≤ (wr.heap.push _).size; simp; omega
        go_region_law (refine step_app8 rfl (.tmp 24) (.tmp 36) rfl w.heap.size _ j _ rfl ((HO.out.alloc _).drew) wr.heap.size z rfl hcell hj12 hsz2 ?_; intro v' w' hown' hb')
        all_goals
          clear hcell hsz2
          go_wp2_with fail
          go_roundw
          case rel => exact ⟨j + 1, by omega, by go_num, own_snoc hown' (by rw [HPz.out]), ((HB.out.alloc HB.out.size _).drew).trans hb'⟩
          case measure => simp [intOf]; omega
      · obtain rfl : j = m := by omega
        go_wp2_with fail
        go_ret2
        exact ⟨u5, rfl, HO.out, HB.out⟩

set_option maxHeartbeats 400000 in
theorem rpack_bad (s : ByteArray) (w : World) (hs : s.size ≤ maxLen) (hb : ¬ faultOf s.data.toList = 0) :
    Calls Tryd.prog 13 #[.string s] w fun e w' => e = .returned (.tuple #[.slice none 0 0, .int .i64 (faultOf s.data.toList)]) ∧ w = w' := by
  have hb' : (faultOf s.data.toList != 0) = true := by simpa using hb
  go_enter Tryd.func13, Tryd.ntmps13
  go_wp2_with (go_at_call 29; refine (texts_any _ _ hs).mono ?_; rintro e w' ⟨rfl, rfl⟩)
  go_ret2
  exact ⟨rfl, rfl⟩
end Go.Proofs.YtglajdedalikdaaDoor
