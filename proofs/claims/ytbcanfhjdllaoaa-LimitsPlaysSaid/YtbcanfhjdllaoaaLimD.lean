/- Layer 16, the code: slices.IndexFunc with put's own function, slices.Delete of one use. -/
import Derived.Test.YtbcanfhjdllaoaaLimF
import Derived.Deep.RegionLaw
import Derived.Laws.CopyOwn
namespace Go.Proofs.Ytbcanfhjdllaoaa
set_option maxRecDepth 100000
open Go.RowKit
theorem put1_16 (c : ByteArray) (W' n s W : Int) (H : Nat) (w : World) (hc : w.cell? ⟨H, 1, none⟩ = some (.int .i64 W)) :
    Calls Try.prog 36 #[.agg #[.string c, .int .i64 W', .int .i64 n, .int .i64 s], .pointer (some ⟨H, 0, none⟩)] w fun e w' => e = .returned (.bool (decide (W' ≠ W))) ∧ Below w.heap.size w w' := by
  have hg := block_lt hc
  have hc2 : (w.alloc (.cells #[.string c, .int .i64 W', .int .i64 n, .int .i64 s] 31)).cell? ⟨H, 1, none⟩ = some (.int .i64 W) := ((alloc_below w _).cell (p := ⟨H, 1, none⟩) hg).trans hc
  have e : decide (W' ≠ W) = (W' != W) := by rw [Bool.eq_iff_iff]; simp
  rw [e]
  go_enter Try.func36, Try.ntmps36
  go_wp2_with fail
  go_ret
  exact ⟨rfl, alloc_below _ _⟩
/-- where the first use of another window stands -/
def IdxP (F : List Us) (W : Int) (i : Int) : Prop := (i = -1 ∧ ∀ j (h : j < F.length), F[j].w = W) ∨ ∃ (k : Nat) (hk : k < F.length), i = (k : Int) ∧ F[k].w ≠ W ∧ ∀ j (h : j < F.length), j < k → F[j].w = W
set_option maxHeartbeats 1600000 in
theorem index16_any (A : Option Addr) (c : Nat) (F : List Us) (W : Int) (H : Nat) (w : World) (hF : LiS usE w A F) (hc : w.cell? ⟨H, 1, none⟩ = some (.int .i64 W)) (hl : F.length ≤ 140737488355328) :
    Calls Try.prog 35 #[.slice A F.length c, .func (.func 36) #[] #[.pointer (some ⟨H, 0, none⟩)]] w fun e w' => ∃ i, e = .returned (.int .i64 i) ∧ IdxP F W i ∧ Below w.heap.size w w' := by
  have HF := Lib.hid hF
  have HC := Lib.hid hc
  have HG := Lib.hid (block_lt hc)
  clear hF hc
  go_enter Try.func35, Try.ntmps35
  go_wp2_with fail
  go_loopw [8] (fun i wr => ∃ k : Nat, k ≤ F.length ∧ i = .int .i64 k ∧ (∀ j (h : j < F.length), j < k → F[j].w = W) ∧ Below w.heap.size w wr) (fun i _ => F.length - (intOf i).toNat)
  case atStart => exact ⟨0, Nat.zero_le _, rfl, fun j _ hj => absurd hj (Nat.not_lt_zero j), Below.refl _ _⟩
  case round =>
    obtain ⟨k, hk, rfl, hr, hb⟩ := hrel
    have HB := Lib.hid hb
    have HR := Lib.hid hr
    clear hr hb
    by_cases hlt : k < F.length
    · have hki : (k : Int) < F.length := by omega
      obtain ⟨B, o, rfl, hB, c1, c2, c3, c4⟩ := us_at (HF.out.keep HB.out) hlt
      have HP := Lib.hid (put1_16 F[k].c F[k].w F[k].n F[k].s W H wr ((HB.out.cell (p := ⟨H, 1, none⟩) HG.out).trans HC.out))
      have HX := Lib.hid (show decide (F[k].w ≠ W) = true → IdxP F W (k : Int) from fun h => Or.inr ⟨k, hlt, rfl, of_decide_eq_true h, HR.out⟩)
      have HY := Lib.hid (show decide (F[k].w ≠ W) = false → ∀ j (h : j < F.length), j < k + 1 → F[j].w = W from fun h j hj hjk => by
        rcases Nat.lt_or_ge j k with h1 | h1
        · exact HR.out j hj h1
        · obtain rfl : j = k := by omega
          have := of_decide_eq_false h
          exact Classical.byContradiction this)
      generalize decide (F[k].w ≠ W) = b at *
      generalize F[k] = x at *
      cases b with
      | true =>
        have HX2 := Lib.hid (HX.out rfl)
        clear HX HY
        go_wp2_with (go_at_call 36; refine HP.out.mono ?_; rintro e w2 ⟨rfl, hb2⟩)
        go_ret
        exact ⟨_, rfl, HX2.out, HB.out.trans (hb2.mono HB.out.size)⟩
      | false =>
        have HX2 := Lib.hid (HY.out rfl)
        clear HX HY
        go_wp2_with (go_at_call 36; refine HP.out.mono ?_; rintro e w2 ⟨rfl, hb2⟩)
        go_roundw
        case rel => exact ⟨k + 1, by omega, by go_num, HX2.out, HB.out.trans (hb2.mono HB.out.size)⟩
        case measure => simp [intOf]; omega
    · obtain rfl : k = F.length := by omega
      have HX := Lib.hid (show IdxP F W (-1) from Or.inl ⟨rfl, fun j hj => HR.out j hj hj⟩)
      go_wp2_with fail
      go_ret
      exact ⟨_, rfl, HX.out, HB.out⟩
/-- append, one step of a region that draws, where its run is known -/
theorem step_runL {ops : Array Oper} {o : Oper} {a : Act} {w : World} {K : Act → World → Prop} {Q : Exit → Act → World → Prop} {E : Prop} (hgd : o.guard = none) (s x : Operand) (S : TypeId)
    (ho : o.op = .call { callee := .builtin .append, args := #[s, x], argTypes := #[S, S] }) {v u v' : Value} {w' : World} (hs : a.eval s = v) (hx : a.eval x = u)
    (hr : (Builtin.append_ #[S, S] o.type #[v, u]).run Try.prog w = .ok v' w') (h : K (a.put o.dst v') w') : if Region.wanted o (yielded ops a.tmps) = true then Oper.wp Try.prog o a w K Q else E := by
  have hw : Region.wanted o (yielded ops a.tmps) = true := by simp [Region.wanted, hgd]
  rw [if_pos hw]
  unfold Oper.wp
  simp [execOp, ho, resolve, invoke, builtin, hs, hx, hr, Result.andThen]
  exact h
abbrev zU : List Value := [.string ⟨#[]⟩, .int .i64 0, .int .i64 0, .int .i64 0]
theorem run_clear1 (ty : TypeId) (w : World) (g o c : Nat) (cur : List Value) (hg : w.heap[g]? = some (.cells cur.toArray 31 (0, 0))) (hfit : o + 4 ≤ cur.length) :
    (Builtin.clear_ #[22] ty #[.slice (some ⟨g, o, none⟩) 1 c]).run Try.prog w = .ok (.tuple #[]) (w.setRow g (cur.take o ++ zU ++ cur.drop (o + 4)).toArray) := by
  have hz := Try.zeroValue31
  have hzc : (Builtin.zeroCells (Value.agg #[.string ⟨#[]⟩, .int .i64 0, .int .i64 0, .int .i64 0]).cells 1).toList = zU := by kernel_rfl
  have hst := run_storeCells_at Try.prog g o 31 zU 0 cur.toArray w hg (by simpa using hfit) (fun v hv => by
    rcases List.mem_cons.1 hv with rfl | hv
    · rfl
    rcases List.mem_cons.1 hv with rfl | hv
    · rfl
    rcases List.mem_cons.1 hv with rfl | hv
    · rfl
    rcases List.mem_cons.1 hv with rfl | hv
    · rfl
    · cases hv)
  simp only [Nat.add_zero] at hst
  simp [Builtin.clear_, run_underlying Try.underlying22, hz, hzc, hst]
/-- what a row holds behind one that is taken out -/
theorem del_list (C : List Value) (k n cap : Nat) (hk : k < n) (hn : n ≤ cap) (hC : C.length = cap * 4) :
    ((C.take (k * 4) ++ (C.take (n * 4)).drop ((k + 1) * 4) ++ C.drop (k * 4 + (n - (k + 1)) * 4)).take ((n - 1) * 4) ++ zU ++ (C.take (k * 4) ++ (C.take (n * 4)).drop ((k + 1) * 4) ++ C.drop (k * 4 + (n - (k + 1)) * 4)).drop ((n - 1) * 4 + 4)).take ((n - 1) * 4) = (C.take (n * 4)).take (k * 4) ++ (C.take (n * 4)).drop (k * 4 + 4) := by
  have e1 : (C.take (k * 4)).length = k * 4 := by rw [List.length_take]; omega
  have e2 : ((C.take (n * 4)).drop ((k + 1) * 4)).length = (n - (k + 1)) * 4 := by rw [List.length_drop, List.length_take]; omega
  have e3 : (C.take (k * 4) ++ (C.take (n * 4)).drop ((k + 1) * 4)).length = (n - 1) * 4 := by rw [List.length_append, e1, e2]; omega
  rw [List.append_assoc, List.take_append_of_le_length (by rw [List.length_take, List.length_append, e3]; omega), List.take_take, Nat.min_self, List.take_append_of_le_length (by rw [e3]; exact Nat.le_refl _), List.take_of_length_le (by rw [e3]; exact Nat.le_refl _), List.take_take, Nat.min_eq_left (by omega), show (k + 1) * 4 = k * 4 + 4 by omega]
set_option maxHeartbeats 1600000 in
theorem delete16_any (w : World) (base g cap : Nat) (F : List Us) (k : Nat) (hk : k < F.length) (hown : OwL usE 31 w base (.slice (some ⟨g, 0, none⟩) F.length cap) F) :
    Calls Try.prog 37 #[.slice (some ⟨g, 0, none⟩) F.length cap, .int .i64 (k : Int), .int .i64 ((k : Int) + 1)] w fun e w' =>
      e = .returned (.slice (some ⟨g, 0, none⟩) (F.length - 1) cap) ∧ OwL usE 31 w' base (.slice (some ⟨g, 0, none⟩) (F.length - 1) cap) (F.take k ++ F.drop (k + 1)) ∧ Chg g w w' := by
  obtain ⟨i, hi, _, hsz, _⟩ := info_parts usTy.info
  rcases hown.2 with ⟨hv, _⟩ | ⟨g', cap', cur, hv, hg, hh, h1, h2, h3, h4⟩
  · cases hv
  injection hv with hv1 hv2 hv3
  injection hv1 with hv1
  injection hv1 with hv1
  subst hv1 hv3
  obtain ⟨C, hCd⟩ : ∃ C, C = cur.toList := ⟨_, rfl⟩
  have hh' : w.heap[g]? = some (.cells C.toArray 31 (0, 0)) := by rw [hh, hCd]
  rw [← hCd] at h4
  have hC : C.length = cap * 4 := by rw [hCd, Array.length_toList]; exact h3
  have hfl := fl_out F hk
  have hln : (F.take k ++ F.drop (k + 1)).length = F.length - 1 := by rw [List.length_append, List.length_take, List.length_drop]; omega
  have hdl := del_list C k F.length cap hk h1 hC
  have h4' : C.take (F.length * 4) = usE.fl F := h4
  rw [h4', ← hfl] at hdl
  have hone : ∀ x ∈ (usE.fl F).drop ((k + 1) * 4), x.oneCell' = true := fun x hx => Enc.fl_one F x (List.mem_of_mem_drop hx)
  have hnl : ((usE.fl F).drop ((k + 1) * 4)).length = (F.length - (k + 1)) * 4 := by rw [List.length_drop, Enc.fl_len]; show F.length * 4 - _ = _; omega
  have hnc : ∀ (j : Nat) x, ((usE.fl F).drop ((k + 1) * 4))[j]? = some x → w.cell? ⟨g, (k + 1) * 4 + j, none⟩ = some x := fun j x hx => by
    rw [← h4', List.getElem?_drop, List.getElem?_take] at hx
    split at hx
    · exact (cell_of_row w g _ C.toArray 31 (0, 0) hh').trans (by rw [List.getElem?_toArray]; exact hx)
    · cases hx
  generalize (usE.fl F).drop ((k + 1) * 4) = news at *
  generalize F.take k ++ F.drop (k + 1) = F' at *
  clear hv2
  generalize hn : F.length = n at *
  obtain ⟨m, rfl⟩ : ∃ m, n = m + 1 := ⟨n - 1, by omega⟩
  have hnl' : news.length = (m - k) * 4 := by rw [hnl]; omega
  have run1 : ∀ (A : Addr) (c1 : Nat) ty, (∀ j x, news[j]? = some x → w.cell? (A.add j) = some x) → (Builtin.append_ #[22, 22] ty #[.slice (some ⟨g, 0, none⟩) k cap, .slice (some A) (m - k) c1]).run Try.prog w.drew =
      .ok (.slice (some ⟨g, 0, none⟩) m cap) (w.drew.setRow g (C.take (k * 4) ++ news ++ C.drop (k * 4 + (m + 1 - (k + 1)) * 4)).toArray) := fun A c1 ty hA => by
    have r := run_append_room (P := Try.prog) w.drew 22 ty 31 i usTy.und hi g k cap C.toArray hh' A (m - k) c1 news (by rw [hsz]; exact hnl') hA hone (by omega) (by rw [hsz, hnl']; show k * 4 + _ ≤ _; rw [List.size_toArray, hC]; omega)
    rw [hsz] at r
    have e1 : k + (m - k) = m := by omega
    have e2 : usE.k = 4 := rfl
    rw [e1, e2, hnl', List.toList_toArray] at r
    rw [show m + 1 - (k + 1) = m - k by omega]
    exact r
  obtain ⟨C1, hC1⟩ : ∃ C1, C1 = C.take (k * 4) ++ news ++ C.drop (k * 4 + (m + 1 - (k + 1)) * 4) := ⟨_, rfl⟩
  rw [← hC1] at run1 hdl
  have hC1l : C1.length = cap * 4 := by rw [hC1, List.length_append, List.length_append, List.length_take, List.length_drop, hnl', hC]; omega
  have hrow1 : (w.drew.setRow g C1.toArray).heap[g]? = some (.cells C1.toArray 31 (0, 0)) := setRow_heap w.drew g _ _ _ _ hh'
  have hchg1 : Chg g w (w.drew.setRow g C1.toArray) := ⟨rfl, rfl, rfl, by simp, fun j _ hj => setRow_other w.drew g j _ hj⟩
  generalize w.drew.setRow g C1.toArray = W1 at *
  have hr2 : ∀ ty, (Builtin.clear_ #[22] ty #[.slice (some ⟨g, m * 4, none⟩) 1 (cap - m)]).run Try.prog W1 = .ok (.tuple #[]) (W1.setRow g (C1.take (m * 4) ++ zU ++ C1.drop (m * 4 + 4)).toArray) := fun ty => run_clear1 ty W1 g (m * 4) (cap - m) C1 hrow1 (by omega)
  have hrow2 : (W1.setRow g (C1.take (m * 4) ++ zU ++ C1.drop (m * 4 + 4)).toArray).heap[g]? = some (.cells (C1.take (m * 4) ++ zU ++ C1.drop (m * 4 + 4)).toArray 31 (0, 0)) := setRow_heap W1 g _ _ _ _ hrow1
  have hchg2 : Chg g w (W1.setRow g (C1.take (m * 4) ++ zU ++ C1.drop (m * 4 + 4)).toArray) := hchg1.trans ⟨rfl, rfl, rfl, by simp, fun j _ hj => setRow_other W1 g j _ hj⟩
  have HEND := Lib.hid (show OwL usE 31 (W1.setRow g (C1.take (m * 4) ++ zU ++ C1.drop (m * 4 + 4)).toArray) base (.slice (some ⟨g, 0, none⟩) m cap) F' from by
    have e0 : m + 1 - 1 = m := rfl
    rw [e0] at hln hdl
    refine ⟨by rw [Enc.fl_len], Or.inr ⟨g, cap, _, by rw [hln], hg, hrow2, by omega, h2, ?_, ?_⟩⟩
    · rw [List.size_toArray, List.length_append, List.length_append, List.length_take, List.length_drop, hC1l]; show _ + 4 + _ = cap * 4; omega
    · rw [List.toList_toArray, hln]; exact hdl)
  have HCH := Lib.hid hchg2
  have HR2 := Lib.hid hr2
  generalize W1.setRow g (C1.take (m * 4) ++ zU ++ C1.drop (m * 4 + 4)).toArray = W2 at *
  have HR1 := Lib.hid run1
  have HNC := Lib.hid hnc
  have HNL := Lib.hid hnl'
  clear run1 hr2 hrow1 hrow2 hchg1 hchg2 hC1l hC1 hnc hnl hnl' hone hdl h4' h4 hln hfl hC hh' hh hCd h3 hown hi hsz
  have q1 : ((k : Int) == (k : Int) + 1) = false := by simp; omega
  have q2 : (k : Int) + 1 ≤ ((m + 1 : Nat) : Int) := by omega
  have q3 : (0 : Int) ≤ (k : Int) + 1 := by omega
  have q4 : ((k : Int) + 1).toNat = k + 1 := by omega
  have q5 : m + 1 - (k + 1) = m - k := by omega
  have q6 : k ≤ cap := by omega
  have q7 : (k : Int) + 1 ≤ (m : Int) + 1 := by omega
  have q8 : ¬ cap = m := by omega
  have q9 : m ≤ cap := by omega
  have q10 : k ≤ m := by omega
  clear hn hg h2
  by_cases hcc : cap = k + 1
  · obtain rfl : m = k := by omega
    subst hcc
    have hr1 := fun ty => HR1.out ⟨g, 0, none⟩ 0 ty (fun j x hx => by
      have := HNL.out
      rw [Nat.sub_self, Nat.zero_mul] at this
      rw [List.eq_nil_of_length_eq_zero this] at hx
      cases hx)
    rw [Nat.sub_self] at hr1
    have q11 : (m : Int) ≤ (m : Int) + 1 := by omega
    clear HR1 HNC HNL
    go_enter Try.func37, Try.ntmps37
    go_wp2_with fail
    go_region_law (refine step_runL rfl (.tmp 22) (.tmp 25) _ rfl rfl rfl (hr1 _) ?_)
    clear hr1
    have hr2 := HR2.out
    rw [show m + 1 - m = 1 by omega] at hr2
    go_wp2_with (simp only [hr2])
    go_ret
    exact ⟨rfl, HEND.out, HCH.out⟩
  · go_enter Try.func37, Try.ntmps37
    go_wp2_with fail
    have hr1 := fun ty => HR1.out ⟨g, (k + 1) * 4, none⟩ (cap - (k + 1)) ty (fun j x hx => by rw [Go.WideShapes.add_plain]; exact HNC.out j x hx)
    clear HR1 HNC HNL
    go_region_law (refine step_runL rfl (.tmp 22) (.tmp 25) _ rfl rfl rfl (hr1 _) ?_)
    clear hr1
    have hr2 := HR2.out
    go_wp2_with (simp only [hr2])
    go_ret
    exact ⟨rfl, HEND.out, HCH.out⟩
end Go.Proofs.Ytbcanfhjdllaoaa
