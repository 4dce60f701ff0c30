/- Contracts of package sha: a block is added. -/
import Derived.Test.YtogcfaijphpgfaaDoorShaQ
namespace Go.Proofs.YtogcfaijphpgfaaDoor
open Go.RowKit
theorem xor_max (e : Nat) (he : e < 4294967296) : 4294967295 ^^^ e = 4294967295 - e := by
  apply Nat.eq_of_testBit_eq
  intro i
  rw [Nat.testBit_xor, not_bit e i he, show (4294967295 : Nat) = 2 ^ 32 - 1 from rfl, Nat.testBit_two_pow_sub_one]
  by_cases h : i < 32
  · simp [h]
  · have h32 : 2 ^ 32 ≤ 2 ^ i := Nat.pow_le_pow_right (by decide) (by omega)
    have : e.testBit i = false := Nat.testBit_lt_two_pow (Nat.lt_of_lt_of_le he h32)
    simp [h, this]
theorem sizeU32 (w : World) : (sizeOf 44).run Tryd.prog w = .ok 1 w := by
  have h : (Tryd.prog.info? 44).map (·.size) = some 1 := by kernel_rfl
  cases hq : Tryd.prog.info? 44 with
  | none => rw [hq] at h; cases h
  | some i =>
    rw [hq] at h
    have hs : i.size = 1 := by simpa using h
    simp [sizeOf, typeInfo, hq, hs]
/-- a[k] of an array's value -/
theorem index_vals (t : TypeId) (n : Nat) (f : Nat → Value) (k : Nat) (hu : Tryd.prog.underlying t = some (.array n 44)) (hk : k < n) (w : World) :
    (Instr.index t (.agg (valsL n f).toArray) (.int .i64 (k : Nat))).run Tryd.prog w = .ok (f k) w := by
  have hz := sizeU32 w
  unfold Instr.index
  simp [asIntOf, Sem.run_bind, run_underlying hu w, hz, part]
  rw [if_pos hk, valsL_at hk]
  rfl
/-- the store of an array -/
theorem wpList_storeV {ops : Array Oper} {rest : List Oper} {op : Oper} {a : Act} {w : World} {Q : Exit → Act → World → Prop} (hgd : op.guard = none) (ty : TypeId) (x y : Operand) (ho : op.op = .store ty x y)
    (b o n : Nat) (f cur : Nat → Value) (hx : a.eval x = .pointer (some ⟨b, o, none⟩)) (hy : a.eval y = .agg (valsL n f).toArray) (hc : ArrV w b o n cur) (h1 : ∀ j, j < n → (f j).oneCell' = true) (hi : (Tryd.prog.info? ty).map (·.size) = some n)
    (h : ∀ w', ArrV w' b o n f → Chg b w w' → wpList Tryd.prog ops Q rest (a.put op.dst undef) w') : wpList Tryd.prog ops Q (op :: rest) a w := by
  refine wpList_store_mid hgd ty x y ho b o (valsL n f).toArray hx hy (hc.there' f) (by rw [List.size_toArray, valsL_length]; exact hi) (all_oneCell_toArray (vals_one h1)) ?_
  rw [List.toList_toArray]
  exact h _ (hc.setCells f) (Chg.setCells b (Or.inl rfl) _ _ w (Chg.refl _ _))
abbrev z64 : Array Value := #[.int .u32 0, .int .u32 0, .int .u32 0, .int .u32 0, .int .u32 0, .int .u32 0, .int .u32 0, .int .u32 0, .int .u32 0, .int .u32 0, .int .u32 0, .int .u32 0, .int .u32 0, .int .u32 0, .int .u32 0, .int .u32 0, .int .u32 0, .int .u32 0, .int .u32 0, .int .u32 0, .int .u32 0, .int .u32 0, .int .u32 0, .int .u32 0, .int .u32 0, .int .u32 0, .int .u32 0, .int .u32 0, .int .u32 0, .int .u32 0, .int .u32 0, .int .u32 0, .int .u32 0, .int .u32 0, .int .u32 0, .int .u32 0, .int .u32 0, .int .u32 0, .int .u32 0, .int .u32 0, .int .u32 0, .int .u32 0, .int .u32 0, .int .u32 0, .int .u32 0, .int .u32 0, .int .u32 0, .int .u32 0, .int .u32 0, .int .u32 0, .int .u32 0, .int .u32 0, .int .u32 0, .int .u32 0, .int .u32 0, .int .u32 0, .int .u32 0, .int .u32 0, .int .u32 0, .int .u32 0, .int .u32 0, .int .u32 0, .int .u32 0, .int .u32 0]
/-- a Hash's cells -/
def hv (s : S8) (b : Nat → Nat) (n : Nat) (j : Nat) : Value := if j < 8 then .int .u32 (at8 s j : Nat) else if j < 72 then .int .u8 (b (j - 8) : Nat) else .int .i64 (n : Nat)
theorem hv_state (s : S8) (b : Nat → Nat) (n j : Nat) (hj : j < 8) : hv s b n j = .int .u32 (at8 s j : Nat) := if_pos hj
theorem hv_block (s : S8) (b : Nat → Nat) (n j : Nat) (hj : j < 64) : hv s b n (8 + j) = .int .u8 (b j : Nat) := by
  unfold hv; rw [if_neg (by omega), if_pos (by omega), Nat.add_sub_cancel_left]
theorem hv_count (s : S8) (b : Nat → Nat) (n : Nat) : hv s b n 72 = .int .i64 (n : Nat) := rfl
theorem hv_arr {w : World} {g : Nat} {t : TypeId} {s : S8} {b : Nat → Nat} {n : Nat} (h : RowV w g t 73 (hv s b n)) : Arr w g 8 64 b := fun j hj => by
  have := h.arr (8 + j) (by omega)
  rw [Nat.zero_add, hv_block _ _ _ _ hj] at this
  exact this
theorem arrV_zero (w : World) : ArrV (w.alloc (.cells z64 76)) w.heap.size 0 64 (fun _ => .int .u32 0) := arrV_made w _ _ 64 _ rfl
/-- k of the eight words added -/
def hvp (s t : S8) (b : Nat → Nat) (n k : Nat) (j : Nat) : Value := if j < k then .int .u32 (at8 (add8 s t) j : Nat) else hv s b n j
theorem hvp_step (s t : S8) (b : Nat → Nat) (n k j : Nat) : (if j = k then Value.int .u32 (at8 (add8 s t) k : Nat) else hvp s t b n k j) = hvp s t b n (k + 1) j := by
  unfold hvp
  by_cases e : j = k
  · subst e; rw [if_pos rfl, if_pos (Nat.lt_succ_self _)]
  · rw [if_neg e]
    by_cases h : j < k
    · rw [if_pos h, if_pos (by omega)]
    · rw [if_neg h, if_neg (by omega)]
theorem hvp_all (s t : S8) (b : Nat → Nat) (n j : Nat) : hvp s t b n 8 j = hv (add8 s t) b n j := by
  unfold hvp
  by_cases h : j < 8
  · rw [if_pos h, hv_state _ _ _ _ h]
  · rw [if_neg h]; unfold hv; rw [if_neg h, if_neg h]
theorem eight_lit (T : S8) : (Value.agg #[.int .u32 (T.a : Nat), .int .u32 (T.b : Nat), .int .u32 (T.c : Nat), .int .u32 (T.d : Nat), .int .u32 (T.e : Nat), .int .u32 (T.f : Nat), .int .u32 (T.g : Nat), .int .u32 (T.h : Nat)]) = .agg (valsL 8 fun j => .int .u32 (at8 T j : Nat)).toArray := rfl
theorem index_eight (T : S8) (k : Nat) (hk : k < 8) (w : World) : (Instr.index 64 (.agg #[.int .u32 (T.a : Nat), .int .u32 (T.b : Nat), .int .u32 (T.c : Nat), .int .u32 (T.d : Nat), .int .u32 (T.e : Nat), .int .u32 (T.f : Nat), .int .u32 (T.g : Nat), .int .u32 (T.h : Nat)]) (.int .i64 (k : Nat))).run Tryd.prog w = .ok (.int .u32 (at8 T k : Nat)) w := by
  rw [eight_lit]
  exact index_vals 64 8 (fun j => .int .u32 (at8 T j : Nat)) k Tryd.underlying64 hk w
set_option maxRecDepth 100000 in
set_option maxHeartbeats 1600000 in
theorem add_any (g n : Nat) (s : S8) (b : Nat → Nat) (w : World) (hs : s.ok) (hb : By 64 b) (hr : RowV w g 66 73 (hv s b n)) (ht : GT w) (hg : 1 ≠ g ∧ 0 ≠ g) :
    Calls Tryd.prog 32 #[.pointer (some ⟨g, 0, none⟩)] w fun e w' => e = .returned (.tuple #[]) ∧ (RowV w' g 66 73 (hv (comp s b) b n) ∧ Chg g w w') := by
  have HR := Lib.hid hr
  have HY := Lib.hid hb
  have HT := Lib.hid ht
  have HG := Lib.hid hg
  have HS := Lib.hid hs
  clear hr hb ht hg hs
  go_enter Tryd.func32, Tryd.ntmps32
  go_wp2_with fail
  refine (stretch_any g b w HY.out (hv_arr HR.out)).mono ?_
  rintro e w1 ⟨rfl, h1⟩
  have HR1 := Lib.hid (HR.out.keep h1)
  have HT1 := Lib.hid (HT.out.keep h1)
  have HC1 := Lib.hid (Chg.of_below (K := g) h1)
  have HWL := Lib.hid (fun j (hj : j < 64) => wn_lt HY.out 48 j)
  clear h1
  obtain ⟨V, hV⟩ : ∃ V, (Value.agg (valsL 64 fun j => .int .u32 (wn b 48 j : Nat)).toArray) = V := ⟨_, rfl⟩
  rw [hV]
  have HV := Lib.hid hV
  clear hV
  have HA1 := Lib.hid (arrV_zero w1)
  go_wp2_with (refine wpList_storeV rfl 76 (.tmp 2) (.tmp 18) rfl w1.heap.size 0 64 _ _ rfl HV.out.symm HA1.out (fun _ _ => rfl) size64 ?_; intro w2 h1 h2; have HA2 := Lib.hid h1; have HC2 := Lib.hid h2; clear h1 h2)
  have hne : g ≠ w1.heap.size := Nat.ne_of_lt HR1.out.lt
  have HR2 := Lib.hid ((HR1.out.alloc (.cells z64 76)).chg HC2.out hne)
  have HT2 := Lib.hid ((HT1.out.alloc (.cells z64 76)).chg HC2.out ⟨Nat.ne_of_lt HT1.out.ltk, Nat.ne_of_lt HT1.out.lth⟩)
  have HC3 := Lib.hid ((HC1.out.alloc (.cells z64 76)).thenNew HC2.out HC1.out.size)
  have HRG := Lib.hid HA2.out.range
  have HN := Lib.hid hne
  clear HC2 HC1 HT1 HR1 HA1 HA2 HT HR hne
  generalize w1.heap.size = L at *
  clear w1
  have c0 : w2.cell? ⟨g, 0, none⟩ = some (.int .u32 (s.a : Nat)) := HR2.out.cell (i := 0) (by decide)
  have c1 : w2.cell? ⟨g, 1, none⟩ = some (.int .u32 (s.b : Nat)) := HR2.out.cell (i := 1) (by decide)
  have c2 : w2.cell? ⟨g, 2, none⟩ = some (.int .u32 (s.c : Nat)) := HR2.out.cell (i := 2) (by decide)
  have c3 : w2.cell? ⟨g, 3, none⟩ = some (.int .u32 (s.d : Nat)) := HR2.out.cell (i := 3) (by decide)
  go_quiet (fail)
  have HR3 := Lib.hid (HR2.out.drewN nq)
  have HT3 := Lib.hid (HT2.out.drewN nq)
  have HC4 := Lib.hid (HC3.out.drewN nq)
  have HRG3 := Lib.hid (show (w2.drewN nq).rangeAt L 0 _ from HRG.out)
  clear HR2 HT2 HC3 HRG c0 c1 c2 c3
  generalize w2.drewN nq = w3 at *
  have c0 : w3.cell? ⟨g, 4, none⟩ = some (.int .u32 (s.e : Nat)) := HR3.out.cell (i := 4) (by decide)
  have c1 : w3.cell? ⟨g, 5, none⟩ = some (.int .u32 (s.f : Nat)) := HR3.out.cell (i := 5) (by decide)
  have c2 : w3.cell? ⟨g, 6, none⟩ = some (.int .u32 (s.g : Nat)) := HR3.out.cell (i := 6) (by decide)
  have c3 : w3.cell? ⟨g, 7, none⟩ = some (.int .u32 (s.h : Nat)) := HR3.out.cell (i := 7) (by decide)
  go_wp2_with fail
  go_quiet (fail)
  have HR4 := Lib.hid (HR3.out.drewN nq)
  have HT4 := Lib.hid (HT3.out.drewN nq)
  have HC5 := Lib.hid (HC4.out.drewN nq)
  have HRG4 := Lib.hid (show (w3.drewN nq).rangeAt L 0 _ from HRG3.out)
  clear HR3 HT3 HC4 HRG3 c0 c1 c2 c3
  generalize w3.drewN nq = w4 at *
  go_wp2_with ((refine wpList_load_mid rfl 76 (.tmp 2) rfl L 0 rfl _ _ HRG4.out Tryd.underlying76 rfl (by rw [valsL_length]; exact size64) ?_); rw [HV.out])
  go_loopw [3, 4, 5, 6, 7, 8, 9, 10, 60] (fun va vb vc vd ve vf vg vh v wr => ∃ k : Nat, k ≤ 64 ∧ v = .int .i64 k ∧ va = .int .u32 ((rs (wn b 48) s k).a : Nat) ∧ vb = .int .u32 ((rs (wn b 48) s k).b : Nat) ∧ vc = .int .u32 ((rs (wn b 48) s k).c : Nat) ∧ vd = .int .u32 ((rs (wn b 48) s k).d : Nat) ∧
    ve = .int .u32 ((rs (wn b 48) s k).e : Nat) ∧ vf = .int .u32 ((rs (wn b 48) s k).f : Nat) ∧ vg = .int .u32 ((rs (wn b 48) s k).g : Nat) ∧ vh = .int .u32 ((rs (wn b 48) s k).h : Nat) ∧
    RowV wr g 66 73 (hv s b n) ∧ GT wr ∧ Chg g w wr) (fun _ _ _ _ _ _ _ _ v _ => 64 - (intOf v).toNat)
  case atStart => exact ⟨0, Nat.zero_le _, rfl, rfl, rfl, rfl, rfl, rfl, rfl, rfl, rfl, HR4.out, HT4.out, HC5.out⟩
  case round =>
    obtain ⟨k, hk, rfl, rfl, rfl, rfl, rfl, rfl, rfl, rfl, rfl, h1, h2, h3⟩ := hrel
    have H1 := Lib.hid h1
    have H2 := Lib.hid h2
    have H3 := Lib.hid h3
    clear h1 h2 h3 HR4 HT4 HC5 HRG4
    by_cases hlt : k < 64
    · have hsok := rs_ok (W := wn b 48) HS.out k
      have HXa := Lib.hid (show (rs (wn b 48) s (k + 1)).a = (((rs (wn b 48) s k).h + bs1 (rs (wn b 48) s k).e + chn (rs (wn b 48) s k).e (rs (wn b 48) s k).f (rs (wn b 48) s k).g + kc k + wn b 48 k) + (bs0 (rs (wn b 48) s k).a + maj (rs (wn b 48) s k).a (rs (wn b 48) s k).b (rs (wn b 48) s k).c)) % 4294967296 from rfl)
      have HXb := Lib.hid (show (rs (wn b 48) s (k + 1)).b = (rs (wn b 48) s k).a from rfl)
      have HXc := Lib.hid (show (rs (wn b 48) s (k + 1)).c = (rs (wn b 48) s k).b from rfl)
      have HXd := Lib.hid (show (rs (wn b 48) s (k + 1)).d = (rs (wn b 48) s k).c from rfl)
      have HXe := Lib.hid (show (rs (wn b 48) s (k + 1)).e = ((rs (wn b 48) s k).d + ((rs (wn b 48) s k).h + bs1 (rs (wn b 48) s k).e + chn (rs (wn b 48) s k).e (rs (wn b 48) s k).f (rs (wn b 48) s k).g + kc k + wn b 48 k)) % 4294967296 from rfl)
      have HXf := Lib.hid (show (rs (wn b 48) s (k + 1)).f = (rs (wn b 48) s k).e from rfl)
      have HXg := Lib.hid (show (rs (wn b 48) s (k + 1)).g = (rs (wn b 48) s k).f from rfl)
      have HXh := Lib.hid (show (rs (wn b 48) s (k + 1)).h = (rs (wn b 48) s k).g from rfl)
      have la := hsok.a
      have lb := hsok.b
      have lc' := hsok.c
      have ld := hsok.d
      have le := hsok.e
      have lf := hsok.f
      have lg := hsok.g
      have lh := hsok.h
      have lk := kc_lt k
      have lw := HWL.out k hlt
      have ck := H2.out.k k hlt
      have hix := index_vals 76 64 (fun j => .int .u32 (wn b 48 j : Nat)) k Tryd.underlying76 hlt
      rw [HV.out] at hix
      clear hsok
      generalize (rs (wn b 48) s k).a = xa at *
      generalize (rs (wn b 48) s k).b = xb at *
      generalize (rs (wn b 48) s k).c = xc at *
      generalize (rs (wn b 48) s k).d = xd at *
      generalize (rs (wn b 48) s k).e = xe at *
      generalize (rs (wn b 48) s k).f = xf at *
      generalize (rs (wn b 48) s k).g = xg at *
      generalize (rs (wn b 48) s k).h = xh at *
      generalize kc k = xk at *
      generalize wn b 48 k = xw at *
      have HTE := Lib.hid fun w => turn_any 6 11 25 xe w le (by decide) (by decide) (by decide) (by decide) (by decide) (by decide)
      have HTA := Lib.hid fun w => turn_any 2 13 22 xa w la (by decide) (by decide) (by decide) (by decide) (by decide) (by decide)
      rw [show (rr 6 xe ^^^ rr 11 xe) ^^^ rr 25 xe = bs1 xe from rfl] at HTE
      rw [show (rr 2 xa ^^^ rr 13 xa) ^^^ rr 22 xa = bs0 xa from rfl] at HTA
      have ls1 := bs1_lt le
      have ls0 := bs0_lt la
      have p1 := u32_and_nat xe xf le lf
      have p2 : bits BinOp.xor .u32 IntKind.u32.max (xe : Int) = ((4294967295 - xe : Nat) : Int) := (u32_xor_nat 4294967295 xe (by decide) le).trans (by rw [xor_max xe le])
      have hsg : IntKind.u32.signed = false := rfl
      have ln : 4294967295 - xe < 4294967296 := by omega
      have p3 := u32_and_nat (4294967295 - xe) xg ln lg
      have p4 : bits BinOp.xor .u32 ((xe &&& xf : Nat) : Int) ((4294967295 - xe &&& xg : Nat) : Int) = ((chn xe xf xg : Nat) : Int) := u32_xor_nat _ _ (and32' lf) (and32' lg)
      have lc := chn_lt (e := xe) lf lg
      have q1 := u32_and_nat xa xb la lb
      have q2 := u32_and_nat xa xc la lc'
      have q3 := u32_xor_nat _ _ (and32 (b := xb) la) (and32 (b := xc) la)
      have q4 := u32_and_nat xb xc lb lc'
      have q5 : bits BinOp.xor .u32 (((xa &&& xb) ^^^ (xa &&& xc) : Nat) : Int) ((xb &&& xc : Nat) : Int) = ((maj xa xb xc : Nat) : Int) := u32_xor_nat _ _ (xor32 (and32 la) (and32 la)) (and32 lb)
      have lm := maj_lt (c := xc) la lb
      generalize bs1 xe = s1 at *
      generalize bs0 xa = s0 at *
      generalize chn xe xf xg = cc at *
      generalize maj xa xb xc = mm at *
      generalize (xa &&& xb) ^^^ (xa &&& xc) = v1 at *
      generalize xe &&& xf = v2 at *
      generalize 4294967295 - xe &&& xg = v3 at *
      generalize 4294967295 - xe = v4 at *
      generalize xa &&& xb = v5 at *
      generalize xa &&& xc = v6 at *
      generalize xb &&& xc = v7 at *
      go_wp2_with fail
      go_quiet ((go_at_call 44; exact Calls.quiet_of_same (same_flip (HTE.out _))))
      obtain ⟨X, hX⟩ : ∃ X : Nat, (xh + s1 + cc + xk + xw) % 4294967296 = X := ⟨_, rfl⟩
      have hXi : (((xh : Int) + (s1 : Int) + (cc : Int) + (xk : Int)) % 4294967296 + (xw : Int)) % 4294967296 = (X : Int) := by omega
      have lX : X < 4294967296 := by omega
      rw [hXi]
      have HX := Lib.hid hX
      have K1 := Lib.hid (H1.out.drewN nq)
      have K2 := Lib.hid (H2.out.drewN nq)
      have K3 := Lib.hid (H3.out.drewN nq)
      clear hX hXi p1 p2 p3 p4 ck hix H1 H2 H3
      generalize wr.drewN nq = w5 at *
      go_wp2_with fail
      refine (HTA.out _).mono ?_
      rintro e w6 ⟨rfl, rfl⟩
      go_wp2_with fail
      go_roundw
      case rel => exact ⟨k + 1, by omega, by go_num, by
        rw [HXa.out]; exact congrArg _ (by have := HX.out; omega), by rw [HXb.out], by rw [HXc.out], by rw [HXd.out], by
        rw [HXe.out]; exact congrArg _ (by have := HX.out; omega), by rw [HXf.out], by rw [HXg.out], by rw [HXh.out], K1.out, K2.out, K3.out⟩
      case measure => simp [intOf]; omega
    · obtain rfl : k = 64 := by omega
      have HE := Lib.hid (show comp s b = add8 s (rs (wn b 48) s 64) from rfl)
      have TOK := Lib.hid (rs_ok (W := wn b 48) HS.out 64)
      generalize rs (wn b 48) s 64 = T at *
      have HR5 := Lib.hid (H1.out.congr (f := hvp s T b n 0) fun j _ => (if_neg (Nat.not_lt_zero j)).symm)
      clear H1 H2
      rw [show ((64 : Nat) : Int) = 64 from rfl]
      go_wp2_with fail
      go_loopw [119] (fun v wx => ∃ k : Nat, k ≤ 8 ∧ v = .int .i64 k ∧ RowV wx g 66 73 (hvp s T b n k) ∧ Chg g w wx) (fun v _ => 8 - (intOf v).toNat)
      case atStart => exact ⟨0, Nat.zero_le _, rfl, HR5.out, H3.out⟩
      case round =>
        obtain ⟨k, hk, rfl, h1, h2⟩ := hrel
        have H1 := Lib.hid h1
        have H2 := Lib.hid h2
        clear h1 h2 HR5 H3
        by_cases hlt : k < 8
        · have hix := index_eight T k hlt
          have hc := H1.out.cell (i := k) (by omega)
          have hf := H1.out.frozen (i := k) (by omega)
          rw [show hvp s T b n k k = .int .u32 (at8 s k : Nat) by unfold hvp; rw [if_neg (Nat.lt_irrefl k), hv_state _ _ _ _ hlt]] at hc
          have l1 := at8_lt HS.out k
          have l2 := at8_lt TOK.out k
          have HA := Lib.hid (at8_add s T k hlt)
          generalize at8 s k = y1 at *
          generalize at8 T k = y2 at *
          go_wp2_with fail
          go_region
          have hval : ((y1 : Int) + (y2 : Int)) % 4294967296 = (((y1 + y2) % 4294967296 : Nat) : Int) := by omega
          rw [hval, ← HA.out]
          have K1 := Lib.hid ((H1.out.set k (.int .u32 (at8 (add8 s T) k : Nat))).drew)
          have K2 := Lib.hid ((H2.out.setCell (a := ⟨g, k, none⟩) (Or.inl rfl) (.int .u32 (at8 (add8 s T) k : Nat))).drew)
          clear hval hc hf
          generalize (wr.setCell ⟨g, k, none⟩ (.int .u32 (at8 (add8 s T) k : Nat))).drew = w6 at *
          go_wp2_with fail
          go_roundw
          case rel => exact ⟨k + 1, by omega, by go_num, K1.out.congr fun j _ => hvp_step s T b n k j, K2.out⟩
          case measure => simp [intOf]; omega
        · obtain rfl : k = 8 := by omega
          go_wp2_with fail
          go_end0
          refine ⟨rfl, ?_, H2.out⟩
          rw [HE.out]
          exact H1.out.congr fun j _ => hvp_all s T b n j
end Go.Proofs.YtogcfaijphpgfaaDoor
