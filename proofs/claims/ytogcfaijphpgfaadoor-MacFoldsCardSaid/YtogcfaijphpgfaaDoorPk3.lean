/- 8 texts in one, in their order. -/
import Derived.Test.YtogcfaijphpgfaaDoorPk2
import Derived.Laws.CopyOwn
/- The reference: a step. -/
namespace Go.Proofs.YtogcfaijphpgfaaDoor
open Go.RowKit
/-- append of a row of ints to an own row that is empty -/
theorem wpList_appNI {ops : Array Oper} {rest : List Oper} {o : Oper} {a : Act} {Q : Exit → Act → World → Prop} {w : World} (hgd : o.guard = none) (s x : Operand)
    (ho : o.op = .call { callee := .builtin .append, args := #[s, x], argTypes := #[68, 68] })
    (base : Nat) (v : Value) (f : Nat → Nat) (hs : a.eval s = v) (hown : OwnI w base v 0 f)
    (g m c : Nat) (hx : a.eval x = .slice (some ⟨g, 0, none⟩) m c) (hc : ArrV w g 0 m (ints f)) (hn : m ≤ 1000000000000) (hbase : base ≤ w.heap.size)
    (h : ∀ v' w', OwnI w' base v' m f → Below base w w' → wpList Tryd.prog ops Q rest (a.put o.dst v') w') : wpList Tryd.prog ops Q (o :: rest) a w := by
  obtain ⟨i, hi, hz, hsz, hb⟩ := info_parts infoI
  refine wpList_append_own w hgd s x 68 ho base 3 i (.int .i64 0) 1 8 Tryd.underlying68 hi hz hsz hb rfl (by decide) v 0 _ hs hown ⟨g, 0, none⟩ m c (valsL m (ints f)) hx (by simp [valsL]) ?_ ?_ (by unfold maxLen; omega) (by omega) hbase ?_
  · intro j u hj
    obtain ⟨hjm, rfl⟩ := valsL_get hj
    rw [Go.WideShapes.add_plain]
    exact (hc j hjm).1
  · exact vals_one fun _ _ => rfl
  · intro v' w' h1 h2 _
    rw [Nat.zero_add, show valsL 0 (ints f) ++ valsL m (ints f) = valsL m (ints f) from rfl] at h1
    exact h v' w' h1 ((Below.refl base w).grown h2 hbase fun k hk => (hown.lt k hk).1)
theorem own_emptyI (w : World) (base : Nat) (f : Nat → Nat) (hb : base ≤ w.heap.size) : OwnI (w.alloc (.cells #[] 3)) base (.slice (some ⟨w.heap.size, 0, none⟩) 0 0) 0 f :=
  World.ownsRow_made w #[] 0 hb (by unfold maxLen; omega) rfl
/-- what a step reads -/
structure StepMem (w0 w : World) (gs gh gw gk : Nat) (s h : S8) (W : Nat → Nat) : Prop where
  st : ArrV w gs 0 8 (ints (at8 s))
  hh : ArrV w gh 0 8 (ints (at8 h))
  ww : ArrV w gw 0 64 (ints W)
  kk : ArrV w gk 0 64 (ints kc)
  bl : Below w0.heap.size w0 w
theorem StepMem.drewN {w0 w : World} {gs gh gw gk : Nat} {s h : S8} {W : Nat → Nat} (m : StepMem w0 w gs gh gw gk s h W) (n : Nat) : StepMem w0 (w.drewN n) gs gh gw gk s h W := ⟨m.st, m.hh, m.ww, m.kk, drawn m.bl n⟩
theorem step_new (w : World) (a b c d e f g h : Nat) (s : S8) (ha : a = s.a) (hb : s.b = b) (hc : s.c = c) (hd : s.d = d) (he : e = s.e) (hf : s.f = f) (hg : s.g = g) (hh : s.h = h) :
    ArrV (w.alloc (.cells #[.int .i64 (a : Nat), .int .i64 (b : Nat), .int .i64 (c : Nat), .int .i64 (d : Nat), .int .i64 (e : Nat), .int .i64 (f : Nat), .int .i64 (g : Nat), .int .i64 (h : Nat)] 3)) w.heap.size 0 8 (ints (at8 s)) := by
  subst ha hb hc hd he hf hg hh
  exact arrV_new rfl rfl
set_option maxRecDepth 100000 in
set_option maxHeartbeats 3200000 in
theorem step_any (gh ch gw cw gk ck : Nat) (s : S8) (W : Nat → Nat) (w : World) (hs : s.ok) (hW : ∀ j, j < 64 → W j < 4294967296) (h1 : ArrV w gh 0 8 (ints (at8 s))) (h2 : ArrV w gw 0 64 (ints W)) (h3 : ArrV w gk 0 64 (ints kc)) :
    Calls Tryd.prog 37 #[.slice (some ⟨gh, 0, none⟩) 8 ch, .slice (some ⟨gw, 0, none⟩) 64 cw, .slice (some ⟨gk, 0, none⟩) 64 ck] w fun e w' => ∃ g c, e = .returned (.slice (some ⟨g, 0, none⟩) 8 c) ∧ ArrV w' g 0 8 (ints (at8 (add8 s (rs W s 64)))) ∧ Below w.heap.size w w' := by
  have HS := Lib.hid hs
  have HWL := Lib.hid hW
  have HH := Lib.hid h1
  have HWA := Lib.hid h2
  have HK := Lib.hid h3
  clear hs hW h1 h2 h3
  have HE := Lib.hid (own_emptyI w w.heap.size (at8 s) (Nat.le_refl _))
  have HHa := Lib.hid (HH.out.alloc (.cells #[] 3))
  have HBa := Lib.hid ((Below.refl w.heap.size w).alloc (Nat.le_refl _) (.cells #[] 3))
  go_enter Tryd.func37, Tryd.ntmps37
  go_wp2_with (refine wpList_appNI rfl (.tmp 17) (.tmp 18) rfl w.heap.size _ (at8 s) rfl HE.out gh 8 ch rfl HHa.out (by decide) HBa.out.size ?_; intro v1 w1 h1 h2; obtain ⟨A1, c1, rfl, _, _, hr, _⟩ := h1.slice; obtain ⟨gs1, rfl, _, hr⟩ := hr (by decide); have HM1 := Lib.hid (show StepMem w w1 gs1 gh gw gk s s W from ⟨hr, HH.out.keep (HBa.out.trans h2), HWA.out.keep (HBa.out.trans h2), HK.out.keep (HBa.out.trans h2), HBa.out.trans h2⟩); clear hr h1 h2)
  clear HE HHa HBa HH HWA HK
  go_loopw [7, 8] (fun v t wr => ∃ (k gs cs : Nat), k ≤ 64 ∧ t = .int .i64 k ∧ v = .slice (some ⟨gs, 0, none⟩) 8 cs ∧ StepMem w wr gs gh gw gk (rs W s k) s W) (fun _ t _ => 64 - (intOf t).toNat)
  case atStart => exact ⟨0, gs1, c1, Nat.zero_le _, rfl, rfl, HM1.out⟩
  case round =>
    obtain ⟨k, gs, cs, hk, rfl, rfl, hm⟩ := hrel
    have H1 := Lib.hid hm
    clear hm HM1
    by_cases hlt : k < 64
    · have hsok := rs_ok (W := W) HS.out k
      have HXa := Lib.hid (show (rs W s (k + 1)).a = (((rs W s k).h + bs1 (rs W s k).e + chn (rs W s k).e (rs W s k).f (rs W s k).g + kc k + W k) + (bs0 (rs W s k).a + maj (rs W s k).a (rs W s k).b (rs W s k).c)) % 4294967296 from rfl)
      have HXb := Lib.hid (show (rs W s (k + 1)).b = (rs W s k).a from rfl)
      have HXc := Lib.hid (show (rs W s (k + 1)).c = (rs W s k).b from rfl)
      have HXd := Lib.hid (show (rs W s (k + 1)).d = (rs W s k).c from rfl)
      have HXe := Lib.hid (show (rs W s (k + 1)).e = ((rs W s k).d + ((rs W s k).h + bs1 (rs W s k).e + chn (rs W s k).e (rs W s k).f (rs W s k).g + kc k + W k)) % 4294967296 from rfl)
      have HXf := Lib.hid (show (rs W s (k + 1)).f = (rs W s k).e from rfl)
      have HXg := Lib.hid (show (rs W s (k + 1)).g = (rs W s k).f from rfl)
      have HXh := Lib.hid (show (rs W s (k + 1)).h = (rs W s k).g from rfl)
      have la' := hsok.a
      have lb' := hsok.b
      have lc' := hsok.c
      have ld' := hsok.d
      have le' := hsok.e
      have lf' := hsok.f
      have lg' := hsok.g
      have lh' := hsok.h
      have lk := kc_lt k
      have lw := HWL.out k hlt
      clear hsok
      have HCa := Lib.hid (show ∀ w', StepMem w w' gs gh gw gk (rs W s k) s W → w'.cell? ⟨gs, 0, none⟩ = some (.int .i64 ((rs W s k).a : Nat)) from fun w' m => m.st.cell (j := 0) (by decide) rfl)
      have HCb := Lib.hid (show ∀ w', StepMem w w' gs gh gw gk (rs W s k) s W → w'.cell? ⟨gs, 1, none⟩ = some (.int .i64 ((rs W s k).b : Nat)) from fun w' m => m.st.cell (j := 1) (by decide) rfl)
      have HCc := Lib.hid (show ∀ w', StepMem w w' gs gh gw gk (rs W s k) s W → w'.cell? ⟨gs, 2, none⟩ = some (.int .i64 ((rs W s k).c : Nat)) from fun w' m => m.st.cell (j := 2) (by decide) rfl)
      have HCd := Lib.hid (show ∀ w', StepMem w w' gs gh gw gk (rs W s k) s W → w'.cell? ⟨gs, 3, none⟩ = some (.int .i64 ((rs W s k).d : Nat)) from fun w' m => m.st.cell (j := 3) (by decide) rfl)
      have HCe := Lib.hid (show ∀ w', StepMem w w' gs gh gw gk (rs W s k) s W → w'.cell? ⟨gs, 4, none⟩ = some (.int .i64 ((rs W s k).e : Nat)) from fun w' m => m.st.cell (j := 4) (by decide) rfl)
      have HCf := Lib.hid (show ∀ w', StepMem w w' gs gh gw gk (rs W s k) s W → w'.cell? ⟨gs, 5, none⟩ = some (.int .i64 ((rs W s k).f : Nat)) from fun w' m => m.st.cell (j := 5) (by decide) rfl)
      have HCg := Lib.hid (show ∀ w', StepMem w w' gs gh gw gk (rs W s k) s W → w'.cell? ⟨gs, 6, none⟩ = some (.int .i64 ((rs W s k).g : Nat)) from fun w' m => m.st.cell (j := 6) (by decide) rfl)
      have HCh := Lib.hid (show ∀ w', StepMem w w' gs gh gw gk (rs W s k) s W → w'.cell? ⟨gs, 7, none⟩ = some (.int .i64 ((rs W s k).h : Nat)) from fun w' m => m.st.cell (j := 7) (by decide) rfl)
      have HCw := Lib.hid (show ∀ w', StepMem w w' gs gh gw gk (rs W s k) s W → w'.cell? ⟨gw, k, none⟩ = some (.int .i64 (W k : Nat)) from fun w' m => m.ww.cell hlt (Nat.zero_add _).symm)
      have HCk := Lib.hid (show ∀ w', StepMem w w' gs gh gw gk (rs W s k) s W → w'.cell? ⟨gk, k, none⟩ = some (.int .i64 (kc k : Nat)) from fun w' m => m.kk.cell hlt (Nat.zero_add _).symm)
      generalize (rs W s k).a = xa at *
      generalize (rs W s k).b = xb at *
      generalize (rs W s k).c = xc at *
      generalize (rs W s k).d = xd at *
      generalize (rs W s k).e = xe at *
      generalize (rs W s k).f = xf at *
      generalize (rs W s k).g = xg at *
      generalize (rs W s k).h = xh at *
      generalize kc k = xk at *
      generalize hww : W k = xw at *
      clear hww
      have HTE := Lib.hid fun (n : Nat) (h1 : 1 ≤ n) (h2 : n ≤ 31) w => rright_any n xe w le' h1 h2
      have HTA := Lib.hid fun (n : Nat) (h1 : 1 ≤ n) (h2 : n ≤ 31) w => rright_any n xa w la' h1 h2
      have ce := HCe.out wr H1.out
      have ca := HCa.out wr H1.out
      have cf := HCf.out wr H1.out
      have cg := HCg.out wr H1.out
      have p1 := i64_and_nat xe xf (by omega) (by omega)
      have ln : 4294967295 - xe < 4294967296 := by omega
      have p2 : IntKind.i64.wrap (4294967295 - (xe : Int)) = ((4294967295 - xe : Nat) : Int) := by rw [IntWalk.i64_in _ (by omega)]; omega
      have p3 := i64_and_nat (4294967295 - xe) xg (by omega) (by omega)
      have b1 := and32' (a := xe) lf'
      have b2 := and32' (a := 4294967295 - xe) lg'
      have p4 : bits BinOp.or .i64 ((xe &&& xf : Nat) : Int) ((4294967295 - xe &&& xg : Nat) : Int) = ((chn xe xf xg : Nat) : Int) := by rw [← chn_or le']; exact i64_or_nat _ _ (by omega) (by omega)
      have lc := chn_lt (e := xe) lf' lg'
      generalize chn xe xf xg = cc at *
      generalize xe &&& xf = v2 at *
      generalize 4294967295 - xe &&& xg = v3 at *
      generalize 4294967295 - xe = v4 at *
      go_wp2_with fail
      go_quiet (fail)
      have H2 := Lib.hid (H1.out.drewN nq)
      clear H1 ce ca cf cg p1 p2 p3 p4
      generalize wr.drewN nq = W2 at *
      have ch' := HCh.out W2 H2.out
      have cw' := HCw.out W2 H2.out
      have ck' := HCk.out W2 H2.out
      have a6 := rr_lt (n := 6) le'
      have a11 := rr_lt (n := 11) le'
      have a25 := rr_lt (n := 25) le'
      have q1 := i64_xor_nat (rr 6 xe) (rr 11 xe) (by omega) (by omega)
      have a611 := xor32 a6 a11
      have q2 : bits BinOp.xor .i64 ((rr 6 xe ^^^ rr 11 xe : Nat) : Int) ((rr 25 xe : Nat) : Int) = ((bs1 xe : Nat) : Int) := i64_xor_nat _ _ (by omega) (by omega)
      have R6 := Lib.hid (HTE.out 6 (by decide) (by decide))
      have R11 := Lib.hid (HTE.out 11 (by decide) (by decide))
      have R25 := Lib.hid (HTE.out 25 (by decide) (by decide))
      have lb := bs1_lt le'
      generalize bs1 xe = s1 at *
      generalize rr 6 xe ^^^ rr 11 xe = v2 at *
      generalize rr 6 xe = r6 at *
      generalize rr 11 xe = r11 at *
      generalize rr 25 xe = r25 at *
      obtain ⟨X1, hX1⟩ : ∃ X, X = xh + s1 := ⟨_, rfl⟩
      obtain ⟨X2, hX2⟩ : ∃ X, X = X1 + cc := ⟨_, rfl⟩
      obtain ⟨X3, hX3⟩ : ∃ X, X = X2 + xk := ⟨_, rfl⟩
      obtain ⟨X, hX⟩ : ∃ X, X = X3 + xw := ⟨_, rfl⟩
      have e1 : (xh : Int) + s1 = X1 := by omega
      have e2 : (X1 : Int) + cc = X2 := by omega
      have e3 : (X2 : Int) + xk = X3 := by omega
      have e4 : (X3 : Int) + xw = X := by omega
      have f1 : IntKind.i64.wrap (X1 : Int) = X1 := IntWalk.i64_in _ (by omega)
      have f2 : IntKind.i64.wrap (X2 : Int) = X2 := IntWalk.i64_in _ (by omega)
      have f3 : IntKind.i64.wrap (X3 : Int) = X3 := IntWalk.i64_in _ (by omega)
      have f4 : IntKind.i64.wrap (X : Int) = X := IntWalk.i64_in _ (by omega)
      have lX : X < 42949672960 := by omega
      have HXX := Lib.hid (show xh + s1 + cc + xk + xw = X by omega)
      clear hX1 hX2 hX3 hX
      go_wp2_with fail
      go_quiet ((go_at_call 45; first | (with_reducible exact Calls.quiet_of (R6.out _)) | (with_reducible exact Calls.quiet_of (R11.out _)) | (with_reducible exact Calls.quiet_of (R25.out _))))
      have H3 := Lib.hid (H2.out.drewN nq)
      clear H2 ch' cw' ck' q1 q2 R6 R11 R25 e1 e2 e3 e4 f1 f2 f3 f4 HTE
      generalize W2.drewN nq = W3 at *
      have cb := HCb.out W3 H3.out
      have cc' := HCc.out W3 H3.out
      have q1 := i64_and_nat xa xb (by omega) (by omega)
      have q2 := i64_and_nat xa xc (by omega) (by omega)
      have q4 := i64_and_nat xb xc (by omega) (by omega)
      have t1 := and32 (b := xb) la'
      have t2 := and32 (b := xc) la'
      have t4 := and32 (b := xc) lb'
      have q3 := i64_or_nat (xa &&& xb) (xa &&& xc) (by omega) (by omega)
      have t3 := or32 t1 t2
      have q5 : bits BinOp.or .i64 (((xa &&& xb) ||| (xa &&& xc) : Nat) : Int) ((xb &&& xc : Nat) : Int) = ((maj xa xb xc : Nat) : Int) := by rw [← maj_or]; exact i64_or_nat _ _ (by omega) (by omega)
      have lm := maj_lt (c := xc) la' lb'
      generalize maj xa xb xc = mm at *
      generalize (xa &&& xb) ||| (xa &&& xc) = v5 at *
      generalize xa &&& xb = v6 at *
      generalize xa &&& xc = v7 at *
      generalize xb &&& xc = v8 at *
      go_wp2_with fail
      go_quiet (fail)
      have H4 := Lib.hid (H3.out.drewN nq)
      clear H3 cb cc' q1 q2 q3 q4 q5
      generalize W3.drewN nq = W4 at *
      go_wp2_with fail
      refine (HTA.out 2 (by decide) (by decide) _).mono ?_
      rintro e Wa ⟨rfl, na, rfl⟩
      have H5 := Lib.hid (H4.out.drewN na)
      clear H4
      generalize W4.drewN na = Wa at *
      go_wp2_with fail
      refine (HTA.out 13 (by decide) (by decide) _).mono ?_
      rintro e Wb ⟨rfl, nb, rfl⟩
      have H6 := Lib.hid (H5.out.drewN nb)
      clear H5
      generalize Wa.drewN nb = Wb at *
      have a2 := rr_lt (n := 2) la'
      have a13 := rr_lt (n := 13) la'
      have a22 := rr_lt (n := 22) la'
      have q1 := i64_xor_nat (rr 2 xa) (rr 13 xa) (by omega) (by omega)
      have a213 := xor32 a2 a13
      have q2 : bits BinOp.xor .i64 ((rr 2 xa ^^^ rr 13 xa : Nat) : Int) ((rr 22 xa : Nat) : Int) = ((bs0 xa : Nat) : Int) := i64_xor_nat _ _ (by omega) (by omega)
      have R22 := Lib.hid (HTA.out 22 (by decide) (by decide))
      have lb0 := bs0_lt la'
      generalize bs0 xa = s0 at *
      generalize rr 2 xa ^^^ rr 13 xa = v2 at *
      generalize rr 2 xa = r2 at *
      generalize rr 13 xa = r13 at *
      generalize rr 22 xa = r22 at *
      go_wp2_with fail
      refine (R22.out _).mono ?_
      rintro e Wc ⟨rfl, nc, rfl⟩
      have H7 := Lib.hid (H6.out.drewN nc)
      clear H6 HTA
      generalize Wb.drewN nc = Wc at *
      obtain ⟨Y, hY⟩ : ∃ Y, Y = s0 + mm := ⟨_, rfl⟩
      have e1 : (s0 : Int) + mm = Y := by omega
      have lY : Y < 8589934592 := by omega
      have HYY := Lib.hid hY
      clear hY
      go_wp2_with fail
      obtain ⟨XY, hXY⟩ : ∃ Z, Z = X + Y := ⟨_, rfl⟩
      obtain ⟨z1, hz1⟩ : ∃ Z, Z = XY % 4294967296 := ⟨_, rfl⟩
      obtain ⟨DX, hDX⟩ : ∃ Z, Z = xd + X := ⟨_, rfl⟩
      obtain ⟨z2, hz2⟩ : ∃ Z, Z = DX % 4294967296 := ⟨_, rfl⟩
      have e1 : (X : Int) + Y = XY := by omega
      have e2 : (xd : Int) + X = DX := by omega
      have f1 : IntKind.i64.wrap (XY : Int) = XY := IntWalk.i64_in _ (by omega)
      have f2 : IntKind.i64.wrap (DX : Int) = DX := IntWalk.i64_in _ (by omega)
      have e3 : (XY : Int).tmod 4294967296 = z1 := by rw [Int.tmod_eq_emod_of_nonneg (by omega)]; omega
      have e4 : (DX : Int).tmod 4294967296 = z2 := by rw [Int.tmod_eq_emod_of_nonneg (by omega)]; omega
      have f3 : IntKind.i64.wrap (z1 : Int) = z1 := IntWalk.i64_in _ (by omega)
      have f4 : IntKind.i64.wrap (z2 : Int) = z2 := IntWalk.i64_in _ (by omega)
      have HZ1 := Lib.hid (show z1 = (rs W s (k + 1)).a by rw [HXa.out]; have h1 := HXX.out; have h2 := HYY.out; omega)
      have HZ2 := Lib.hid (show z2 = (rs W s (k + 1)).e by rw [HXe.out]; have h1 := HXX.out; omega)
      have H8 := Lib.hid (show StepMem w Wc.drew gs gh gw gk (rs W s k) s W from H7.out.drewN 1)
      have cb : Wc.drew.cell? ⟨gs, 1, none⟩ = some (.int .i64 (xb : Nat)) := HCb.out _ H8.out
      have cc' : Wc.drew.cell? ⟨gs, 2, none⟩ = some (.int .i64 (xc : Nat)) := HCc.out _ H8.out
      have cd : Wc.drew.cell? ⟨gs, 3, none⟩ = some (.int .i64 (xd : Nat)) := HCd.out _ H8.out
      have cf : Wc.drew.cell? ⟨gs, 5, none⟩ = some (.int .i64 (xf : Nat)) := HCf.out _ H8.out
      have cg : Wc.drew.cell? ⟨gs, 6, none⟩ = some (.int .i64 (xg : Nat)) := HCg.out _ H8.out
      clear hXY hz1 hDX hz2 H7
      refine wp_region_still_tail 24 (by kernel_rfl) (by kernel_rfl) ?_
      change wpStill _ _ Wc.drew (fun a' => wpList _ _ _ _ a' Wc.drew) _ _
      generalize Wc.drew = Wd at *
      simp only [List.take_succ_cons, List.take_zero, List.drop_succ_cons, List.drop_zero]
      repeat still_step
      refine wpStill_nil ?_
      go_wp2_with fail
      have HN := Lib.hid (step_new Wd z1 xa xb xc z2 xe xf xg (rs W s (k + 1)) HZ1.out HXb.out HXc.out HXd.out HZ2.out HXf.out HXg.out HXh.out)
      have H9 := Lib.hid (show StepMem w (Wd.alloc (.cells #[.int .i64 (z1 : Nat), .int .i64 (xa : Nat), .int .i64 (xb : Nat), .int .i64 (xc : Nat), .int .i64 (z2 : Nat), .int .i64 (xe : Nat), .int .i64 (xf : Nat), .int .i64 (xg : Nat)] 3)) Wd.heap.size gh gw gk (rs W s (k + 1)) s W from
        ⟨HN.out, H8.out.hh.alloc _, H8.out.ww.alloc _, H8.out.kk.alloc _, H8.out.bl.alloc H8.out.bl.size _⟩)
      go_roundw
      case rel => exact ⟨k + 1, _, _, by omega, by go_num, rfl, H9.out⟩
      case measure => simp [intOf]; omega
    · obtain rfl : k = 64 := by omega
      have TOK := Lib.hid (rs_ok (W := W) HS.out 64)
      generalize hT : rs W s 64 = T at *
      have HTT := Lib.hid hT
      clear hT
      have HA := Lib.hid (at8_add s T)
      have HBL := Lib.hid H1.out.bl
      have HSG := Lib.hid (show ∀ w', Below wr.heap.size wr w' → ArrV w' gs 0 8 (ints (at8 T)) from fun w' h => H1.out.st.keep h)
      have HHG := Lib.hid (show ∀ w', Below wr.heap.size wr w' → ArrV w' gh 0 8 (ints (at8 s)) from fun w' h => H1.out.hh.keep h)
      rw [show ((64 : Nat) : Int) = 64 from rfl]
      clear H1
      go_wp2_with fail
      obtain ⟨W1, hW1⟩ : ∃ W1, W1 = wr := ⟨_, rfl⟩
      subst hW1
      go_loopw [15, 16] (fun v t wx => ∃ k : Nat, k ≤ 8 ∧ t = .int .i64 k ∧ OwnI wx W1.heap.size v k (at8 (add8 s T)) ∧ Below W1.heap.size W1 wx) (fun _ t _ => 8 - (intOf t).toNat)
      case atStart => exact ⟨0, Nat.zero_le _, rfl, OwnI.nil _ _ _, Below.refl _ _⟩
      case round =>
        obtain ⟨k, hk, rfl, h1, h2⟩ := hrel
        have G1 := Lib.hid h1
        have G2 := Lib.hid h2
        clear h1 h2
        by_cases hlt8 : k < 8
        · have hki : (k : Int) < 8 := by omega
          have ch' : wr.cell? ⟨gh, k, none⟩ = some (.int .i64 (at8 s k : Nat)) := (HHG.out wr G2.out).cell hlt8 (Nat.zero_add _).symm
          have cs' : wr.cell? ⟨gs, k, none⟩ = some (.int .i64 (at8 T k : Nat)) := (HSG.out wr G2.out).cell hlt8 (Nat.zero_add _).symm
          have l1 := at8_lt HS.out k
          have l2 := at8_lt TOK.out k
          obtain ⟨z, hz⟩ : ∃ z, z = at8 (add8 s T) k := ⟨_, rfl⟩
          have hz2 : z = (at8 s k + at8 T k) % 4294967296 := by rw [hz]; exact HA.out k hlt8
          have HZ := Lib.hid hz
          generalize at8 s k = y1 at *
          generalize at8 T k = y2 at *
          obtain ⟨y, hy⟩ : ∃ y, y = y1 + y2 := ⟨_, rfl⟩
          have e1 : (y1 : Int) + y2 = y := by omega
          have f1 : IntKind.i64.wrap (y : Int) = y := IntWalk.i64_in _ (by omega)
          have e2 : (y : Int).tmod 4294967296 = z := by rw [Int.tmod_eq_emod_of_nonneg (by omega)]; omega
          have f2 : IntKind.i64.wrap (z : Int) = z := IntWalk.i64_in _ (by omega)
          have hszw := G2.out.size
          have hk8 : k ≤ 1000000000000 := by omega
          clear hz hz2 hy
          have hcell : ((wr.alloc (.cells #[.int .i64 z] 3)).drew).cell? ⟨wr.heap.size, 0, none⟩ = some (.int .i64 z) := World.cell?_alloc_at _ _ _ _ rfl
          have hsz2 : W1.heap.size ≤ ((wr.alloc (.cells #[.int .i64 z] 3)).drew).heap.size := by show _ ≤ (wr.heap.push _).size; simp; omega
          go_wp2_with fail
          go_region_law (refine step_app1I rfl (.tmp 124) (.tmp 135) rfl W1.heap.size _ k _ rfl ((G1.out.alloc _).drew) wr.heap.size z rfl hcell hk8 hsz2 HZ.out ?_; intro v' w' hown' hb')
          all_goals
            have HO6 := Lib.hid hown'
            have HB6 := Lib.hid (((G2.out.alloc G2.out.size _).drew).trans hb')
            clear hown' hb' hcell hsz2
            go_wp2_with fail
            go_roundw
            case rel => exact ⟨k + 1, by omega, by go_num, HO6.out, HB6.out⟩
            case measure => simp [intOf]; omega
        · obtain rfl : k = 8 := by omega
          obtain ⟨A9, c9, rfl, _, _, hr9, _⟩ := G1.out.slice
          obtain ⟨g9, rfl, _, hr9⟩ := hr9 (by decide)
          have HR9 := Lib.hid hr9
          clear hr9
          go_wp2_with fail
          go_ret
          exact ⟨g9, c9, rfl, by rw [HTT.out]; exact HR9.out, HBL.out.trans (G2.out.mono HBL.out.size)⟩
end Go.Proofs.YtogcfaijphpgfaaDoor
/- Runs of single operations on bytes and ints. -/
namespace Go.Proofs.YtogcfaijphpgfaaDoor
open Go.RowKit
namespace ord
section
variable {P : Program} {ops : Array Oper} {o : Oper} {a : Act} {w : World} {N : Value → World → Prop}
theorem makes_build4 {t : TypeId} {len i1 i2 i3 i4 : Nat} {o1 o2 o3 o4 : Operand} {v1 v2 v3 v4 u : Value} {w' : World} (ho : o.op = .buildSlice t len #[(i1, o1), (i2, o2), (i3, o3), (i4, o4)]) (h1 : a.eval o1 = v1) (h2 : a.eval o2 = v2) (h3 : a.eval o3 = v3) (h4 : a.eval o4 = v4)
    (hrun : (Instr.buildSlice t len #[(i1, v1), (i2, v2), (i3, v3), (i4, v4)]).run P w = .ok u w') (hN : N u w') : makes P o a w N := makes_build ho (by simp [h1, h2, h3, h4]) hrun hN
end
end ord
theorem run_idxI (g n c q : Nat) (hq : q < n) (w : World) : (Instr.indexAt 68 (.slice (some ⟨g, 0, none⟩) n c) (.int .i64 (q : Nat))).run Tryd.prog w = .ok (.pointer (some ⟨g, q, none⟩)) w := by
  have hq2 : (q : Int) < n := by omega
  go_simp
theorem run_loadI (p : Addr) (x : Nat) (w : World) (h : w.cell? p = some (.int .i64 (x : Nat))) : (Instr.loadAt 3 (.pointer (some p))).run Tryd.prog w = .ok (.int .i64 (x : Nat)) w := by
  go_simp
theorem run_convI8 (x d : Nat) (hd : d = x % 256) (w : World) : (convert 3 5 (.int .i64 (x : Nat))).run Tryd.prog w = .ok (.int .u8 (d : Nat)) w := by
  have h2 : IntKind.u8.wrap (x : Int) = (d : Nat) := by simp [IntKind.wrap, IntKind.bits, IntKind.signed]; omega
  go_simp
theorem run_bytes4 (w : World) (a b c d : Nat) : (Instr.buildSlice 22 4 #[(0, .int .u8 (a : Nat)), (1, .int .u8 (b : Nat)), (2, .int .u8 (c : Nat)), (3, .int .u8 (d : Nat))]).run Tryd.prog w =
    .ok (.slice (some ⟨w.heap.size, 0, none⟩) 4 4) (w.alloc (.cells #[.int .u8 (a : Nat), .int .u8 (b : Nat), .int .u8 (c : Nat), .int .u8 (d : Nat)] 5)) := by go_simp
end Go.Proofs.YtogcfaijphpgfaaDoor
/- The reference: Sum. -/
namespace Go.Proofs.YtogcfaijphpgfaaDoor
open Go.RowKit
/-- b[l:h] -/
theorem run_mid (w : World) (A : Option Addr) (n c l h : Nat) (hl : l ≤ h) (hh : h ≤ c) : (Instr.sliceAt 22 (.slice A n c) (some (.int .i64 (l : Int))) (some (.int .i64 (h : Int))) none).run Tryd.prog w = .ok (.slice (hiA A c l) (h - l) (c - l)) w := by
  rw [run_sliceAt_slice (h := underB), run_slice_lh (ht := underB) (h0 := by omega) (h1 := by omega) (h2 := by omega), size8]
  rfl
theorem SlB.mid {w : World} {A : Option Addr} {n c l m : Nat} {f : Nat → Nat} (h : SlB w A n f) (hl : l + m ≤ n) (hn : n ≤ c) : SlB w (Go.Proofs.YtogcfaijphpgfaaDoor.hiA A c l) m (fun j => f (l + j)) :=
  SlB.low (n := n - l) (h.hiA (c := c) (k := l) (by omega) hn) (by omega)
theorem of_drew {w w' : World} (h : Below w.drew.heap.size w.drew w') : Below w.heap.size w w' := ⟨h.os, h.tape, h.output, h.size, h.block⟩
theorem padL_eq (n : Nat) : padL n = 64 * ((n + 72) / 64) := rfl
theorem padf_lo (n : Nat) (f : Nat → Nat) (j : Nat) (h : j < n) : padf n f j = f j := if_pos h
theorem padf_at (n : Nat) (f : Nat → Nat) : padf n f n = 128 := by unfold padf; rw [if_neg (Nat.lt_irrefl _), if_pos rfl]
theorem padf_zero (n : Nat) (f : Nat → Nat) (j : Nat) (h1 : n < j) (h2 : j < padL n - 8) : padf n f j = 0 := by unfold padf; rw [if_neg (by omega), if_neg (by omega), if_pos h2]
theorem padf_len (n : Nat) (f : Nat → Nat) (q j : Nat) (h1 : j = padL n - 8 + (7 - q)) (hq : q ≤ 7) : padf n f j = 8 * n / 2 ^ (8 * q) % 256 := by
  have hp : n + 9 ≤ padL n := by unfold padL; omega
  unfold padf
  rw [if_neg (by omega), if_neg (by omega), if_neg (by omega), show padL n - 1 - j = q by omega, Nat.pow_mul]
theorem one_sl (w : World) (x : Nat) (hx : x < 256) : SlB (w.alloc (.cells #[.int .u8 (x : Nat)] 5)) (some ⟨w.heap.size, 0, none⟩) 1 (fun _ => x) := one_slB w 5 x hx
--DEFS out
def outG (sv : Value) (g c k xx y1 y2 y3 : Nat) (D : Nat → Nat) : Nat → Value → World → Prop
  | 0, v, _ => v = sv
  | 1, v, _ => v = .slice (some ⟨g, 0, none⟩) 8 c
  | 2, v, _ => v = .int .i64 (k : Nat)
  | 3, v, _ => v = .pointer (some ⟨g, k, none⟩)
  | 4, v, _ => v = .int .i64 (xx : Nat)
  | 5, v, _ => v = .int .i64 (y1 : Nat)
  | 6, v, _ => v = .int .u8 (D 0 : Nat)
  | 7, v, _ => v = .slice (some ⟨g, 0, none⟩) 8 c
  | 8, v, _ => v = .int .i64 (k : Nat)
  | 9, v, _ => v = .pointer (some ⟨g, k, none⟩)
  | 10, v, _ => v = .int .i64 (xx : Nat)
  | 11, v, _ => v = .int .i64 (y2 : Nat)
  | 12, v, _ => v = .int .u8 (D 1 : Nat)
  | 13, v, _ => v = .slice (some ⟨g, 0, none⟩) 8 c
  | 14, v, _ => v = .int .i64 (k : Nat)
  | 15, v, _ => v = .pointer (some ⟨g, k, none⟩)
  | 16, v, _ => v = .int .i64 (xx : Nat)
  | 17, v, _ => v = .int .i64 (y3 : Nat)
  | 18, v, _ => v = .int .u8 (D 2 : Nat)
  | 19, v, _ => v = .slice (some ⟨g, 0, none⟩) 8 c
  | 20, v, _ => v = .int .i64 (k : Nat)
  | 21, v, _ => v = .pointer (some ⟨g, k, none⟩)
  | 22, v, _ => v = .int .i64 (xx : Nat)
  | 23, v, _ => v = .int .u8 (D 3 : Nat)
  | 24, v, w => ∃ gg, v = .slice (some ⟨gg, 0, none⟩) 4 4 ∧ SlB w (some ⟨gg, 0, none⟩) 4 D
  | _, _, _ => True
theorem outG_stays (sv : Value) (g c k xx y1 y2 y3 : Nat) (D : Nat → Nat) : ∀ i v w w', outG sv g c k xx y1 y2 y3 D i v w → Below w.heap.size w w' → outG sv g c k xx y1 y2 y3 D i v w'
  | 0, _, _, _, h, _ => h
  | 1, _, _, _, h, _ => h
  | 2, _, _, _, h, _ => h
  | 3, _, _, _, h, _ => h
  | 4, _, _, _, h, _ => h
  | 5, _, _, _, h, _ => h
  | 6, _, _, _, h, _ => h
  | 7, _, _, _, h, _ => h
  | 8, _, _, _, h, _ => h
  | 9, _, _, _, h, _ => h
  | 10, _, _, _, h, _ => h
  | 11, _, _, _, h, _ => h
  | 12, _, _, _, h, _ => h
  | 13, _, _, _, h, _ => h
  | 14, _, _, _, h, _ => h
  | 15, _, _, _, h, _ => h
  | 16, _, _, _, h, _ => h
  | 17, _, _, _, h, _ => h
  | 18, _, _, _, h, _ => h
  | 19, _, _, _, h, _ => h
  | 20, _, _, _, h, _ => h
  | 21, _, _, _, h, _ => h
  | 22, _, _, _, h, _ => h
  | 23, _, _, _, h, _ => h
  | 24, v, w, w', h_, hb => by
    obtain ⟨gg, h1, h2⟩ := h_; exact ⟨gg, h1, h2.keep hb⟩
  | _ + 25, _, _, _, _, _ => trivial
--END DEFS out
theorem OwnB.less {w : World} {b base n : Nat} {v : Value} {f : Nat → Nat} (h : OwnB w base v n f) (hb : b ≤ base) : OwnB w b v n f := by
  rcases h with ⟨h1, h2 | ⟨g, cap, cur, e, hg, r⟩⟩
  · exact ⟨h1, Or.inl h2⟩
  · exact ⟨h1, Or.inr ⟨g, cap, cur, e, Nat.le_trans hb hg, r⟩⟩
set_option maxRecDepth 100000 in
set_option maxHeartbeats 3200000 in
theorem rsum_own (A : Option Addr) (n cap : Nat) (f : Nat → Nat) (w : World) (hn : n ≤ 10000000000000) (hA : SlB w A n f) (hnil : A = none → n = 0 ∧ cap = 0) :
    Calls Tryd.prog 26 #[.slice A n cap] w fun e w' => ∃ A' c', e = .returned (.slice A' 32 c') ∧ (SlB w' A' 32 (sha n f) ∧ OwnB w' w.heap.size (.slice A' 32 c') 32 (sha n f)) ∧ Below w.heap.size w w' := by
  have HA := Lib.hid hA
  have HNIL := Lib.hid hnil
  have HPB := Lib.hid fun m => padf_by n f m (fun j hj => hA.byte hj)
  have HFB := Lib.hid (show ∀ j, j < n → f j < 256 from fun j hj => hA.byte hj)
  have hni : (n : Int) ≤ 10000000000000 := by omega
  clear hA hnil
  have H0 := Lib.hid (show OwnB (w.alloc (.cells #[] 5)) w.heap.size (.slice (some ⟨w.heap.size, 0, none⟩) 0 0) 0 f from OwnB.empty w w.heap.size f (Nat.le_refl _))
  have HA0 := Lib.hid (HA.out.keep ((Below.refl _ _).alloc (Nat.le_refl _) (.cells #[] 5)))
  have HB0 := Lib.hid ((Below.refl w.heap.size w).alloc (Nat.le_refl _) (.cells #[] 5))
  go_enter Tryd.func26, Tryd.ntmps26
  have HW := Lib.hid fun W => one_sl W 128 (by decide)
  go_wp2_with (first | (refine wpList_appO rfl (.tmp 11) (.tmp 12) rfl w.heap.size _ 0 f rfl H0.out A n cap f rfl HA0.out HNIL.out (by omega) HB0.out.size (fun j hj => absurd hj (Nat.not_lt_zero j)) HFB.out ?_; intro A1 c1 w1 h1 h2 h3 h4; rw [Nat.zero_add] at h1 h2 h3 ⊢; have HO1 := Lib.hid (OwnB.congr (g := f) h1 fun j _ => rfl); have HB1 := Lib.hid (HB0.out.trans h4); clear h1 h2 h3 h4; have HO1' := Lib.hid (HO1.out.alloc (.cells #[.int .u8 ((128 : Nat) : Int)] 5)); have HB1' := Lib.hid (HB1.out.alloc HB1.out.size (.cells #[.int .u8 ((128 : Nat) : Int)] 5))) |
    (refine wpList_appO rfl (.tmp 13) (.tmp 14) rfl w.heap.size _ n f rfl HO1'.out (some ⟨_, 0, none⟩) 1 1 (fun _ => 128) rfl (HW.out _) (fun h => by cases h) (by omega) HB1'.out.size HFB.out (fun _ _ => by decide) ?_; intro A2 c2 w2 h1 h2 h3 h4; have HO2 := Lib.hid (OwnB.congr (g := padf n f) h1 fun j hj => by unfold catB; by_cases e : j < n; rw [if_pos e, padf_lo n f j e]; rw [if_neg e, show j = n by omega, padf_at]); have HB2 := Lib.hid (HB1'.out.trans h4); have HC2 := Lib.hid h3; clear h1 h2 h3 h4))
  clear H0 HA0 HB0 HW HO1 HB1 HO1' HB1' HC2
  have HPL := Lib.hid (padL_eq n)
  have HZ := Lib.hid fun W => one_sl W 0 (by decide)
  go_loopw [3] (fun v wr => ∃ (m : Nat) (A3 : Option Addr) (c3 : Nat), n + 1 ≤ m ∧ m ≤ padL n - 8 ∧ v = .slice A3 m c3 ∧ OwnB wr w.heap.size (.slice A3 m c3) m (padf n f) ∧ Below w.heap.size w wr) (fun v _ => padL n - 8 - lenOf v)
  case atStart => exact ⟨n + 1, A2, c2, Nat.le_refl _, by have := HPL.out; omega, rfl, HO2.out, HB2.out⟩
  case round =>
    obtain ⟨m, A3, c3, hm1, hm2, rfl, h1, h2⟩ := hrel
    have H1 := Lib.hid h1
    have H2 := Lib.hid h2
    clear h1 h2 HO2 HB2
    have hm3 : m ≤ 20000000000000 := by have := HPL.out; omega
    have hmi : (m : Int) ≤ 20000000000000 := by omega
    by_cases hr : m % 64 = 56
    · have hb : ((m : Int) % 64 != 56) = false := by simp; omega
      have HLm := Lib.hid (show m = padL n - 8 by have := HPL.out; omega)
      have HX8 := Lib.hid (show (8 : Int) * (n : Int) = ((8 * n : Nat) : Int) by omega)
      have hx1 : 8 * n < 9223372036854775808 := by omega
      clear hr
      go_wp2_with fail
      rw [HX8.out]
      generalize hx : 8 * n = x at *
      have HX := Lib.hid hx
      clear hx HX8
      go_loopw [3, 5] (fun v t wr => ∃ (j : Nat) (A3 : Option Addr) (c3 : Nat), j ≤ 8 ∧ t = .int .i64 (7 - (j : Int)) ∧ v = .slice A3 (m + j) c3 ∧ OwnB wr w.heap.size (.slice A3 (m + j) c3) (m + j) (padf n f) ∧ Below w.heap.size w wr) (fun _ t _ => (intOf t + 1).toNat)
      case atStart => exact ⟨0, A3, c3, Nat.zero_le _, rfl, rfl, H1.out, H2.out⟩
      case round =>
        obtain ⟨j, A5, c5, hj, rfl, rfl, h1, h2⟩ := hrel
        have G1 := Lib.hid h1
        have G2 := Lib.hid h2
        clear h1 h2 H1 H2
        by_cases hj8 : j < 8
        · obtain ⟨q, hq⟩ : ∃ q, q = 7 - j := ⟨_, rfl⟩
          obtain ⟨q8, hq8⟩ : ∃ q8, q8 = 8 * q := ⟨_, rfl⟩
          have eq : (7 : Int) - j = q := by omega
          have eq8 : (8 : Int) * q = q8 := by omega
          have hqi : (q : Int) ≤ 7 := by omega
          have hq8i : (q8 : Int) ≤ 56 := by omega
          have hxi : (x : Int) < 9223372036854775808 := by omega
          obtain ⟨y, hy⟩ : ∃ y, y = x / 2 ^ q8 := ⟨_, rfl⟩
          have hyx : y ≤ x := by rw [hy]; exact Nat.div_le_self _ _
          have ey : (x : Int) / 2 ^ q8 = y := by rw [hy]; simp
          obtain ⟨z, hz⟩ : ∃ z, z = y % 256 := ⟨_, rfl⟩
          have ez : (y : Int) % 256 = z := by omega
          have lz : z < 256 := by omega
          have HZP := Lib.hid (show z = padf n f (m + j) by
            rw [padf_len n f q (m + j) (by have := HLm.out; omega) (by omega), HX.out, ← hq8, ← hy, hz])
          have HZ1 := Lib.hid fun W => one_sl W z lz
          have hyi : (y : Int) < 9223372036854775808 := by omega
          have HEQ := Lib.hid eq
          clear hq hq8 hy hz
          rw [eq]
          have HO3 := Lib.hid (G1.out.alloc (.cells #[.int .u8 (z : Nat)] 5))
          have HB3 := Lib.hid (G2.out.alloc G2.out.size (.cells #[.int .u8 (z : Nat)] 5))
          go_wp2_with (refine wpList_appO rfl (.tmp 30) (.tmp 36) rfl w.heap.size _ (m + j) (padf n f) rfl HO3.out (some ⟨_, 0, none⟩) 1 1 (fun _ => z) rfl (HZ1.out _) (fun h => by cases h) (by omega) HB3.out.size (HPB.out _) (fun _ _ => lz) ?_; intro A4 c4 w4 h1 h2 h3 h4; have HO4 := Lib.hid (OwnB.congr (g := padf n f) h1 fun i hi => by unfold catB; by_cases e : i < m + j; rw [if_pos e]; rw [if_neg e, HZP.out, show i = m + j by omega]); have HB4 := Lib.hid (HB3.out.trans h4); clear h1 h2 h3 h4)
          exact ⟨⟨j + 1, A4, c4, by omega, congrArg _ (by have := HEQ.out; omega), rfl, HO4.out, HB4.out⟩, by simp [intOf]⟩
        · obtain rfl : j = 8 := by omega
          have HLm8 := Lib.hid (show m + 8 = padL n by have := HLm.out; have := HPL.out; omega)
          have et : (7 : Int) - ((8 : Nat) : Int) = -1 := by omega
          rw [et]
          rw [HLm8.out] at G1 ⊢
          clear et
          obtain ⟨A6, c6, e6, hsl6⟩ := OwnB.slice G1.out (HPB.out _)
          obtain ⟨A7, c7, e7, hc7, hc7m, _⟩ := OwnB.cap_le G1.out
          cases e6; cases e7
          have HP := Lib.hid hsl6
          have HCP := Lib.hid hc7
          clear hsl6 hc7
          go_wp2_with fail
          refine (words_any wr).mono ?_
          rintro e Wa ⟨rfl, h1, h2⟩
          have HKa := Lib.hid h1
          have HPa := Lib.hid (HP.out.keep h2)
          have HBa := Lib.hid (G2.out.trans (h2.mono G2.out.size))
          clear h1 h2 G1 G2 HP
          generalize wr.heap.size = gk at *
          go_wp2_with fail
          refine (first_any Wa).mono ?_
          rintro e Wb ⟨rfl, h1, h2⟩
          have HKb := Lib.hid (HKa.out.keep h2)
          have HPb := Lib.hid (HPa.out.keep h2)
          have HBb := Lib.hid (HBa.out.trans (h2.mono HBa.out.size))
          have HFb := Lib.hid h1
          clear h1 h2 HPa HKa HBa
          generalize Wa.heap.size = gf at *
          go_wp2_with fail
          have HPF := Lib.hid (HPB.out (padL n))
          have HST := Lib.hid fun b => hs_ok (padf n f) b
          have HWN := Lib.hid (show ∀ b, 64 * b + 64 ≤ padL n → ∀ j, j < 64 → padf n f (64 * b + j) < 256 from fun b hb j hj => HPF.out _ (by omega))
          have HHS := Lib.hid (show ∀ b, hs (padf n f) (b + 1) = add8 (hs (padf n f) b) (rs (wn (fun j => padf n f (64 * b + j)) 48) (hs (padf n f) b) 64) from fun _ => rfl)
          have HEND := Lib.hid (show ∀ j, sha n f j = dig (hs (padf n f) ((n + 72) / 64)) j from fun _ => rfl)
          obtain ⟨NB, hNB⟩ : ∃ NB, (n + 72) / 64 = NB := ⟨_, rfl⟩
          rw [hNB] at HEND
          have hPL : padL n = 64 * NB := by rw [HPL.out, hNB]
          have hNBs : NB ≤ 1000000000000 := by omega
          have hNBi : (NB : Int) ≤ 1000000000000 := by omega
          rw [hPL] at HPb HCP HWN ⊢
          clear hNB HPL hPL HLm8 HPF HLm HPB HX hx1 hb hm1 hm2
          generalize padf n f = P at *
          go_loopw [7, 8] (fun v t wr => ∃ (b g c : Nat), b ≤ NB ∧ t = .int .i64 ((64 * b : Nat) : Int) ∧ v = .slice (some ⟨g, 0, none⟩) 8 c ∧ ArrV wr g 0 8 (ints (at8 (hs P b))) ∧ SlB wr A5 (64 * NB) P ∧ ArrV wr gk 0 64 (ints kc) ∧ Below w.heap.size w wr) (fun _ t _ => 64 * NB - (intOf t).toNat)
          case atStart => exact ⟨0, gf, 8, Nat.zero_le _, rfl, rfl, HFb.out, HPb.out, HKb.out, HBb.out⟩
          case round =>
            obtain ⟨b, g, c, hb, rfl, rfl, h1, h2, h3, h4⟩ := hrel
            have K1 := Lib.hid h1
            have K2 := Lib.hid h2
            have K3 := Lib.hid h3
            have K4 := Lib.hid h4
            clear h1 h2 h3 h4 HFb HPb HKb HBb
            by_cases hlt : b < NB
            · obtain ⟨i, hi⟩ : ∃ i, i = 64 * b := ⟨_, rfl⟩
              obtain ⟨i6, hi6⟩ : ∃ i6, i6 = i + 64 := ⟨_, rfl⟩
              obtain ⟨NL, hNL⟩ : ∃ NL, NL = 64 * NB := ⟨_, rfl⟩
              have ei6 : (i : Int) + 64 = i6 := by omega
              have hi6n : (i : Int) < NL := by omega
              have hNLi : (NL : Int) ≤ 100000000000000 := by omega
              obtain ⟨A8, hA8⟩ : ∃ A8, hiA A5 c5 i = A8 := ⟨_, rfl⟩
              have hsl := fun W => run_mid W A5 NL c5 i i6 (by omega) (by have := HCP.out; omega)
              rw [hA8, show i6 - i = 64 by omega] at hsl
              have HSB := Lib.hid ((K2.out.mid (c := c5) (l := i) (m := 64) (by omega) HCP.out))
              rw [hA8] at HSB
              have HI := Lib.hid hi
              have HI6 := Lib.hid hi6
              have HNL := Lib.hid hNL
              rw [← hi, ← hNL]
              clear hi hi6 hNL hA8
              go_wp2_with fail
              refine (block_any A8 (c5 - i) _ wr HSB.out).mono ?_
              rintro e Wc ⟨vw, rfl, h1, h2⟩
              obtain ⟨Aw, cw, rfl, _, _, hr, _⟩ := h1.slice
              obtain ⟨gw, rfl, _, hr⟩ := hr (by decide)
              have HWc := Lib.hid hr
              have K1c := Lib.hid (K1.out.keep h2)
              have K2c := Lib.hid (K2.out.keep h2)
              have K3c := Lib.hid (K3.out.keep h2)
              have K4c := Lib.hid (K4.out.trans (h2.mono K4.out.size))
              clear hr h1 h2 K1 K2 K3 K4 hsl HSB
              go_wp2_with fail
              refine (step_any g c gw cw gk 64 (hs P b) _ Wc (HST.out b) (fun j hj => wn_lt (by
                have h := HWN.out b (by have := HI.out; have := HNL.out; omega)
                rw [← HI.out] at h
                exact h) 48 j) K1c.out HWc.out K3c.out).mono ?_
              rintro e Wd ⟨g2, c2', rfl, h1, h2⟩
              have L1 := Lib.hid (show ArrV Wd g2 0 8 (ints (at8 (hs P (b + 1)))) by
                rw [HHS.out b, ← HI.out]; exact h1)
              have L2 := Lib.hid (K2c.out.keep h2)
              have L3 := Lib.hid (K3c.out.keep h2)
              have L4 := Lib.hid (K4c.out.trans (h2.mono K4c.out.size))
              clear h1 h2 K1c K2c K3c K4c HWc
              go_wp2_with fail
              have hNL := HNL.out
              have hI := HI.out
              have hI6 := HI6.out
              subst hNL
              go_roundw
              case rel => exact ⟨b + 1, g2, c2', by omega, by rw [show 64 * (b + 1) = i6 by omega], rfl, L1.out, L2.out, L3.out, L4.out⟩
              case measure => simp [intOf]; omega
            · obtain rfl : b = NB := by omega
              have HSK := Lib.hid (HST.out b)
              generalize hs P b = s at *
              obtain ⟨NL, hNL⟩ : ∃ NL, NL = 64 * b := ⟨_, rfl⟩
              rw [← hNL]
              have HNL := Lib.hid hNL
              have hNLi : (NL : Int) ≤ 100000000000000 := by omega
              clear hNL HWN HHS HST hNBs hNBi
              go_wp2_with fail
              have HAG := Lib.hid (show ∀ w', Below wr.heap.size wr w' → ArrV w' g 0 8 (ints (at8 s)) from fun w' h => K1.out.keep h)
              have KB := Lib.hid K4.out
              clear K1 K2 K3 K4
              obtain ⟨W1, hW1⟩ : ∃ W1, W1 = wr := ⟨_, rfl⟩
              subst hW1
              go_loopw [9, 10] (fun v t wx => ∃ (k : Nat), k ≤ 8 ∧ t = .int .i64 k ∧ OwnB wx W1.heap.size v (4 * k) (dig s) ∧ Below W1.heap.size W1 wx) (fun _ t _ => 8 - (intOf t).toNat)
              case atStart => exact ⟨0, Nat.zero_le _, rfl, OwnB.nil _ _ _, Below.refl _ _⟩
              case round =>
                obtain ⟨k, hk, rfl, h1, h2⟩ := hrel
                have G1 := Lib.hid h1
                have G2 := Lib.hid h2
                clear h1 h2
                by_cases hk8n : k < 8
                · have hki : (k : Int) < 8 := by omega
                  have hl := at8_lt HSK.out k
                  have CE := Lib.hid (show ∀ w', Below wr.drew.heap.size wr.drew w' → w'.cell? ⟨g, k, none⟩ = some (.int .i64 (at8 s k : Nat)) from fun w' hb =>
                    (HAG.out w' (G2.out.trans ((of_drew hb).mono G2.out.size))).cell hk8n (Nat.zero_add _).symm)
                  have hd0 := Lib.hid (show dig s (4 * k + 0) = at8 s k / 16777216 % 256 by unfold dig; rw [show (4 * k + 0) / 4 = k by omega, show (4 * k + 0) % 4 = 0 by omega])
                  have hd1 := Lib.hid (show dig s (4 * k + 1) = at8 s k / 65536 % 256 by unfold dig; rw [show (4 * k + 1) / 4 = k by omega, show (4 * k + 1) % 4 = 1 by omega])
                  have hd2 := Lib.hid (show dig s (4 * k + 2) = at8 s k / 256 % 256 by unfold dig; rw [show (4 * k + 2) / 4 = k by omega, show (4 * k + 2) % 4 = 2 by omega])
                  have hd3 := Lib.hid (show dig s (4 * k + 3) = at8 s k % 256 by unfold dig; rw [show (4 * k + 3) / 4 = k by omega, show (4 * k + 3) % 4 = 3 by omega]; simp)
                  have HDL := Lib.hid (show ∀ j, (fun t => dig s (4 * k + t)) j < 256 from fun j => dig_lt s _)
                  have HDE := Lib.hid (show ∀ j, (fun t => dig s (4 * k + t)) j = dig s (4 * k + j) from fun _ => rfl)
                  generalize at8 s k = xx at *
                  obtain ⟨D, hD⟩ : ∃ D : Nat → Nat, D = fun t => dig s (4 * k + t) := ⟨_, rfl⟩
                  rw [← hD] at HDL HDE
                  rw [← HDE.out] at hd0 hd1 hd2 hd3
                  clear hD
                  obtain ⟨y1, e1⟩ : ∃ y, xx / 16777216 = y ∧ True := ⟨_, rfl, trivial⟩
                  obtain ⟨y2, e2⟩ : ∃ y, xx / 65536 = y ∧ True := ⟨_, rfl, trivial⟩
                  obtain ⟨y3, e3⟩ : ∃ y, xx / 256 = y ∧ True := ⟨_, rfl, trivial⟩
                  rw [e1.1] at hd0
                  rw [e2.1] at hd1
                  rw [e3.1] at hd2
                  go_wp2_with fail
                  refine ord.wp_region_ordT 25 [[], [], [], [1, 2], [3], [4], [5], [], [], [7, 8], [9], [10], [11], [], [], [13, 14], [15], [16], [17], [], [], [19, 20], [21], [22], [6, 12, 18, 23]] [(0, 59), (1, 60), (2, 61), (3, 62), (4, 63), (5, 64), (6, 65), (7, 66), (8, 67), (9, 68), (10, 69), (11, 70), (12, 71), (13, 72), (14, 73), (15, 74), (16, 75), (17, 76), (18, 77), (19, 78), (20, 79), (21, 80), (22, 81), (23, 82), (24, 83)] (outG u9 g c k xx y1 y2 y3 D) (by kernel_rfl) (by kernel_rfl) (by kernel_rfl) (outG_stays _ _ _ _ _ _ _ _ _) ((ord.steps_cons ?_ (ord.steps_cons ?_ (ord.steps_cons ?_ (ord.steps_cons ?_ (ord.steps_cons ?_ (ord.steps_cons ?_ (ord.steps_cons ?_ (ord.steps_cons ?_ (ord.steps_cons ?_ (ord.steps_cons ?_ (ord.steps_cons ?_ (ord.steps_cons ?_ (ord.steps_cons ?_ (ord.steps_cons ?_ (ord.steps_cons ?_ (ord.steps_cons ?_ (ord.steps_cons ?_ (ord.steps_cons ?_ (ord.steps_cons ?_ (ord.steps_cons ?_ (ord.steps_cons ?_ (ord.steps_cons ?_ (ord.steps_cons ?_ (ord.steps_cons ?_ (ord.steps_cons ?_ ord.steps_nil)))))))))))))))))))))))))) ?_
                  --STEPS out
                  · intro o ho x w hb hG
                    obtain rfl := Option.some.inj ho
                    clear ho
                    refine Or.inl ⟨ord.want0 rfl, ?_⟩
                    exact ord.makes_move rfl ⟨Below.refl _ _, rfl⟩
                  · intro o ho x w hb hG
                    obtain rfl := Option.some.inj ho
                    clear ho
                    refine Or.inl ⟨ord.want0 rfl, ?_⟩
                    exact ord.makes_move rfl ⟨Below.refl _ _, rfl⟩
                  · intro o ho x w hb hG
                    obtain rfl := Option.some.inj ho
                    clear ho
                    refine Or.inl ⟨ord.want0 rfl, ?_⟩
                    exact ord.makes_move rfl ⟨Below.refl _ _, rfl⟩
                  · intro o ho x w hb hG
                    obtain rfl := Option.some.inj ho
                    clear ho
                    have h60 : x 1 = .slice (some ⟨g, 0, none⟩) 8 c := hG (1, 60) (List.mem_of_getElem? (i := 1) rfl) rfl
                    have h61 : x 2 = .int .i64 (k : Nat) := hG (2, 61) (List.mem_of_getElem? (i := 2) rfl) rfl
                    refine Or.inl ⟨ord.want0 rfl, ?_⟩
                    exact ord.makes_indexAddr rfl h60 h61 (by exact run_idxI g 8 c k hk8n w) ⟨Below.refl _ _, rfl⟩
                  · intro o ho x w hb hG
                    obtain rfl := Option.some.inj ho
                    clear ho
                    have h62 : x 3 = .pointer (some ⟨g, k, none⟩) := hG (3, 62) (List.mem_of_getElem? (i := 3) rfl) rfl
                    refine Or.inl ⟨ord.want0 rfl, ?_⟩
                    exact ord.makes_load rfl h62 (by exact run_loadI _ xx w (CE.out w hb)) ⟨Below.refl _ _, rfl⟩
                  · intro o ho x w hb hG
                    obtain rfl := Option.some.inj ho
                    clear ho
                    have h63 : x 4 = .int .i64 (xx : Nat) := hG (4, 63) (List.mem_of_getElem? (i := 4) rfl) rfl
                    refine Or.inl ⟨ord.want0 rfl, ?_⟩
                    exact ord.makes_bin rfl h63 rfl (by exact run_quoI _ _ xx 16777216 y1 e1.1 (by decide) (by omega) w) ⟨Below.refl _ _, rfl⟩
                  · intro o ho x w hb hG
                    obtain rfl := Option.some.inj ho
                    clear ho
                    have h64 : x 5 = .int .i64 (y1 : Nat) := hG (5, 64) (List.mem_of_getElem? (i := 5) rfl) rfl
                    refine Or.inl ⟨ord.want0 rfl, ?_⟩
                    exact ord.makes_conv rfl h64 (by exact run_convI8 y1 (D 0) hd0.out w) ⟨Below.refl _ _, rfl⟩
                  · intro o ho x w hb hG
                    obtain rfl := Option.some.inj ho
                    clear ho
                    refine Or.inl ⟨ord.want0 rfl, ?_⟩
                    exact ord.makes_move rfl ⟨Below.refl _ _, rfl⟩
                  · intro o ho x w hb hG
                    obtain rfl := Option.some.inj ho
                    clear ho
                    refine Or.inl ⟨ord.want0 rfl, ?_⟩
                    exact ord.makes_move rfl ⟨Below.refl _ _, rfl⟩
                  · intro o ho x w hb hG
                    obtain rfl := Option.some.inj ho
                    clear ho
                    have h66 : x 7 = .slice (some ⟨g, 0, none⟩) 8 c := hG (7, 66) (List.mem_of_getElem? (i := 7) rfl) rfl
                    have h67 : x 8 = .int .i64 (k : Nat) := hG (8, 67) (List.mem_of_getElem? (i := 8) rfl) rfl
                    refine Or.inl ⟨ord.want0 rfl, ?_⟩
                    exact ord.makes_indexAddr rfl h66 h67 (by exact run_idxI g 8 c k hk8n w) ⟨Below.refl _ _, rfl⟩
                  · intro o ho x w hb hG
                    obtain rfl := Option.some.inj ho
                    clear ho
                    have h68 : x 9 = .pointer (some ⟨g, k, none⟩) := hG (9, 68) (List.mem_of_getElem? (i := 9) rfl) rfl
                    refine Or.inl ⟨ord.want0 rfl, ?_⟩
                    exact ord.makes_load rfl h68 (by exact run_loadI _ xx w (CE.out w hb)) ⟨Below.refl _ _, rfl⟩
                  · intro o ho x w hb hG
                    obtain rfl := Option.some.inj ho
                    clear ho
                    have h69 : x 10 = .int .i64 (xx : Nat) := hG (10, 69) (List.mem_of_getElem? (i := 10) rfl) rfl
                    refine Or.inl ⟨ord.want0 rfl, ?_⟩
                    exact ord.makes_bin rfl h69 rfl (by exact run_quoI _ _ xx 65536 y2 e2.1 (by decide) (by omega) w) ⟨Below.refl _ _, rfl⟩
                  · intro o ho x w hb hG
                    obtain rfl := Option.some.inj ho
                    clear ho
                    have h70 : x 11 = .int .i64 (y2 : Nat) := hG (11, 70) (List.mem_of_getElem? (i := 11) rfl) rfl
                    refine Or.inl ⟨ord.want0 rfl, ?_⟩
                    exact ord.makes_conv rfl h70 (by exact run_convI8 y2 (D 1) hd1.out w) ⟨Below.refl _ _, rfl⟩
                  · intro o ho x w hb hG
                    obtain rfl := Option.some.inj ho
                    clear ho
                    refine Or.inl ⟨ord.want0 rfl, ?_⟩
                    exact ord.makes_move rfl ⟨Below.refl _ _, rfl⟩
                  · intro o ho x w hb hG
                    obtain rfl := Option.some.inj ho
                    clear ho
                    refine Or.inl ⟨ord.want0 rfl, ?_⟩
                    exact ord.makes_move rfl ⟨Below.refl _ _, rfl⟩
                  · intro o ho x w hb hG
                    obtain rfl := Option.some.inj ho
                    clear ho
                    have h72 : x 13 = .slice (some ⟨g, 0, none⟩) 8 c := hG (13, 72) (List.mem_of_getElem? (i := 13) rfl) rfl
                    have h73 : x 14 = .int .i64 (k : Nat) := hG (14, 73) (List.mem_of_getElem? (i := 14) rfl) rfl
                    refine Or.inl ⟨ord.want0 rfl, ?_⟩
                    exact ord.makes_indexAddr rfl h72 h73 (by exact run_idxI g 8 c k hk8n w) ⟨Below.refl _ _, rfl⟩
                  · intro o ho x w hb hG
                    obtain rfl := Option.some.inj ho
                    clear ho
                    have h74 : x 15 = .pointer (some ⟨g, k, none⟩) := hG (15, 74) (List.mem_of_getElem? (i := 15) rfl) rfl
                    refine Or.inl ⟨ord.want0 rfl, ?_⟩
                    exact ord.makes_load rfl h74 (by exact run_loadI _ xx w (CE.out w hb)) ⟨Below.refl _ _, rfl⟩
                  · intro o ho x w hb hG
                    obtain rfl := Option.some.inj ho
                    clear ho
                    have h75 : x 16 = .int .i64 (xx : Nat) := hG (16, 75) (List.mem_of_getElem? (i := 16) rfl) rfl
                    refine Or.inl ⟨ord.want0 rfl, ?_⟩
                    exact ord.makes_bin rfl h75 rfl (by exact run_quoI _ _ xx 256 y3 e3.1 (by decide) (by omega) w) ⟨Below.refl _ _, rfl⟩
                  · intro o ho x w hb hG
                    obtain rfl := Option.some.inj ho
                    clear ho
                    have h76 : x 17 = .int .i64 (y3 : Nat) := hG (17, 76) (List.mem_of_getElem? (i := 17) rfl) rfl
                    refine Or.inl ⟨ord.want0 rfl, ?_⟩
                    exact ord.makes_conv rfl h76 (by exact run_convI8 y3 (D 2) hd2.out w) ⟨Below.refl _ _, rfl⟩
                  · intro o ho x w hb hG
                    obtain rfl := Option.some.inj ho
                    clear ho
                    refine Or.inl ⟨ord.want0 rfl, ?_⟩
                    exact ord.makes_move rfl ⟨Below.refl _ _, rfl⟩
                  · intro o ho x w hb hG
                    obtain rfl := Option.some.inj ho
                    clear ho
                    refine Or.inl ⟨ord.want0 rfl, ?_⟩
                    exact ord.makes_move rfl ⟨Below.refl _ _, rfl⟩
                  · intro o ho x w hb hG
                    obtain rfl := Option.some.inj ho
                    clear ho
                    have h78 : x 19 = .slice (some ⟨g, 0, none⟩) 8 c := hG (19, 78) (List.mem_of_getElem? (i := 19) rfl) rfl
                    have h79 : x 20 = .int .i64 (k : Nat) := hG (20, 79) (List.mem_of_getElem? (i := 20) rfl) rfl
                    refine Or.inl ⟨ord.want0 rfl, ?_⟩
                    exact ord.makes_indexAddr rfl h78 h79 (by exact run_idxI g 8 c k hk8n w) ⟨Below.refl _ _, rfl⟩
                  · intro o ho x w hb hG
                    obtain rfl := Option.some.inj ho
                    clear ho
                    have h80 : x 21 = .pointer (some ⟨g, k, none⟩) := hG (21, 80) (List.mem_of_getElem? (i := 21) rfl) rfl
                    refine Or.inl ⟨ord.want0 rfl, ?_⟩
                    exact ord.makes_load rfl h80 (by exact run_loadI _ xx w (CE.out w hb)) ⟨Below.refl _ _, rfl⟩
                  · intro o ho x w hb hG
                    obtain rfl := Option.some.inj ho
                    clear ho
                    have h81 : x 22 = .int .i64 (xx : Nat) := hG (22, 81) (List.mem_of_getElem? (i := 22) rfl) rfl
                    refine Or.inl ⟨ord.want0 rfl, ?_⟩
                    exact ord.makes_conv rfl h81 (by exact run_convI8 xx (D 3) hd3.out w) ⟨Below.refl _ _, rfl⟩
                  · intro o ho x w hb hG
                    obtain rfl := Option.some.inj ho
                    clear ho
                    have h65 : x 6 = .int .u8 (D 0 : Nat) := hG (6, 65) (List.mem_of_getElem? (i := 6) rfl) rfl
                    have h71 : x 12 = .int .u8 (D 1 : Nat) := hG (12, 71) (List.mem_of_getElem? (i := 12) rfl) rfl
                    have h77 : x 18 = .int .u8 (D 2 : Nat) := hG (18, 77) (List.mem_of_getElem? (i := 18) rfl) rfl
                    have h82 : x 23 = .int .u8 (D 3 : Nat) := hG (23, 82) (List.mem_of_getElem? (i := 23) rfl) rfl
                    refine Or.inl ⟨ord.want0 rfl, ?_⟩
                    exact ord.makes_build4 rfl h65 h71 h77 h82 (run_bytes4 w (D 0) (D 1) (D 2) (D 3)) ⟨(Below.refl _ _).alloc (Nat.le_refl _) _, _, rfl, four_slB w 5 D HDL.out⟩
                  --END STEPS out
                  · intro x5 w5 hb hG
                    have e0 : x5 0 = u9 := hG (0, 59) (List.mem_of_getElem? (i := 0) rfl)
                    obtain ⟨gg, e24, hsl24⟩ : ∃ gg, x5 24 = .slice (some ⟨gg, 0, none⟩) 4 4 ∧ SlB w5 (some ⟨gg, 0, none⟩) 4 D := hG (24, 83) (List.mem_of_getElem? (i := 24) rfl)
                    clear hG
                    simp only [ord.puts, ord.put', List.set_cons_zero, List.set_cons_succ, if_true]
                    rw [e0, e24]
                    simp only [List.drop_succ_cons, List.drop_zero]
                    have HO := Lib.hid (G1.out.keep hb)
                    have HB5 := Lib.hid (G2.out.trans (hb.mono G2.out.size))
                    have HC5 := Lib.hid hsl24
                    clear hb hsl24
                    go_wp2_with (refine wpList_appO rfl (.tmp 59) (.tmp 83) rfl W1.heap.size _ (4 * k) (dig s) rfl HO.out (some ⟨gg, 0, none⟩) 4 4 D rfl HC5.out (fun h => by cases h) (by omega) HB5.out.size (fun j _ => dig_lt s j) (fun j _ => HDL.out j) ?_; intro A4 c4 w4 h1 h2 h3 h4; have HO6 := Lib.hid (OwnB.congr (g := dig s) h1 fun j hj => by unfold catB; by_cases e : j < 4 * k; rw [if_pos e]; rw [if_neg e, HDE.out, show 4 * k + (j - 4 * k) = j by omega]); have HB6 := Lib.hid (HB5.out.trans h4); clear h1 h2 h3 h4)
                    go_roundw
                    case rel => exact ⟨k + 1, by omega, by go_num, HO6.out, HB6.out⟩
                    case measure => simp [intOf]; omega
                · obtain rfl : k = 8 := by omega
                  obtain ⟨A9, c9, rfl, hsl9⟩ := OwnB.slice G1.out (fun j _ => dig_lt s j)
                  have HS9 := Lib.hid hsl9
                  clear hsl9
                  go_wp2_with fail
                  go_ret
                  exact ⟨A9, c9, rfl, ⟨HS9.out.congr fun j _ => (HEND.out j).symm, (G1.out.less KB.out.size).congr fun j _ => (HEND.out j).symm⟩, KB.out.trans (G2.out.mono KB.out.size)⟩
    · have hb : ((m : Int) % 64 != 56) = true := by simp; omega
      have HLm := Lib.hid (show m + 1 ≤ padL n - 8 by have := HPL.out; omega)
      have HMS := Lib.hid (show padL n - 8 - (m + 1) < padL n - 8 - m by have := HLm.out; omega)
      have HO3 := Lib.hid (H1.out.alloc (.cells #[.int .u8 ((0 : Nat) : Int)] 5))
      have HB3 := Lib.hid (H2.out.alloc H2.out.size (.cells #[.int .u8 ((0 : Nat) : Int)] 5))
      clear hr
      go_wp2_with (refine wpList_appO rfl (.tmp 20) (.tmp 21) rfl w.heap.size _ m (padf n f) rfl HO3.out (some ⟨_, 0, none⟩) 1 1 (fun _ => 0) rfl (HZ.out _) (fun h => by cases h) (by omega) HB3.out.size (HPB.out m) (fun _ _ => by decide) ?_; intro A4 c4 w4 h1 h2 h3 h4; have HO4 := Lib.hid (OwnB.congr (g := padf n f) h1 fun j hj => by unfold catB; by_cases e : j < m; rw [if_pos e]; rw [if_neg e, padf_zero n f j (by omega) (by have := HLm.out; omega)]); have HB4 := Lib.hid (HB3.out.trans h4); clear h1 h2 h3 h4)
      go_roundw
      case rel => exact ⟨m + 1, A4, c4, by omega, HLm.out, rfl, HO4.out, HB4.out⟩
      case measure => exact HMS.out
theorem rsum_any (A : Option Addr) (n cap : Nat) (f : Nat → Nat) (w : World) (hn : n ≤ 10000000000000) (hA : SlB w A n f) (hnil : A = none → n = 0 ∧ cap = 0) :
    Calls Tryd.prog 26 #[.slice A n cap] w fun e w' => ∃ A' c', e = .returned (.slice A' 32 c') ∧ SlB w' A' 32 (sha n f) ∧ Below w.heap.size w w' :=
  (rsum_own A n cap f w hn hA hnil).mono fun _ _ ⟨A', c', he, h, hb⟩ => ⟨A', c', he, h.1, hb⟩
end Go.Proofs.YtogcfaijphpgfaaDoor
/- The laws' calls of Sum (layer 5). -/
namespace Go.Proofs.YtogcfaijphpgfaaDoor
open Go.RowKit
theorem parts1 {W : World} (A : Option Addr) (n c : Nat) (f : Nat → Nat) (hA : SlB W A n f) : Parts (W.alloc (.cells #[.slice A n c] 22)) W.heap.size 1 (fun _ => A) (fun _ => n) (fun _ => c) (fun _ => f) :=
  ⟨fun j hj => by
    obtain rfl : j = 0 := by omega
    exact (World.cell?_alloc_at _ _ _ _ rfl).trans rfl, fun _ _ => hA.keep ((Below.refl _ _).alloc (Nat.le_refl _) _)⟩
theorem parts2 {W : World} (A0 A1 : Option Addr) (n0 n1 c0 c1 : Nat) (f0 f1 : Nat → Nat) (h0 : SlB W A0 n0 f0) (h1 : SlB W A1 n1 f1) :
    Parts (W.alloc (.cells #[.slice A0 n0 c0, .slice A1 n1 c1] 22)) W.heap.size 2 (t2 A0 A1) (t2 n0 n1) (t2 c0 c1) (t2 f0 f1) :=
  ⟨fun j hj => by rcases two_of hj with rfl | rfl <;> exact (World.cell?_alloc_at _ _ _ _ rfl).trans rfl, fun j hj => by
    rcases two_of hj with rfl | rfl
    · exact h0.keep ((Below.refl _ _).alloc (Nat.le_refl _) _)
    · exact h1.keep ((Below.refl _ _).alloc (Nat.le_refl _) _)⟩
theorem SlB.none0 (w : World) (f : Nat → Nat) : SlB w none 0 f := fun h => absurd h (Nat.lt_irrefl 0)
/-- one of three -/
def q3 {α : Type} (x y z : α) (j : Nat) : α := if j = 0 then x else if j = 1 then y else z
theorem three_of {j : Nat} (h : j < 3) : j = 0 ∨ j = 1 ∨ j = 2 := by omega
theorem parts3 {W : World} (A0 A1 A2 : Option Addr) (n0 n1 n2 c0 c1 c2 : Nat) (f0 f1 f2 : Nat → Nat) (h0 : SlB W A0 n0 f0) (h1 : SlB W A1 n1 f1) (h2 : SlB W A2 n2 f2) :
    Parts (W.alloc (.cells #[.slice A0 n0 c0, .slice A1 n1 c1, .slice A2 n2 c2] 22)) W.heap.size 3 (q3 A0 A1 A2) (q3 n0 n1 n2) (q3 c0 c1 c2) (q3 f0 f1 f2) :=
  ⟨fun j hj => by rcases three_of hj with rfl | rfl | rfl <;> exact (World.cell?_alloc_at _ _ _ _ rfl).trans rfl, fun j hj => by
    rcases three_of hj with rfl | rfl | rfl
    · exact h0.keep ((Below.refl _ _).alloc (Nat.le_refl _) _)
    · exact h1.keep ((Below.refl _ _).alloc (Nat.le_refl _) _)
    · exact h2.keep ((Below.refl _ _).alloc (Nat.le_refl _) _)⟩
/-- what a digest's call leaves -/
def Dig (W : World) (n : Nat) (F : Nat → Nat) (e : Ending) (w' : World) : Prop :=
  ∃ d, e = .returned (.slice (some ⟨d, 0, none⟩) 32 32) ∧ W.heap.size ≤ d ∧ Arr w' d 0 32 (sha n F) ∧ Below W.heap.size W w'
theorem Dig.of {W0 W : World} {n : Nat} {F : Nat → Nat} {e : Ending} {w' : World} (h : ∃ d, e = .returned (.slice (some ⟨d, 0, none⟩) 32 32) ∧ W.heap.size ≤ d ∧ Arr w' d 0 32 (sha n F) ∧ Below W.heap.size W w') (hb : Below W0.heap.size W0 W) : Dig W0 n F e w' := by
  obtain ⟨d, he, hd, ha, hb'⟩ := h
  exact ⟨d, he, Nat.le_trans hb.size hd, ha, hb.trans (hb'.mono hb.size)⟩
theorem Dig.as {W : World} {n m : Nat} {F F' : Nat → Nat} {e : Ending} {w' : World} (h : Dig W n F e w') (hn : n = m) (hF : ∀ j, j < n → F j = F' j) : Dig W m F' e w' := by
  subst hn
  obtain ⟨d, he, hd, ha, hb'⟩ := h
  exact ⟨d, he, hd, ha.congr fun j _ => sha_congr hF j, hb'⟩
theorem sum1_any (W : World) (A : Option Addr) (n c : Nat) (f : Nat → Nat) (hn : n ≤ 100000000000000) (hc : n ≤ c) (hA : SlB W A n f) (ht : GT W) :
    Calls Tryd.prog 20 #[.slice (some ⟨W.heap.size, 0, none⟩) 1 1] (W.alloc (.cells #[.slice A n c] 22)) (Dig W n f) := by
  refine (sum_any W.heap.size 1 1 _ _ _ _ f _ (by decide) (by decide) (by show 0 + n ≤ _; omega) (parts1 A n c f hA) (fun _ _ => hc) (fun i hi j hj => ?_) (fun j hj => hA.byte (by have : j < 0 + n := hj; omega)) (ht.alloc _)).mono fun e w' h => (Dig.of h ((Below.refl _ _).alloc (Nat.le_refl _) _)).as (Nat.zero_add n) fun _ _ => rfl
  obtain rfl : i = 0 := by omega
  show f (0 + j) = f j
  rw [Nat.zero_add]
theorem sum2_any (W : World) (A0 A1 : Option Addr) (n0 n1 c0 c1 : Nat) (f0 f1 F : Nat → Nat) (hn : n0 + n1 ≤ 100000000000000) (hc0 : n0 ≤ c0) (hc1 : n1 ≤ c1) (h0 : SlB W A0 n0 f0) (h1 : SlB W A1 n1 f1) (hF0 : ∀ j, j < n0 → F j = f0 j) (hF1 : ∀ j, j < n1 → F (n0 + j) = f1 j) (ht : GT W) :
    Calls Tryd.prog 20 #[.slice (some ⟨W.heap.size, 0, none⟩) 2 2] (W.alloc (.cells #[.slice A0 n0 c0, .slice A1 n1 c1] 22)) (Dig W (n0 + n1) F) := by
  refine (sum_any W.heap.size 2 2 _ _ _ _ F _ (by decide) (by decide) (by show 0 + n0 + n1 ≤ _; omega) (parts2 A0 A1 n0 n1 c0 c1 f0 f1 h0 h1) (fun i hi => ?_) (fun i hi j hj => ?_) (fun j hj => ?_) (ht.alloc _)).mono fun e w' h => (Dig.of h ((Below.refl _ _).alloc (Nat.le_refl _) _)).as (by show 0 + n0 + n1 = _; omega) fun _ _ => rfl
  · rcases two_of hi with rfl | rfl
    · exact hc0
    · exact hc1
  · rcases two_of hi with rfl | rfl
    · show F (0 + j) = f0 j
      rw [Nat.zero_add]; exact hF0 j hj
    · show F (0 + n0 + j) = f1 j
      rw [Nat.zero_add]; exact hF1 j hj
  · have hj : j < 0 + n0 + n1 := hj
    by_cases e : j < n0
    · rw [hF0 j e]; exact h0.byte e
    · have := hF1 (j - n0) (by omega)
      rw [show n0 + (j - n0) = j by omega] at this
      rw [this]; exact h1.byte (by omega)
theorem sum3_any (W : World) (A0 A1 A2 : Option Addr) (n0 n1 n2 c0 c1 c2 : Nat) (f0 f1 f2 F : Nat → Nat) (hn : n0 + n1 + n2 ≤ 100000000000000) (hc0 : n0 ≤ c0) (hc1 : n1 ≤ c1) (hc2 : n2 ≤ c2) (h0 : SlB W A0 n0 f0) (h1 : SlB W A1 n1 f1) (h2 : SlB W A2 n2 f2) (hY : By (n0 + n1 + n2) F)
    (hF0 : ∀ j, j < n0 → F j = f0 j) (hF1 : ∀ j, j < n1 → F (n0 + j) = f1 j) (hF2 : ∀ j, j < n2 → F (n0 + n1 + j) = f2 j) (ht : GT W) :
    Calls Tryd.prog 20 #[.slice (some ⟨W.heap.size, 0, none⟩) 3 3] (W.alloc (.cells #[.slice A0 n0 c0, .slice A1 n1 c1, .slice A2 n2 c2] 22)) (Dig W (n0 + n1 + n2) F) := by
  refine (sum_any W.heap.size 3 3 _ _ _ _ F _ (by decide) (by decide) (by show 0 + n0 + n1 + n2 ≤ _; omega) (parts3 A0 A1 A2 n0 n1 n2 c0 c1 c2 f0 f1 f2 h0 h1 h2) (fun i hi => ?_) (fun i hi j hj => ?_) (fun j hj => ?_) (ht.alloc _)).mono fun e w' h => (Dig.of h ((Below.refl _ _).alloc (Nat.le_refl _) _)).as (by show 0 + n0 + n1 + n2 = _; omega) fun _ _ => rfl
  · rcases three_of hi with rfl | rfl | rfl
    · exact hc0
    · exact hc1
    · exact hc2
  · rcases three_of hi with rfl | rfl | rfl
    · show F (0 + j) = f0 j
      rw [Nat.zero_add]; exact hF0 j hj
    · show F (0 + n0 + j) = f1 j
      rw [Nat.zero_add]; exact hF1 j hj
    · show F (0 + n0 + n1 + j) = f2 j
      rw [Nat.zero_add]; exact hF2 j hj
  · have hj : j < 0 + n0 + n1 + n2 := hj
    exact hY j (by omega)
end Go.Proofs.YtogcfaijphpgfaaDoor
namespace Go.Proofs.YtogcfaijphpgfaaDoor
open Go.RowKit

theorem splice_full (n : Nat) (bs : Nat → Nat) : splice (List.replicate (n + 1) (Value.int .u8 0)) 0 (bytesL n bs) = bytesL (n + 1) (fun j => if j < n then bs j else 0) := by
  unfold splice bytesL
  rw [List.take_zero, List.nil_append, List.range_succ, List.map_append]
  congr 1
  · apply List.map_congr_left
    intro j hj
    show _ = Value.int .u8 ((if j < n then bs j else 0 : Nat) : Int)
    rw [if_pos (List.mem_range.1 hj)]
  · rw [List.length_map, List.length_range, Nat.zero_add, List.drop_replicate, show n + 1 - n = 1 by omega]
    simp
theorem row_of_bytesL {w : World} {g n : Nat} {f : Nat → Nat} (h : w.heap[g]? = some (.cells (bytesL n f).toArray 5 (0, 0))) : w.rowIs g 5 n (fun j => .int .u8 (f j : Nat)) := by
  refine ⟨_, h, by simp [bytesL], fun i hi => ?_⟩
  rw [List.getElem?_toArray]
  unfold bytesL
  rw [List.getElem?_map, List.getElem?_range hi]; rfl

set_option maxHeartbeats 800000 in
theorem lent_any (A : Option Addr) (len cap : Nat) (bs : Nat → Nat) (w : World) (hl : len ≤ 140737488351232) (hA : SlB w A len bs) :
    Calls Tryd.prog 10 #[.slice A len cap] w fun e w' => ∃ g, e = .returned (.slice (some ⟨g, 0, none⟩) len (len + 1)) ∧ w.heap.size ≤ g ∧
      w'.rowIs g 5 (len + 1) (fun j => .int .u8 (if j < len then bs j else 77 : Nat)) ∧ Below w.heap.size w w' := by
  obtain ⟨i, hi, hz, hsz, hb⟩ := info_parts info8
  have hmk : ∀ W : World, (Instr.makeSlice 22 (.int .i64 (len : Int)) (.int .i64 ((len : Int) + 1))).run Tryd.prog W = .ok (.slice (some ⟨W.heap.size, 0, none⟩) len (len + 1)) (W.alloc (.cells (madeCells #[.int .u8 0] (len + 1)) 5)) := fun W => by
    have := run_make (P := Tryd.prog) W 22 5 i (.int .u8 0) Tryd.underlying22 hi hz .i64 .i64 (len : Int) ((len : Int) + 1) (by omega) (by omega) (by rw [hb]; omega) (by omega)
    rw [this, hsz, Int.toNat_natCast, show ((len : Int) + 1).toNat = len + 1 by omega, Nat.mul_one]
    rfl
  have HA := Lib.hid hA
  clear hA hi hz hsz hb
  have HX := Lib.hid (SlB.keep HA.out ((Below.refl _ _).alloc (Nat.le_refl _) (.cells (madeCells #[.int .u8 0] (len + 1)) 5)))
  have HB1 := Lib.hid ((Below.refl w.heap.size w).alloc (Nat.le_refl _) (.cells (madeCells #[.int .u8 0] (len + 1)) 5))
  have HG := Lib.hid (show (w.alloc (.cells (madeCells #[.int .u8 0] (len + 1)) 5)).heap[w.heap.size]? = some (.cells (List.replicate (len + 1) (Value.int .u8 0)).toArray 5 (0, 0)) by
    rw [heap_alloc_new]
    congr 2
    apply Array.ext'
    rw [toList_madeCells_one])
  have hlen : (bytesL len bs).length = Nat.min len len := by simp [bytesL]
  have hfit : 0 + (bytesL len bs).length ≤ (List.replicate (len + 1) (Value.int .u8 0)).length := by simp [bytesL]
  have hone : ∀ v ∈ bytesL len bs, v.oneCell' = true := by
    intro u hu
    obtain ⟨j, hj⟩ := List.getElem?_of_mem hu
    obtain ⟨_, rfl⟩ := bytesL_get _ _ j u hj
    rfl
  have HPOS := Lib.hid (show 0 < (bytesL len bs).length → (some (⟨w.heap.size, 0, none⟩ : Addr)) = some ⟨w.heap.size, 0, none⟩ ∧ ∃ ad, A = some ad ∧ ∀ j v, (bytesL len bs)[j]? = some v → (w.alloc (.cells (madeCells #[.int .u8 0] (len + 1)) 5)).cell? (ad.add j) = some v from fun h => by
    have h0 : 0 < len := by simpa [bytesL] using h
    obtain ⟨B, o, hA, _, hc⟩ := HX.out h0
    refine ⟨rfl, _, hA, fun j v hj => ?_⟩
    obtain ⟨hjl, rfl⟩ := bytesL_get _ _ j v hj
    rw [Go.WideShapes.add_plain]
    exact (hc j hjl).2)
  have hsz1 : (Tryd.prog.info? 5).map (·.size) = some 1 := by kernel_rfl
  have HL := Lib.hid hlen
  have HF := Lib.hid hfit
  have HO := Lib.hid hone
  have HS := Lib.hid hsz1
  clear hlen hfit hone hsz1
  go_enter Tryd.func10, Tryd.ntmps10
  go_wp2_with (((refine wpList_copy_splice rfl (.tmp 10) (.tmp 11) 22 22 rfl 5 Tryd.underlying22 HS.out (some ⟨w.heap.size, 0, none⟩) A len (len + 1) len cap rfl rfl w.heap.size 0 _ 5 HG.out (bytesL len bs) HL.out HPOS.out HF.out HO.out w.heap.size w HB1.out (Nat.le_refl _) ?_); intro w2 HR hb2; rw [splice_full] at HR; have HR2 := Lib.hid (row_of_bytesL HR.out); have HB2 := Lib.hid hb2; have hc := HR2.out.cell (i := len) (Nat.lt_succ_self len); rw [if_neg (Nat.lt_irrefl len)] at hc; have hf := HR2.out.frozen len; clear HR hb2))
  go_ret
  exact ⟨w.heap.size, rfl, Nat.le_refl _, (HR2.out.set len (.int .u8 77)).congr fun j hj => by
    by_cases e : j = len
    · rw [if_pos e, if_neg (by omega)]; rfl
    · rw [if_neg e, if_pos (by omega), if_pos (by omega)], HB2.out.setCell (Nat.le_refl _) _⟩

set_option maxHeartbeats 800000 in
theorem kept_any (g : Nat) (A : Option Addr) (len cap : Nat) (bs : Nat → Nat) (w : World) (hl : len ≤ 140737488351232) (hA : SlB w A len bs)
    (hr : w.rowIs g 5 (len + 1) (fun j => .int .u8 (if j < len then bs j else 77 : Nat))) :
    Calls Tryd.prog 13 #[.slice (some ⟨g, 0, none⟩) len (len + 1), .slice A len cap] w fun e w' => e = .returned (.bool true) ∧ w = w' := by
  have hcv1 := convRowX (cap := len + 1) ((RowX.of_rowIs hr).less (Nat.le_succ len)) bs (Nat.le_refl _) (fun i hi => by rw [if_pos hi])
  have hcv2 := convSl (cap := cap) hA (Nat.le_refl len)
  have hc := hr.cell (i := len) (Nat.lt_succ_self len)
  rw [if_neg (Nat.lt_irrefl len)] at hc
  clear hr hA
  generalize strOf len bs = y at *
  go_enter Tryd.func13, Tryd.ntmps13
  go_wp2_with fail
  go_ret
  exact ⟨rfl, rfl⟩
end Go.Proofs.YtogcfaijphpgfaaDoor
/- Owned: rows of bytes that may be written over, each by itself. -/
namespace Go.Proofs.YtogcfaijphpgfaaDoor
open Go.RowKit

/-- what row j holds at place t when k rows and u places of the next one are written over -/
def ov (f : Nat → Nat → Nat) (k u j t : Nat) : Nat := if j < k ∨ (j = k ∧ t < u) then j + 1 else f j t
/-- two rows of bytes, known by a row of two slices -/
structure Rws (R : Nat) (w : World) (g3 : Nat) (A : Nat → Option Addr) (n c g : Nat → Nat) (f : Nat → Nat → Nat) (k u : Nat) : Prop where
  cells : ∀ j, j < R → w.cell? ⟨g3, j, none⟩ = some (.slice (A j) (n j) (c j))
  rows : ∀ j, j < R → 0 < c j → RowX w (g j) 5 (c j) (fun t => .int .u8 (ov f k u j t : Nat))
variable {A : Nat → Option Addr} {n c g : Nat → Nat} {f : Nat → Nat → Nat} {R g3 B : Nat}
theorem Rws.next {w : World} {k : Nat} (h : Rws R w g3 A n c g f k (c k)) : Rws R w g3 A n c g f (k + 1) 0 :=
  ⟨h.cells, fun j hj hc => (h.rows j hj hc).congr fun t ht => by
    congr 2
    unfold ov
    by_cases e : j < k ∨ (j = k ∧ t < c k)
    · rw [if_pos e, if_pos (by omega)]
    · rw [if_neg e, if_neg (by
        rintro (h1 | h1)
        · have : j = k := by omega
          subst this
          exact e (Or.inr ⟨rfl, ht⟩)
        · omega)]⟩
theorem Rws.drewN {w : World} {k u : Nat} (h : Rws R w g3 A n c g f k u) (m : Nat) : Rws R (w.drewN m) g3 A n c g f k u := ⟨h.cells, fun j hj hc => (h.rows j hj hc).drewN m⟩
theorem Rws.write {w : World} {k u : Nat} (h : Rws R w g3 A n c g f k u) (hk : k < R) (hc : 0 < c k) (hne : ∀ i j, i < R → j < R → i ≠ j → 0 < c i → 0 < c j → g i ≠ g j) (h3 : g3 ≠ g k) :
    Rws R (w.setCell ⟨g k, u, none⟩ (.int .u8 ((k : Int) + 1))) g3 A n c g f k (u + 1) :=
  ⟨fun j hj => (World.cell?_setCell_other w ⟨g k, u, none⟩ ⟨g3, j, none⟩ _ (fun e => h3 (congrArg Addr.block e).symm)).trans (h.cells j hj), fun j hj hcj => by
    by_cases e : j = k
    · subst e
      refine ((h.rows j hj hcj).set u _).congr fun t _ => ?_
      by_cases et : t = u
      · rw [if_pos et]; unfold ov; rw [if_pos (by omega)]; rfl
      · rw [if_neg et]
        congr 2
        unfold ov
        by_cases e2 : j < j ∨ (j = j ∧ t < u)
        · rw [if_pos e2, if_pos (by omega)]
        · rw [if_neg e2, if_neg (by omega)]
    · refine ((h.rows j hj hcj).setOther (a := ⟨g k, u, none⟩) (hne j k hj hk e hcj hc) _).congr fun t _ => ?_
      congr 2
      unfold ov
      by_cases e2 : j < k ∨ (j = k ∧ t < u)
      · rw [if_pos e2, if_pos (by omega)]
      · rw [if_neg e2, if_neg (by omega)]⟩

set_option maxHeartbeats 1600000 in
theorem owned_any (cap3 : Nat) (w : World) (hR : R ≤ 200) (h2 : Rws R w g3 A n c g f 0 0) (hA : ∀ j, j < R → 0 < c j → A j = some ⟨g j, 0, none⟩)
    (hne : ∀ i j, i < R → j < R → i ≠ j → 0 < c i → 0 < c j → g i ≠ g j) (h3 : ∀ j, j < R → 0 < c j → g3 ≠ g j) (hB : ∀ j, j < R → 0 < c j → B ≤ g j) (hcl : ∀ j, j < R → c j ≤ 140737488351300) :
    Calls Tryd.prog 14 #[.slice (some ⟨g3, 0, none⟩) R cap3] w fun e w' => e = .returned (.bool true) ∧ Below B w w' := by
  have H2 := Lib.hid h2
  have HA := Lib.hid hA
  have HN := Lib.hid hne
  have H3 := Lib.hid h3
  have HB := Lib.hid hB
  have HC := Lib.hid hcl
  clear h2 hA hne h3 hB hcl
  go_enter Tryd.func14, Tryd.ntmps14
  go_wp2_with fail
  go_loopw [3] (fun i wr => ∃ k : Nat, k ≤ R ∧ i = .int .i64 k ∧ Rws R wr g3 A n c g f k 0 ∧ Below B w wr) (fun i _ => R - (intOf i).toNat)
  case atStart => exact ⟨0, by omega, rfl, H2.out, Below.refl _ _⟩
  case round =>
    obtain ⟨k, hk, rfl, htw, hbl⟩ := hrel
    have HT := Lib.hid htw
    have HBL := Lib.hid hbl
    clear htw hbl
    by_cases hlt : k < R
    · have hlti : (k : Int) < R := by omega
      have hk0 : (0 : Int) ≤ (k : Nat) := by omega
      have hcell := HT.out.cells k hlt
      have hck : ((c k : Nat) : Int) ≤ (c k : Nat) := Int.le_refl _
      have hck0 : (0 : Int) ≤ (c k : Nat) := by omega
      have HCK := HC.out k hlt
      go_wp2_with fail
      go_quiet (fail)
      have HTq := Lib.hid (HT.out.drewN nq)
      have HBq := Lib.hid (drawn HBL.out nq)
      generalize wr.drewN nq = W at *
      by_cases hc0 : c k = 0
      · have e0 : ((c k : Nat) : Int) = 0 := by omega
        have HZ := Lib.hid hc0
        generalize hcc : c k = cc at *
        subst hc0
        clear hcell
        go_wp2_with fail
        go_loopw [5] (fun i wr => i = .int .i64 0 ∧ wr = W) (fun _ _ => 0)
        case atStart => exact ⟨rfl, rfl⟩
        case round =>
          obtain ⟨rfl, rfl⟩ := hrel
          go_wp2_with fail
          go_roundw
          case rel => exact ⟨k + 1, by omega, by go_num, Rws.next (by rw [hcc]; exact HTq.out), HBq.out⟩
          case measure => simp [intOf]; omega
      · have hpos : 0 < c k := by omega
        have hAk := HA.out k hlt hpos
        rw [hAk]
        go_wp2_with fail
        go_loopw [5] (fun i wr => ∃ t : Nat, t ≤ c k ∧ i = .int .i64 t ∧ Rws R wr g3 A n c g f k t ∧ Below B w wr) (fun i _ => c k - (intOf i).toNat)
        case atStart => exact ⟨0, Nat.zero_le _, rfl, HTq.out, HBq.out⟩
        case round =>
          obtain ⟨t, ht, rfl, htw, hbl⟩ := hrel
          have HT2 := Lib.hid htw
          have HB2 := Lib.hid hbl
          clear htw hbl
          by_cases htl : t < c k
          · have hcl := (HT2.out.rows k hlt hpos).cell htl
            have hfr := (HT2.out.rows k hlt hpos).frozen htl
            have HW2 := Lib.hid (HT2.out.write hlt hpos HN.out (H3.out k hlt hpos))
            have HB3 := Lib.hid (HB2.out.setCell (p := ⟨g k, t, none⟩) (HB.out k hlt hpos) (.int .u8 ((k : Int) + 1)))
            generalize ov f k t k t = old at hcl
            go_wp2_with fail
            go_roundw
            case rel => exact ⟨t + 1, by omega, by go_num, HW2.out, HB3.out⟩
            case measure => simp [intOf]; omega
          · obtain rfl : t = c k := by omega
            go_wp2_with fail
            go_roundw
            case rel => exact ⟨k + 1, by omega, by go_num, HT2.out.next, HB2.out⟩
            case measure => simp [intOf]; omega
    · have HK := Lib.hid (show k = R by omega)
      have hk2 : ¬ (k : Int) < R := by omega
      go_wp2_with fail
      go_loopw [6] (fun i wr => ∃ j : Nat, j ≤ R ∧ i = .int .i64 j ∧ Rws R wr g3 A n c g f k 0 ∧ Below B w wr) (fun i _ => R - (intOf i).toNat)
      case atStart => exact ⟨0, by omega, rfl, HT.out, HBL.out⟩
      case round =>
        obtain ⟨j, hj, rfl, htw, hbl⟩ := hrel
        have HT5 := Lib.hid htw
        have HB5 := Lib.hid hbl
        clear htw hbl
        by_cases hjl : j < R
        · have hjli : (j : Int) < R := by omega
          have hj0 : (0 : Int) ≤ (j : Nat) := by omega
          have hcell := HT5.out.cells j hjl
          have hck : ((c j : Nat) : Int) ≤ (c j : Nat) := Int.le_refl _
          have hck0 : (0 : Int) ≤ (c j : Nat) := by omega
          have HCK := HC.out j hjl
          go_wp2_with fail
          go_quiet (fail)
          have HTq := Lib.hid (HT5.out.drewN nq)
          have HBq := Lib.hid (drawn HB5.out nq)
          generalize hWW : World.drewN _ nq = W at *
          clear hWW
          by_cases hc0 : c j = 0
          · have HZ := Lib.hid hc0
            generalize hcc : c j = cc at *
            subst hc0
            clear hcell
            go_wp2_with fail
            go_loopw [8] (fun i wr => i = .int .i64 0 ∧ wr = W) (fun _ _ => 0)
            case atStart => exact ⟨rfl, rfl⟩
            case round =>
              obtain ⟨rfl, rfl⟩ := hrel
              go_wp2_with fail
              go_roundw
              case rel => exact ⟨j + 1, by omega, by go_num, HTq.out, HBq.out⟩
              case measure => simp [intOf]; omega
          · have hpos : 0 < c j := by omega
            have hAk := HA.out j hjl hpos
            rw [hAk]
            go_wp2_with fail
            go_loopw [8] (fun i wr => ∃ t : Nat, t ≤ c j ∧ i = .int .i64 t ∧ wr = W) (fun i _ => c j - (intOf i).toNat)
            case atStart => exact ⟨0, Nat.zero_le _, rfl, rfl⟩
            case round =>
              obtain ⟨t, ht, rfl, rfl⟩ := hrel
              by_cases htl : t < c j
              · have hcl := (HTq.out.rows j hjl hpos).cell htl
                have hov : ov f k 0 j t = j + 1 := by unfold ov; rw [if_pos (by have := HK.out; omega)]
                rw [hov] at hcl
                clear hov
                obtain ⟨j1, ej, hj1⟩ : ∃ j1 : Nat, (j : Int) + 1 = j1 ∧ j + 1 = j1 := ⟨j + 1, by omega, rfl⟩
                rw [hj1] at hcl
                have hj13 : j1 ≤ 200 := by omega
                clear hj1
                go_wp2_with fail
                go_roundw
                case rel => exact ⟨t + 1, by omega, by go_num, trivial⟩
                case measure => simp [intOf]; omega
              · obtain rfl : t = c j := by omega
                go_wp2_with fail
                go_roundw
                case rel => exact ⟨j + 1, by omega, by go_num, HTq.out, HBq.out⟩
                case measure => simp [intOf]; omega
        · obtain rfl : j = R := by omega
          go_wp2_with fail
          go_ret
          exact ⟨rfl, HB5.out⟩
end Go.Proofs.YtogcfaijphpgfaaDoor
/- A row of rows of bytes that grows by append. -/
namespace Go.Proofs.YtogcfaijphpgfaaDoor
open Go.RowKit

/-- v holds k rows of len bytes each, in the call's own memory from base on -/
structure LR (base : Nat) (w : World) (v : Value) (k len : Nat) (S : Nat → Nat → Nat) (G C : Nat → Nat) : Prop where
  own : w.ownsRow base 22 1 v k ((List.range k).map fun j => .slice (some ⟨G j, 0, none⟩) len (C j))
  rows : ∀ j, j < k → RowX w (G j) 5 len (fun t => .int .u8 (S j t : Nat))
namespace LR
variable {base k len : Nat} {w w' : World} {v : Value} {S : Nat → Nat → Nat} {G C : Nat → Nat}
theorem nil (base : Nat) (w : World) (len : Nat) (S : Nat → Nat → Nat) (G C : Nat → Nat) : LR base w (.slice none 0 0) 0 len S G C := ⟨World.ownsRow_nil w base _ 1, fun _ hj => absurd hj (Nat.not_lt_zero _)⟩
theorem keepB {B : Nat} (h : LR base w v k len S G C) (hb : Below B w w') (hB : w.heap.size ≤ B) : LR base w' v k len S G C := by
  refine ⟨?_, fun j hj => (h.rows j hj).below hb (Nat.lt_of_lt_of_le (h.rows j hj).lt hB)⟩
  rcases h.own with ⟨h1, h2 | ⟨g, cap, cur, e, hg, hh, r⟩⟩
  · exact ⟨h1, Or.inl h2⟩
  · exact ⟨h1, Or.inr ⟨g, cap, cur, e, hg, (hb.block g (Nat.lt_of_lt_of_le (Array.getElem?_eq_some_iff.1 hh).1 hB)).trans hh, r⟩⟩
theorem keep (h : LR base w v k len S G C) (hb : Below w.heap.size w w') : LR base w' v k len S G C := h.keepB hb (Nat.le_refl _)
theorem alloc' (h : LR base w v k len S G C) (o : Obj) : LR base (w.alloc o) v k len S G C := h.keep ((Below.refl _ _).alloc (Nat.le_refl _) o)
/-- a block of another kind of cells, or none of its rows, may change -/
theorem chg {K : Nat} (h : LR base w v k len S G C) (hc : Chg K w w') (hK : ∀ j, j < k → G j ≠ K) (hT : ∀ c fr, w.heap[K]? ≠ some (.cells c 22 fr)) : LR base w' v k len S G C := by
  refine ⟨?_, fun j hj => (h.rows j hj).of_block (hc.block _ (h.rows j hj).lt (hK j hj))⟩
  rcases h.own with ⟨h1, h2 | ⟨g, cap, cur, e, hg, hh, r⟩⟩
  · exact ⟨h1, Or.inl h2⟩
  · exact ⟨h1, Or.inr ⟨g, cap, cur, e, hg, (hc.block g (Array.getElem?_eq_some_iff.1 hh).1 (fun e' => hT _ _ (e' ▸ hh))).trans hh, r⟩⟩
theorem base_le {B : Nat} (h : LR base w v k len S G C) (hB : B ≤ base) : LR B w v k len S G C := by
  refine ⟨?_, h.rows⟩
  rcases h.own with ⟨h1, h2 | ⟨g, cap, cur, e, hg, r⟩⟩
  · exact ⟨h1, Or.inl h2⟩
  · exact ⟨h1, Or.inr ⟨g, cap, cur, e, Nat.le_trans hB hg, r⟩⟩
theorem slice (h : LR base w v k len S G C) : ∃ A cap, v = .slice A k cap ∧ k ≤ cap ∧ (0 < k → ∃ g, A = some ⟨g, 0, none⟩ ∧ g < w.heap.size ∧ ∀ j, j < k → w.cell? ⟨g, j, none⟩ = some (.slice (some ⟨G j, 0, none⟩) len (C j))) := by
  have hown := h.own
  rcases hown.2 with ⟨rfl, hn⟩ | ⟨g, cap, cur, rfl, hg, hh, h1, r⟩
  · subst hn; exact ⟨none, 0, rfl, Nat.le_refl _, fun h => absurd h (Nat.lt_irrefl _)⟩
  · refine ⟨_, cap, rfl, h1, fun _ => ⟨g, rfl, (Array.getElem?_eq_some_iff.1 hh).1, fun j hj => ?_⟩⟩
    rw [hown.cellAt j (by omega), List.getElem?_map, List.getElem?_range hj]; rfl
end LR
theorem infoS' : (Tryd.prog.info? 22).map (fun i => (i.zero, i.size, i.bytes)) = some (some (.slice none 0 0), 1, 24) := by kernel_rfl
/-- append of one row -/
theorem wpList_appS {ops : Array Oper} {rest : List Oper} {o : Oper} {a : Act} {Q : Exit → Act → World → Prop} {w : World} (hgd : o.guard = none) (s x : Operand)
    (ho : o.op = .call { callee := .builtin .append, args := #[s, x], argTypes := #[30, 30] })
    (base : Nat) (v : Value) (k len : Nat) (S : Nat → Nat → Nat) (G C : Nat → Nat) (hs : a.eval s = v) (h : LR base w v k len S G C)
    (X T cT : Nat) (hx : a.eval x = .slice (some ⟨X, 0, none⟩) 1 1) (hX : w.cell? ⟨X, 0, none⟩ = some (.slice (some ⟨T, 0, none⟩) len cT)) (hT : RowX w T 5 len (fun t => .int .u8 (S k t : Nat))) (hk : k ≤ 1000) (hbase : base ≤ w.heap.size)
    (hq : ∀ v' w', LR base w' v' (k + 1) len S (fun j => if j = k then T else G j) (fun j => if j = k then cT else C j) → Below base w w' → wpList Tryd.prog ops Q rest (a.put o.dst v') w') : wpList Tryd.prog ops Q (o :: rest) a w := by
  obtain ⟨i, hi, hz, hsz, hb⟩ := info_parts infoS'
  refine wpList_append_own w hgd s x 30 ho base 22 i (.slice none 0 0) 1 24 Tryd.underlying30 hi hz hsz hb rfl (by decide) v k _ hs h.own ⟨X, 0, none⟩ 1 1 [.slice (some ⟨T, 0, none⟩) len cT] hx rfl ?_ ?_ (by unfold maxLen; omega) (by omega) hbase ?_
  · intro j u hj
    match j, hj with
    | 0, hj => simp at hj; subst hj; exact hX
  · intro u hu; simp at hu; subst hu; rfl
  · intro v' w' h1 h2 _
    have hb' : Below base w w' := (Below.refl base w).grown h2 hbase fun k hk => (h.own.lt k hk).1
    have keepRow : ∀ g f, RowX w g 5 len f → RowX w' g 5 len f := fun g f hr => hr.of_block (h2.block g hr.lt fun e => by
      rcases h.own.2 with ⟨rfl, _⟩ | ⟨g', cap, cur, rfl, hg, hh, _⟩
      · cases e
      · obtain rfl : g = g' := by simpa [Value.ownBlock] using e
        obtain ⟨c, fr, hc, _⟩ := hr
        rw [hh] at hc
        injection hc with hc
        injection hc with _ ht _
        exact absurd ht (by decide))
    refine hq v' w' ⟨?_, fun j hj => ?_⟩ hb'
    · rw [List.range_succ, List.map_append]
      have e1 : (List.range k).map (fun j => Value.slice (some ⟨G j, 0, none⟩) len (C j)) = (List.range k).map (fun j => Value.slice (some ⟨if j = k then T else G j, 0, none⟩) len (if j = k then cT else C j)) :=
        List.map_congr_left fun j hj => by
          have hne : ¬ j = k := Nat.ne_of_lt (List.mem_range.1 hj)
          rw [if_neg hne, if_neg hne]
      rw [← e1]
      simpa using h1
    · by_cases e : j = k
      · subst e; rw [if_pos rfl]; exact keepRow _ _ hT
      · rw [if_neg e]; exact keepRow _ _ (h.rows j (by omega))
/-- an own row of bytes, as a row -/
theorem OwnB.rowX {w : World} {base n : Nat} {v : Value} {f : Nat → Nat} (h : OwnB w base v n f) (hn : 0 < n) : ∃ g c, v = .slice (some ⟨g, 0, none⟩) n c ∧ base ≤ g ∧ n ≤ c ∧ RowX w g 5 n (fun t => .int .u8 (f t : Nat)) := by
  rcases h.2 with ⟨rfl, hx⟩ | ⟨g, cap, cur, rfl, hg, hh, h1, h2, h3, h4⟩
  · omega
  · refine ⟨g, cap, rfl, hg, h1, cur, (0, 0), hh, by omega, Or.inl rfl, fun i hi => ?_⟩
    have e := congrArg (fun l => l[i]?) h4
    simp only [Nat.mul_one, List.getElem?_take, if_pos hi] at e
    rw [bytesL_at hi] at e
    simpa using e
theorem RowX.arr {w : World} {g n : Nat} {f : Nat → Nat} (h : RowX w g 5 n (fun t => .int .u8 (f t : Nat))) : Arr w g 0 n f := fun j hj => by
  rw [Nat.zero_add]; exact ⟨h.cell hj, h.frozen hj⟩
theorem RowX.slB {w : World} {g n : Nat} {f : Nat → Nat} (h : RowX w g 5 n (fun t => .int .u8 (f t : Nat))) (hf : By n f) : SlB w (some ⟨g, 0, none⟩) n f := SlB.of_rowX h fun j hj => ⟨hf j hj, rfl⟩
end Go.Proofs.YtogcfaijphpgfaaDoor
/- Owned, for rows of bytes that lie in blocks of any kind. -/
namespace Go.Proofs.YtogcfaijphpgfaaDoor
open Go.RowKit

/-- w' is w but for the blocks of S and what is new -/
structure ChgS (S : Nat → Prop) (w w' : World) : Prop where
  os : w'.os = w.os
  tape : w'.tape = w.tape
  output : w'.output = w.output
  size : w.heap.size ≤ w'.heap.size
  block : ∀ k, k < w.heap.size → ¬ S k → w'.heap[k]? = w.heap[k]?
namespace ChgS
variable {S : Nat → Prop} {w w' : World}
theorem refl (S : Nat → Prop) (w : World) : ChgS S w w := ⟨rfl, rfl, rfl, Nat.le_refl _, fun _ _ _ => rfl⟩
theorem drewN (h : ChgS S w w') (n : Nat) : ChgS S w (w'.drewN n) := ⟨h.os, h.tape, h.output, h.size, h.block⟩
theorem setCell (h : ChgS S w w') {a : Addr} (ha : S a.block) (v : Value) : ChgS S w (w'.setCell a v) := by
  refine ⟨h.os, h.tape, h.output, ?_, fun k hk hn => (Below.heap_setCell w' a v k (fun e => hn (e ▸ ha))).trans (h.block k hk hn)⟩
  have := h.size
  simpa [World.setCell] using this
theorem below {B : Nat} (h : ChgS S w w') (hB : B ≤ w.heap.size) (hS : ∀ k, S k → B ≤ k) : Below B w w' := ⟨h.os, h.tape, h.output, h.size, fun k hk => h.block k (by omega) (fun e => by have := hS k e; omega)⟩
end ChgS
/-- the rows' blocks -/
def InR (R : Nat) (c g : Nat → Nat) (k : Nat) : Prop := ∃ j, j < R ∧ 0 < c j ∧ k = g j
/-- rows of bytes, known by a row of slices -/
structure RwsA (R : Nat) (w : World) (g3 : Nat) (A : Nat → Option Addr) (n c g : Nat → Nat) (f : Nat → Nat → Nat) (k u : Nat) : Prop where
  cells : ∀ j, j < R → w.cell? ⟨g3, j, none⟩ = some (.slice (A j) (n j) (c j))
  rows : ∀ j, j < R → 0 < c j → Arr w (g j) 0 (c j) (ov f k u j)
variable {A : Nat → Option Addr} {n c g : Nat → Nat} {f : Nat → Nat → Nat} {R g3 : Nat}
theorem RwsA.next {w : World} {k : Nat} (h : RwsA R w g3 A n c g f k (c k)) : RwsA R w g3 A n c g f (k + 1) 0 :=
  ⟨h.cells, fun j hj hc => (h.rows j hj hc).congr fun t ht => by
    unfold ov
    by_cases e : j < k ∨ (j = k ∧ t < c k)
    · rw [if_pos e, if_pos (by omega)]
    · rw [if_neg e, if_neg (by
        rintro (h1 | h1)
        · have : j = k := by omega
          subst this
          exact e (Or.inr ⟨rfl, ht⟩)
        · omega)]⟩
theorem RwsA.drewN {w : World} {k u : Nat} (h : RwsA R w g3 A n c g f k u) (m : Nat) : RwsA R (w.drewN m) g3 A n c g f k u := ⟨h.cells, fun j hj hc => (h.rows j hj hc).drewN m⟩
theorem RwsA.write {w : World} {k u : Nat} (h : RwsA R w g3 A n c g f k u) (hk : k < R) (hc : 0 < c k) (hu : u < c k) (hne : ∀ i j, i < R → j < R → i ≠ j → 0 < c i → 0 < c j → g i ≠ g j) (h3 : g3 ≠ g k) :
    RwsA R (w.setCell ⟨g k, u, none⟩ (.int .u8 ((k : Int) + 1))) g3 A n c g f k (u + 1) :=
  ⟨fun j hj => (World.cell?_setCell_other w ⟨g k, u, none⟩ ⟨g3, j, none⟩ _ (fun e => h3 (congrArg Addr.block e).symm)).trans (h.cells j hj), fun j hj hcj => by
    by_cases e : j = k
    · subst e
      refine ((h.rows j hj hcj).set hu (Nat.zero_add u).symm (j + 1) rfl).congr fun t _ => ?_
      by_cases et : t = u
      · rw [if_pos et]; unfold ov; rw [if_pos (by omega)]
      · rw [if_neg et]
        unfold ov
        by_cases e2 : j < j ∨ (j = j ∧ t < u)
        · rw [if_pos e2, if_pos (by omega)]
        · rw [if_neg e2, if_neg (by omega)]
    · refine ((h.rows j hj hcj).setOther (a := ⟨g k, u, none⟩) (hne j k hj hk e hcj hc) _).congr fun t _ => ?_
      unfold ov
      by_cases e2 : j < k ∨ (j = k ∧ t < u)
      · rw [if_pos e2, if_pos (by omega)]
      · rw [if_neg e2, if_neg (by omega)]⟩

set_option maxHeartbeats 1600000 in
theorem owned_arr (cap3 : Nat) (w : World) (hR : R ≤ 200) (h2 : RwsA R w g3 A n c g f 0 0) (hA : ∀ j, j < R → 0 < c j → A j = some ⟨g j, 0, none⟩)
    (hne : ∀ i j, i < R → j < R → i ≠ j → 0 < c i → 0 < c j → g i ≠ g j) (h3 : ∀ j, j < R → 0 < c j → g3 ≠ g j) (hcl : ∀ j, j < R → c j ≤ 140737488351300) :
    Calls Tryd.prog 14 #[.slice (some ⟨g3, 0, none⟩) R cap3] w fun e w' => e = .returned (.bool true) ∧ ChgS (InR R c g) w w' := by
  have H2 := Lib.hid h2
  have HA := Lib.hid hA
  have HN := Lib.hid hne
  have H3 := Lib.hid h3
  have HC := Lib.hid hcl
  clear h2 hA hne h3 hcl
  go_enter Tryd.func14, Tryd.ntmps14
  go_wp2_with fail
  go_loopw [3] (fun i wr => ∃ k : Nat, k ≤ R ∧ i = .int .i64 k ∧ RwsA R wr g3 A n c g f k 0 ∧ ChgS (InR R c g) w wr) (fun i _ => R - (intOf i).toNat)
  case atStart => exact ⟨0, by omega, rfl, H2.out, ChgS.refl _ _⟩
  case round =>
    obtain ⟨k, hk, rfl, htw, hbl⟩ := hrel
    have HT := Lib.hid htw
    have HBL := Lib.hid hbl
    clear htw hbl
    by_cases hlt : k < R
    · have hlti : (k : Int) < R := by omega
      have hk0 : (0 : Int) ≤ (k : Nat) := by omega
      have hcell := HT.out.cells k hlt
      have hck : ((c k : Nat) : Int) ≤ (c k : Nat) := Int.le_refl _
      have hck0 : (0 : Int) ≤ (c k : Nat) := by omega
      have HCK := HC.out k hlt
      go_wp2_with fail
      go_quiet (fail)
      have HTq := Lib.hid (HT.out.drewN nq)
      have HBq := Lib.hid (HBL.out.drewN nq)
      generalize wr.drewN nq = W at *
      by_cases hc0 : c k = 0
      · have e0 : ((c k : Nat) : Int) = 0 := by omega
        have HZ := Lib.hid hc0
        generalize hcc : c k = cc at *
        subst hc0
        clear hcell
        go_wp2_with fail
        go_loopw [5] (fun i wr => i = .int .i64 0 ∧ wr = W) (fun _ _ => 0)
        case atStart => exact ⟨rfl, rfl⟩
        case round =>
          obtain ⟨rfl, rfl⟩ := hrel
          go_wp2_with fail
          go_roundw
          case rel => exact ⟨k + 1, by omega, by go_num, RwsA.next (by rw [hcc]; exact HTq.out), HBq.out⟩
          case measure => simp [intOf]; omega
      · have hpos : 0 < c k := by omega
        have hAk := HA.out k hlt hpos
        rw [hAk]
        go_wp2_with fail
        go_loopw [5] (fun i wr => ∃ t : Nat, t ≤ c k ∧ i = .int .i64 t ∧ RwsA R wr g3 A n c g f k t ∧ ChgS (InR R c g) w wr) (fun i _ => c k - (intOf i).toNat)
        case atStart => exact ⟨0, Nat.zero_le _, rfl, HTq.out, HBq.out⟩
        case round =>
          obtain ⟨t, ht, rfl, htw, hbl⟩ := hrel
          have HT2 := Lib.hid htw
          have HB2 := Lib.hid hbl
          clear htw hbl
          by_cases htl : t < c k
          · have hcl := (HT2.out.rows k hlt hpos).cell htl (Nat.zero_add t).symm
            have hfr := (HT2.out.rows k hlt hpos).frozen htl (Nat.zero_add t).symm
            have HW2 := Lib.hid (HT2.out.write hlt hpos htl HN.out (H3.out k hlt hpos))
            have HB3 := Lib.hid (HB2.out.setCell (a := ⟨g k, t, none⟩) ⟨k, hlt, hpos, rfl⟩ (.int .u8 ((k : Int) + 1)))
            generalize ov f k t k t = old at hcl
            go_wp2_with fail
            go_roundw
            case rel => exact ⟨t + 1, by omega, by go_num, HW2.out, HB3.out⟩
            case measure => simp [intOf]; omega
          · obtain rfl : t = c k := by omega
            go_wp2_with fail
            go_roundw
            case rel => exact ⟨k + 1, by omega, by go_num, HT2.out.next, HB2.out⟩
            case measure => simp [intOf]; omega
    · have HK := Lib.hid (show k = R by omega)
      have hk2 : ¬ (k : Int) < R := by omega
      go_wp2_with fail
      go_loopw [6] (fun i wr => ∃ j : Nat, j ≤ R ∧ i = .int .i64 j ∧ RwsA R wr g3 A n c g f k 0 ∧ ChgS (InR R c g) w wr) (fun i _ => R - (intOf i).toNat)
      case atStart => exact ⟨0, by omega, rfl, HT.out, HBL.out⟩
      case round =>
        obtain ⟨j, hj, rfl, htw, hbl⟩ := hrel
        have HT5 := Lib.hid htw
        have HB5 := Lib.hid hbl
        clear htw hbl
        by_cases hjl : j < R
        · have hjli : (j : Int) < R := by omega
          have hj0 : (0 : Int) ≤ (j : Nat) := by omega
          have hcell := HT5.out.cells j hjl
          have hck : ((c j : Nat) : Int) ≤ (c j : Nat) := Int.le_refl _
          have hck0 : (0 : Int) ≤ (c j : Nat) := by omega
          have HCK := HC.out j hjl
          go_wp2_with fail
          go_quiet (fail)
          have HTq := Lib.hid (HT5.out.drewN nq)
          have HBq := Lib.hid (HB5.out.drewN nq)
          generalize hWW : World.drewN _ nq = W at *
          clear hWW
          by_cases hc0 : c j = 0
          · have HZ := Lib.hid hc0
            generalize hcc : c j = cc at *
            subst hc0
            clear hcell
            go_wp2_with fail
            go_loopw [8] (fun i wr => i = .int .i64 0 ∧ wr = W) (fun _ _ => 0)
            case atStart => exact ⟨rfl, rfl⟩
            case round =>
              obtain ⟨rfl, rfl⟩ := hrel
              go_wp2_with fail
              go_roundw
              case rel => exact ⟨j + 1, by omega, by go_num, HTq.out, HBq.out⟩
              case measure => simp [intOf]; omega
          · have hpos : 0 < c j := by omega
            have hAk := HA.out j hjl hpos
            rw [hAk]
            go_wp2_with fail
            go_loopw [8] (fun i wr => ∃ t : Nat, t ≤ c j ∧ i = .int .i64 t ∧ wr = W) (fun i _ => c j - (intOf i).toNat)
            case atStart => exact ⟨0, Nat.zero_le _, rfl, rfl⟩
            case round =>
              obtain ⟨t, ht, rfl, rfl⟩ := hrel
              by_cases htl : t < c j
              · have hcl := (HTq.out.rows j hjl hpos).cell htl (Nat.zero_add t).symm
                have hov : ov f k 0 j t = j + 1 := by unfold ov; rw [if_pos (by have := HK.out; omega)]
                rw [hov] at hcl
                clear hov
                obtain ⟨j1, ej, hj1⟩ : ∃ j1 : Nat, (j : Int) + 1 = j1 ∧ j + 1 = j1 := ⟨j + 1, by omega, rfl⟩
                rw [hj1] at hcl
                have hj13 : j1 ≤ 200 := by omega
                clear hj1
                go_wp2_with fail
                go_roundw
                case rel => exact ⟨t + 1, by omega, by go_num, trivial⟩
                case measure => simp [intOf]; omega
              · obtain rfl : t = c j := by omega
                go_wp2_with fail
                go_roundw
                case rel => exact ⟨j + 1, by omega, by go_num, HTq.out, HBq.out⟩
                case measure => simp [intOf]; omega
        · obtain rfl : j = R := by omega
          go_wp2_with fail
          go_ret
          exact ⟨rfl, HB5.out⟩
/-- one of three -/
def t3 {α : Type} (x y z : α) (j : Nat) : α := if j = 0 then x else if j = 1 then y else z
theorem ov_none (f : Nat → Nat → Nat) (j t : Nat) : ov f 0 0 j t = f j t := by unfold ov; rw [if_neg (by omega)]
/-- three rows, just put into a row -/
theorem owned_three (W : World) (A0 A1 A2 : Option Addr) (n0 n1 n2 c0 c1 c2 g0 g1 g2 : Nat) (f0 f1 f2 : Nat → Nat) (B : Nat)
    (h0 : 0 < c0 → A0 = some ⟨g0, 0, none⟩ ∧ Arr W g0 0 c0 f0 ∧ B ≤ g0) (h1 : 0 < c1 → A1 = some ⟨g1, 0, none⟩ ∧ Arr W g1 0 c1 f1 ∧ B ≤ g1) (h2 : 0 < c2 → A2 = some ⟨g2, 0, none⟩ ∧ Arr W g2 0 c2 f2 ∧ B ≤ g2)
    (n01 : 0 < c0 → 0 < c1 → g0 ≠ g1) (n02 : 0 < c0 → 0 < c2 → g0 ≠ g2) (n12 : 0 < c1 → 0 < c2 → g1 ≠ g2) (l0 : c0 ≤ 140737488351300) (l1 : c1 ≤ 140737488351300) (l2 : c2 ≤ 140737488351300) (hB : B ≤ W.heap.size) :
    Calls Tryd.prog 14 #[.slice (some ⟨W.heap.size, 0, none⟩) 3 3] (W.alloc (.cells #[.slice A0 n0 c0, .slice A1 n1 c1, .slice A2 n2 c2] 22)) fun e w' => e = .returned (.bool true) ∧ Below B W w' := by
  have hj3 : ∀ j, j < 3 → j = 0 ∨ j = 1 ∨ j = 2 := fun j hj => by omega
  refine (owned_arr (R := 3) (A := t3 A0 A1 A2) (n := t3 n0 n1 n2) (c := t3 c0 c1 c2) (g := t3 g0 g1 g2) (f := t3 f0 f1 f2) 3 _ (by decide) ⟨fun j hj => ?_, fun j hj hc => ?_⟩ ?_ ?_ ?_ ?_).mono ?_
  · rcases hj3 j hj with rfl | rfl | rfl <;> exact (World.cell?_alloc_at _ _ _ _ rfl).trans rfl
  · rcases hj3 j hj with rfl | rfl | rfl
    · exact ((h0 hc).2.1.alloc _).congr fun t _ => (ov_none (t3 f0 f1 f2) 0 t).symm
    · exact ((h1 hc).2.1.alloc _).congr fun t _ => (ov_none (t3 f0 f1 f2) 1 t).symm
    · exact ((h2 hc).2.1.alloc _).congr fun t _ => (ov_none (t3 f0 f1 f2) 2 t).symm
  · intro j hj hc
    rcases hj3 j hj with rfl | rfl | rfl
    · exact (h0 hc).1
    · exact (h1 hc).1
    · exact (h2 hc).1
  · intro i j hi hj hij ci cj
    rcases hj3 i hi with rfl | rfl | rfl <;> rcases hj3 j hj with rfl | rfl | rfl
    · exact absurd rfl hij
    · exact n01 ci cj
    · exact n02 ci cj
    · exact (n01 cj ci).symm
    · exact absurd rfl hij
    · exact n12 ci cj
    · exact (n02 cj ci).symm
    · exact (n12 cj ci).symm
    · exact absurd rfl hij
  · intro j hj hc
    rcases hj3 j hj with rfl | rfl | rfl
    · exact Nat.ne_of_gt ((h0 hc).2.1.lt hc)
    · exact Nat.ne_of_gt ((h1 hc).2.1.lt hc)
    · exact Nat.ne_of_gt ((h2 hc).2.1.lt hc)
  · intro j hj
    rcases hj3 j hj with rfl | rfl | rfl
    · exact l0
    · exact l1
    · exact l2
  rintro e w' ⟨he, h⟩
  refine ⟨he, ((Below.refl W.heap.size W).alloc (Nat.le_refl _) _ |>.mono hB).trans (h.below (by simp; omega) fun k hk => ?_)⟩
  obtain ⟨j, hj, hc, rfl⟩ := hk
  rcases hj3 j hj with rfl | rfl | rfl
  · exact (h0 hc).2.2
  · exact (h1 hc).2.2
  · exact (h2 hc).2.2
/-- one row, just put into a row -/
theorem owned_one (W : World) (g0 n0 c0 : Nat) (f0 : Nat → Nat) (h0 : Arr W g0 0 c0 f0) (l0 : c0 ≤ 140737488351300) :
    Calls Tryd.prog 14 #[.slice (some ⟨W.heap.size, 0, none⟩) 1 1] (W.alloc (.cells #[.slice (some ⟨g0, 0, none⟩) n0 c0] 22)) fun e w' => e = .returned (.bool true) ∧ Chg g0 W w' := by
  refine (owned_arr (R := 1) (A := fun _ => some ⟨g0, 0, none⟩) (n := fun _ => n0) (c := fun _ => c0) (g := fun _ => g0) (f := fun _ => f0) 1 _ (by decide) ⟨fun j hj => ?_, fun j hj hc => ?_⟩ ?_ ?_ ?_ ?_).mono ?_
  · obtain rfl : j = 0 := by omega
    exact (World.cell?_alloc_at _ _ _ _ rfl).trans rfl
  · exact (h0.alloc _).congr fun t _ => (ov_none (fun _ => f0) j t).symm
  · exact fun _ _ _ => rfl
  · intro i j hi hj hij _ _
    omega
  · intro j _ hc
    exact Nat.ne_of_gt (h0.lt hc)
  · exact fun _ _ => l0
  rintro e w' ⟨he, h⟩
  refine ⟨he, (Chg.of_below ((Below.refl W.heap.size W).alloc (Nat.le_refl _) _)).trans ⟨h.os, h.tape, h.output, h.size, fun k hk hn => h.block k hk fun hs => ?_⟩⟩
  obtain ⟨_, _, _, e⟩ := hs
  exact hn e
end Go.Proofs.YtogcfaijphpgfaaDoor
