/- The reference: a step. -/
import Derived.Test.YtogcfaijphpgfaaDoorRef05C
namespace Go.Proofs.YtogcfaijphpgfaaDoor
open Go.RowKit
/-- append of a row of ints to an own row that is empty -/
theorem wpList_appNI {ops : Array Oper} {rest : List Oper} {o : Oper} {a : Act} {Q : Exit → Act → World → Prop} {w : World} (hgd : o.guard = none) (s x : Operand)
    (ho : o.op = .call { callee := .builtin .append, args := #[s, x], argTypes := #[68, 68] })
    (base : Nat) (v : Value) (f : Nat → Nat) (hs : a.eval s = v) (hown : OwnI w base v 0 f)
    (g m c : Nat) (hx : a.eval x = .slice (some ⟨g, 0, none⟩) m c) (hc : ArrV w g 0 m (ints f)) (hn : m ≤ 1000000000000) (hbase : base ≤ w.heap.size)
    (h : ∀ v' w', OwnI w' base v' m f → Below base w w' → wpList Tryd.prog ops Q rest (a.put o.dst v') w') : wpList Tryd.prog ops Q (o :: rest) a w := by
  obtain ⟨i, hi, hz, hsz, hb⟩ := info_parts infoI
  refine wpList_append_own w hgd s x 68 ho base 3 i (.int .i64 0) 1 8 Tryd.underlying68 hi hz hsz hb rfl (by decide) v 0 _ hs hown ⟨g, 0, none⟩ m c (valsL m (ints f)) hx (by simp [valsL]) ?_ ?_ (by unfold maxLen; omega) (by omega) hbase ?_
  · intro j u hj
    obtain ⟨hjm, rfl⟩ := valsL_get hj
    rw [Go.WideShapes.add_plain]
    exact (hc j hjm).1
  · exact vals_one fun _ _ => rfl
  · intro v' w' h1 h2 _
    rw [Nat.zero_add, show valsL 0 (ints f) ++ valsL m (ints f) = valsL m (ints f) from rfl] at h1
    exact h v' w' h1 ((Below.refl base w).grown h2 hbase fun k hk => (hown.lt k hk).1)
theorem own_emptyI (w : World) (base : Nat) (f : Nat → Nat) (hb : base ≤ w.heap.size) : OwnI (w.alloc (.cells #[] 3)) base (.slice (some ⟨w.heap.size, 0, none⟩) 0 0) 0 f :=
  World.ownsRow_made w #[] 0 hb (by unfold maxLen; omega) rfl
/-- what a step reads -/
structure StepMem (w0 w : World) (gs gh gw gk : Nat) (s h : S8) (W : Nat → Nat) : Prop where
  st : ArrV w gs 0 8 (ints (at8 s))
  hh : ArrV w gh 0 8 (ints (at8 h))
  ww : ArrV w gw 0 64 (ints W)
  kk : ArrV w gk 0 64 (ints kc)
  bl : Below w0.heap.size w0 w
theorem StepMem.drewN {w0 w : World} {gs gh gw gk : Nat} {s h : S8} {W : Nat → Nat} (m : StepMem w0 w gs gh gw gk s h W) (n : Nat) : StepMem w0 (w.drewN n) gs gh gw gk s h W := ⟨m.st, m.hh, m.ww, m.kk, drawn m.bl n⟩
theorem step_new (w : World) (a b c d e f g h : Nat) (s : S8) (ha : a = s.a) (hb : s.b = b) (hc : s.c = c) (hd : s.d = d) (he : e = s.e) (hf : s.f = f) (hg : s.g = g) (hh : s.h = h) :
    ArrV (w.alloc (.cells #[.int .i64 (a : Nat), .int .i64 (b : Nat), .int .i64 (c : Nat), .int .i64 (d : Nat), .int .i64 (e : Nat), .int .i64 (f : Nat), .int .i64 (g : Nat), .int .i64 (h : Nat)] 3)) w.heap.size 0 8 (ints (at8 s)) := by
  subst ha hb hc hd he hf hg hh
  exact arrV_new rfl rfl
set_option maxRecDepth 100000 in
set_option maxHeartbeats 3200000 in
theorem step_any (gh ch gw cw gk ck : Nat) (s : S8) (W : Nat → Nat) (w : World) (hs : s.ok) (hW : ∀ j, j < 64 → W j < 4294967296) (h1 : ArrV w gh 0 8 (ints (at8 s))) (h2 : ArrV w gw 0 64 (ints W)) (h3 : ArrV w gk 0 64 (ints kc)) :
    Calls Tryd.prog 37 #[.slice (some ⟨gh, 0, none⟩) 8 ch, .slice (some ⟨gw, 0, none⟩) 64 cw, .slice (some ⟨gk, 0, none⟩) 64 ck] w fun e w' => ∃ g c, e = .returned (.slice (some ⟨g, 0, none⟩) 8 c) ∧ ArrV w' g 0 8 (ints (at8 (add8 s (rs W s 64)))) ∧ Below w.heap.size w w' := by
  have HS := Lib.hid hs
  have HWL := Lib.hid hW
  have HH := Lib.hid h1
  have HWA := Lib.hid h2
  have HK := Lib.hid h3
  clear hs hW h1 h2 h3
  have HE := Lib.hid (own_emptyI w w.heap.size (at8 s) (Nat.le_refl _))
  have HHa := Lib.hid (HH.out.alloc (.cells #[] 3))
  have HBa := Lib.hid ((Below.refl w.heap.size w).alloc (Nat.le_refl _) (.cells #[] 3))
  go_enter Tryd.func37, Tryd.ntmps37
  go_wp2_with (refine wpList_appNI rfl (.tmp 17) (.tmp 18) rfl w.heap.size _ (at8 s) rfl HE.out gh 8 ch rfl HHa.out (by decide) HBa.out.size ?_; intro v1 w1 h1 h2; obtain ⟨A1, c1, rfl, _, _, hr, _⟩ := h1.slice; obtain ⟨gs1, rfl, _, hr⟩ := hr (by decide); have HM1 := Lib.hid (show StepMem w w1 gs1 gh gw gk s s W from ⟨hr, HH.out.keep (HBa.out.trans h2), HWA.out.keep (HBa.out.trans h2), HK.out.keep (HBa.out.trans h2), HBa.out.trans h2⟩); clear hr h1 h2)
  clear HE HHa HBa HH HWA HK
  go_loopw [7, 8] (fun v t wr => ∃ (k gs cs : Nat), k ≤ 64 ∧ t = .int .i64 k ∧ v = .slice (some ⟨gs, 0, none⟩) 8 cs ∧ StepMem w wr gs gh gw gk (rs W s k) s W) (fun _ t _ => 64 - (intOf t).toNat)
  case atStart => exact ⟨0, gs1, c1, Nat.zero_le _, rfl, rfl, HM1.out⟩
  case round =>
    obtain ⟨k, gs, cs, hk, rfl, rfl, hm⟩ := hrel
    have H1 := Lib.hid hm
    clear hm HM1
    by_cases hlt : k < 64
    · have hsok := rs_ok (W := W) HS.out k
      have HXa := Lib.hid (show (rs W s (k + 1)).a = (((rs W s k).h + bs1 (rs W s k).e + chn (rs W s k).e (rs W s k).f (rs W s k).g + kc k + W k) + (bs0 (rs W s k).a + maj (rs W s k).a (rs W s k).b (rs W s k).c)) % 4294967296 from rfl)
      have HXb := Lib.hid (show (rs W s (k + 1)).b = (rs W s k).a from rfl)
      have HXc := Lib.hid (show (rs W s (k + 1)).c = (rs W s k).b from rfl)
      have HXd := Lib.hid (show (rs W s (k + 1)).d = (rs W s k).c from rfl)
      have HXe := Lib.hid (show (rs W s (k + 1)).e = ((rs W s k).d + ((rs W s k).h + bs1 (rs W s k).e + chn (rs W s k).e (rs W s k).f (rs W s k).g + kc k + W k)) % 4294967296 from rfl)
      have HXf := Lib.hid (show (rs W s (k + 1)).f = (rs W s k).e from rfl)
      have HXg := Lib.hid (show (rs W s (k + 1)).g = (rs W s k).f from rfl)
      have HXh := Lib.hid (show (rs W s (k + 1)).h = (rs W s k).g from rfl)
      have la' := hsok.a
      have lb' := hsok.b
      have lc' := hsok.c
      have ld' := hsok.d
      have le' := hsok.e
      have lf' := hsok.f
      have lg' := hsok.g
      have lh' := hsok.h
      have lk := kc_lt k
      have lw := HWL.out k hlt
      clear hsok
      have HCa := Lib.hid (show ∀ w', StepMem w w' gs gh gw gk (rs W s k) s W → w'.cell? ⟨gs, 0, none⟩ = some (.int .i64 ((rs W s k).a : Nat)) from fun w' m => m.st.cell (j := 0) (by decide) rfl)
      have HCb := Lib.hid (show ∀ w', StepMem w w' gs gh gw gk (rs W s k) s W → w'.cell? ⟨gs, 1, none⟩ = some (.int .i64 ((rs W s k).b : Nat)) from fun w' m => m.st.cell (j := 1) (by decide) rfl)
      have HCc := Lib.hid (show ∀ w', StepMem w w' gs gh gw gk (rs W s k) s W → w'.cell? ⟨gs, 2, none⟩ = some (.int .i64 ((rs W s k).c : Nat)) from fun w' m => m.st.cell (j := 2) (by decide) rfl)
      have HCd := Lib.hid (show ∀ w', StepMem w w' gs gh gw gk (rs W s k) s W → w'.cell? ⟨gs, 3, none⟩ = some (.int .i64 ((rs W s k).d : Nat)) from fun w' m => m.st.cell (j := 3) (by decide) rfl)
      have HCe := Lib.hid (show ∀ w', StepMem w w' gs gh gw gk (rs W s k) s W → w'.cell? ⟨gs, 4, none⟩ = some (.int .i64 ((rs W s k).e : Nat)) from fun w' m => m.st.cell (j := 4) (by decide) rfl)
      have HCf := Lib.hid (show ∀ w', StepMem w w' gs gh gw gk (rs W s k) s W → w'.cell? ⟨gs, 5, none⟩ = some (.int .i64 ((rs W s k).f : Nat)) from fun w' m => m.st.cell (j := 5) (by decide) rfl)
      have HCg := Lib.hid (show ∀ w', StepMem w w' gs gh gw gk (rs W s k) s W → w'.cell? ⟨gs, 6, none⟩ = some (.int .i64 ((rs W s k).g : Nat)) from fun w' m => m.st.cell (j := 6) (by decide) rfl)
      have HCh := Lib.hid (show ∀ w', StepMem w w' gs gh gw gk (rs W s k) s W → w'.cell? ⟨gs, 7, none⟩ = some (.int .i64 ((rs W s k).h : Nat)) from fun w' m => m.st.cell (j := 7) (by decide) rfl)
      have HCw := Lib.hid (show ∀ w', StepMem w w' gs gh gw gk (rs W s k) s W → w'.cell? ⟨gw, k, none⟩ = some (.int .i64 (W k : Nat)) from fun w' m => m.ww.cell hlt (Nat.zero_add _).symm)
      have HCk := Lib.hid (show ∀ w', StepMem w w' gs gh gw gk (rs W s k) s W → w'.cell? ⟨gk, k, none⟩ = some (.int .i64 (kc k : Nat)) from fun w' m => m.kk.cell hlt (Nat.zero_add _).symm)
      generalize (rs W s k).a = xa at *
      generalize (rs W s k).b = xb at *
      generalize (rs W s k).c = xc at *
      generalize (rs W s k).d = xd at *
      generalize (rs W s k).e = xe at *
      generalize (rs W s k).f = xf at *
      generalize (rs W s k).g = xg at *
      generalize (rs W s k).h = xh at *
      generalize kc k = xk at *
      generalize hww : W k = xw at *
      clear hww
      have HTE := Lib.hid fun (n : Nat) (h1 : 1 ≤ n) (h2 : n ≤ 31) w => rright_any n xe w le' h1 h2
      have HTA := Lib.hid fun (n : Nat) (h1 : 1 ≤ n) (h2 : n ≤ 31) w => rright_any n xa w la' h1 h2
      have ce := HCe.out wr H1.out
      have ca := HCa.out wr H1.out
      have cf := HCf.out wr H1.out
      have cg := HCg.out wr H1.out
      have p1 := i64_and_nat xe xf (by omega) (by omega)
      have ln : 4294967295 - xe < 4294967296 := by omega
      have p2 : IntKind.i64.wrap (4294967295 - (xe : Int)) = ((4294967295 - xe : Nat) : Int) := by rw [IntWalk.i64_in _ (by omega)]; omega
      have p3 := i64_and_nat (4294967295 - xe) xg (by omega) (by omega)
      have b1 := and32' (a := xe) lf'
      have b2 := and32' (a := 4294967295 - xe) lg'
      have p4 : bits BinOp.or .i64 ((xe &&& xf : Nat) : Int) ((4294967295 - xe &&& xg : Nat) : Int) = ((chn xe xf xg : Nat) : Int) := by rw [← chn_or le']; exact i64_or_nat _ _ (by omega) (by omega)
      have lc := chn_lt (e := xe) lf' lg'
      generalize chn xe xf xg = cc at *
      generalize xe &&& xf = v2 at *
      generalize 4294967295 - xe &&& xg = v3 at *
      generalize 4294967295 - xe = v4 at *
      go_wp2_with fail
      go_quiet (fail)
      have H2 := Lib.hid (H1.out.drewN nq)
      clear H1 ce ca cf cg p1 p2 p3 p4
      generalize wr.drewN nq = W2 at *
      have ch' := HCh.out W2 H2.out
      have cw' := HCw.out W2 H2.out
      have ck' := HCk.out W2 H2.out
      have a6 := rr_lt (n := 6) le'
      have a11 := rr_lt (n := 11) le'
      have a25 := rr_lt (n := 25) le'
      have q1 := i64_xor_nat (rr 6 xe) (rr 11 xe) (by omega) (by omega)
      have a611 := xor32 a6 a11
      have q2 : bits BinOp.xor .i64 ((rr 6 xe ^^^ rr 11 xe : Nat) : Int) ((rr 25 xe : Nat) : Int) = ((bs1 xe : Nat) : Int) := i64_xor_nat _ _ (by omega) (by omega)
      have R6 := Lib.hid (HTE.out 6 (by decide) (by decide))
      have R11 := Lib.hid (HTE.out 11 (by decide) (by decide))
      have R25 := Lib.hid (HTE.out 25 (by decide) (by decide))
      have lb := bs1_lt le'
      generalize bs1 xe = s1 at *
      generalize rr 6 xe ^^^ rr 11 xe = v2 at *
      generalize rr 6 xe = r6 at *
      generalize rr 11 xe = r11 at *
      generalize rr 25 xe = r25 at *
      obtain ⟨X1, hX1⟩ : ∃ X, X = xh + s1 := ⟨_, rfl⟩
      obtain ⟨X2, hX2⟩ : ∃ X, X = X1 + cc := ⟨_, rfl⟩
      obtain ⟨X3, hX3⟩ : ∃ X, X = X2 + xk := ⟨_, rfl⟩
      obtain ⟨X, hX⟩ : ∃ X, X = X3 + xw := ⟨_, rfl⟩
      have e1 : (xh : Int) + s1 = X1 := by omega
      have e2 : (X1 : Int) + cc = X2 := by omega
      have e3 : (X2 : Int) + xk = X3 := by omega
      have e4 : (X3 : Int) + xw = X := by omega
      have f1 : IntKind.i64.wrap (X1 : Int) = X1 := IntWalk.i64_in _ (by omega)
      have f2 : IntKind.i64.wrap (X2 : Int) = X2 := IntWalk.i64_in _ (by omega)
      have f3 : IntKind.i64.wrap (X3 : Int) = X3 := IntWalk.i64_in _ (by omega)
      have f4 : IntKind.i64.wrap (X : Int) = X := IntWalk.i64_in _ (by omega)
      have lX : X < 42949672960 := by omega
      have HXX := Lib.hid (show xh + s1 + cc + xk + xw = X by omega)
      clear hX1 hX2 hX3 hX
      go_wp2_with fail
      go_quiet ((go_at_call 45; first | (with_reducible exact Calls.quiet_of (R6.out _)) | (with_reducible exact Calls.quiet_of (R11.out _)) | (with_reducible exact Calls.quiet_of (R25.out _))))
      have H3 := Lib.hid (H2.out.drewN nq)
      clear H2 ch' cw' ck' q1 q2 R6 R11 R25 e1 e2 e3 e4 f1 f2 f3 f4 HTE
      generalize W2.drewN nq = W3 at *
      have cb := HCb.out W3 H3.out
      have cc' := HCc.out W3 H3.out
      have q1 := i64_and_nat xa xb (by omega) (by omega)
      have q2 := i64_and_nat xa xc (by omega) (by omega)
      have q4 := i64_and_nat xb xc (by omega) (by omega)
      have t1 := and32 (b := xb) la'
      have t2 := and32 (b := xc) la'
      have t4 := and32 (b := xc) lb'
      have q3 := i64_or_nat (xa &&& xb) (xa &&& xc) (by omega) (by omega)
      have t3 := or32 t1 t2
      have q5 : bits BinOp.or .i64 (((xa &&& xb) ||| (xa &&& xc) : Nat) : Int) ((xb &&& xc : Nat) : Int) = ((maj xa xb xc : Nat) : Int) := by rw [← maj_or]; exact i64_or_nat _ _ (by omega) (by omega)
      have lm := maj_lt (c := xc) la' lb'
      generalize maj xa xb xc = mm at *
      generalize (xa &&& xb) ||| (xa &&& xc) = v5 at *
      generalize xa &&& xb = v6 at *
      generalize xa &&& xc = v7 at *
      generalize xb &&& xc = v8 at *
      go_wp2_with fail
      go_quiet (fail)
      have H4 := Lib.hid (H3.out.drewN nq)
      clear H3 cb cc' q1 q2 q3 q4 q5
      generalize W3.drewN nq = W4 at *
      go_wp2_with fail
      refine (HTA.out 2 (by decide) (by decide) _).mono ?_
      rintro e Wa ⟨rfl, na, rfl⟩
      have H5 := Lib.hid (H4.out.drewN na)
      clear H4
      generalize W4.drewN na = Wa at *
      go_wp2_with fail
      refine (HTA.out 13 (by decide) (by decide) _).mono ?_
      rintro e Wb ⟨rfl, nb, rfl⟩
      have H6 := Lib.hid (H5.out.drewN nb)
      clear H5
      generalize Wa.drewN nb = Wb at *
      have a2 := rr_lt (n := 2) la'
      have a13 := rr_lt (n := 13) la'
      have a22 := rr_lt (n := 22) la'
      have q1 := i64_xor_nat (rr 2 xa) (rr 13 xa) (by omega) (by omega)
      have a213 := xor32 a2 a13
      have q2 : bits BinOp.xor .i64 ((rr 2 xa ^^^ rr 13 xa : Nat) : Int) ((rr 22 xa : Nat) : Int) = ((bs0 xa : Nat) : Int) := i64_xor_nat _ _ (by omega) (by omega)
      have R22 := Lib.hid (HTA.out 22 (by decide) (by decide))
      have lb0 := bs0_lt la'
      generalize bs0 xa = s0 at *
      generalize rr 2 xa ^^^ rr 13 xa = v2 at *
      generalize rr 2 xa = r2 at *
      generalize rr 13 xa = r13 at *
      generalize rr 22 xa = r22 at *
      go_wp2_with fail
      refine (R22.out _).mono ?_
      rintro e Wc ⟨rfl, nc, rfl⟩
      have H7 := Lib.hid (H6.out.drewN nc)
      clear H6 HTA
      generalize Wb.drewN nc = Wc at *
      obtain ⟨Y, hY⟩ : ∃ Y, Y = s0 + mm := ⟨_, rfl⟩
      have e1 : (s0 : Int) + mm = Y := by omega
      have lY : Y < 8589934592 := by omega
      have HYY := Lib.hid hY
      clear hY
      go_wp2_with fail
      obtain ⟨XY, hXY⟩ : ∃ Z, Z = X + Y := ⟨_, rfl⟩
      obtain ⟨z1, hz1⟩ : ∃ Z, Z = XY % 4294967296 := ⟨_, rfl⟩
      obtain ⟨DX, hDX⟩ : ∃ Z, Z = xd + X := ⟨_, rfl⟩
      obtain ⟨z2, hz2⟩ : ∃ Z, Z = DX % 4294967296 := ⟨_, rfl⟩
      have e1 : (X : Int) + Y = XY := by omega
      have e2 : (xd : Int) + X = DX := by omega
      have f1 : IntKind.i64.wrap (XY : Int) = XY := IntWalk.i64_in _ (by omega)
      have f2 : IntKind.i64.wrap (DX : Int) = DX := IntWalk.i64_in _ (by omega)
      have e3 : (XY : Int).tmod 4294967296 = z1 := by rw [Int.tmod_eq_emod_of_nonneg (by omega)]; omega
      have e4 : (DX : Int).tmod 4294967296 = z2 := by rw [Int.tmod_eq_emod_of_nonneg (by omega)]; omega
      have f3 : IntKind.i64.wrap (z1 : Int) = z1 := IntWalk.i64_in _ (by omega)
      have f4 : IntKind.i64.wrap (z2 : Int) = z2 := IntWalk.i64_in _ (by omega)
      have HZ1 := Lib.hid (show z1 = (rs W s (k + 1)).a by rw [HXa.out]; have h1 := HXX.out; have h2 := HYY.out; omega)
      have HZ2 := Lib.hid (show z2 = (rs W s (k + 1)).e by rw [HXe.out]; have h1 := HXX.out; omega)
      have H8 := Lib.hid (show StepMem w Wc.drew gs gh gw gk (rs W s k) s W from H7.out.drewN 1)
      have cb : Wc.drew.cell? ⟨gs, 1, none⟩ = some (.int .i64 (xb : Nat)) := HCb.out _ H8.out
      have cc' : Wc.drew.cell? ⟨gs, 2, none⟩ = some (.int .i64 (xc : Nat)) := HCc.out _ H8.out
      have cd : Wc.drew.cell? ⟨gs, 3, none⟩ = some (.int .i64 (xd : Nat)) := HCd.out _ H8.out
      have cf : Wc.drew.cell? ⟨gs, 5, none⟩ = some (.int .i64 (xf : Nat)) := HCf.out _ H8.out
      have cg : Wc.drew.cell? ⟨gs, 6, none⟩ = some (.int .i64 (xg : Nat)) := HCg.out _ H8.out
      clear hXY hz1 hDX hz2 H7
      refine wp_region_still_tail 24 (by kernel_rfl) (by kernel_rfl) ?_
      change wpStill _ _ Wc.drew (fun a' => wpList _ _ _ _ a' Wc.drew) _ _
      generalize Wc.drew = Wd at *
      simp only [List.take_succ_cons, List.take_zero, List.drop_succ_cons, List.drop_zero]
      repeat still_step
      refine wpStill_nil ?_
      go_wp2_with fail
      have HN := Lib.hid (step_new Wd z1 xa xb xc z2 xe xf xg (rs W s (k + 1)) HZ1.out HXb.out HXc.out HXd.out HZ2.out HXf.out HXg.out HXh.out)
      have H9 := Lib.hid (show StepMem w (Wd.alloc (.cells #[.int .i64 (z1 : Nat), .int .i64 (xa : Nat), .int .i64 (xb : Nat), .int .i64 (xc : Nat), .int .i64 (z2 : Nat), .int .i64 (xe : Nat), .int .i64 (xf : Nat), .int .i64 (xg : Nat)] 3)) Wd.heap.size gh gw gk (rs W s (k + 1)) s W from
        ⟨HN.out, H8.out.hh.alloc _, H8.out.ww.alloc _, H8.out.kk.alloc _, H8.out.bl.alloc H8.out.bl.size _⟩)
      go_roundw
      case rel => exact ⟨k + 1, _, _, by omega, by go_num, rfl, H9.out⟩
      case measure => simp [intOf]; omega
    · obtain rfl : k = 64 := by omega
      have TOK := Lib.hid (rs_ok (W := W) HS.out 64)
      generalize hT : rs W s 64 = T at *
      have HTT := Lib.hid hT
      clear hT
      have HA := Lib.hid (at8_add s T)
      have HBL := Lib.hid H1.out.bl
      have HSG := Lib.hid (show ∀ w', Below wr.heap.size wr w' → ArrV w' gs 0 8 (ints (at8 T)) from fun w' h => H1.out.st.keep h)
      have HHG := Lib.hid (show ∀ w', Below wr.heap.size wr w' → ArrV w' gh 0 8 (ints (at8 s)) from fun w' h => H1.out.hh.keep h)
      rw [show ((64 : Nat) : Int) = 64 from rfl]
      clear H1
      go_wp2_with fail
      obtain ⟨W1, hW1⟩ : ∃ W1, W1 = wr := ⟨_, rfl⟩
      subst hW1
      go_loopw [15, 16] (fun v t wx => ∃ k : Nat, k ≤ 8 ∧ t = .int .i64 k ∧ OwnI wx W1.heap.size v k (at8 (add8 s T)) ∧ Below W1.heap.size W1 wx) (fun _ t _ => 8 - (intOf t).toNat)
      case atStart => exact ⟨0, Nat.zero_le _, rfl, OwnI.nil _ _ _, Below.refl _ _⟩
      case round =>
        obtain ⟨k, hk, rfl, h1, h2⟩ := hrel
        have G1 := Lib.hid h1
        have G2 := Lib.hid h2
        clear h1 h2
        by_cases hlt8 : k < 8
        · have hki : (k : Int) < 8 := by omega
          have ch' : wr.cell? ⟨gh, k, none⟩ = some (.int .i64 (at8 s k : Nat)) := (HHG.out wr G2.out).cell hlt8 (Nat.zero_add _).symm
          have cs' : wr.cell? ⟨gs, k, none⟩ = some (.int .i64 (at8 T k : Nat)) := (HSG.out wr G2.out).cell hlt8 (Nat.zero_add _).symm
          have l1 := at8_lt HS.out k
          have l2 := at8_lt TOK.out k
          obtain ⟨z, hz⟩ : ∃ z, z = at8 (add8 s T) k := ⟨_, rfl⟩
          have hz2 : z = (at8 s k + at8 T k) % 4294967296 := by rw [hz]; exact HA.out k hlt8
          have HZ := Lib.hid hz
          generalize at8 s k = y1 at *
          generalize at8 T k = y2 at *
          obtain ⟨y, hy⟩ : ∃ y, y = y1 + y2 := ⟨_, rfl⟩
          have e1 : (y1 : Int) + y2 = y := by omega
          have f1 : IntKind.i64.wrap (y : Int) = y := IntWalk.i64_in _ (by omega)
          have e2 : (y : Int).tmod 4294967296 = z := by rw [Int.tmod_eq_emod_of_nonneg (by omega)]; omega
          have f2 : IntKind.i64.wrap (z : Int) = z := IntWalk.i64_in _ (by omega)
          have hszw := G2.out.size
          have hk8 : k ≤ 1000000000000 := by omega
          clear hz hz2 hy
          have hcell : ((wr.alloc (.cells #[.int .i64 z] 3)).drew).cell? ⟨wr.heap.size, 0, none⟩ = some (.int .i64 z) := World.cell?_alloc_at _ _ _ _ rfl
          have hsz2 : W1.heap.size ≤ ((wr.alloc (.cells #[.int .i64 z] 3)).drew).heap.size := by show _ ≤ (wr.heap.push _).size; simp; omega
          go_wp2_with fail
          go_region_law (refine step_app1I rfl (.tmp 124) (.tmp 135) rfl W1.heap.size _ k _ rfl ((G1.out.alloc _).drew) wr.heap.size z rfl hcell hk8 hsz2 HZ.out ?_; intro v' w' hown' hb')
          all_goals
            have HO6 := Lib.hid hown'
            have HB6 := Lib.hid (((G2.out.alloc G2.out.size _).drew).trans hb')
            clear hown' hb' hcell hsz2
            go_wp2_with fail
            go_roundw
            case rel => exact ⟨k + 1, by omega, by go_num, HO6.out, HB6.out⟩
            case measure => simp [intOf]; omega
        · obtain rfl : k = 8 := by omega
          obtain ⟨A9, c9, rfl, _, _, hr9, _⟩ := G1.out.slice
          obtain ⟨g9, rfl, _, hr9⟩ := hr9 (by decide)
          have HR9 := Lib.hid hr9
          clear hr9
          go_wp2_with fail
          go_ret
          exact ⟨g9, c9, rfl, by rw [HTT.out]; exact HR9.out, HBL.out.trans (G2.out.mono HBL.out.size)⟩
end Go.Proofs.YtogcfaijphpgfaaDoor
