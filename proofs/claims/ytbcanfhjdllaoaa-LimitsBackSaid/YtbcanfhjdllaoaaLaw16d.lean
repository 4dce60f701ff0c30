/- Law LimitsBack (layer 16). Written by sh/mkb.sh. -/
import Derived.Test.YtbcanfhjdllaoaaLimZ
import Derived.Test.YtbcanfhjdllaoaaLimB
import Derived.Test.YtbcanfhjdllaoaaLimU
import Derived.Test.YtbcanfhjdllaoaaOrdX
import Derived.Test.YtbcanfhjdllaoaaOrdI
namespace Go.Proofs.Ytbcanfhjdllaoaa
set_option maxRecDepth 100000
open Go.RowKit
theorem run_ixA (B o n cc k : Nat) (h : (k : Int) < n) (w : World) : (Instr.indexAt 23 (.slice (some ⟨B, o, none⟩) n cc) (.int .i64 (k : Nat))).run Try.prog w = .ok (.pointer (some ⟨B, o + k * 8, none⟩)) w := by
  have h0 : ¬ ((k : Nat) : Int) < 0 := by omega
  go_simp
theorem run_ldAc (B o : Nat) (y : Ac) (w : World) (h : ∀ i u, (acE.e y)[i]? = some u → w.cell? ⟨B, o + i, none⟩ = some u) : (Instr.loadAt 40 (.pointer (some ⟨B, o, none⟩))).run Try.prog w = .ok (acV y) w := by
  have h0 := h 0 _ rfl
  have h1 := h 1 _ rfl
  have h2 := h 2 _ rfl
  have h3 := h 3 _ rfl
  have h4 := h 4 _ rfl
  have h5 := h 5 _ rfl
  have h6 := h 6 _ rfl
  have h7 := h 7 _ rfl
  rw [Nat.add_zero] at h0
  clear h
  go_simp
theorem HeldK.kb {TA : World → List Us → (Nat → Prop) → Prop} {H : Nat} {ob : Obj} {w : World} {L : List Us} (h : HeldK TA H ob w L) : KB TA (fun k => k = H) w w L := by
  obtain ⟨O, h1, h2, h3⟩ := h
  exact ⟨O, h1, fun k hk => by subst hk; exact ⟨h2, (Array.getElem?_eq_some_iff.1 h3).1, rfl⟩⟩
--DEFS bk
def bkP (G Gz Bz oz kz nz ccz mz : Nat) (y : Ac) (ez : Int) : Nat → Value → Prop
  | 0, v => v = .pointer (some ⟨G, 0, none⟩)
  | 1, v => v = .slice (some ⟨Bz, oz, none⟩) nz ccz
  | 2, v => v = .int .i64 (kz : Nat)
  | 3, v => v = .pointer (some ⟨Bz, oz + kz * 8, none⟩)
  | 4, v => v = acV y
  | 5, v => v = .int .i64 ez
  | 6, v => v = .pointer (some ⟨Gz, 0, none⟩)
  | 7, v => v = .slice (some ⟨Bz, oz, none⟩) nz ccz
  | 8, v => v = .int .i64 (kz : Nat)
  | 9, v => v = .pointer (some ⟨Bz, oz + kz * 8, none⟩)
  | 10, v => v = acV y
  | 11, v => v = .int .i64 ez
  | 12, v => v = .bool false
  | 13, v => v = .bool false
  | 14, v => v = .pointer (some ⟨G, 0, none⟩)
  | 15, v => ∃ A cc, v = .slice A mz cc
  | 16, v => v = .pointer (some ⟨Gz, 0, none⟩)
  | 17, v => ∃ A cc, v = .slice A mz cc
  | 18, v => v = .bool true
  | 19, v => v = .bool false
  | _, _ => True
--END DEFS bk
set_option maxHeartbeats 6400000 in
theorem back16_any (hN : LimOk) (hRs : ResOk) (A : Option Addr) (cc : Nat) (X : List Ac) (xa0 : Ac) (Az : Option Addr) (ccz : Nat) (Y : List Ac) (w : World) (hv : ∀ W, Ev W) (hX : ∀ x ∈ X, x.c.size ≤ maxLen) (hact : LiS acE w A X) (hxc : xa0.c.size ≤ maxLen)
    (hY : ∀ x ∈ Y, x.c.size ≤ maxLen) (hmore : LiS acE w Az Y) :
    Calls Try.prog 5 #[.slice A X.length cc, acV xa0, .slice Az Y.length ccz] w fun e w' => e = .returned (.bool true) ∧ Below w.heap.size w w' := by
  obtain ⟨xd, ⟨xk, xt, xs, xo⟩, xc, xa, xn⟩ := xa0
  simp only at hxc
  have HB0 := Lib.hid (alloc_below w (.cells #[.int .i64 xd, .int .i64 xk, .int .i64 xt, .int .i64 xs, .int .i64 xo, .string xc, .int .i64 xa, .int .i64 xn] 40))
  have HS := Lib.hid (small16_any hN (w.alloc (.cells #[.int .i64 xd, .int .i64 xk, .int .i64 xt, .int .i64 xs, .int .i64 xo, .string xc, .int .i64 xa, .int .i64 xn] 40)) (hv _))
  have HN := Lib.hid (fun w1 (hb : Below w.heap.size w w1) => hN.new w w1 (hv _) hb)
  have HRES := Lib.hid (fun w9 A4 c4 LF (hb : Below w.heap.size w w9) hl hok => hRs.good w w9 A4 c4 LF (hv _) hb hl hok)
  have HACT := Lib.hid hact
  have HMORE := Lib.hid hmore
  have HX := Lib.hid hX
  have HY := Lib.hid hY
  have HXC := Lib.hid hxc
  clear hN hRs hv hact hmore hX hY hxc
  go_enter Try.func5, Try.ntmps5
  go_wp2_with fail
  refine HS.out.mono ?_
  rintro e w1 ⟨rfl, hb1⟩
  have HB1 := Lib.hid (HB0.out.trans (hb1.mono HB0.out.size))
  have HH1 := Lib.hid (show w1.heap[w.heap.size]? = some (.cells #[.int .i64 xd, .int .i64 xk, .int .i64 xt, .int .i64 xs, .int .i64 xo, .string xc, .int .i64 xa, .int .i64 xn] 40) from (hb1.block _ (by simp)).trans (by
    show (w.heap.push _)[w.heap.size]? = _
    rw [Array.getElem?_push_size]))
  clear hb1
  go_wp2_with fail
  refine (HN.out w1 HB1.out).mono ?_
  rintro e w2 ⟨G, TA, O, rfl, hkit, ha, ho, hb2⟩
  have HK := Lib.hid hkit
  have HA := Lib.hid (show HeldK TA w.heap.size (.cells #[.int .i64 xd, .int .i64 xk, .int .i64 xt, .int .i64 xs, .int .i64 xo, .string xc, .int .i64 xa, .int .i64 xn] 40) w2 [] from ⟨O, ha, fun hx => by
    have h1 := ho _ hx
    have h2 := (Array.getElem?_eq_some_iff.1 HH1.out).1
    omega, (hb2.block _ (Array.getElem?_eq_some_iff.1 HH1.out).1).trans HH1.out⟩)
  have HCE := Lib.hid (show ∀ W : World, W.heap[w.heap.size]? = some (.cells #[.int .i64 xd, .int .i64 xk, .int .i64 xt, .int .i64 xs, .int .i64 xo, .string xc, .int .i64 xa, .int .i64 xn] 40) → (W.cell? ⟨w.heap.size, 1, none⟩ = some (.int .i64 xk) ∧ W.cell? ⟨w.heap.size, 2, none⟩ = some (.int .i64 xt) ∧ W.cell? ⟨w.heap.size, 3, none⟩ = some (.int .i64 xs) ∧ W.cell? ⟨w.heap.size, 4, none⟩ = some (.int .i64 xo)) ∧ W.cell? ⟨w.heap.size, 5, none⟩ = some (.string xc) ∧ W.cell? ⟨w.heap.size, 6, none⟩ = some (.int .i64 xa) ∧ W.cell? ⟨w.heap.size, 7, none⟩ = some (.int .i64 xn) from fun W e =>
    ⟨⟨(Lib.cell_of_heap e 1).trans rfl, (Lib.cell_of_heap e 2).trans rfl, (Lib.cell_of_heap e 3).trans rfl, (Lib.cell_of_heap e 4).trans rfl⟩, (Lib.cell_of_heap e 5).trans rfl, (Lib.cell_of_heap e 6).trans rfl, (Lib.cell_of_heap e 7).trans rfl⟩)
  clear hkit ha ho hb2 HN HS HH1 HB0
  generalize hob : Obj.cells #[.int .i64 xd, .int .i64 xk, .int .i64 xt, .int .i64 xs, .int .i64 xo, .string xc, .int .i64 xa, .int .i64 xn] 40 = ob at *
  clear hob
  go_wp2_with fail
  go_loopw [9] (fun i wr => ∃ (k : Nat) (L : List Us), i = .int .i64 k ∧ k ≤ X.length ∧ k ≤ 100 ∧ HeldK TA w.heap.size ob wr L) (fun i _ => X.length - (intOf i).toNat)
  case atStart => exact ⟨0, [], rfl, Nat.zero_le _, Nat.zero_le _, HA.out⟩
  case round =>
    obtain ⟨k, L, rfl, hk, hk100, hp⟩ := hrel
    have HP := Lib.hid hp
    clear hp HA
    by_cases hlt : k < X.length ∧ k < 100
    · obtain ⟨hl1, hl2⟩ := hlt
      have hki : (k : Int) < X.length := by omega
      have hk2i : (k : Int) < 100 := by omega
      have hk3 : ¬ (k : Int) < 0 := by omega
      obtain ⟨B, o, rfl, hBl, a0, a1, a2, a3, a4, a5, a6, a7⟩ := ac_at (HACT.out.keep (HP.out.bel HK.out)) hl1
      have hq := HX.out X[k] (List.getElem_mem hl1)
      generalize X[k] = x at *
      have h2 := fun (O : Nat → Prop) (h : TA wr L O) => do16_any HK.out h x hq
      have HDO := Lib.hid (HeldK.call HK.out HP.out h2)
      clear hq h2
      obtain ⟨d, ⟨rk, rt, rs, ro⟩, yc, ya, yn⟩ := x
      simp only at a0 a1 a2 a3 a4 a5 a6 a7
      obtain ⟨L1, hL1⟩ : ∃ L1, doN L ⟨d, ⟨rk, rt, rs, ro⟩, yc, ya, yn⟩ = L1 := ⟨_, rfl⟩
      obtain ⟨e1, he1⟩ : ∃ e1, doE L ⟨d, ⟨rk, rt, rs, ro⟩, yc, ya, yn⟩ = e1 := ⟨_, rfl⟩
      rw [hL1, he1] at HDO
      clear hL1 he1
      go_wp2_with fail
      refine HDO.out.mono ?_
      rintro e w5 ⟨rfl, h5⟩
      have H5 := Lib.hid h5
      clear h5 HDO
      go_wp2_with fail
      go_roundw
      case rel => exact ⟨k + 1, L1, by go_num, by omega, by omega, H5.out⟩
      case measure => simp [intOf]; omega
    · have hend : ¬ (k : Int) < X.length ∨ (k : Int) < X.length ∧ ¬ (k : Int) < 100 := by omega
      have HW := Lib.hid (show wr.heap[w.heap.size]? = some ob by obtain ⟨_, _, _, e⟩ := HP.out; exact e)
      have HL1 := Lib.hid (HP.out.kb.list HK.out)
      clear hlt HP HACT HX
      rcases hend with hki | ⟨hki, hki2⟩
      iterate 2
        · as_aux_lemma =>
            go_wp2_with fail
            refine HL1.out.mono ?_
            rintro e w3 ⟨v1, rfl, ho1, hk1, hk2⟩
            obtain ⟨A1, c1, rfl, _⟩ := ho1.slice
            have HO1 := Lib.hid ho1
            have K2 := Lib.hid hk2
            have HOB := Lib.hid ((hk1.held rfl).trans HW.out)
            obtain ⟨⟨s1, s2, s3, s4⟩, s5, s6, s7⟩ := HCE.out w3 HOB.out
            have h2t := fun (O : Nat → Prop) (h : TA w3 L O) => HK.out.try_ w3 L O xk xt xs xo xc xa xn h HXC.out
            have HT := Lib.hid (KB.call HK.out hk2 h2t)
            clear h2t
            clear ho1 hk1 hk2 HL1 HW
            by_cases hE : trE L ⟨xk, xt, xs, xo⟩ xc xa xn = 0
            · have HTK := Lib.hid (tr_iff.1 hE)
              have HOKL := Lib.hid (K2.out.ok HK.out)
              obtain ⟨q1, q2, q3⟩ := back_facts HOKL.out HTK.out
              have hgc := get_card (L := L) (c := xc) (W := winW ⟨xk, xt, xs, xo⟩ xn)
              obtain ⟨gw, gn, gs, hgu⟩ : ∃ gw n s, getU L xc (winW ⟨xk, xt, xs, xo⟩ xn) = ⟨xc, gw, n, s⟩ ∧ gw = winW ⟨xk, xt, xs, xo⟩ xn := by
                generalize getU L xc (winW ⟨xk, xt, xs, xo⟩ xn) = gu at *
                obtain ⟨gc, gw, gn, gs⟩ := gu
                exact ⟨gw, gn, gs, by have h1 := hgc.1; simp only at h1; rw [h1], hgc.2⟩
              rw [hgu.1] at q3
              have HGU := Lib.hid hgu
              have HQ3 := Lib.hid q3
              rw [hE] at HT
              have h2u := fun (w5 : World) (O : Nat → Prop) (h : TA w5 (trN L ⟨xk, xt, xs, xo⟩ xc xa xn) O) => HK.out.undo w5 _ O xk xt xs xo xc xa xn h HXC.out
              rw [q1] at h2u
              have HUD := Lib.hid h2u
              clear hE q1 q3 hgc hgu h2u HTK
              generalize trN L ⟨xk, xt, xs, xo⟩ xc xa xn = T4 at *
              generalize unN T4 ⟨xk, xt, xs, xo⟩ xc xa xn = L6 at *
              go_wp2_with fail
              refine HT.out.mono ?_
              rintro e w4 ⟨rfl, h4⟩
              have HL5 := Lib.hid (KB.list HK.out h4)
              clear h4 HT s1 s2 s3 s4 s5 s6 s7
              go_wp2_with fail
              refine HL5.out.mono ?_
              rintro e w5 ⟨v2, rfl, ho2, h5, _⟩
              obtain ⟨A2, c2, rfl, _⟩ := ho2.cap_le
              rw [← q2]
              obtain ⟨⟨s1, s2, s3, s4⟩, s5, s6, s7⟩ := HCE.out w5 ((h5.held (Or.inl rfl)).trans HOB.out)
              have HUU := Lib.hid (KB.call HK.out h5 (fun O h => HUD.out w5 O h))
              clear ho2 h5 HL5 HUD q2
              go_wp2_with fail
              refine HUU.out.mono ?_
              rintro e w6 ⟨rfl, h6⟩
              have HL7 := Lib.hid (KB.list HK.out h6)
              clear h6 HUU s1 s2 s3 s4 s5 s6 s7
              go_wp2_with fail
              refine HL7.out.mono ?_
              rintro e w7 ⟨v3, rfl, ho3, h7, _⟩
              obtain ⟨A3, c3, rfl, hl3⟩ := ho3.slice
              obtain ⟨A9, c9, e9, hl1⟩ := (KB.row h7 HO1.out (fun k hk => Or.inr hk)).slice
              injection e9 with e8 _ e7
              subst e8 e7
              have HR1 := Lib.hid hl1
              have HR3 := Lib.hid hl3
              have HK7 := Lib.hid (h7.less (T := fun k => k = w.heap.size) (fun k hk => Or.inl hk))
              have HS5 := Lib.hid (HCE.out w7 ((h7.held (Or.inl rfl)).trans HOB.out)).2.1
              have hHl := block_lt HS5.out
              have h616 : (L6.length : Int) ≤ 16 := by have := (h7.ok HK.out).few; omega
              have hl16 : (L.length : Int) ≤ 16 := by have := HOKL.out.few; omega
              clear hl1 hl3 ho3 h7 HL7 HO1 K2 HOB HCE HXC
              go_wp2_with fail
              go_loopw [13] (fun i wr => ∃ q : Nat, i = .int .i64 q ∧ q ≤ L6.length ∧ Below w7.heap.size w7 wr) (fun i _ => L6.length - (intOf i).toNat)
              case atStart => exact ⟨0, rfl, Nat.zero_le _, Below.refl _ _⟩
              case round =>
                obtain ⟨q, rfl, hq, hbw⟩ := hrel
                have HBW := Lib.hid hbw
                clear hbw
                by_cases hql : q < L6.length
                · have hqi : (q : Int) < L6.length := by omega
                  have hq0 : ¬ (q : Int) < 0 := by omega
                  obtain ⟨B3, o3, rfl, hB3, b0, b1, b2, b3⟩ := us_at (HR3.out.keep HBW.out) hql
                  have s5 : wr.cell? ⟨w.heap.size, 5, none⟩ = some (.string xc) := (HBW.out.cell (p := ⟨w.heap.size, 5, none⟩) hHl).trans HS5.out
                  by_cases hcc : L6[q].c = xc
                  · have hu := HQ3.out L6[q] (List.getElem_mem hql) hcc
                    have HU3 := Lib.hid (show ∀ W, Below w7.heap.size w7 W → W.cell? ⟨B3, o3 + q * 4, none⟩ = some (.string xc) ∧ W.cell? ⟨B3, o3 + q * 4 + 1, none⟩ = some (.int .i64 gw) ∧ W.cell? ⟨B3, o3 + q * 4 + 2, none⟩ = some (.int .i64 gn) ∧ W.cell? ⟨B3, o3 + q * 4 + 3, none⟩ = some (.int .i64 gs) from fun W hb => by
                      obtain ⟨B9, o9, e9, _, c0, c1, c2, c3⟩ := us_at (HR3.out.keep hb) hql
                      injection e9 with e9
                      injection e9 with e8 e7 _
                      subst e8 e7
                      rw [hu] at c0 c1 c2 c3
                      exact ⟨c0, c1, c2, c3⟩)
                    rw [hu] at b0 b1 b2 b3
                    simp only at b0 b1 b2 b3
                    clear hu hcc
                    have b0 : ∀ n, (wr.drewN n).cell? ⟨B3, o3 + q * 4, none⟩ = some (.string xc) := fun _ => b0
                    have b1 : ∀ n, (wr.drewN n).cell? ⟨B3, o3 + q * 4 + 1, none⟩ = some (.int .i64 gw) := fun _ => b1
                    have s5 : ∀ n, (wr.drewN n).cell? ⟨w.heap.size, 5, none⟩ = some (.string xc) := fun _ => s5
                    go_wp2_with fail
                    go_quiet (fail)
                    go_wp2_with fail
                    have b0 := b0 nq
                    have b1 := b1 nq
                    have s5 := s5 nq
                    have HBN := Lib.hid (drawn HBW.out nq)
                    generalize wr.drewN nq = wn at *
                    have hB3n : B3 < wn.heap.size := block_lt b1
                    have hHn : w.heap.size < wn.heap.size := block_lt s5
                    have b1a : (wn.alloc (.cells #[.string { data := #[] }, .int .i64 0, .int .i64 0, .int .i64 0] 31)).cell? ⟨B3, o3 + q * 4 + 1, none⟩ = some (.int .i64 gw) := ((alloc_below wn _).cell (p := ⟨B3, _, none⟩) hB3n).trans b1
                    have s5a : (wn.alloc (.cells #[.string { data := #[] }, .int .i64 0, .int .i64 0, .int .i64 0] 31)).cell? ⟨w.heap.size, 5, none⟩ = some (.string xc) := ((alloc_below wn _).cell (p := ⟨w.heap.size, _, none⟩) hHn).trans s5
                    go_region
                    all_goals clear b1a s5a
                    all_goals
                      go_wp2_with fail
                      have hbU : w7.heap.size ≤ wn.heap.size := HBN.out.size
                      have HO0 := Lib.hid (show ((wn.alloc (.cells #[.string xc, .int .i64 gw, .int .i64 0, .int .i64 0] 31)).drew).heap[wn.heap.size]? = some (.cells #[.string xc, .int .i64 gw, .int .i64 0, .int .i64 0] 31) by show (wn.heap.push _)[wn.heap.size]? = _; rw [Array.getElem?_push_size])
                      have HBA := Lib.hid (HBN.out.trans (((alloc_below wn (.cells #[.string xc, .int .i64 gw, .int .i64 0, .int .i64 0] 31)).drew).mono hbU))
                      clear b0 b1 b2 b3 s5 HBN hB3n hHn
                      generalize (wn.alloc (.cells #[.string xc, .int .i64 gw, .int .i64 0, .int .i64 0] 31)).drew = wu at *
                      generalize wn.heap.size = bU at *
                      go_loopw [15] (fun i wr => ∃ (p : Nat) (y : Us), i = .int .i64 p ∧ p ≤ L.length ∧ Below w7.heap.size w7 wr ∧ wr.heap[bU]? = some (.cells #[.string y.c, .int .i64 y.w, .int .i64 y.n, .int .i64 y.s] 31) ∧ OldI L xc gw p y) (fun i _ => L.length - (intOf i).toNat)
                      case atStart => exact ⟨0, ⟨xc, gw, 0, 0⟩, rfl, Nat.zero_le _, HBA.out, HO0.out, Or.inl ⟨rfl, fun _ _ h => absurd h (Nat.not_lt_zero _)⟩⟩
                      case round =>
                        obtain ⟨p, y, rfl, hp, hbv, hou, hold⟩ := hrel
                        have HBV := Lib.hid hbv
                        have HOU := Lib.hid hou
                        have HOLD := Lib.hid hold
                        clear hbv hou hold HBA HO0
                        obtain ⟨t0, t1, t2, t3⟩ := HU3.out _ HBV.out
                        by_cases hpl : p < L.length
                        · have hpi : (p : Int) < L.length := by omega
                          have hp0 : ¬ (p : Int) < 0 := by omega
                          obtain ⟨B1, o1, rfl, hB1, d0, d1, d2, d3⟩ := us_at (HR1.out.keep HBV.out) hpl
                          have s5 : wr.cell? ⟨w.heap.size, 5, none⟩ = some (.string xc) := (HBV.out.cell (p := ⟨w.heap.size, 5, none⟩) hHl).trans HS5.out
                          have t1 : ∀ n, (wr.drewN n).cell? ⟨B3, o3 + q * 4 + 1, none⟩ = some (.int .i64 gw) := fun _ => t1
                          have s5 : ∀ n, (wr.drewN n).cell? ⟨w.heap.size, 5, none⟩ = some (.string xc) := fun _ => s5
                          clear t0 t2 t3
                          by_cases hcy : L[p].c = xc
                          · by_cases hwy : L[p].w = gw
                            · have HNX := Lib.hid (OldI.yes hpl ⟨hcy, hwy⟩)
                              generalize L[p] = z at *
                              obtain ⟨zc, zw, zn, zs⟩ := z
                              simp only at hcy hwy d0 d1 d2 d3
                              subst hcy hwy
                              have d0 : ∀ n, (wr.drewN n).cell? ⟨B1, o1 + p * 4, none⟩ = some (.string zc) := fun _ => d0
                              have d1 : ∀ n, (wr.drewN n).cell? ⟨B1, o1 + p * 4 + 1, none⟩ = some (.int .i64 zw) := fun _ => d1
                              have d2 : ∀ n, (wr.drewN n).cell? ⟨B1, o1 + p * 4 + 2, none⟩ = some (.int .i64 zn) := fun _ => d2
                              have d3 : ∀ n, (wr.drewN n).cell? ⟨B1, o1 + p * 4 + 3, none⟩ = some (.int .i64 zs) := fun _ => d3
                              have hou : ∀ n, (wr.drewN n).heap[bU]? = _ := fun _ => HOU.out
                              go_wp2_with fail
                              go_quiet (fail)
                              have hou := hou nq
                              have d0 := d0 nq
                              have d1 := d1 nq
                              have d2 := d2 nq
                              have d3 := d3 nq
                              have HBQ := Lib.hid (drawn HBV.out nq)
                              generalize wr.drewN nq = wq at *
                              obtain ⟨⟨k0, f0⟩, ⟨k1, f1⟩, ⟨k2, f2⟩, ⟨k3, f3⟩⟩ := st_facts (y := y) hou (.string zc) (.int .i64 zw) (.int .i64 zn)
                              have HST := Lib.hid (st_heap (z := ⟨zc, zw, zn, zs⟩) hou)
                              have HSB := Lib.hid (st_below (z := ⟨zc, zw, zn, zs⟩) HBQ.out hbU)
                              clear hou
                              go_wp2_with fail
                              go_roundw
                              case rel => exact ⟨p + 1, _, by go_num, by omega, HSB.out, HST.out, HNX.out⟩
                              case measure => simp [intOf]; omega
                            · have HNX := Lib.hid (HOLD.out.no hpl (fun e => hwy e.2))
                              generalize L[p] = z at *
                              obtain ⟨zc, zw, zn, zs⟩ := z
                              simp only at hcy hwy d0 d1 d2 d3
                              subst hcy
                              have qw : decide (zw = gw) = false := decide_eq_false hwy
                              have qw2 : (zw == gw) = false := by simpa using hwy
                              have d0 : ∀ n, (wr.drewN n).cell? ⟨B1, o1 + p * 4, none⟩ = some (.string zc) := fun _ => d0
                              have d1 : ∀ n, (wr.drewN n).cell? ⟨B1, o1 + p * 4 + 1, none⟩ = some (.int .i64 zw) := fun _ => d1
                              clear hwy
                              go_wp2_with fail
                              go_quiet (fail)
                              go_wp2_with fail
                              go_roundw
                              case rel => exact ⟨p + 1, y, by go_num, by omega, drawn HBV.out _, HOU.out, HNX.out⟩
                              case measure => simp [intOf]; omega
                          · have HNX := Lib.hid (HOLD.out.no hpl (fun e => hcy e.1))
                            have qc : (L[p].c.toList == xc.toList) = false := by rw [str_eq16]; exact decide_eq_false hcy
                            generalize L[p].c = zc at *
                            have d0 : ∀ n, (wr.drewN n).cell? ⟨B1, o1 + p * 4, none⟩ = some (.string zc) := fun _ => d0
                            clear hcy t1
                            go_wp2_with fail
                            go_quiet (fail)
                            go_wp2_with fail
                            go_roundw
                            case rel => exact ⟨p + 1, y, by go_num, by omega, drawn HBV.out _, HOU.out, HNX.out⟩
                            case measure => simp [intOf]; omega
                        · have hpi : ¬ (p : Int) < L.length := by omega
                          have hy := HOLD.out.done HOKL.out (by omega)
                          rw [HGU.out.2, HGU.out.1] at hy
                          subst hy
                          have e0 : ∀ n, (wr.drewN n).cell? ⟨B3, o3 + q * 4, none⟩ = some (.string xc) := fun _ => t0
                          have e1 : ∀ n, (wr.drewN n).cell? ⟨B3, o3 + q * 4 + 1, none⟩ = some (.int .i64 gw) := fun _ => t1
                          have e2 : ∀ n, (wr.drewN n).cell? ⟨B3, o3 + q * 4 + 2, none⟩ = some (.int .i64 gn) := fun _ => t2
                          have e3 : ∀ n, (wr.drewN n).cell? ⟨B3, o3 + q * 4 + 3, none⟩ = some (.int .i64 gs) := fun _ => t3
                          have m0 : ∀ n, (wr.drewN n).cell? ⟨bU, 0, none⟩ = some (.string xc) := fun _ => (Lib.cell_of_heap HOU.out 0).trans rfl
                          have m1 : ∀ n, (wr.drewN n).cell? ⟨bU, 1, none⟩ = some (.int .i64 gw) := fun _ => (Lib.cell_of_heap HOU.out 1).trans rfl
                          have m2 : ∀ n, (wr.drewN n).cell? ⟨bU, 2, none⟩ = some (.int .i64 gn) := fun _ => (Lib.cell_of_heap HOU.out 2).trans rfl
                          have m3 : ∀ n, (wr.drewN n).cell? ⟨bU, 3, none⟩ = some (.int .i64 gs) := fun _ => (Lib.cell_of_heap HOU.out 3).trans rfl
                          have hne := fun W => run_neqUs ⟨xc, gw, gn, gs⟩ ⟨xc, gw, gn, gs⟩ W
                          simp only [ne_eq, not_true_eq_false, decide_false] at hne
                          clear t0 t1 t2 t3 hpl
                          go_wp2_with fail
                          go_quiet (fail)
                          go_wp2_with fail
                          go_roundw
                          case rel => exact ⟨q + 1, by go_num, by omega, drawn HBV.out _⟩
                          case measure => simp [intOf]; omega
                  · have qc : (L6[q].c.toList == xc.toList) = false := by rw [str_eq16]; exact decide_eq_false hcc
                    generalize L6[q].c = uc at *
                    have b0 : ∀ n, (wr.drewN n).cell? ⟨B3, o3 + q * 4, none⟩ = some (.string uc) := fun _ => b0
                    have s5 : ∀ n, (wr.drewN n).cell? ⟨w.heap.size, 5, none⟩ = some (.string xc) := fun _ => s5
                    clear hcc
                    go_wp2_with fail
                    go_quiet (fail)
                    go_wp2_with fail
                    go_roundw
                    case rel => exact ⟨q + 1, by go_num, by omega, drawn HBW.out _⟩
                    case measure => simp [intOf]; omega
                · have hqi : ¬ (q : Int) < L6.length := by omega
                  have HKB := Lib.hid (HK7.out.below HK.out HBW.out)
                  clear HQ3 HR1 HR3 HS5 HBW HK7 HGU HOKL
                  have HL4 := Lib.hid (HKB.out.list HK.out)
                  go_wp2_with fail
                  refine HL4.out.mono ?_
                  rintro e w9 ⟨v4, rfl, ho4, hk4, _⟩
                  obtain ⟨A4, c4, rfl, hl4⟩ := ho4.slice
                  have HRS := Lib.hid (HRES.out w9 A4 c4 L6 (hk4.bel HK.out) hl4 (hk4.ok HK.out))
                  have HB9 := Lib.hid hk4
                  clear ho4 hk4 hl4 HL4 HKB
                  go_wp2_with fail
                  refine HRS.out.mono ?_
                  rintro e w10 ⟨Gz, TB, P, rfl, hkit', htb, hP, hb10⟩
                  have HK' := Lib.hid hkit'
                  have HBU := Lib.hid (show BothU TA TB w10 L6 L6 from by
                    obtain ⟨O, h1, _⟩ := HB9.out
                    exact ⟨O, P, HK.out.below h1 hb10, htb, fun k hk hp => by have := (HK.out.own _ _ _ h1 k hk).2; have := hP k hp; omega⟩)
                  clear hkit' htb hP hb10 HB9 HRS
                  go_wp2_with fail
                  go_loopw [18] (fun i wr => ∃ (k : Nat) (M : List Us), i = .int .i64 k ∧ k ≤ Y.length ∧ k ≤ 100 ∧ BothU TA TB wr M M) (fun i _ => Y.length - (intOf i).toNat)
                  case atStart => exact ⟨0, L6, rfl, Nat.zero_le _, Nat.zero_le _, HBU.out⟩
                  case round =>
                    obtain ⟨kz, M, rfl, hkz, hkz2, hbu⟩ := hrel
                    have HU := Lib.hid hbu
                    clear hbu HBU
                    by_cases hlz : kz < Y.length ∧ kz < 100
                    · obtain ⟨hz1, hz2⟩ := hlz
                      have hzi : (kz : Int) < Y.length := by omega
                      have hzi2 : (kz : Int) < 100 := by omega
                      have HKI := Lib.hid hzi
                      obtain ⟨Bz, oz, hAz, _, _⟩ := ac_at HMORE.out hz1
                      subst hAz
                      have HYA := Lib.hid (show ∀ W, Below w.heap.size w W → (∀ i u, (acE.e Y[kz])[i]? = some u → W.cell? ⟨Bz, oz + kz * 8 + i, none⟩ = some u) from fun W hb => by
                        obtain ⟨B9, o9, e9, _, h9⟩ := LiS.at_ (HMORE.out.keep hb) (List.getElem?_eq_getElem hz1)
                        injection e9 with e9
                        injection e9 with e8 e7 _
                        subst e8 e7
                        exact h9)
                      have HYc := Lib.hid (HY.out _ (List.getElem_mem hz1))
                      generalize Y[kz] = y at *
                      obtain ⟨M1, hM1⟩ : ∃ M1, doN M y = M1 := ⟨_, rfl⟩
                      obtain ⟨ez, hez⟩ : ∃ ez, doE M y = ez := ⟨_, rfl⟩
                      have HDL := Lib.hid (show ∀ W O, TA W M O → Calls Try.prog 14 #[.pointer (some ⟨G, 0, none⟩), acV y] W fun e w' => e = .returned (.int .i64 ez) ∧ BStep TA W O w' M1 from fun W O h => by
                        have h9 := do16_any HK.out h y HYc.out
                        rw [hM1, hez] at h9
                        exact h9)
                      have HDR := Lib.hid (show ∀ W O, TB W M O → Calls Try.prog 14 #[.pointer (some ⟨Gz, 0, none⟩), acV y] W fun e w' => e = .returned (.int .i64 ez) ∧ BStep TB W O w' M1 from fun W O h => by
                        have h9 := do16_any HK'.out h y HYc.out
                        rw [hM1, hez] at h9
                        exact h9)
                      have HM16 := Lib.hid (show M1.length ≤ 16 by
                        rw [← hM1]
                        obtain ⟨O, P, h1, _⟩ := HU.out
                        exact (do_ok (HK.out.ok _ _ _ h1) y).few)
                      have HJ := Lib.hid (show JZ w TA TB M M1 (fun _ => none) wr.drew from by
                        obtain ⟨O, P, h1, h2, h3⟩ := HU.out.below HK.out HK'.out (Below.refl _ _).drew
                        exact ⟨⟨O, P, h1, h2, h3, (fun v hv => by cases hv), (fun v hv => by cases hv)⟩, (fun h => by cases h), (fun h => by cases h)⟩)
                      clear hM1 hez hz1 hz2 HU
                      go_wp2_with fail
                      refine ord.wp_region_ordZ (JZ w TA TB M M1) 20 [[], [], [], [1, 2], [3], [0, 4], [], [], [], [7, 8], [9], [6, 10], [5, 11], [12], [13], [14, 13], [13], [16, 13], [15, 17, 13], [18, 13]] [(0, 157), (1, 158), (2, 159), (3, 160), (4, 161), (5, 162), (6, 163), (7, 164), (8, 165), (9, 166), (10, 167), (11, 168), (12, 169), (13, 170), (14, 171), (15, 172), (16, 173), (17, 174), (18, 175), (19, 176)] (bkP G Gz Bz oz kz Y.length ccz M1.length y ez) (by kernel_rfl) (by kernel_rfl) (by kernel_rfl) ((ord.steps_cons ?_ (ord.steps_cons ?_ (ord.steps_cons ?_ (ord.steps_cons ?_ (ord.steps_cons ?_ (ord.steps_cons ?_ (ord.steps_cons ?_ (ord.steps_cons ?_ (ord.steps_cons ?_ (ord.steps_cons ?_ (ord.steps_cons ?_ (ord.steps_cons ?_ (ord.steps_cons ?_ (ord.steps_cons ?_ (ord.steps_cons ?_ (ord.steps_cons ?_ (ord.steps_cons ?_ (ord.steps_cons ?_ (ord.steps_cons ?_ (ord.steps_cons ?_ ord.steps_nil))))))))))))))))))))) HJ.out ?_
                      --STEPS bk
                      · intro o ho x c w hj hc hG
                        obtain rfl := Option.some.inj ho
                        clear ho
                        refine Or.inl ⟨ord.want0 rfl, ?_⟩
                        exact ord.makes_move rfl ⟨hj.keep (by decide) _, rfl⟩
                      · intro o ho x c w hj hc hG
                        obtain rfl := Option.some.inj ho
                        clear ho
                        refine Or.inl ⟨ord.want0 rfl, ?_⟩
                        exact ord.makes_move rfl ⟨hj.keep (by decide) _, rfl⟩
                      · intro o ho x c w hj hc hG
                        obtain rfl := Option.some.inj ho
                        clear ho
                        refine Or.inl ⟨ord.want0 rfl, ?_⟩
                        exact ord.makes_move rfl ⟨hj.keep (by decide) _, rfl⟩
                      · intro o ho x c w hj hc hG
                        obtain rfl := Option.some.inj ho
                        clear ho
                        have h158 : x 1 = .slice (some ⟨Bz, oz, none⟩) Y.length ccz := (hG (1, 158) (List.mem_of_getElem? (i := 1) rfl) rfl).2
                        have h159 : x 2 = .int .i64 (kz : Nat) := (hG (2, 159) (List.mem_of_getElem? (i := 2) rfl) rfl).2
                        refine Or.inl ⟨ord.want0 rfl, ?_⟩
                        exact ord.makes_ixAddr rfl h158 h159 (run_ixA _ _ _ _ _ HKI.out w) ⟨hj.keep (by decide) _, rfl⟩
                      · intro o ho x c w hj hc hG
                        obtain rfl := Option.some.inj ho
                        clear ho
                        have h160 : x 3 = .pointer (some ⟨Bz, oz + kz * 8, none⟩) := (hG (3, 160) (List.mem_of_getElem? (i := 3) rfl) rfl).2
                        refine Or.inl ⟨ord.want0 rfl, ?_⟩
                        exact ord.makes_ld rfl h160 (run_ldAc _ _ _ w (HYA.out w (hj.bel HK.out))) ⟨hj.keep (by decide) _, rfl⟩
                      · intro o ho x c w hj hc hG
                        obtain rfl := Option.some.inj ho
                        clear ho
                        have h157 : x 0 = .pointer (some ⟨G, 0, none⟩) := (hG (0, 157) (List.mem_of_getElem? (i := 0) rfl) rfl).2
                        have h161 : x 4 = acV y := (hG (4, 161) (List.mem_of_getElem? (i := 4) rfl) rfl).2
                        refine Or.inl ⟨ord.want0 rfl, ?_⟩
                        exact ord.makes_call2 Try.func14 (by kernel_rfl) (by kernel_rfl) rfl h157 h161 (hj.doL HK.out HK'.out hc HDL.out) (fun e w' h => ⟨_, h.1, h.2, rfl⟩)
                      · intro o ho x c w hj hc hG
                        obtain rfl := Option.some.inj ho
                        clear ho
                        refine Or.inl ⟨ord.want0 rfl, ?_⟩
                        exact ord.makes_move rfl ⟨hj.keep (by decide) _, rfl⟩
                      · intro o ho x c w hj hc hG
                        obtain rfl := Option.some.inj ho
                        clear ho
                        refine Or.inl ⟨ord.want0 rfl, ?_⟩
                        exact ord.makes_move rfl ⟨hj.keep (by decide) _, rfl⟩
                      · intro o ho x c w hj hc hG
                        obtain rfl := Option.some.inj ho
                        clear ho
                        refine Or.inl ⟨ord.want0 rfl, ?_⟩
                        exact ord.makes_move rfl ⟨hj.keep (by decide) _, rfl⟩
                      · intro o ho x c w hj hc hG
                        obtain rfl := Option.some.inj ho
                        clear ho
                        have h164 : x 7 = .slice (some ⟨Bz, oz, none⟩) Y.length ccz := (hG (7, 164) (List.mem_of_getElem? (i := 7) rfl) rfl).2
                        have h165 : x 8 = .int .i64 (kz : Nat) := (hG (8, 165) (List.mem_of_getElem? (i := 8) rfl) rfl).2
                        refine Or.inl ⟨ord.want0 rfl, ?_⟩
                        exact ord.makes_ixAddr rfl h164 h165 (run_ixA _ _ _ _ _ HKI.out w) ⟨hj.keep (by decide) _, rfl⟩
                      · intro o ho x c w hj hc hG
                        obtain rfl := Option.some.inj ho
                        clear ho
                        have h166 : x 9 = .pointer (some ⟨Bz, oz + kz * 8, none⟩) := (hG (9, 166) (List.mem_of_getElem? (i := 9) rfl) rfl).2
                        refine Or.inl ⟨ord.want0 rfl, ?_⟩
                        exact ord.makes_ld rfl h166 (run_ldAc _ _ _ w (HYA.out w (hj.bel HK.out))) ⟨hj.keep (by decide) _, rfl⟩
                      · intro o ho x c w hj hc hG
                        obtain rfl := Option.some.inj ho
                        clear ho
                        have h163 : x 6 = .pointer (some ⟨Gz, 0, none⟩) := (hG (6, 163) (List.mem_of_getElem? (i := 6) rfl) rfl).2
                        have h167 : x 10 = acV y := (hG (10, 167) (List.mem_of_getElem? (i := 10) rfl) rfl).2
                        refine Or.inl ⟨ord.want0 rfl, ?_⟩
                        exact ord.makes_call2 Try.func14 (by kernel_rfl) (by kernel_rfl) rfl h163 h167 (hj.doR HK.out HK'.out hc HDR.out) (fun e w' h => ⟨_, h.1, h.2, rfl⟩)
                      · intro o ho x c w hj hc hG
                        obtain rfl := Option.some.inj ho
                        clear ho
                        have h162 : x 5 = .int .i64 ez := (hG (5, 162) (List.mem_of_getElem? (i := 5) rfl) rfl).2
                        have h168 : x 11 = .int .i64 ez := (hG (11, 168) (List.mem_of_getElem? (i := 11) rfl) rfl).2
                        refine Or.inl ⟨ord.want0 rfl, ?_⟩
                        exact ord.makes_bin rfl h162 h168 (by go_simp) ⟨hj.k12 (hG (5, 162) (List.mem_of_getElem? (i := 5) rfl) rfl).1 (hG (11, 168) (List.mem_of_getElem? (i := 11) rfl) rfl).1 _, rfl⟩
                      · intro o ho x c w hj hc hG
                        obtain rfl := Option.some.inj ho
                        clear ho
                        have h169 : x 12 = .bool false := (hG (12, 169) (List.mem_of_getElem? (i := 12) rfl) rfl).2
                        refine Or.inl ⟨ord.want0 rfl, ?_⟩
                        exact ord.makes_move rfl ⟨hj.k13 (hG (12, 169) (List.mem_of_getElem? (i := 12) rfl) rfl).1 _, h169⟩
                      · intro o ho x c w hj hc hG
                        obtain rfl := Option.some.inj ho
                        clear ho
                        have h170 : x 13 = .bool false := (hG (13, 170) (List.mem_of_getElem? (i := 13) rfl) rfl).2
                        refine Or.inl ⟨ord.wantG rfl rfl h170, ?_⟩
                        exact ord.makes_move rfl ⟨hj.keep (by decide) _, rfl⟩
                      · intro o ho x c w hj hc hG
                        obtain rfl := Option.some.inj ho
                        clear ho
                        have h171 : x 14 = .pointer (some ⟨G, 0, none⟩) := (hG (14, 171) (List.mem_of_getElem? (i := 14) rfl) rfl).2
                        have h170 : x 13 = .bool false := (hG (13, 170) (List.mem_of_getElem? (i := 13) rfl) rfl).2
                        refine Or.inl ⟨ord.wantG rfl rfl h170, ?_⟩
                        exact ord.makes_call1 Try.func17 (by kernel_rfl) (by kernel_rfl) rfl h171 (hj.listL HK.out HK'.out (hG (13, 170) (List.mem_of_getElem? (i := 13) rfl) rfl).1) (fun e w' h => by obtain ⟨v, he, h1, h2⟩ := h; exact ⟨v, he, h1, h2⟩)
                      · intro o ho x c w hj hc hG
                        obtain rfl := Option.some.inj ho
                        clear ho
                        have h170 : x 13 = .bool false := (hG (13, 170) (List.mem_of_getElem? (i := 13) rfl) rfl).2
                        refine Or.inl ⟨ord.wantG rfl rfl h170, ?_⟩
                        exact ord.makes_move rfl ⟨hj.keep (by decide) _, rfl⟩
                      · intro o ho x c w hj hc hG
                        obtain rfl := Option.some.inj ho
                        clear ho
                        have h173 : x 16 = .pointer (some ⟨Gz, 0, none⟩) := (hG (16, 173) (List.mem_of_getElem? (i := 16) rfl) rfl).2
                        have h170 : x 13 = .bool false := (hG (13, 170) (List.mem_of_getElem? (i := 13) rfl) rfl).2
                        refine Or.inl ⟨ord.wantG rfl rfl h170, ?_⟩
                        exact ord.makes_call1 Try.func17 (by kernel_rfl) (by kernel_rfl) rfl h173 (hj.listR HK.out HK'.out (hG (13, 170) (List.mem_of_getElem? (i := 13) rfl) rfl).1) (fun e w' h => by obtain ⟨v, he, h1, h2⟩ := h; exact ⟨v, he, h1, h2⟩)
                      · intro o ho x c w hj hc hG
                        obtain rfl := Option.some.inj ho
                        clear ho
                        have h172 : bkP G Gz Bz oz kz Y.length ccz M1.length y ez 15 (x 15) := (hG (15, 172) (List.mem_of_getElem? (i := 15) rfl) rfl).2
                        have h174 : bkP G Gz Bz oz kz Y.length ccz M1.length y ez 17 (x 17) := (hG (17, 174) (List.mem_of_getElem? (i := 17) rfl) rfl).2
                        have h170 : x 13 = .bool false := (hG (13, 170) (List.mem_of_getElem? (i := 13) rfl) rfl).2
                        refine Or.inl ⟨ord.wantG rfl rfl h170, ?_⟩
                        exact ord.makes_call2 Try.func10 (by kernel_rfl) (by kernel_rfl) rfl rfl rfl (hj.same HK.out HK'.out (hG (15, 172) (List.mem_of_getElem? (i := 15) rfl) rfl).1 (hG (17, 174) (List.mem_of_getElem? (i := 17) rfl) rfl).1 HM16.out) (fun e w' h => ⟨_, h.1, h.2, rfl⟩)
                      · intro o ho x c w hj hc hG
                        obtain rfl := Option.some.inj ho
                        clear ho
                        have h175 : x 18 = .bool true := (hG (18, 175) (List.mem_of_getElem? (i := 18) rfl) rfl).2
                        have h170 : x 13 = .bool false := (hG (13, 170) (List.mem_of_getElem? (i := 13) rfl) rfl).2
                        refine Or.inl ⟨ord.wantG rfl rfl h170, ?_⟩
                        exact ord.makes_unOp rfl h175 (by go_simp) ⟨hj.keep (by decide) _, rfl⟩
                      --END STEPS bk
                      · intro x c w5 hj hG
                        have g5 := hG (5, 162) (List.mem_of_getElem? (i := 5) rfl)
                        have g11 := hG (11, 168) (List.mem_of_getElem? (i := 11) rfl)
                        have e13 : x 13 = .bool false := (hG (13, 170) (List.mem_of_getElem? (i := 13) rfl)).2
                        have e19 : x 19 = .bool false := (hG (19, 176) (List.mem_of_getElem? (i := 19) rfl)).2
                        have HB5 := Lib.hid (show BothU TA TB w5 M1 M1 from by
                          obtain ⟨⟨O, P, h1, h2, h3, _, _⟩, _, _⟩ := hj
                          rw [g5.1] at h1
                          rw [g11.1] at h2
                          exact ⟨O, P, h1, h2, h3⟩)
                        clear hG g5 g11 hj
                        simp only [ord.puts, ord.put', List.set_cons_zero, List.set_cons_succ, if_true]
                        rw [e13, e19]
                        simp only [List.drop_succ_cons, List.drop_zero]
                        clear e13 e19 HDL HDR HYA HJ
                        go_wp2_with fail
                        go_roundw
                        case rel => exact ⟨kz + 1, M1, by go_num, by omega, by omega, HB5.out⟩
                        case measure => simp [intOf]; omega
                    · have HBE := Lib.hid (HU.out.bel HK.out)
                      have hendz : ¬ (kz : Int) < Y.length ∨ (kz : Int) < Y.length ∧ ¬ (kz : Int) < 100 := by omega
                      rcases hendz with hzi | ⟨hzi, hzi2⟩
                      all_goals
                        go_wp2_with fail
                        go_ret
                        exact ⟨rfl, HBE.out⟩
            · have hLs := tr_same hE
              have qE : (trE L ⟨xk, xt, xs, xo⟩ xc xa xn == 0) = false := by simpa using hE
              rw [hLs] at HT
              generalize trE L ⟨xk, xt, xs, xo⟩ xc xa xn = E at *
              clear hLs hE
              go_wp2_with fail
              refine HT.out.mono ?_
              rintro e w4 ⟨rfl, h4⟩
              have HKB := Lib.hid h4
              obtain ⟨LF, hLF⟩ : ∃ LF, L = LF := ⟨_, rfl⟩
              subst hLF
              clear h4 HT s1 s2 s3 s4 s5 s6 s7 HO1 K2 HOB HCE
              · · have HL4 := Lib.hid (HKB.out.list HK.out)
                  go_wp2_with fail
                  refine HL4.out.mono ?_
                  rintro e w9 ⟨v4, rfl, ho4, hk4, _⟩
                  obtain ⟨A4, c4, rfl, hl4⟩ := ho4.slice
                  have HRS := Lib.hid (HRES.out w9 A4 c4 L (hk4.bel HK.out) hl4 (hk4.ok HK.out))
                  have HB9 := Lib.hid hk4
                  clear ho4 hk4 hl4 HL4 HKB
                  go_wp2_with fail
                  refine HRS.out.mono ?_
                  rintro e w10 ⟨Gz, TB, P, rfl, hkit', htb, hP, hb10⟩
                  have HK' := Lib.hid hkit'
                  have HBU := Lib.hid (show BothU TA TB w10 L L from by
                    obtain ⟨O, h1, _⟩ := HB9.out
                    exact ⟨O, P, HK.out.below h1 hb10, htb, fun k hk hp => by have := (HK.out.own _ _ _ h1 k hk).2; have := hP k hp; omega⟩)
                  clear hkit' htb hP hb10 HB9 HRS
                  go_wp2_with fail
                  go_loopw [18] (fun i wr => ∃ (k : Nat) (M : List Us), i = .int .i64 k ∧ k ≤ Y.length ∧ k ≤ 100 ∧ BothU TA TB wr M M) (fun i _ => Y.length - (intOf i).toNat)
                  case atStart => exact ⟨0, L, rfl, Nat.zero_le _, Nat.zero_le _, HBU.out⟩
                  case round =>
                    obtain ⟨kz, M, rfl, hkz, hkz2, hbu⟩ := hrel
                    have HU := Lib.hid hbu
                    clear hbu HBU
                    by_cases hlz : kz < Y.length ∧ kz < 100
                    · obtain ⟨hz1, hz2⟩ := hlz
                      have hzi : (kz : Int) < Y.length := by omega
                      have hzi2 : (kz : Int) < 100 := by omega
                      have HKI := Lib.hid hzi
                      obtain ⟨Bz, oz, hAz, _, _⟩ := ac_at HMORE.out hz1
                      subst hAz
                      have HYA := Lib.hid (show ∀ W, Below w.heap.size w W → (∀ i u, (acE.e Y[kz])[i]? = some u → W.cell? ⟨Bz, oz + kz * 8 + i, none⟩ = some u) from fun W hb => by
                        obtain ⟨B9, o9, e9, _, h9⟩ := LiS.at_ (HMORE.out.keep hb) (List.getElem?_eq_getElem hz1)
                        injection e9 with e9
                        injection e9 with e8 e7 _
                        subst e8 e7
                        exact h9)
                      have HYc := Lib.hid (HY.out _ (List.getElem_mem hz1))
                      generalize Y[kz] = y at *
                      obtain ⟨M1, hM1⟩ : ∃ M1, doN M y = M1 := ⟨_, rfl⟩
                      obtain ⟨ez, hez⟩ : ∃ ez, doE M y = ez := ⟨_, rfl⟩
                      have HDL := Lib.hid (show ∀ W O, TA W M O → Calls Try.prog 14 #[.pointer (some ⟨G, 0, none⟩), acV y] W fun e w' => e = .returned (.int .i64 ez) ∧ BStep TA W O w' M1 from fun W O h => by
                        have h9 := do16_any HK.out h y HYc.out
                        rw [hM1, hez] at h9
                        exact h9)
                      have HDR := Lib.hid (show ∀ W O, TB W M O → Calls Try.prog 14 #[.pointer (some ⟨Gz, 0, none⟩), acV y] W fun e w' => e = .returned (.int .i64 ez) ∧ BStep TB W O w' M1 from fun W O h => by
                        have h9 := do16_any HK'.out h y HYc.out
                        rw [hM1, hez] at h9
                        exact h9)
                      have HM16 := Lib.hid (show M1.length ≤ 16 by
                        rw [← hM1]
                        obtain ⟨O, P, h1, _⟩ := HU.out
                        exact (do_ok (HK.out.ok _ _ _ h1) y).few)
                      have HJ := Lib.hid (show JZ w TA TB M M1 (fun _ => none) wr.drew from by
                        obtain ⟨O, P, h1, h2, h3⟩ := HU.out.below HK.out HK'.out (Below.refl _ _).drew
                        exact ⟨⟨O, P, h1, h2, h3, (fun v hv => by cases hv), (fun v hv => by cases hv)⟩, (fun h => by cases h), (fun h => by cases h)⟩)
                      clear hM1 hez hz1 hz2 HU
                      go_wp2_with fail
                      refine ord.wp_region_ordZ (JZ w TA TB M M1) 20 [[], [], [], [1, 2], [3], [0, 4], [], [], [], [7, 8], [9], [6, 10], [5, 11], [12], [13], [14, 13], [13], [16, 13], [15, 17, 13], [18, 13]] [(0, 157), (1, 158), (2, 159), (3, 160), (4, 161), (5, 162), (6, 163), (7, 164), (8, 165), (9, 166), (10, 167), (11, 168), (12, 169), (13, 170), (14, 171), (15, 172), (16, 173), (17, 174), (18, 175), (19, 176)] (bkP G Gz Bz oz kz Y.length ccz M1.length y ez) (by kernel_rfl) (by kernel_rfl) (by kernel_rfl) ((ord.steps_cons ?_ (ord.steps_cons ?_ (ord.steps_cons ?_ (ord.steps_cons ?_ (ord.steps_cons ?_ (ord.steps_cons ?_ (ord.steps_cons ?_ (ord.steps_cons ?_ (ord.steps_cons ?_ (ord.steps_cons ?_ (ord.steps_cons ?_ (ord.steps_cons ?_ (ord.steps_cons ?_ (ord.steps_cons ?_ (ord.steps_cons ?_ (ord.steps_cons ?_ (ord.steps_cons ?_ (ord.steps_cons ?_ (ord.steps_cons ?_ (ord.steps_cons ?_ ord.steps_nil))))))))))))))))))))) HJ.out ?_
                      --STEPS bk
                      · intro o ho x c w hj hc hG
                        obtain rfl := Option.some.inj ho
                        clear ho
                        refine Or.inl ⟨ord.want0 rfl, ?_⟩
                        exact ord.makes_move rfl ⟨hj.keep (by decide) _, rfl⟩
                      · intro o ho x c w hj hc hG
                        obtain rfl := Option.some.inj ho
                        clear ho
                        refine Or.inl ⟨ord.want0 rfl, ?_⟩
                        exact ord.makes_move rfl ⟨hj.keep (by decide) _, rfl⟩
                      · intro o ho x c w hj hc hG
                        obtain rfl := Option.some.inj ho
                        clear ho
                        refine Or.inl ⟨ord.want0 rfl, ?_⟩
                        exact ord.makes_move rfl ⟨hj.keep (by decide) _, rfl⟩
                      · intro o ho x c w hj hc hG
                        obtain rfl := Option.some.inj ho
                        clear ho
                        have h158 : x 1 = .slice (some ⟨Bz, oz, none⟩) Y.length ccz := (hG (1, 158) (List.mem_of_getElem? (i := 1) rfl) rfl).2
                        have h159 : x 2 = .int .i64 (kz : Nat) := (hG (2, 159) (List.mem_of_getElem? (i := 2) rfl) rfl).2
                        refine Or.inl ⟨ord.want0 rfl, ?_⟩
                        exact ord.makes_ixAddr rfl h158 h159 (run_ixA _ _ _ _ _ HKI.out w) ⟨hj.keep (by decide) _, rfl⟩
                      · intro o ho x c w hj hc hG
                        obtain rfl := Option.some.inj ho
                        clear ho
                        have h160 : x 3 = .pointer (some ⟨Bz, oz + kz * 8, none⟩) := (hG (3, 160) (List.mem_of_getElem? (i := 3) rfl) rfl).2
                        refine Or.inl ⟨ord.want0 rfl, ?_⟩
                        exact ord.makes_ld rfl h160 (run_ldAc _ _ _ w (HYA.out w (hj.bel HK.out))) ⟨hj.keep (by decide) _, rfl⟩
                      · intro o ho x c w hj hc hG
                        obtain rfl := Option.some.inj ho
                        clear ho
                        have h157 : x 0 = .pointer (some ⟨G, 0, none⟩) := (hG (0, 157) (List.mem_of_getElem? (i := 0) rfl) rfl).2
                        have h161 : x 4 = acV y := (hG (4, 161) (List.mem_of_getElem? (i := 4) rfl) rfl).2
                        refine Or.inl ⟨ord.want0 rfl, ?_⟩
                        exact ord.makes_call2 Try.func14 (by kernel_rfl) (by kernel_rfl) rfl h157 h161 (hj.doL HK.out HK'.out hc HDL.out) (fun e w' h => ⟨_, h.1, h.2, rfl⟩)
                      · intro o ho x c w hj hc hG
                        obtain rfl := Option.some.inj ho
                        clear ho
                        refine Or.inl ⟨ord.want0 rfl, ?_⟩
                        exact ord.makes_move rfl ⟨hj.keep (by decide) _, rfl⟩
                      · intro o ho x c w hj hc hG
                        obtain rfl := Option.some.inj ho
                        clear ho
                        refine Or.inl ⟨ord.want0 rfl, ?_⟩
                        exact ord.makes_move rfl ⟨hj.keep (by decide) _, rfl⟩
                      · intro o ho x c w hj hc hG
                        obtain rfl := Option.some.inj ho
                        clear ho
                        refine Or.inl ⟨ord.want0 rfl, ?_⟩
                        exact ord.makes_move rfl ⟨hj.keep (by decide) _, rfl⟩
                      · intro o ho x c w hj hc hG
                        obtain rfl := Option.some.inj ho
                        clear ho
                        have h164 : x 7 = .slice (some ⟨Bz, oz, none⟩) Y.length ccz := (hG (7, 164) (List.mem_of_getElem? (i := 7) rfl) rfl).2
                        have h165 : x 8 = .int .i64 (kz : Nat) := (hG (8, 165) (List.mem_of_getElem? (i := 8) rfl) rfl).2
                        refine Or.inl ⟨ord.want0 rfl, ?_⟩
                        exact ord.makes_ixAddr rfl h164 h165 (run_ixA _ _ _ _ _ HKI.out w) ⟨hj.keep (by decide) _, rfl⟩
                      · intro o ho x c w hj hc hG
                        obtain rfl := Option.some.inj ho
                        clear ho
                        have h166 : x 9 = .pointer (some ⟨Bz, oz + kz * 8, none⟩) := (hG (9, 166) (List.mem_of_getElem? (i := 9) rfl) rfl).2
                        refine Or.inl ⟨ord.want0 rfl, ?_⟩
                        exact ord.makes_ld rfl h166 (run_ldAc _ _ _ w (HYA.out w (hj.bel HK.out))) ⟨hj.keep (by decide) _, rfl⟩
                      · intro o ho x c w hj hc hG
                        obtain rfl := Option.some.inj ho
                        clear ho
                        have h163 : x 6 = .pointer (some ⟨Gz, 0, none⟩) := (hG (6, 163) (List.mem_of_getElem? (i := 6) rfl) rfl).2
                        have h167 : x 10 = acV y := (hG (10, 167) (List.mem_of_getElem? (i := 10) rfl) rfl).2
                        refine Or.inl ⟨ord.want0 rfl, ?_⟩
                        exact ord.makes_call2 Try.func14 (by kernel_rfl) (by kernel_rfl) rfl h163 h167 (hj.doR HK.out HK'.out hc HDR.out) (fun e w' h => ⟨_, h.1, h.2, rfl⟩)
                      · intro o ho x c w hj hc hG
                        obtain rfl := Option.some.inj ho
                        clear ho
                        have h162 : x 5 = .int .i64 ez := (hG (5, 162) (List.mem_of_getElem? (i := 5) rfl) rfl).2
                        have h168 : x 11 = .int .i64 ez := (hG (11, 168) (List.mem_of_getElem? (i := 11) rfl) rfl).2
                        refine Or.inl ⟨ord.want0 rfl, ?_⟩
                        exact ord.makes_bin rfl h162 h168 (by go_simp) ⟨hj.k12 (hG (5, 162) (List.mem_of_getElem? (i := 5) rfl) rfl).1 (hG (11, 168) (List.mem_of_getElem? (i := 11) rfl) rfl).1 _, rfl⟩
                      · intro o ho x c w hj hc hG
                        obtain rfl := Option.some.inj ho
                        clear ho
                        have h169 : x 12 = .bool false := (hG (12, 169) (List.mem_of_getElem? (i := 12) rfl) rfl).2
                        refine Or.inl ⟨ord.want0 rfl, ?_⟩
                        exact ord.makes_move rfl ⟨hj.k13 (hG (12, 169) (List.mem_of_getElem? (i := 12) rfl) rfl).1 _, h169⟩
                      · intro o ho x c w hj hc hG
                        obtain rfl := Option.some.inj ho
                        clear ho
                        have h170 : x 13 = .bool false := (hG (13, 170) (List.mem_of_getElem? (i := 13) rfl) rfl).2
                        refine Or.inl ⟨ord.wantG rfl rfl h170, ?_⟩
                        exact ord.makes_move rfl ⟨hj.keep (by decide) _, rfl⟩
                      · intro o ho x c w hj hc hG
                        obtain rfl := Option.some.inj ho
                        clear ho
                        have h171 : x 14 = .pointer (some ⟨G, 0, none⟩) := (hG (14, 171) (List.mem_of_getElem? (i := 14) rfl) rfl).2
                        have h170 : x 13 = .bool false := (hG (13, 170) (List.mem_of_getElem? (i := 13) rfl) rfl).2
                        refine Or.inl ⟨ord.wantG rfl rfl h170, ?_⟩
                        exact ord.makes_call1 Try.func17 (by kernel_rfl) (by kernel_rfl) rfl h171 (hj.listL HK.out HK'.out (hG (13, 170) (List.mem_of_getElem? (i := 13) rfl) rfl).1) (fun e w' h => by obtain ⟨v, he, h1, h2⟩ := h; exact ⟨v, he, h1, h2⟩)
                      · intro o ho x c w hj hc hG
                        obtain rfl := Option.some.inj ho
                        clear ho
                        have h170 : x 13 = .bool false := (hG (13, 170) (List.mem_of_getElem? (i := 13) rfl) rfl).2
                        refine Or.inl ⟨ord.wantG rfl rfl h170, ?_⟩
                        exact ord.makes_move rfl ⟨hj.keep (by decide) _, rfl⟩
                      · intro o ho x c w hj hc hG
                        obtain rfl := Option.some.inj ho
                        clear ho
                        have h173 : x 16 = .pointer (some ⟨Gz, 0, none⟩) := (hG (16, 173) (List.mem_of_getElem? (i := 16) rfl) rfl).2
                        have h170 : x 13 = .bool false := (hG (13, 170) (List.mem_of_getElem? (i := 13) rfl) rfl).2
                        refine Or.inl ⟨ord.wantG rfl rfl h170, ?_⟩
                        exact ord.makes_call1 Try.func17 (by kernel_rfl) (by kernel_rfl) rfl h173 (hj.listR HK.out HK'.out (hG (13, 170) (List.mem_of_getElem? (i := 13) rfl) rfl).1) (fun e w' h => by obtain ⟨v, he, h1, h2⟩ := h; exact ⟨v, he, h1, h2⟩)
                      · intro o ho x c w hj hc hG
                        obtain rfl := Option.some.inj ho
                        clear ho
                        have h172 : bkP G Gz Bz oz kz Y.length ccz M1.length y ez 15 (x 15) := (hG (15, 172) (List.mem_of_getElem? (i := 15) rfl) rfl).2
                        have h174 : bkP G Gz Bz oz kz Y.length ccz M1.length y ez 17 (x 17) := (hG (17, 174) (List.mem_of_getElem? (i := 17) rfl) rfl).2
                        have h170 : x 13 = .bool false := (hG (13, 170) (List.mem_of_getElem? (i := 13) rfl) rfl).2
                        refine Or.inl ⟨ord.wantG rfl rfl h170, ?_⟩
                        exact ord.makes_call2 Try.func10 (by kernel_rfl) (by kernel_rfl) rfl rfl rfl (hj.same HK.out HK'.out (hG (15, 172) (List.mem_of_getElem? (i := 15) rfl) rfl).1 (hG (17, 174) (List.mem_of_getElem? (i := 17) rfl) rfl).1 HM16.out) (fun e w' h => ⟨_, h.1, h.2, rfl⟩)
                      · intro o ho x c w hj hc hG
                        obtain rfl := Option.some.inj ho
                        clear ho
                        have h175 : x 18 = .bool true := (hG (18, 175) (List.mem_of_getElem? (i := 18) rfl) rfl).2
                        have h170 : x 13 = .bool false := (hG (13, 170) (List.mem_of_getElem? (i := 13) rfl) rfl).2
                        refine Or.inl ⟨ord.wantG rfl rfl h170, ?_⟩
                        exact ord.makes_unOp rfl h175 (by go_simp) ⟨hj.keep (by decide) _, rfl⟩
                      --END STEPS bk
                      · intro x c w5 hj hG
                        have g5 := hG (5, 162) (List.mem_of_getElem? (i := 5) rfl)
                        have g11 := hG (11, 168) (List.mem_of_getElem? (i := 11) rfl)
                        have e13 : x 13 = .bool false := (hG (13, 170) (List.mem_of_getElem? (i := 13) rfl)).2
                        have e19 : x 19 = .bool false := (hG (19, 176) (List.mem_of_getElem? (i := 19) rfl)).2
                        have HB5 := Lib.hid (show BothU TA TB w5 M1 M1 from by
                          obtain ⟨⟨O, P, h1, h2, h3, _, _⟩, _, _⟩ := hj
                          rw [g5.1] at h1
                          rw [g11.1] at h2
                          exact ⟨O, P, h1, h2, h3⟩)
                        clear hG g5 g11 hj
                        simp only [ord.puts, ord.put', List.set_cons_zero, List.set_cons_succ, if_true]
                        rw [e13, e19]
                        simp only [List.drop_succ_cons, List.drop_zero]
                        clear e13 e19 HDL HDR HYA HJ
                        go_wp2_with fail
                        go_roundw
                        case rel => exact ⟨kz + 1, M1, by go_num, by omega, by omega, HB5.out⟩
                        case measure => simp [intOf]; omega
                    · have HBE := Lib.hid (HU.out.bel HK.out)
                      have hendz : ¬ (kz : Int) < Y.length ∨ (kz : Int) < Y.length ∧ ¬ (kz : Int) < 100 := by omega
                      rcases hendz with hzi | ⟨hzi, hzi2⟩
                      all_goals
                        go_wp2_with fail
                        go_ret
                        exact ⟨rfl, HBE.out⟩
end Go.Proofs.Ytbcanfhjdllaoaa
