/- Law LimitsPlays (layer 16). Written by sh/mkq.sh. -/
import Derived.Test.YtbcanfhjdllaoaaLimY
import Derived.Lib.QuietBelow
import Derived.Test.YtbcanfhjdllaoaaOrdOps
import Derived.Test.YtbcanfhjdllaoaaOrdT
import Derived.Test.YtbcanfhjdllaoaaOrdI
namespace Go.Proofs.Ytbcanfhjdllaoaa
set_option maxRecDepth 100000
open Go.RowKit
abbrev spS : ByteArray := { data := #[115, 112, 111, 105, 108, 116] }
abbrev spU : Us := ⟨spS, 0, 0, 0⟩
theorem chg_four {w w' : World} {T : Nat → Prop} (h : ChgS T w w') {g k : Nat} (hg : T g) (x0 x1 x2 x3 : Value) : ChgS T w ((((w'.setCell ⟨g, k * 4, none⟩ x0).setCell ⟨g, k * 4 + 1, none⟩ x1).setCell ⟨g, k * 4 + 2, none⟩ x2).setCell ⟨g, k * 4 + 3, none⟩ x3) :=
  (((h.setCell (a := ⟨g, k * 4, none⟩) hg x0).setCell (a := ⟨g, k * 4 + 1, none⟩) hg x1).setCell (a := ⟨g, k * 4 + 2, none⟩) hg x2).setCell (a := ⟨g, k * 4 + 3, none⟩) hg x3
theorem ac_cells {w : World} {H : Nat} {x : Ac} (h : w.heap[H]? = some (.cells #[.int .i64 x.d, .int .i64 x.r.k, .int .i64 x.r.t, .int .i64 x.r.s, .int .i64 x.r.o, .string x.c, .int .i64 x.a, .int .i64 x.n] 40)) :
    w.cell? ⟨H, 0, none⟩ = some (.int .i64 x.d) ∧ w.cell? ⟨H, 1, none⟩ = some (.int .i64 x.r.k) ∧ w.cell? ⟨H, 2, none⟩ = some (.int .i64 x.r.t) ∧ w.cell? ⟨H, 3, none⟩ = some (.int .i64 x.r.s) ∧ w.cell? ⟨H, 4, none⟩ = some (.int .i64 x.r.o) ∧ w.cell? ⟨H, 5, none⟩ = some (.string x.c) ∧ w.cell? ⟨H, 6, none⟩ = some (.int .i64 x.a) ∧ w.cell? ⟨H, 7, none⟩ = some (.int .i64 x.n) :=
  ⟨(Lib.cell_of_heap h 0).trans rfl, (Lib.cell_of_heap h 1).trans rfl, (Lib.cell_of_heap h 2).trans rfl, (Lib.cell_of_heap h 3).trans rfl, (Lib.cell_of_heap h 4).trans rfl, (Lib.cell_of_heap h 5).trans rfl, (Lib.cell_of_heap h 6).trans rfl, (Lib.cell_of_heap h 7).trans rfl⟩
/-- what the code's Restore tells, parted later -/
def ResC (w w2 w3 : World) (F : List Us) (pb : Value) (eb : Int) : Prop :=
  (BkOk F ∧ eb = 0 ∧ ∃ G v, pb = .pointer (some ⟨G, 0, none⟩) ∧ RBk w G w3 F v ∧ ∀ k, (k = G ∨ v.ownBlock = some k) → w2.heap.size ≤ k) ∨ (¬ BkOk F ∧ eb = 1 ∧ pb = .pointer none)
--DEFS ple
def plE (G X : Nat) (L : List Us) (vX : Value) : Nat → Value → World → Prop
  | 0, v, _ => v = .pointer (some ⟨G, 0, none⟩)
  | 1, v, _ => v = .bool true
  | 2, v, _ => v = .bool true
  | 3, v, _ => v = .pointer (some ⟨G, 0, none⟩)
  | 4, v, w => ∃ A c, v = .slice A L.length c ∧ LiS usE w A L
  | 5, v, _ => v = .pointer (some ⟨X, 0, none⟩)
  | 6, v, _ => v = .pointer (some ⟨X, 0, none⟩)
  | 7, v, _ => v = .pointer (some ⟨X, 0, none⟩)
  | 8, v, _ => v = vX
  | 9, v, _ => v = .bool true
  | 10, v, _ => v = .bool true
  | _, _, _ => True
theorem plE_stays (G X : Nat) (L : List Us) (vX : Value) : ∀ i v w w', plE G X L vX i v w → Below w.heap.size w w' → plE G X L vX i v w'
  | 0, _, _, _, h, _ => h
  | 1, _, _, _, h, _ => h
  | 2, _, _, _, h, _ => h
  | 3, _, _, _, h, _ => h
  | 4, v, w, w', h_, hb => by
    exact h_.imp fun A h => h.imp fun c h => ⟨h.1, h.2.keep hb⟩
  | 5, _, _, _, h, _ => h
  | 6, _, _, _, h, _ => h
  | 7, _, _, _, h, _ => h
  | 8, _, _, _, h, _ => h
  | 9, _, _, _, h, _ => h
  | 10, _, _, _, h, _ => h
  | _ + 11, _, _, _, _, _ => trivial
--END DEFS ple
set_option maxHeartbeats 12800000 in
theorem plays16_any (A : Option Addr) (cA : Nat) (F : List Us) (fresh : Bool) (Az : Option Addr) (cz : Nat) (Y : List Ac) (w : World) (hF : LiS usE w A F) (hnil : A = none → F.length = 0 ∧ cA = 0) (h40 : F.length * 40 ≤ 140737488351232) (hw : ∀ x ∈ F, x.w ≤ 9223372036854775807)
    (hact : LiS acE w Az Y) (hY : ∀ x ∈ Y, x.c.size ≤ maxLen) :
    Calls Try.prog 3 #[.slice A F.length cA, .bool fresh, .slice Az Y.length cz] w fun e w' => e = .returned (.bool true) ∧ Below w.heap.size w w' := by
  have HS := Lib.hid (small16_any limok w trivial)
  have HF := Lib.hid hF
  have HNIL := Lib.hid hnil
  have HW := Lib.hid hw
  have HACT := Lib.hid hact
  have HY := Lib.hid hY
  have H40 := Lib.hid h40
  have hlF : (F.length : Int) ≤ 3518437208785 := by omega
  clear hF hnil hw hact hY h40
  go_enter Try.func3, Try.ntmps3
  go_wp2_with fail
  refine HS.out.mono ?_
  rintro e w1 ⟨rfl, hb1⟩
  have HB1 := Lib.hid hb1
  have ho0 := World.ownsRow_lit (base := w.heap.size) (e := 31) (size := 4) w1 #[] 0 hb1.size (by decide) rfl
  have hb2 := HB1.out.trans ((alloc_below w1 (.cells #[] 31)).mono HB1.out.size)
  obtain ⟨A2, c2, w2, hr2, ho2, _, _, hb3⟩ := run_appL usTy (w1.alloc (.cells #[] 31)) w.heap.size _ [] ho0 A cA F (HF.out.chgS (ChgS.of_below (S := fun _ => False) hb2) (fun _ _ _ h => h)) HNIL.out (by have := H40.out; simp only [List.length_nil]; omega) (by simp only [List.length_nil]; omega) hb2.size
  rw [List.length_nil, Nat.zero_add] at hr2 ho2
  rw [List.nil_append] at ho2
  have HR2 := Lib.hid hr2
  have HO2 := Lib.hid ho2
  have HB2 := Lib.hid (hb2.trans hb3)
  clear hb1 ho0 hb2 hr2 ho2 hb3 HS
  go_wp2_with (at_builtin; refine wpList_runL (.tmp 23) (.tmp 24) rfl rfl rfl rfl rfl HR2.out ?_)
  have hl2 : LiS usE w2 A2 F := by
    obtain ⟨_, _, e, h⟩ := HO2.out.slice
    injection e with e1 _ _
    rw [e1]; exact h
  have HV2 := Lib.hid (show ∀ k, (Value.slice A2 F.length c2).ownBlock = some k → w.heap.size ≤ k ∧ k < w2.heap.size from fun k hk => HO2.out.lt k hk)
  refine (cres16_any w A2 c2 F w2 HB2.out hl2 (by omega)).mono ?_
  rintro e w3 ⟨hb4, hres⟩
  obtain ⟨pb, eb, rfl, hrc⟩ : ∃ pb eb, e = .returned (.tuple #[pb, .int .i64 eb]) ∧ ResC w w2 w3 F pb eb := by
    rcases hres with ⟨h1, G, v, h2, h3⟩ | ⟨h1, h2⟩
    · exact ⟨_, _, h2, Or.inl ⟨h1, rfl, G, v, rfl, h3⟩⟩
    · exact ⟨_, _, h2, Or.inr ⟨h1, rfl, rfl⟩⟩
  have HB3 := Lib.hid (HB2.out.trans (hb4.mono HB2.out.size))
  have HRC := Lib.hid hrc
  clear hrc hres
  have HO3 := Lib.hid (HO2.out.keep hb4)
  have HZ := Lib.hid hb4.size
  have HSM := Lib.hid (rsame16_any A2 c2 F A cA F w3 (hl2.keep hb4) (HF.out.chgS (ChgS.of_below (S := fun _ => False) HB3.out) (fun _ _ _ h => h)) (by omega) (by omega))
  simp only [decide_true] at HSM
  clear hb4 HR2 hl2 HO2
  go_wp2_with fail
  refine HSM.out.mono ?_
  rintro e w4 ⟨rfl, hb5⟩
  have HB4 := Lib.hid (HB3.out.trans (hb5.mono HB3.out.size))
  have HO4 := Lib.hid (HO3.out.keep hb5)
  have HB34 := Lib.hid hb5
  clear hb5 HSM HO3
  go_wp2_with fail
  go_loopw [12] (fun i wr => ∃ (j : Nat) (F' : List Us), j ≤ F.length ∧ i = .int .i64 j ∧ F'.length = F.length ∧ OwL usE 31 wr w.heap.size (.slice A2 F.length c2) F' ∧ ChgS (fun k => (Value.slice A2 F.length c2).ownBlock = some k) w4 wr) (fun i _ => F.length - (intOf i).toNat)
  case atStart => exact ⟨0, F, Nat.zero_le _, rfl, rfl, HO4.out, ChgS.refl _ _⟩
  case round =>
    obtain ⟨j, F', hj, rfl, hlF', ho, hc⟩ := hrel
    have HO := Lib.hid ho
    have HC := Lib.hid hc
    have HLF := Lib.hid hlF'
    clear ho hc HO4
    by_cases hlt : j < F.length
    · have hAg : ∃ g, A2 = some ⟨g, 0, none⟩ := by
        obtain ⟨g, c', e, _, _, _⟩ := HO.out.lies (by omega)
        injection e with e1 _ _
        exact ⟨g, e1⟩
      obtain ⟨g, rfl⟩ := hAg
      have hjF : j < F'.length := by omega
      have hji : (j : Int) < F.length := by omega
      have hj0 : ¬ (j : Int) < 0 := by omega
      obtain ⟨⟨k0, l0⟩, ⟨k1, l1⟩, ⟨k2, l2⟩, ⟨k3, l3⟩⟩ := own_facts HO.out (k := j) hjF (.string spS) (.int .i64 0) (.int .i64 0)
      have HOS := Lib.hid (own_set4 HO.out hlF'.symm hjF spU)
      have HCS := Lib.hid (chg_four HC.out (g := g) (k := j) rfl (.string spS) (.int .i64 0) (.int .i64 0) (.int .i64 0))
      have HLS := Lib.hid (show (F'.set j spU).length = F.length by rw [List.length_set]; exact hlF')
      generalize F'[j] = y at k0 k1 k2 k3
      clear hlF' hjF HLF
      go_wp2_with fail
      go_roundw
      case rel => exact ⟨j + 1, F'.set j spU, by omega, by go_num, HLS.out, HOS.out, HCS.out⟩
      case measure => simp [intOf]; omega
    · obtain rfl : j = F.length := by omega
      obtain ⟨wr1, hwr1⟩ : ∃ W, W = wr := ⟨_, rfl⟩
      subst hwr1
      have HBR := Lib.hid (HB4.out.trans (HC.out.below HB4.out.size fun k hk => (HV2.out k hk).1))
      have HLR := Lib.hid (show LiS usE wr1 A F from HF.out.chgS (ChgS.of_below (S := fun _ => False) HBR.out) (fun _ _ _ h => h))
      have HRR := Lib.hid (rres16_any w A cA F wr1 HBR.out HLR.out (by omega) HW.out)
      clear HO HLF hlF'
      go_wp2_with fail
      refine HRR.out.mono ?_
      rintro e w6 ⟨hb6, hrr⟩
      have HB6 := Lib.hid (HBR.out.trans (hb6.mono HBR.out.size))
      rcases HRC.out with ⟨hok, rfl, G0, v0, rfl, hR, hRO⟩ | ⟨hok, rfl, rfl⟩
      · rcases hrr with ⟨_, X0, x0, rfl, hX, hXO⟩ | ⟨hno, _⟩
        · have hRw := (hR.keep HB34.out).chgS HC.out (fun k hk => ⟨(HV2.out k hk).1, fun e => by
            have h1 := (HV2.out k hk).2
            have h2 := hRO k e
            omega⟩)
          have HP0 := Lib.hid (TwoS.new hRw hb6 hX hXO)
          clear hR hRO hX hXO hRw hb6
          cases fresh with
          | true =>
            go_wp2_with fail
            refine (cnew16_any w w6 HB6.out).mono ?_
            rintro e w7 ⟨G, rfl, hg, _, hb7⟩
            have HB7 := HB6.out.trans (hb7.mono HB6.out.size)
            go_wp2_with fail
            refine (rnew16_any w w7 HB7).mono ?_
            rintro e w8 ⟨X, rfl, hx, hX8, hb8⟩
            have HP := Lib.hid (TwoS.new hg hb8 hx (fun k hk => by
              rcases hk with rfl | hk
              · exact hX8
              · cases hk))
            clear hg hx hX8 hb7 hb8 HB7
            go_wp2_with fail
            go_loopw [15] (fun i wr2 => ∃ (k : Nat) (L : List Us), i = .int .i64 k ∧ k ≤ Y.length ∧ k ≤ 200 ∧ TwoS w G X (fun _ => False) wr2 L L) (fun i _ => Y.length - (intOf i).toNat)
            case atStart => exact ⟨0, _, rfl, Nat.zero_le _, Nat.zero_le _, HP.out⟩
            case round =>
              obtain ⟨wr2, hwr2⟩ : ∃ W, W = wr := ⟨_, rfl⟩
              subst hwr2
              obtain ⟨k, L, rfl, hk, hk200, hp⟩ := hrel
              have HPR := Lib.hid hp
              clear hp HP
              by_cases hlt : k < Y.length ∧ k < 200
              · obtain ⟨hl1, hl2⟩ := hlt
                have hki : (k : Int) < Y.length := by omega
                have hk2i : (k : Int) < 200 := by omega
                have hk3 : ¬ (k : Int) < 0 := by omega
                obtain ⟨B, o, rfl, hBl, a0, a1, a2, a3, a4, a5, a6, a7⟩ := ac_at (HACT.out.chgS (ChgS.of_below (S := fun _ => False) HPR.out.bel) (fun _ _ _ h => h)) hl1
                have HXC := Lib.hid (HY.out _ (List.getElem_mem hl1))
                generalize Y[k] = x at *
                obtain ⟨H, hH⟩ : ∃ H, H = wr2.heap.size := ⟨_, rfl⟩
                have hba := alloc_below wr2 (.cells #[.int .i64 x.d, .int .i64 x.r.k, .int .i64 x.r.t, .int .i64 x.r.s, .int .i64 x.r.o, .string x.c, .int .i64 x.a, .int .i64 x.n] 40)
                have HM := Lib.hid (HPR.out.more (T := fun k => k = H) hba (fun k e => by subst e; rw [hH]; exact ⟨Nat.le_refl _, by simp⟩))
                have HH := Lib.hid (show (wr2.alloc (.cells #[.int .i64 x.d, .int .i64 x.r.k, .int .i64 x.r.t, .int .i64 x.r.s, .int .i64 x.r.o, .string x.c, .int .i64 x.a, .int .i64 x.n] 40)).heap[H]? = some (.cells #[.int .i64 x.d, .int .i64 x.r.k, .int .i64 x.r.t, .int .i64 x.r.s, .int .i64 x.r.o, .string x.c, .int .i64 x.a, .int .i64 x.n] 40) from by rw [hH]; exact heap_alloc_new _ _)
                clear hba HPR
                go_wp2_with fail
                rw [← hH]
                clear hH a0 a1 a2 a3 a4 a5 a6 a7 hBl
                refine (HM.out.left (fun v hv => do16c hv x HXC.out)).mono ?_
                rintro e w7 ⟨rfl, h7, hk7⟩
                have HH7 := Lib.hid ((hk7 H (Or.inr rfl)).trans HH.out)
                obtain ⟨b0, b1, b2, b3, b4, b5, b6, b7⟩ := ac_cells HH7.out
                clear HM HH
                by_cases hd : x.d = 1
                · have hdb : (x.d == 1) = true := by simpa using hd
                  have HRE := Lib.hid (show ∀ v, RBk w X w7 L v → Calls Try.prog 15 #[.pointer (some ⟨X, 0, none⟩), ruV x.r, .string x.c, .int .i64 x.a, .int .i64 x.n] w7 fun e w' => e = .returned (.int .i64 (doE L x)) ∧ RkS w X w7 v w' (doN L x) from fun v hv => by
                    unfold doE doN
                    rw [if_pos hd, if_pos hd]
                    exact rundo16_any w X L v x.r x.c x.a x.n w7 hv)
                  go_wp2_with fail
                  refine (TwoS.right h7 HRE.out).mono ?_
                  rintro e w8 ⟨rfl, h8, hk8⟩
                  clear hd hdb b0 b1 b2 b3 b4 b5 b6 b7

                  have HH8 := Lib.hid ((hk8 H (Or.inr rfl)).trans HH7.out)
                  have H8 := Lib.hid h8
                  have HH8L := Lib.hid ((Array.getElem?_eq_some_iff.1 HH8.out).1)
                  clear h8 hk8 h7 hk7 HRE HH7
                  obtain ⟨L1, hL⟩ : ∃ L1, doN L x = L1 := ⟨_, rfl⟩
                  obtain ⟨r, hr⟩ : ∃ r, doE L x = r := ⟨_, rfl⟩
                  rw [hL] at H8
                  rw [hr]
                  clear hL hr
                  obtain ⟨va, _, hva, _⟩ := H8.out
                  go_wp2_with fail
                  refine (clist16_any w G L1 va w8 hva).mono ?_
                  rintro e w9 ⟨v9, rfl, ho9, hb9⟩
                  have H9 := H8.out.below hb9
                  obtain ⟨_, vb, _, hvb, _⟩ := H9
                  obtain ⟨A9, c9, rfl, hl9⟩ := ho9.slice
                  obtain ⟨Ab, cb, rfl, hlb⟩ := hvb.own.slice
                  have hcb := hvb.cell
                  have hl16 := hva.ok.few
                  have HSM := rsame16_any A9 c9 L1 Ab cb L1 w9 hl9 hlb (by omega) (by omega)
                  simp only [decide_true] at HSM
                  clear hva hvb hl9 hlb hl16
                  go_wp2_with fail
                  refine HSM.mono ?_
                  rintro e w10 ⟨rfl, hb10⟩
                  clear HSM hcb

                  have HV9 := Lib.hid (show ∀ k, (Value.slice A9 L1.length c9).ownBlock = some k → w8.heap.size ≤ k ∧ k < w9.heap.size from fun k hk => ho9.lt k hk)
                  have HO10 := Lib.hid (ho9.keep hb10)
                  have H10 := Lib.hid (H8.out.more (T := fun k => (Value.slice A9 L1.length c9).ownBlock = some k) (hb9.trans (hb10.mono hb9.size)) (fun k hk => ⟨(HV9.out k hk).1, Nat.lt_of_lt_of_le (HV9.out k hk).2 hb10.size⟩))
                  have HH10 := Lib.hid (((hb9.trans (hb10.mono hb9.size)).block _ (Array.getElem?_eq_some_iff.1 HH8.out).1).trans HH8.out)
                  have HL1 := Lib.hid (show L1.length ≤ 16 from by
                    obtain ⟨_, _, q, _⟩ := H8.out
                    exact q.ok.few)
                  have hL1 : (L1.length : Int) ≤ 16 := by have := HL1.out; omega
                  clear hb9 hb10 ho9 H8
                  go_wp2_with fail
                  go_loopw [21] (fun i wr3 => ∃ (j : Nat) (F' : List Us), j ≤ L1.length ∧ i = .int .i64 j ∧ F'.length = L1.length ∧ OwL usE 31 wr3 w8.heap.size (.slice A9 L1.length c9) F' ∧ ChgS (fun k => (Value.slice A9 L1.length c9).ownBlock = some k) w10 wr3) (fun i _ => L1.length - (intOf i).toNat)
                  case atStart => exact ⟨0, L1, Nat.zero_le _, rfl, rfl, HO10.out, ChgS.refl _ _⟩
                  case round =>
                    obtain ⟨wr3, hwr3⟩ : ∃ W, W = wr := ⟨_, rfl⟩
                    subst hwr3
                    obtain ⟨j, F', hj, rfl, hlF', ho, hc⟩ := hrel
                    have HO := Lib.hid ho
                    have HC := Lib.hid hc
                    clear ho hc HO10
                    by_cases hlt : j < L1.length
                    · have hAg : ∃ g, A9 = some ⟨g, 0, none⟩ := by
                        obtain ⟨g, c', e, _, _, _⟩ := HO.out.lies (by omega)
                        injection e with e1 _ _
                        exact ⟨g, e1⟩
                      obtain ⟨g, rfl⟩ := hAg
                      have hjF : j < F'.length := by omega
                      have hji : (j : Int) < L1.length := by omega
                      have hj0 : ¬ (j : Int) < 0 := by omega
                      obtain ⟨⟨k0, l0⟩, ⟨k1, l1⟩, ⟨k2, l2⟩, ⟨k3, l3⟩⟩ := own_facts HO.out (k := j) hjF (.string spS) (.int .i64 0) (.int .i64 0)
                      have HOS := Lib.hid (own_set4 HO.out hlF'.symm hjF spU)
                      have HCS := Lib.hid (chg_four HC.out (g := g) (k := j) rfl (.string spS) (.int .i64 0) (.int .i64 0) (.int .i64 0))
                      have HLS := Lib.hid (show (F'.set j spU).length = L1.length by rw [List.length_set]; exact hlF')
                      generalize F'[j] = y at k0 k1 k2 k3
                      clear hlF' hjF
                      go_wp2_with fail
                      go_roundw
                      case rel => exact ⟨j + 1, F'.set j spU, by omega, by go_num, HLS.out, HOS.out, HCS.out⟩
                      case measure => simp [intOf]; omega
                    · obtain rfl : j = L1.length := by omega
                      have H11 := Lib.hid (H10.out.chg HC.out (fun k hk => Or.inr hk))
                      have HH11 := Lib.hid ((HC.out.block _ (Array.getElem?_eq_some_iff.1 HH10.out).1 (fun e => by
                        have h1 := (HV9.out _ e).1
                        have h2 := HH8L.out
                        omega)).trans HH10.out)
                      obtain ⟨b0, b1, b2, b3, b4, b5, b6, b7⟩ := ac_cells HH11.out
                      have k1 := cell_regrown b1
                      have k2 := cell_regrown b2
                      have k3 := cell_regrown b3
                      have k4 := cell_regrown b4
                      have cA := fun d os => Calls.regrown_of (cright_any x.r.k x.r.t x.r.s x.r.o (Go.Sort.grow (redrawn wr3 d) os))
                      have cB := fun d os => Calls.regrown_of (rright16_any x.r (Go.Sort.grow (redrawn wr3 d) os))
                      have hre : rlK ⟨x.r.k, x.r.t, x.r.s, x.r.o⟩ = rlK x.r := rfl
                      simp only [hre] at cA
                      have hbb : (rlK x.r != rlK x.r) = false := by simp
                      have hrr : (r != r) = false := by simp
                      clear hre b0 b1 b2 b3 b4 b5 b6 b7
                      generalize rlK x.r = bR at *
                      go_wp2_with fail
                      refine wp_region_quiet_below (by kernel_rfl) (by kernel_rfl) ?_
                      repeat (quiet_step (first | (with_reducible exact cA _ _) | (with_reducible exact cB _ _)))
                      refine wpQuiet_nil ?_
                      intro _ hw'
                      obtain ⟨⟨dq, osq⟩, hw''⟩ := hw'
                      subst hw''
                      have H12 := Lib.hid ((H11.out.below (below_regrown wr3 dq osq)).less (T := fun _ => False) (fun _ h => absurd h id))
                      clear k1 k2 k3 k4 cA cB
                      generalize Go.Sort.grow (redrawn wr3 dq) osq = w12 at *
                      go_wp2_with fail
                      go_roundw
                      case rel => exact ⟨k + 1, L1, by go_num, by omega, by omega, H12.out⟩
                      case measure => simp [intOf]; omega
                · have hdb : (x.d == 1) = false := by simpa using hd
                  have HRE := Lib.hid (show ∀ v, RBk w X w7 L v → Calls Try.prog 16 #[.pointer (some ⟨X, 0, none⟩), ruV x.r, .string x.c, .int .i64 x.a, .int .i64 x.n] w7 fun e w' => e = .returned (.int .i64 (doE L x)) ∧ RkS w X w7 v w' (doN L x) from fun v hv => by
                    unfold doE doN
                    rw [if_neg hd, if_neg hd]
                    exact rtry16_any w X L v x.r x.c x.a x.n w7 hv)
                  go_wp2_with fail
                  refine (TwoS.right h7 HRE.out).mono ?_
                  rintro e w8 ⟨rfl, h8, hk8⟩
                  clear hd hdb b0 b1 b2 b3 b4 b5 b6 b7

                  have HH8 := Lib.hid ((hk8 H (Or.inr rfl)).trans HH7.out)
                  have H8 := Lib.hid h8
                  have HH8L := Lib.hid ((Array.getElem?_eq_some_iff.1 HH8.out).1)
                  clear h8 hk8 h7 hk7 HRE HH7
                  obtain ⟨L1, hL⟩ : ∃ L1, doN L x = L1 := ⟨_, rfl⟩
                  obtain ⟨r, hr⟩ : ∃ r, doE L x = r := ⟨_, rfl⟩
                  rw [hL] at H8
                  rw [hr]
                  clear hL hr
                  obtain ⟨va, _, hva, _⟩ := H8.out
                  go_wp2_with fail
                  refine (clist16_any w G L1 va w8 hva).mono ?_
                  rintro e w9 ⟨v9, rfl, ho9, hb9⟩
                  have H9 := H8.out.below hb9
                  obtain ⟨_, vb, _, hvb, _⟩ := H9
                  obtain ⟨A9, c9, rfl, hl9⟩ := ho9.slice
                  obtain ⟨Ab, cb, rfl, hlb⟩ := hvb.own.slice
                  have hcb := hvb.cell
                  have hl16 := hva.ok.few
                  have HSM := rsame16_any A9 c9 L1 Ab cb L1 w9 hl9 hlb (by omega) (by omega)
                  simp only [decide_true] at HSM
                  clear hva hvb hl9 hlb hl16
                  go_wp2_with fail
                  refine HSM.mono ?_
                  rintro e w10 ⟨rfl, hb10⟩
                  clear HSM hcb

                  have HV9 := Lib.hid (show ∀ k, (Value.slice A9 L1.length c9).ownBlock = some k → w8.heap.size ≤ k ∧ k < w9.heap.size from fun k hk => ho9.lt k hk)
                  have HO10 := Lib.hid (ho9.keep hb10)
                  have H10 := Lib.hid (H8.out.more (T := fun k => (Value.slice A9 L1.length c9).ownBlock = some k) (hb9.trans (hb10.mono hb9.size)) (fun k hk => ⟨(HV9.out k hk).1, Nat.lt_of_lt_of_le (HV9.out k hk).2 hb10.size⟩))
                  have HH10 := Lib.hid (((hb9.trans (hb10.mono hb9.size)).block _ (Array.getElem?_eq_some_iff.1 HH8.out).1).trans HH8.out)
                  have HL1 := Lib.hid (show L1.length ≤ 16 from by
                    obtain ⟨_, _, q, _⟩ := H8.out
                    exact q.ok.few)
                  have hL1 : (L1.length : Int) ≤ 16 := by have := HL1.out; omega
                  clear hb9 hb10 ho9 H8
                  go_wp2_with fail
                  go_loopw [21] (fun i wr3 => ∃ (j : Nat) (F' : List Us), j ≤ L1.length ∧ i = .int .i64 j ∧ F'.length = L1.length ∧ OwL usE 31 wr3 w8.heap.size (.slice A9 L1.length c9) F' ∧ ChgS (fun k => (Value.slice A9 L1.length c9).ownBlock = some k) w10 wr3) (fun i _ => L1.length - (intOf i).toNat)
                  case atStart => exact ⟨0, L1, Nat.zero_le _, rfl, rfl, HO10.out, ChgS.refl _ _⟩
                  case round =>
                    obtain ⟨wr3, hwr3⟩ : ∃ W, W = wr := ⟨_, rfl⟩
                    subst hwr3
                    obtain ⟨j, F', hj, rfl, hlF', ho, hc⟩ := hrel
                    have HO := Lib.hid ho
                    have HC := Lib.hid hc
                    clear ho hc HO10
                    by_cases hlt : j < L1.length
                    · have hAg : ∃ g, A9 = some ⟨g, 0, none⟩ := by
                        obtain ⟨g, c', e, _, _, _⟩ := HO.out.lies (by omega)
                        injection e with e1 _ _
                        exact ⟨g, e1⟩
                      obtain ⟨g, rfl⟩ := hAg
                      have hjF : j < F'.length := by omega
                      have hji : (j : Int) < L1.length := by omega
                      have hj0 : ¬ (j : Int) < 0 := by omega
                      obtain ⟨⟨k0, l0⟩, ⟨k1, l1⟩, ⟨k2, l2⟩, ⟨k3, l3⟩⟩ := own_facts HO.out (k := j) hjF (.string spS) (.int .i64 0) (.int .i64 0)
                      have HOS := Lib.hid (own_set4 HO.out hlF'.symm hjF spU)
                      have HCS := Lib.hid (chg_four HC.out (g := g) (k := j) rfl (.string spS) (.int .i64 0) (.int .i64 0) (.int .i64 0))
                      have HLS := Lib.hid (show (F'.set j spU).length = L1.length by rw [List.length_set]; exact hlF')
                      generalize F'[j] = y at k0 k1 k2 k3
                      clear hlF' hjF
                      go_wp2_with fail
                      go_roundw
                      case rel => exact ⟨j + 1, F'.set j spU, by omega, by go_num, HLS.out, HOS.out, HCS.out⟩
                      case measure => simp [intOf]; omega
                    · obtain rfl : j = L1.length := by omega
                      have H11 := Lib.hid (H10.out.chg HC.out (fun k hk => Or.inr hk))
                      have HH11 := Lib.hid ((HC.out.block _ (Array.getElem?_eq_some_iff.1 HH10.out).1 (fun e => by
                        have h1 := (HV9.out _ e).1
                        have h2 := HH8L.out
                        omega)).trans HH10.out)
                      obtain ⟨b0, b1, b2, b3, b4, b5, b6, b7⟩ := ac_cells HH11.out
                      have k1 := cell_regrown b1
                      have k2 := cell_regrown b2
                      have k3 := cell_regrown b3
                      have k4 := cell_regrown b4
                      have cA := fun d os => Calls.regrown_of (cright_any x.r.k x.r.t x.r.s x.r.o (Go.Sort.grow (redrawn wr3 d) os))
                      have cB := fun d os => Calls.regrown_of (rright16_any x.r (Go.Sort.grow (redrawn wr3 d) os))
                      have hre : rlK ⟨x.r.k, x.r.t, x.r.s, x.r.o⟩ = rlK x.r := rfl
                      simp only [hre] at cA
                      have hbb : (rlK x.r != rlK x.r) = false := by simp
                      have hrr : (r != r) = false := by simp
                      clear hre b0 b1 b2 b3 b4 b5 b6 b7
                      generalize rlK x.r = bR at *
                      go_wp2_with fail
                      refine wp_region_quiet_below (by kernel_rfl) (by kernel_rfl) ?_
                      repeat (quiet_step (first | (with_reducible exact cA _ _) | (with_reducible exact cB _ _)))
                      refine wpQuiet_nil ?_
                      intro _ hw'
                      obtain ⟨⟨dq, osq⟩, hw''⟩ := hw'
                      subst hw''
                      have H12 := Lib.hid ((H11.out.below (below_regrown wr3 dq osq)).less (T := fun _ => False) (fun _ h => absurd h id))
                      clear k1 k2 k3 k4 cA cB
                      generalize Go.Sort.grow (redrawn wr3 dq) osq = w12 at *
                      go_wp2_with fail
                      go_roundw
                      case rel => exact ⟨k + 1, L1, by go_num, by omega, by omega, H12.out⟩
                      case measure => simp [intOf]; omega
              · have hnl := hlt
                obtain ⟨vG, vX, hG, hX, _⟩ := HPR.out
                have HRG := Lib.hid (fun W (h : Below wr2.heap.size wr2 W) => hG.keep h)
                have HRX := Lib.hid (fun W (h : Below wr2.heap.size wr2 W) => hX.keep h)
                have hl16 := hG.ok.few
                have HBE := Lib.hid hG.bel
                have HSE := Lib.hid (show ∀ W A9 c9, LiS usE W A9 L → Below wr2.heap.size wr2 W → Calls Try.prog 10 #[.slice A9 L.length c9, vX] W fun e w' => e = .returned (.bool true) ∧ Below W.heap.size W w' from fun W A9 c9 h hb => by
                  obtain ⟨Ab, cb, e, hlb⟩ := (HRX.out W hb).own.slice
                  have h2 := rsame16_any A9 c9 L Ab cb L W h hlb (by omega) (by omega)
                  simp only [decide_true] at h2
                  rw [e]
                  exact h2)
                clear hG hX hl16
                have hend : ¬ (k : Int) < Y.length ∨ (k : Int) < Y.length ∧ ¬ (k : Int) < 200 := by omega
                rcases hend with hz1 | ⟨hz1, hz2⟩
                all_goals
                  go_wp2_with fail
                  refine ord.wp_region_ordT 11 [[], [0], [1], [2], [3, 2], [2], [5, 2], [6, 2], [7, 2], [4, 8, 2], [2, 9]] [(0, 152), (1, 153), (2, 154), (3, 155), (4, 156), (5, 157), (6, 158), (7, 159), (8, 160), (9, 161), (10, 162)] (plE G X L vX) (by kernel_rfl) (by kernel_rfl) (by kernel_rfl) (plE_stays _ _ _ _) ((ord.steps_cons ?_ (ord.steps_cons ?_ (ord.steps_cons ?_ (ord.steps_cons ?_ (ord.steps_cons ?_ (ord.steps_cons ?_ (ord.steps_cons ?_ (ord.steps_cons ?_ (ord.steps_cons ?_ (ord.steps_cons ?_ (ord.steps_cons ?_ ord.steps_nil)))))))))))) ?_
                  --STEPS ple
                  · intro o ho x w hb hG
                    obtain rfl := Option.some.inj ho
                    clear ho
                    refine Or.inl ⟨ord.want0 rfl, ?_⟩
                    exact ord.makes_move rfl ⟨Below.refl _ _, rfl⟩
                  · intro o ho x w hb hG
                    obtain rfl := Option.some.inj ho
                    clear ho
                    have h152 : x 0 = .pointer (some ⟨G, 0, none⟩) := hG (0, 152) (List.mem_of_getElem? (i := 0) rfl) rfl
                    refine Or.inl ⟨ord.want0 rfl, ?_⟩
                    exact ord.makes_bin rfl h152 rfl (by go_simp) ⟨Below.refl _ _, rfl⟩
                  · intro o ho x w hb hG
                    obtain rfl := Option.some.inj ho
                    clear ho
                    have h153 : x 1 = .bool true := hG (1, 153) (List.mem_of_getElem? (i := 1) rfl) rfl
                    refine Or.inl ⟨ord.want0 rfl, ?_⟩
                    exact ord.makes_move rfl ⟨Below.refl _ _, h153⟩
                  · intro o ho x w hb hG
                    obtain rfl := Option.some.inj ho
                    clear ho
                    have h154 : x 2 = .bool true := hG (2, 154) (List.mem_of_getElem? (i := 2) rfl) rfl
                    refine Or.inl ⟨ord.wantG rfl rfl h154, ?_⟩
                    exact ord.makes_move rfl ⟨Below.refl _ _, rfl⟩
                  · intro o ho x w hb hG
                    obtain rfl := Option.some.inj ho
                    clear ho
                    have h155 : x 3 = .pointer (some ⟨G, 0, none⟩) := hG (3, 155) (List.mem_of_getElem? (i := 3) rfl) rfl
                    have h154 : x 2 = .bool true := hG (2, 154) (List.mem_of_getElem? (i := 2) rfl) rfl
                    refine Or.inl ⟨ord.wantG rfl rfl h154, ?_⟩
                    exact ord.makes_call1 Try.func17 (by kernel_rfl) (by kernel_rfl) rfl h155 (clist16_any _ G L vG w (HRG.out w (of_drew hb))) (fun e w' h => by
                      obtain ⟨v9, e1, ho, hb2⟩ := h
                      obtain ⟨A, c, e2, hl⟩ := ho.slice
                      exact ⟨_, e1, hb2, A, c, e2, hl⟩)
                  · intro o ho x w hb hG
                    obtain rfl := Option.some.inj ho
                    clear ho
                    have h154 : x 2 = .bool true := hG (2, 154) (List.mem_of_getElem? (i := 2) rfl) rfl
                    refine Or.inl ⟨ord.wantG rfl rfl h154, ?_⟩
                    exact ord.makes_move rfl ⟨Below.refl _ _, rfl⟩
                  · intro o ho x w hb hG
                    obtain rfl := Option.some.inj ho
                    clear ho
                    have h157 : x 5 = .pointer (some ⟨X, 0, none⟩) := hG (5, 157) (List.mem_of_getElem? (i := 5) rfl) rfl
                    have h154 : x 2 = .bool true := hG (2, 154) (List.mem_of_getElem? (i := 2) rfl) rfl
                    refine Or.inl ⟨ord.wantG rfl rfl h154, ?_⟩
                    exact ord.makes_nilCheck rfl h157 ⟨Below.refl _ _, rfl⟩
                  · intro o ho x w hb hG
                    obtain rfl := Option.some.inj ho
                    clear ho
                    have h158 : x 6 = .pointer (some ⟨X, 0, none⟩) := hG (6, 158) (List.mem_of_getElem? (i := 6) rfl) rfl
                    have h154 : x 2 = .bool true := hG (2, 154) (List.mem_of_getElem? (i := 2) rfl) rfl
                    refine Or.inl ⟨ord.wantG rfl rfl h154, ?_⟩
                    exact ord.makes_fieldAddr rfl h158 (run_fbR X w) ⟨Below.refl _ _, rfl⟩
                  · intro o ho x w hb hG
                    obtain rfl := Option.some.inj ho
                    clear ho
                    have h159 : x 7 = .pointer (some ⟨X, 0, none⟩) := hG (7, 159) (List.mem_of_getElem? (i := 7) rfl) rfl
                    have h154 : x 2 = .bool true := hG (2, 154) (List.mem_of_getElem? (i := 2) rfl) rfl
                    refine Or.inl ⟨ord.wantG rfl rfl h154, ?_⟩
                    exact ord.makes_ld rfl h159 (run_ldV _ _ w (HRX.out w (of_drew hb)).cell) ⟨Below.refl _ _, rfl⟩
                  · intro o ho x w hb hG
                    obtain rfl := Option.some.inj ho
                    clear ho
                    have h156 : plE G X L vX 4 (x 4) w := hG (4, 156) (List.mem_of_getElem? (i := 4) rfl) rfl
                    have h160 : x 8 = vX := hG (8, 160) (List.mem_of_getElem? (i := 8) rfl) rfl
                    have h154 : x 2 = .bool true := hG (2, 154) (List.mem_of_getElem? (i := 2) rfl) rfl
                    refine Or.inl ⟨ord.wantG rfl rfl h154, ?_⟩
                    obtain ⟨A9, c9, e9, hl9⟩ := h156
                    have HSW := HSE.out w A9 c9 hl9 (of_drew hb)
                    exact ord.makes_call2 Try.func10 (by kernel_rfl) (by kernel_rfl) rfl e9 h160 HSW (fun e w' h => ⟨_, h.1, h.2, rfl⟩)
                  · intro o ho x w hb hG
                    obtain rfl := Option.some.inj ho
                    clear ho
                    have h154 : x 2 = .bool true := hG (2, 154) (List.mem_of_getElem? (i := 2) rfl) rfl
                    have h161 : x 9 = .bool true := hG (9, 161) (List.mem_of_getElem? (i := 9) rfl) rfl
                    refine Or.inl ⟨ord.want0 rfl, ?_⟩
                    exact ord.makes_pick rfl h154 ⟨Below.refl _ _, h161⟩
                  --END STEPS ple
                  · intro x w5 hb5 hG
                    have e10 : x 10 = .bool true := hG (10, 162) (List.mem_of_getElem? (i := 10) rfl)
                    clear hG
                    simp only [ord.puts, ord.put', List.set_cons_zero, List.set_cons_succ, if_true]
                    rw [e10]
                    simp only [List.drop_succ_cons, List.drop_zero]
                    have HB5 := Lib.hid (HBE.out.trans (hb5.mono HBE.out.size))
                    clear hb5 e10
                    go_wp2_with fail
                    go_ret
                    exact ⟨rfl, HB5.out⟩
          | false =>
            obtain ⟨G, hG0⟩ : ∃ G, G = G0 := ⟨_, rfl⟩
            obtain ⟨X, hX0⟩ : ∃ X, X = X0 := ⟨_, rfl⟩
            subst hG0 hX0
            have HP := HP0
            clear HP0
            go_wp2_with fail
            go_loopw [15] (fun i wr2 => ∃ (k : Nat) (L : List Us), i = .int .i64 k ∧ k ≤ Y.length ∧ k ≤ 200 ∧ TwoS w G X (fun _ => False) wr2 L L) (fun i _ => Y.length - (intOf i).toNat)
            case atStart => exact ⟨0, _, rfl, Nat.zero_le _, Nat.zero_le _, HP.out⟩
            case round =>
              obtain ⟨wr2, hwr2⟩ : ∃ W, W = wr := ⟨_, rfl⟩
              subst hwr2
              obtain ⟨k, L, rfl, hk, hk200, hp⟩ := hrel
              have HPR := Lib.hid hp
              clear hp HP
              by_cases hlt : k < Y.length ∧ k < 200
              · obtain ⟨hl1, hl2⟩ := hlt
                have hki : (k : Int) < Y.length := by omega
                have hk2i : (k : Int) < 200 := by omega
                have hk3 : ¬ (k : Int) < 0 := by omega
                obtain ⟨B, o, rfl, hBl, a0, a1, a2, a3, a4, a5, a6, a7⟩ := ac_at (HACT.out.chgS (ChgS.of_below (S := fun _ => False) HPR.out.bel) (fun _ _ _ h => h)) hl1
                have HXC := Lib.hid (HY.out _ (List.getElem_mem hl1))
                generalize Y[k] = x at *
                obtain ⟨H, hH⟩ : ∃ H, H = wr2.heap.size := ⟨_, rfl⟩
                have hba := alloc_below wr2 (.cells #[.int .i64 x.d, .int .i64 x.r.k, .int .i64 x.r.t, .int .i64 x.r.s, .int .i64 x.r.o, .string x.c, .int .i64 x.a, .int .i64 x.n] 40)
                have HM := Lib.hid (HPR.out.more (T := fun k => k = H) hba (fun k e => by subst e; rw [hH]; exact ⟨Nat.le_refl _, by simp⟩))
                have HH := Lib.hid (show (wr2.alloc (.cells #[.int .i64 x.d, .int .i64 x.r.k, .int .i64 x.r.t, .int .i64 x.r.s, .int .i64 x.r.o, .string x.c, .int .i64 x.a, .int .i64 x.n] 40)).heap[H]? = some (.cells #[.int .i64 x.d, .int .i64 x.r.k, .int .i64 x.r.t, .int .i64 x.r.s, .int .i64 x.r.o, .string x.c, .int .i64 x.a, .int .i64 x.n] 40) from by rw [hH]; exact heap_alloc_new _ _)
                clear hba HPR
                go_wp2_with fail
                rw [← hH]
                clear hH a0 a1 a2 a3 a4 a5 a6 a7 hBl
                refine (HM.out.left (fun v hv => do16c hv x HXC.out)).mono ?_
                rintro e w7 ⟨rfl, h7, hk7⟩
                have HH7 := Lib.hid ((hk7 H (Or.inr rfl)).trans HH.out)
                obtain ⟨b0, b1, b2, b3, b4, b5, b6, b7⟩ := ac_cells HH7.out
                clear HM HH
                by_cases hd : x.d = 1
                · have hdb : (x.d == 1) = true := by simpa using hd
                  have HRE := Lib.hid (show ∀ v, RBk w X w7 L v → Calls Try.prog 15 #[.pointer (some ⟨X, 0, none⟩), ruV x.r, .string x.c, .int .i64 x.a, .int .i64 x.n] w7 fun e w' => e = .returned (.int .i64 (doE L x)) ∧ RkS w X w7 v w' (doN L x) from fun v hv => by
                    unfold doE doN
                    rw [if_pos hd, if_pos hd]
                    exact rundo16_any w X L v x.r x.c x.a x.n w7 hv)
                  go_wp2_with fail
                  refine (TwoS.right h7 HRE.out).mono ?_
                  rintro e w8 ⟨rfl, h8, hk8⟩
                  clear hd hdb b0 b1 b2 b3 b4 b5 b6 b7

                  have HH8 := Lib.hid ((hk8 H (Or.inr rfl)).trans HH7.out)
                  have H8 := Lib.hid h8
                  have HH8L := Lib.hid ((Array.getElem?_eq_some_iff.1 HH8.out).1)
                  clear h8 hk8 h7 hk7 HRE HH7
                  obtain ⟨L1, hL⟩ : ∃ L1, doN L x = L1 := ⟨_, rfl⟩
                  obtain ⟨r, hr⟩ : ∃ r, doE L x = r := ⟨_, rfl⟩
                  rw [hL] at H8
                  rw [hr]
                  clear hL hr
                  obtain ⟨va, _, hva, _⟩ := H8.out
                  go_wp2_with fail
                  refine (clist16_any w G L1 va w8 hva).mono ?_
                  rintro e w9 ⟨v9, rfl, ho9, hb9⟩
                  have H9 := H8.out.below hb9
                  obtain ⟨_, vb, _, hvb, _⟩ := H9
                  obtain ⟨A9, c9, rfl, hl9⟩ := ho9.slice
                  obtain ⟨Ab, cb, rfl, hlb⟩ := hvb.own.slice
                  have hcb := hvb.cell
                  have hl16 := hva.ok.few
                  have HSM := rsame16_any A9 c9 L1 Ab cb L1 w9 hl9 hlb (by omega) (by omega)
                  simp only [decide_true] at HSM
                  clear hva hvb hl9 hlb hl16
                  go_wp2_with fail
                  refine HSM.mono ?_
                  rintro e w10 ⟨rfl, hb10⟩
                  clear HSM hcb

                  have HV9 := Lib.hid (show ∀ k, (Value.slice A9 L1.length c9).ownBlock = some k → w8.heap.size ≤ k ∧ k < w9.heap.size from fun k hk => ho9.lt k hk)
                  have HO10 := Lib.hid (ho9.keep hb10)
                  have H10 := Lib.hid (H8.out.more (T := fun k => (Value.slice A9 L1.length c9).ownBlock = some k) (hb9.trans (hb10.mono hb9.size)) (fun k hk => ⟨(HV9.out k hk).1, Nat.lt_of_lt_of_le (HV9.out k hk).2 hb10.size⟩))
                  have HH10 := Lib.hid (((hb9.trans (hb10.mono hb9.size)).block _ (Array.getElem?_eq_some_iff.1 HH8.out).1).trans HH8.out)
                  have HL1 := Lib.hid (show L1.length ≤ 16 from by
                    obtain ⟨_, _, q, _⟩ := H8.out
                    exact q.ok.few)
                  have hL1 : (L1.length : Int) ≤ 16 := by have := HL1.out; omega
                  clear hb9 hb10 ho9 H8
                  go_wp2_with fail
                  go_loopw [21] (fun i wr3 => ∃ (j : Nat) (F' : List Us), j ≤ L1.length ∧ i = .int .i64 j ∧ F'.length = L1.length ∧ OwL usE 31 wr3 w8.heap.size (.slice A9 L1.length c9) F' ∧ ChgS (fun k => (Value.slice A9 L1.length c9).ownBlock = some k) w10 wr3) (fun i _ => L1.length - (intOf i).toNat)
                  case atStart => exact ⟨0, L1, Nat.zero_le _, rfl, rfl, HO10.out, ChgS.refl _ _⟩
                  case round =>
                    obtain ⟨wr3, hwr3⟩ : ∃ W, W = wr := ⟨_, rfl⟩
                    subst hwr3
                    obtain ⟨j, F', hj, rfl, hlF', ho, hc⟩ := hrel
                    have HO := Lib.hid ho
                    have HC := Lib.hid hc
                    clear ho hc HO10
                    by_cases hlt : j < L1.length
                    · have hAg : ∃ g, A9 = some ⟨g, 0, none⟩ := by
                        obtain ⟨g, c', e, _, _, _⟩ := HO.out.lies (by omega)
                        injection e with e1 _ _
                        exact ⟨g, e1⟩
                      obtain ⟨g, rfl⟩ := hAg
                      have hjF : j < F'.length := by omega
                      have hji : (j : Int) < L1.length := by omega
                      have hj0 : ¬ (j : Int) < 0 := by omega
                      obtain ⟨⟨k0, l0⟩, ⟨k1, l1⟩, ⟨k2, l2⟩, ⟨k3, l3⟩⟩ := own_facts HO.out (k := j) hjF (.string spS) (.int .i64 0) (.int .i64 0)
                      have HOS := Lib.hid (own_set4 HO.out hlF'.symm hjF spU)
                      have HCS := Lib.hid (chg_four HC.out (g := g) (k := j) rfl (.string spS) (.int .i64 0) (.int .i64 0) (.int .i64 0))
                      have HLS := Lib.hid (show (F'.set j spU).length = L1.length by rw [List.length_set]; exact hlF')
                      generalize F'[j] = y at k0 k1 k2 k3
                      clear hlF' hjF
                      go_wp2_with fail
                      go_roundw
                      case rel => exact ⟨j + 1, F'.set j spU, by omega, by go_num, HLS.out, HOS.out, HCS.out⟩
                      case measure => simp [intOf]; omega
                    · obtain rfl : j = L1.length := by omega
                      have H11 := Lib.hid (H10.out.chg HC.out (fun k hk => Or.inr hk))
                      have HH11 := Lib.hid ((HC.out.block _ (Array.getElem?_eq_some_iff.1 HH10.out).1 (fun e => by
                        have h1 := (HV9.out _ e).1
                        have h2 := HH8L.out
                        omega)).trans HH10.out)
                      obtain ⟨b0, b1, b2, b3, b4, b5, b6, b7⟩ := ac_cells HH11.out
                      have k1 := cell_regrown b1
                      have k2 := cell_regrown b2
                      have k3 := cell_regrown b3
                      have k4 := cell_regrown b4
                      have cA := fun d os => Calls.regrown_of (cright_any x.r.k x.r.t x.r.s x.r.o (Go.Sort.grow (redrawn wr3 d) os))
                      have cB := fun d os => Calls.regrown_of (rright16_any x.r (Go.Sort.grow (redrawn wr3 d) os))
                      have hre : rlK ⟨x.r.k, x.r.t, x.r.s, x.r.o⟩ = rlK x.r := rfl
                      simp only [hre] at cA
                      have hbb : (rlK x.r != rlK x.r) = false := by simp
                      have hrr : (r != r) = false := by simp
                      clear hre b0 b1 b2 b3 b4 b5 b6 b7
                      generalize rlK x.r = bR at *
                      go_wp2_with fail
                      refine wp_region_quiet_below (by kernel_rfl) (by kernel_rfl) ?_
                      repeat (quiet_step (first | (with_reducible exact cA _ _) | (with_reducible exact cB _ _)))
                      refine wpQuiet_nil ?_
                      intro _ hw'
                      obtain ⟨⟨dq, osq⟩, hw''⟩ := hw'
                      subst hw''
                      have H12 := Lib.hid ((H11.out.below (below_regrown wr3 dq osq)).less (T := fun _ => False) (fun _ h => absurd h id))
                      clear k1 k2 k3 k4 cA cB
                      generalize Go.Sort.grow (redrawn wr3 dq) osq = w12 at *
                      go_wp2_with fail
                      go_roundw
                      case rel => exact ⟨k + 1, L1, by go_num, by omega, by omega, H12.out⟩
                      case measure => simp [intOf]; omega
                · have hdb : (x.d == 1) = false := by simpa using hd
                  have HRE := Lib.hid (show ∀ v, RBk w X w7 L v → Calls Try.prog 16 #[.pointer (some ⟨X, 0, none⟩), ruV x.r, .string x.c, .int .i64 x.a, .int .i64 x.n] w7 fun e w' => e = .returned (.int .i64 (doE L x)) ∧ RkS w X w7 v w' (doN L x) from fun v hv => by
                    unfold doE doN
                    rw [if_neg hd, if_neg hd]
                    exact rtry16_any w X L v x.r x.c x.a x.n w7 hv)
                  go_wp2_with fail
                  refine (TwoS.right h7 HRE.out).mono ?_
                  rintro e w8 ⟨rfl, h8, hk8⟩
                  clear hd hdb b0 b1 b2 b3 b4 b5 b6 b7

                  have HH8 := Lib.hid ((hk8 H (Or.inr rfl)).trans HH7.out)
                  have H8 := Lib.hid h8
                  have HH8L := Lib.hid ((Array.getElem?_eq_some_iff.1 HH8.out).1)
                  clear h8 hk8 h7 hk7 HRE HH7
                  obtain ⟨L1, hL⟩ : ∃ L1, doN L x = L1 := ⟨_, rfl⟩
                  obtain ⟨r, hr⟩ : ∃ r, doE L x = r := ⟨_, rfl⟩
                  rw [hL] at H8
                  rw [hr]
                  clear hL hr
                  obtain ⟨va, _, hva, _⟩ := H8.out
                  go_wp2_with fail
                  refine (clist16_any w G L1 va w8 hva).mono ?_
                  rintro e w9 ⟨v9, rfl, ho9, hb9⟩
                  have H9 := H8.out.below hb9
                  obtain ⟨_, vb, _, hvb, _⟩ := H9
                  obtain ⟨A9, c9, rfl, hl9⟩ := ho9.slice
                  obtain ⟨Ab, cb, rfl, hlb⟩ := hvb.own.slice
                  have hcb := hvb.cell
                  have hl16 := hva.ok.few
                  have HSM := rsame16_any A9 c9 L1 Ab cb L1 w9 hl9 hlb (by omega) (by omega)
                  simp only [decide_true] at HSM
                  clear hva hvb hl9 hlb hl16
                  go_wp2_with fail
                  refine HSM.mono ?_
                  rintro e w10 ⟨rfl, hb10⟩
                  clear HSM hcb

                  have HV9 := Lib.hid (show ∀ k, (Value.slice A9 L1.length c9).ownBlock = some k → w8.heap.size ≤ k ∧ k < w9.heap.size from fun k hk => ho9.lt k hk)
                  have HO10 := Lib.hid (ho9.keep hb10)
                  have H10 := Lib.hid (H8.out.more (T := fun k => (Value.slice A9 L1.length c9).ownBlock = some k) (hb9.trans (hb10.mono hb9.size)) (fun k hk => ⟨(HV9.out k hk).1, Nat.lt_of_lt_of_le (HV9.out k hk).2 hb10.size⟩))
                  have HH10 := Lib.hid (((hb9.trans (hb10.mono hb9.size)).block _ (Array.getElem?_eq_some_iff.1 HH8.out).1).trans HH8.out)
                  have HL1 := Lib.hid (show L1.length ≤ 16 from by
                    obtain ⟨_, _, q, _⟩ := H8.out
                    exact q.ok.few)
                  have hL1 : (L1.length : Int) ≤ 16 := by have := HL1.out; omega
                  clear hb9 hb10 ho9 H8
                  go_wp2_with fail
                  go_loopw [21] (fun i wr3 => ∃ (j : Nat) (F' : List Us), j ≤ L1.length ∧ i = .int .i64 j ∧ F'.length = L1.length ∧ OwL usE 31 wr3 w8.heap.size (.slice A9 L1.length c9) F' ∧ ChgS (fun k => (Value.slice A9 L1.length c9).ownBlock = some k) w10 wr3) (fun i _ => L1.length - (intOf i).toNat)
                  case atStart => exact ⟨0, L1, Nat.zero_le _, rfl, rfl, HO10.out, ChgS.refl _ _⟩
                  case round =>
                    obtain ⟨wr3, hwr3⟩ : ∃ W, W = wr := ⟨_, rfl⟩
                    subst hwr3
                    obtain ⟨j, F', hj, rfl, hlF', ho, hc⟩ := hrel
                    have HO := Lib.hid ho
                    have HC := Lib.hid hc
                    clear ho hc HO10
                    by_cases hlt : j < L1.length
                    · have hAg : ∃ g, A9 = some ⟨g, 0, none⟩ := by
                        obtain ⟨g, c', e, _, _, _⟩ := HO.out.lies (by omega)
                        injection e with e1 _ _
                        exact ⟨g, e1⟩
                      obtain ⟨g, rfl⟩ := hAg
                      have hjF : j < F'.length := by omega
                      have hji : (j : Int) < L1.length := by omega
                      have hj0 : ¬ (j : Int) < 0 := by omega
                      obtain ⟨⟨k0, l0⟩, ⟨k1, l1⟩, ⟨k2, l2⟩, ⟨k3, l3⟩⟩ := own_facts HO.out (k := j) hjF (.string spS) (.int .i64 0) (.int .i64 0)
                      have HOS := Lib.hid (own_set4 HO.out hlF'.symm hjF spU)
                      have HCS := Lib.hid (chg_four HC.out (g := g) (k := j) rfl (.string spS) (.int .i64 0) (.int .i64 0) (.int .i64 0))
                      have HLS := Lib.hid (show (F'.set j spU).length = L1.length by rw [List.length_set]; exact hlF')
                      generalize F'[j] = y at k0 k1 k2 k3
                      clear hlF' hjF
                      go_wp2_with fail
                      go_roundw
                      case rel => exact ⟨j + 1, F'.set j spU, by omega, by go_num, HLS.out, HOS.out, HCS.out⟩
                      case measure => simp [intOf]; omega
                    · obtain rfl : j = L1.length := by omega
                      have H11 := Lib.hid (H10.out.chg HC.out (fun k hk => Or.inr hk))
                      have HH11 := Lib.hid ((HC.out.block _ (Array.getElem?_eq_some_iff.1 HH10.out).1 (fun e => by
                        have h1 := (HV9.out _ e).1
                        have h2 := HH8L.out
                        omega)).trans HH10.out)
                      obtain ⟨b0, b1, b2, b3, b4, b5, b6, b7⟩ := ac_cells HH11.out
                      have k1 := cell_regrown b1
                      have k2 := cell_regrown b2
                      have k3 := cell_regrown b3
                      have k4 := cell_regrown b4
                      have cA := fun d os => Calls.regrown_of (cright_any x.r.k x.r.t x.r.s x.r.o (Go.Sort.grow (redrawn wr3 d) os))
                      have cB := fun d os => Calls.regrown_of (rright16_any x.r (Go.Sort.grow (redrawn wr3 d) os))
                      have hre : rlK ⟨x.r.k, x.r.t, x.r.s, x.r.o⟩ = rlK x.r := rfl
                      simp only [hre] at cA
                      have hbb : (rlK x.r != rlK x.r) = false := by simp
                      have hrr : (r != r) = false := by simp
                      clear hre b0 b1 b2 b3 b4 b5 b6 b7
                      generalize rlK x.r = bR at *
                      go_wp2_with fail
                      refine wp_region_quiet_below (by kernel_rfl) (by kernel_rfl) ?_
                      repeat (quiet_step (first | (with_reducible exact cA _ _) | (with_reducible exact cB _ _)))
                      refine wpQuiet_nil ?_
                      intro _ hw'
                      obtain ⟨⟨dq, osq⟩, hw''⟩ := hw'
                      subst hw''
                      have H12 := Lib.hid ((H11.out.below (below_regrown wr3 dq osq)).less (T := fun _ => False) (fun _ h => absurd h id))
                      clear k1 k2 k3 k4 cA cB
                      generalize Go.Sort.grow (redrawn wr3 dq) osq = w12 at *
                      go_wp2_with fail
                      go_roundw
                      case rel => exact ⟨k + 1, L1, by go_num, by omega, by omega, H12.out⟩
                      case measure => simp [intOf]; omega
              · have hnl := hlt
                obtain ⟨vG, vX, hG, hX, _⟩ := HPR.out
                have HRG := Lib.hid (fun W (h : Below wr2.heap.size wr2 W) => hG.keep h)
                have HRX := Lib.hid (fun W (h : Below wr2.heap.size wr2 W) => hX.keep h)
                have hl16 := hG.ok.few
                have HBE := Lib.hid hG.bel
                have HSE := Lib.hid (show ∀ W A9 c9, LiS usE W A9 L → Below wr2.heap.size wr2 W → Calls Try.prog 10 #[.slice A9 L.length c9, vX] W fun e w' => e = .returned (.bool true) ∧ Below W.heap.size W w' from fun W A9 c9 h hb => by
                  obtain ⟨Ab, cb, e, hlb⟩ := (HRX.out W hb).own.slice
                  have h2 := rsame16_any A9 c9 L Ab cb L W h hlb (by omega) (by omega)
                  simp only [decide_true] at h2
                  rw [e]
                  exact h2)
                clear hG hX hl16
                have hend : ¬ (k : Int) < Y.length ∨ (k : Int) < Y.length ∧ ¬ (k : Int) < 200 := by omega
                rcases hend with hz1 | ⟨hz1, hz2⟩
                all_goals
                  go_wp2_with fail
                  refine ord.wp_region_ordT 11 [[], [0], [1], [2], [3, 2], [2], [5, 2], [6, 2], [7, 2], [4, 8, 2], [2, 9]] [(0, 152), (1, 153), (2, 154), (3, 155), (4, 156), (5, 157), (6, 158), (7, 159), (8, 160), (9, 161), (10, 162)] (plE G X L vX) (by kernel_rfl) (by kernel_rfl) (by kernel_rfl) (plE_stays _ _ _ _) ((ord.steps_cons ?_ (ord.steps_cons ?_ (ord.steps_cons ?_ (ord.steps_cons ?_ (ord.steps_cons ?_ (ord.steps_cons ?_ (ord.steps_cons ?_ (ord.steps_cons ?_ (ord.steps_cons ?_ (ord.steps_cons ?_ (ord.steps_cons ?_ ord.steps_nil)))))))))))) ?_
                  --STEPS ple
                  · intro o ho x w hb hG
                    obtain rfl := Option.some.inj ho
                    clear ho
                    refine Or.inl ⟨ord.want0 rfl, ?_⟩
                    exact ord.makes_move rfl ⟨Below.refl _ _, rfl⟩
                  · intro o ho x w hb hG
                    obtain rfl := Option.some.inj ho
                    clear ho
                    have h152 : x 0 = .pointer (some ⟨G, 0, none⟩) := hG (0, 152) (List.mem_of_getElem? (i := 0) rfl) rfl
                    refine Or.inl ⟨ord.want0 rfl, ?_⟩
                    exact ord.makes_bin rfl h152 rfl (by go_simp) ⟨Below.refl _ _, rfl⟩
                  · intro o ho x w hb hG
                    obtain rfl := Option.some.inj ho
                    clear ho
                    have h153 : x 1 = .bool true := hG (1, 153) (List.mem_of_getElem? (i := 1) rfl) rfl
                    refine Or.inl ⟨ord.want0 rfl, ?_⟩
                    exact ord.makes_move rfl ⟨Below.refl _ _, h153⟩
                  · intro o ho x w hb hG
                    obtain rfl := Option.some.inj ho
                    clear ho
                    have h154 : x 2 = .bool true := hG (2, 154) (List.mem_of_getElem? (i := 2) rfl) rfl
                    refine Or.inl ⟨ord.wantG rfl rfl h154, ?_⟩
                    exact ord.makes_move rfl ⟨Below.refl _ _, rfl⟩
                  · intro o ho x w hb hG
                    obtain rfl := Option.some.inj ho
                    clear ho
                    have h155 : x 3 = .pointer (some ⟨G, 0, none⟩) := hG (3, 155) (List.mem_of_getElem? (i := 3) rfl) rfl
                    have h154 : x 2 = .bool true := hG (2, 154) (List.mem_of_getElem? (i := 2) rfl) rfl
                    refine Or.inl ⟨ord.wantG rfl rfl h154, ?_⟩
                    exact ord.makes_call1 Try.func17 (by kernel_rfl) (by kernel_rfl) rfl h155 (clist16_any _ G L vG w (HRG.out w (of_drew hb))) (fun e w' h => by
                      obtain ⟨v9, e1, ho, hb2⟩ := h
                      obtain ⟨A, c, e2, hl⟩ := ho.slice
                      exact ⟨_, e1, hb2, A, c, e2, hl⟩)
                  · intro o ho x w hb hG
                    obtain rfl := Option.some.inj ho
                    clear ho
                    have h154 : x 2 = .bool true := hG (2, 154) (List.mem_of_getElem? (i := 2) rfl) rfl
                    refine Or.inl ⟨ord.wantG rfl rfl h154, ?_⟩
                    exact ord.makes_move rfl ⟨Below.refl _ _, rfl⟩
                  · intro o ho x w hb hG
                    obtain rfl := Option.some.inj ho
                    clear ho
                    have h157 : x 5 = .pointer (some ⟨X, 0, none⟩) := hG (5, 157) (List.mem_of_getElem? (i := 5) rfl) rfl
                    have h154 : x 2 = .bool true := hG (2, 154) (List.mem_of_getElem? (i := 2) rfl) rfl
                    refine Or.inl ⟨ord.wantG rfl rfl h154, ?_⟩
                    exact ord.makes_nilCheck rfl h157 ⟨Below.refl _ _, rfl⟩
                  · intro o ho x w hb hG
                    obtain rfl := Option.some.inj ho
                    clear ho
                    have h158 : x 6 = .pointer (some ⟨X, 0, none⟩) := hG (6, 158) (List.mem_of_getElem? (i := 6) rfl) rfl
                    have h154 : x 2 = .bool true := hG (2, 154) (List.mem_of_getElem? (i := 2) rfl) rfl
                    refine Or.inl ⟨ord.wantG rfl rfl h154, ?_⟩
                    exact ord.makes_fieldAddr rfl h158 (run_fbR X w) ⟨Below.refl _ _, rfl⟩
                  · intro o ho x w hb hG
                    obtain rfl := Option.some.inj ho
                    clear ho
                    have h159 : x 7 = .pointer (some ⟨X, 0, none⟩) := hG (7, 159) (List.mem_of_getElem? (i := 7) rfl) rfl
                    have h154 : x 2 = .bool true := hG (2, 154) (List.mem_of_getElem? (i := 2) rfl) rfl
                    refine Or.inl ⟨ord.wantG rfl rfl h154, ?_⟩
                    exact ord.makes_ld rfl h159 (run_ldV _ _ w (HRX.out w (of_drew hb)).cell) ⟨Below.refl _ _, rfl⟩
                  · intro o ho x w hb hG
                    obtain rfl := Option.some.inj ho
                    clear ho
                    have h156 : plE G X L vX 4 (x 4) w := hG (4, 156) (List.mem_of_getElem? (i := 4) rfl) rfl
                    have h160 : x 8 = vX := hG (8, 160) (List.mem_of_getElem? (i := 8) rfl) rfl
                    have h154 : x 2 = .bool true := hG (2, 154) (List.mem_of_getElem? (i := 2) rfl) rfl
                    refine Or.inl ⟨ord.wantG rfl rfl h154, ?_⟩
                    obtain ⟨A9, c9, e9, hl9⟩ := h156
                    have HSW := HSE.out w A9 c9 hl9 (of_drew hb)
                    exact ord.makes_call2 Try.func10 (by kernel_rfl) (by kernel_rfl) rfl e9 h160 HSW (fun e w' h => ⟨_, h.1, h.2, rfl⟩)
                  · intro o ho x w hb hG
                    obtain rfl := Option.some.inj ho
                    clear ho
                    have h154 : x 2 = .bool true := hG (2, 154) (List.mem_of_getElem? (i := 2) rfl) rfl
                    have h161 : x 9 = .bool true := hG (9, 161) (List.mem_of_getElem? (i := 9) rfl) rfl
                    refine Or.inl ⟨ord.want0 rfl, ?_⟩
                    exact ord.makes_pick rfl h154 ⟨Below.refl _ _, h161⟩
                  --END STEPS ple
                  · intro x w5 hb5 hG
                    have e10 : x 10 = .bool true := hG (10, 162) (List.mem_of_getElem? (i := 10) rfl)
                    clear hG
                    simp only [ord.puts, ord.put', List.set_cons_zero, List.set_cons_succ, if_true]
                    rw [e10]
                    simp only [List.drop_succ_cons, List.drop_zero]
                    have HB5 := Lib.hid (HBE.out.trans (hb5.mono HBE.out.size))
                    clear hb5 e10
                    go_wp2_with fail
                    go_ret
                    exact ⟨rfl, HB5.out⟩
        · exact absurd hok hno
      · rcases hrr with ⟨hno, _⟩ | ⟨_, rfl⟩
        · exact absurd hno hok
        · cases fresh with
          | true =>
            go_wp2_with fail
            refine (cnew16_any w w6 HB6.out).mono ?_
            rintro e w7 ⟨G, rfl, hg, _, hb7⟩
            have HB7 := HB6.out.trans (hb7.mono HB6.out.size)
            go_wp2_with fail
            refine (rnew16_any w w7 HB7).mono ?_
            rintro e w8 ⟨X, rfl, hx, hX8, hb8⟩
            have HP := Lib.hid (TwoS.new hg hb8 hx (fun k hk => by
              rcases hk with rfl | hk
              · exact hX8
              · cases hk))
            clear hg hx hX8 hb7 hb8 HB7
            go_wp2_with fail
            go_loopw [15] (fun i wr2 => ∃ (k : Nat) (L : List Us), i = .int .i64 k ∧ k ≤ Y.length ∧ k ≤ 200 ∧ TwoS w G X (fun _ => False) wr2 L L) (fun i _ => Y.length - (intOf i).toNat)
            case atStart => exact ⟨0, _, rfl, Nat.zero_le _, Nat.zero_le _, HP.out⟩
            case round =>
              obtain ⟨wr2, hwr2⟩ : ∃ W, W = wr := ⟨_, rfl⟩
              subst hwr2
              obtain ⟨k, L, rfl, hk, hk200, hp⟩ := hrel
              have HPR := Lib.hid hp
              clear hp HP
              by_cases hlt : k < Y.length ∧ k < 200
              · obtain ⟨hl1, hl2⟩ := hlt
                have hki : (k : Int) < Y.length := by omega
                have hk2i : (k : Int) < 200 := by omega
                have hk3 : ¬ (k : Int) < 0 := by omega
                obtain ⟨B, o, rfl, hBl, a0, a1, a2, a3, a4, a5, a6, a7⟩ := ac_at (HACT.out.chgS (ChgS.of_below (S := fun _ => False) HPR.out.bel) (fun _ _ _ h => h)) hl1
                have HXC := Lib.hid (HY.out _ (List.getElem_mem hl1))
                generalize Y[k] = x at *
                obtain ⟨H, hH⟩ : ∃ H, H = wr2.heap.size := ⟨_, rfl⟩
                have hba := alloc_below wr2 (.cells #[.int .i64 x.d, .int .i64 x.r.k, .int .i64 x.r.t, .int .i64 x.r.s, .int .i64 x.r.o, .string x.c, .int .i64 x.a, .int .i64 x.n] 40)
                have HM := Lib.hid (HPR.out.more (T := fun k => k = H) hba (fun k e => by subst e; rw [hH]; exact ⟨Nat.le_refl _, by simp⟩))
                have HH := Lib.hid (show (wr2.alloc (.cells #[.int .i64 x.d, .int .i64 x.r.k, .int .i64 x.r.t, .int .i64 x.r.s, .int .i64 x.r.o, .string x.c, .int .i64 x.a, .int .i64 x.n] 40)).heap[H]? = some (.cells #[.int .i64 x.d, .int .i64 x.r.k, .int .i64 x.r.t, .int .i64 x.r.s, .int .i64 x.r.o, .string x.c, .int .i64 x.a, .int .i64 x.n] 40) from by rw [hH]; exact heap_alloc_new _ _)
                clear hba HPR
                go_wp2_with fail
                rw [← hH]
                clear hH a0 a1 a2 a3 a4 a5 a6 a7 hBl
                refine (HM.out.left (fun v hv => do16c hv x HXC.out)).mono ?_
                rintro e w7 ⟨rfl, h7, hk7⟩
                have HH7 := Lib.hid ((hk7 H (Or.inr rfl)).trans HH.out)
                obtain ⟨b0, b1, b2, b3, b4, b5, b6, b7⟩ := ac_cells HH7.out
                clear HM HH
                by_cases hd : x.d = 1
                · have hdb : (x.d == 1) = true := by simpa using hd
                  have HRE := Lib.hid (show ∀ v, RBk w X w7 L v → Calls Try.prog 15 #[.pointer (some ⟨X, 0, none⟩), ruV x.r, .string x.c, .int .i64 x.a, .int .i64 x.n] w7 fun e w' => e = .returned (.int .i64 (doE L x)) ∧ RkS w X w7 v w' (doN L x) from fun v hv => by
                    unfold doE doN
                    rw [if_pos hd, if_pos hd]
                    exact rundo16_any w X L v x.r x.c x.a x.n w7 hv)
                  go_wp2_with fail
                  refine (TwoS.right h7 HRE.out).mono ?_
                  rintro e w8 ⟨rfl, h8, hk8⟩
                  clear hd hdb b0 b1 b2 b3 b4 b5 b6 b7

                  have HH8 := Lib.hid ((hk8 H (Or.inr rfl)).trans HH7.out)
                  have H8 := Lib.hid h8
                  have HH8L := Lib.hid ((Array.getElem?_eq_some_iff.1 HH8.out).1)
                  clear h8 hk8 h7 hk7 HRE HH7
                  obtain ⟨L1, hL⟩ : ∃ L1, doN L x = L1 := ⟨_, rfl⟩
                  obtain ⟨r, hr⟩ : ∃ r, doE L x = r := ⟨_, rfl⟩
                  rw [hL] at H8
                  rw [hr]
                  clear hL hr
                  obtain ⟨va, _, hva, _⟩ := H8.out
                  go_wp2_with fail
                  refine (clist16_any w G L1 va w8 hva).mono ?_
                  rintro e w9 ⟨v9, rfl, ho9, hb9⟩
                  have H9 := H8.out.below hb9
                  obtain ⟨_, vb, _, hvb, _⟩ := H9
                  obtain ⟨A9, c9, rfl, hl9⟩ := ho9.slice
                  obtain ⟨Ab, cb, rfl, hlb⟩ := hvb.own.slice
                  have hcb := hvb.cell
                  have hl16 := hva.ok.few
                  have HSM := rsame16_any A9 c9 L1 Ab cb L1 w9 hl9 hlb (by omega) (by omega)
                  simp only [decide_true] at HSM
                  clear hva hvb hl9 hlb hl16
                  go_wp2_with fail
                  refine HSM.mono ?_
                  rintro e w10 ⟨rfl, hb10⟩
                  clear HSM hcb

                  have HV9 := Lib.hid (show ∀ k, (Value.slice A9 L1.length c9).ownBlock = some k → w8.heap.size ≤ k ∧ k < w9.heap.size from fun k hk => ho9.lt k hk)
                  have HO10 := Lib.hid (ho9.keep hb10)
                  have H10 := Lib.hid (H8.out.more (T := fun k => (Value.slice A9 L1.length c9).ownBlock = some k) (hb9.trans (hb10.mono hb9.size)) (fun k hk => ⟨(HV9.out k hk).1, Nat.lt_of_lt_of_le (HV9.out k hk).2 hb10.size⟩))
                  have HH10 := Lib.hid (((hb9.trans (hb10.mono hb9.size)).block _ (Array.getElem?_eq_some_iff.1 HH8.out).1).trans HH8.out)
                  have HL1 := Lib.hid (show L1.length ≤ 16 from by
                    obtain ⟨_, _, q, _⟩ := H8.out
                    exact q.ok.few)
                  have hL1 : (L1.length : Int) ≤ 16 := by have := HL1.out; omega
                  clear hb9 hb10 ho9 H8
                  go_wp2_with fail
                  go_loopw [21] (fun i wr3 => ∃ (j : Nat) (F' : List Us), j ≤ L1.length ∧ i = .int .i64 j ∧ F'.length = L1.length ∧ OwL usE 31 wr3 w8.heap.size (.slice A9 L1.length c9) F' ∧ ChgS (fun k => (Value.slice A9 L1.length c9).ownBlock = some k) w10 wr3) (fun i _ => L1.length - (intOf i).toNat)
                  case atStart => exact ⟨0, L1, Nat.zero_le _, rfl, rfl, HO10.out, ChgS.refl _ _⟩
                  case round =>
                    obtain ⟨wr3, hwr3⟩ : ∃ W, W = wr := ⟨_, rfl⟩
                    subst hwr3
                    obtain ⟨j, F', hj, rfl, hlF', ho, hc⟩ := hrel
                    have HO := Lib.hid ho
                    have HC := Lib.hid hc
                    clear ho hc HO10
                    by_cases hlt : j < L1.length
                    · have hAg : ∃ g, A9 = some ⟨g, 0, none⟩ := by
                        obtain ⟨g, c', e, _, _, _⟩ := HO.out.lies (by omega)
                        injection e with e1 _ _
                        exact ⟨g, e1⟩
                      obtain ⟨g, rfl⟩ := hAg
                      have hjF : j < F'.length := by omega
                      have hji : (j : Int) < L1.length := by omega
                      have hj0 : ¬ (j : Int) < 0 := by omega
                      obtain ⟨⟨k0, l0⟩, ⟨k1, l1⟩, ⟨k2, l2⟩, ⟨k3, l3⟩⟩ := own_facts HO.out (k := j) hjF (.string spS) (.int .i64 0) (.int .i64 0)
                      have HOS := Lib.hid (own_set4 HO.out hlF'.symm hjF spU)
                      have HCS := Lib.hid (chg_four HC.out (g := g) (k := j) rfl (.string spS) (.int .i64 0) (.int .i64 0) (.int .i64 0))
                      have HLS := Lib.hid (show (F'.set j spU).length = L1.length by rw [List.length_set]; exact hlF')
                      generalize F'[j] = y at k0 k1 k2 k3
                      clear hlF' hjF
                      go_wp2_with fail
                      go_roundw
                      case rel => exact ⟨j + 1, F'.set j spU, by omega, by go_num, HLS.out, HOS.out, HCS.out⟩
                      case measure => simp [intOf]; omega
                    · obtain rfl : j = L1.length := by omega
                      have H11 := Lib.hid (H10.out.chg HC.out (fun k hk => Or.inr hk))
                      have HH11 := Lib.hid ((HC.out.block _ (Array.getElem?_eq_some_iff.1 HH10.out).1 (fun e => by
                        have h1 := (HV9.out _ e).1
                        have h2 := HH8L.out
                        omega)).trans HH10.out)
                      obtain ⟨b0, b1, b2, b3, b4, b5, b6, b7⟩ := ac_cells HH11.out
                      have k1 := cell_regrown b1
                      have k2 := cell_regrown b2
                      have k3 := cell_regrown b3
                      have k4 := cell_regrown b4
                      have cA := fun d os => Calls.regrown_of (cright_any x.r.k x.r.t x.r.s x.r.o (Go.Sort.grow (redrawn wr3 d) os))
                      have cB := fun d os => Calls.regrown_of (rright16_any x.r (Go.Sort.grow (redrawn wr3 d) os))
                      have hre : rlK ⟨x.r.k, x.r.t, x.r.s, x.r.o⟩ = rlK x.r := rfl
                      simp only [hre] at cA
                      have hbb : (rlK x.r != rlK x.r) = false := by simp
                      have hrr : (r != r) = false := by simp
                      clear hre b0 b1 b2 b3 b4 b5 b6 b7
                      generalize rlK x.r = bR at *
                      go_wp2_with fail
                      refine wp_region_quiet_below (by kernel_rfl) (by kernel_rfl) ?_
                      repeat (quiet_step (first | (with_reducible exact cA _ _) | (with_reducible exact cB _ _)))
                      refine wpQuiet_nil ?_
                      intro _ hw'
                      obtain ⟨⟨dq, osq⟩, hw''⟩ := hw'
                      subst hw''
                      have H12 := Lib.hid ((H11.out.below (below_regrown wr3 dq osq)).less (T := fun _ => False) (fun _ h => absurd h id))
                      clear k1 k2 k3 k4 cA cB
                      generalize Go.Sort.grow (redrawn wr3 dq) osq = w12 at *
                      go_wp2_with fail
                      go_roundw
                      case rel => exact ⟨k + 1, L1, by go_num, by omega, by omega, H12.out⟩
                      case measure => simp [intOf]; omega
                · have hdb : (x.d == 1) = false := by simpa using hd
                  have HRE := Lib.hid (show ∀ v, RBk w X w7 L v → Calls Try.prog 16 #[.pointer (some ⟨X, 0, none⟩), ruV x.r, .string x.c, .int .i64 x.a, .int .i64 x.n] w7 fun e w' => e = .returned (.int .i64 (doE L x)) ∧ RkS w X w7 v w' (doN L x) from fun v hv => by
                    unfold doE doN
                    rw [if_neg hd, if_neg hd]
                    exact rtry16_any w X L v x.r x.c x.a x.n w7 hv)
                  go_wp2_with fail
                  refine (TwoS.right h7 HRE.out).mono ?_
                  rintro e w8 ⟨rfl, h8, hk8⟩
                  clear hd hdb b0 b1 b2 b3 b4 b5 b6 b7

                  have HH8 := Lib.hid ((hk8 H (Or.inr rfl)).trans HH7.out)
                  have H8 := Lib.hid h8
                  have HH8L := Lib.hid ((Array.getElem?_eq_some_iff.1 HH8.out).1)
                  clear h8 hk8 h7 hk7 HRE HH7
                  obtain ⟨L1, hL⟩ : ∃ L1, doN L x = L1 := ⟨_, rfl⟩
                  obtain ⟨r, hr⟩ : ∃ r, doE L x = r := ⟨_, rfl⟩
                  rw [hL] at H8
                  rw [hr]
                  clear hL hr
                  obtain ⟨va, _, hva, _⟩ := H8.out
                  go_wp2_with fail
                  refine (clist16_any w G L1 va w8 hva).mono ?_
                  rintro e w9 ⟨v9, rfl, ho9, hb9⟩
                  have H9 := H8.out.below hb9
                  obtain ⟨_, vb, _, hvb, _⟩ := H9
                  obtain ⟨A9, c9, rfl, hl9⟩ := ho9.slice
                  obtain ⟨Ab, cb, rfl, hlb⟩ := hvb.own.slice
                  have hcb := hvb.cell
                  have hl16 := hva.ok.few
                  have HSM := rsame16_any A9 c9 L1 Ab cb L1 w9 hl9 hlb (by omega) (by omega)
                  simp only [decide_true] at HSM
                  clear hva hvb hl9 hlb hl16
                  go_wp2_with fail
                  refine HSM.mono ?_
                  rintro e w10 ⟨rfl, hb10⟩
                  clear HSM hcb

                  have HV9 := Lib.hid (show ∀ k, (Value.slice A9 L1.length c9).ownBlock = some k → w8.heap.size ≤ k ∧ k < w9.heap.size from fun k hk => ho9.lt k hk)
                  have HO10 := Lib.hid (ho9.keep hb10)
                  have H10 := Lib.hid (H8.out.more (T := fun k => (Value.slice A9 L1.length c9).ownBlock = some k) (hb9.trans (hb10.mono hb9.size)) (fun k hk => ⟨(HV9.out k hk).1, Nat.lt_of_lt_of_le (HV9.out k hk).2 hb10.size⟩))
                  have HH10 := Lib.hid (((hb9.trans (hb10.mono hb9.size)).block _ (Array.getElem?_eq_some_iff.1 HH8.out).1).trans HH8.out)
                  have HL1 := Lib.hid (show L1.length ≤ 16 from by
                    obtain ⟨_, _, q, _⟩ := H8.out
                    exact q.ok.few)
                  have hL1 : (L1.length : Int) ≤ 16 := by have := HL1.out; omega
                  clear hb9 hb10 ho9 H8
                  go_wp2_with fail
                  go_loopw [21] (fun i wr3 => ∃ (j : Nat) (F' : List Us), j ≤ L1.length ∧ i = .int .i64 j ∧ F'.length = L1.length ∧ OwL usE 31 wr3 w8.heap.size (.slice A9 L1.length c9) F' ∧ ChgS (fun k => (Value.slice A9 L1.length c9).ownBlock = some k) w10 wr3) (fun i _ => L1.length - (intOf i).toNat)
                  case atStart => exact ⟨0, L1, Nat.zero_le _, rfl, rfl, HO10.out, ChgS.refl _ _⟩
                  case round =>
                    obtain ⟨wr3, hwr3⟩ : ∃ W, W = wr := ⟨_, rfl⟩
                    subst hwr3
                    obtain ⟨j, F', hj, rfl, hlF', ho, hc⟩ := hrel
                    have HO := Lib.hid ho
                    have HC := Lib.hid hc
                    clear ho hc HO10
                    by_cases hlt : j < L1.length
                    · have hAg : ∃ g, A9 = some ⟨g, 0, none⟩ := by
                        obtain ⟨g, c', e, _, _, _⟩ := HO.out.lies (by omega)
                        injection e with e1 _ _
                        exact ⟨g, e1⟩
                      obtain ⟨g, rfl⟩ := hAg
                      have hjF : j < F'.length := by omega
                      have hji : (j : Int) < L1.length := by omega
                      have hj0 : ¬ (j : Int) < 0 := by omega
                      obtain ⟨⟨k0, l0⟩, ⟨k1, l1⟩, ⟨k2, l2⟩, ⟨k3, l3⟩⟩ := own_facts HO.out (k := j) hjF (.string spS) (.int .i64 0) (.int .i64 0)
                      have HOS := Lib.hid (own_set4 HO.out hlF'.symm hjF spU)
                      have HCS := Lib.hid (chg_four HC.out (g := g) (k := j) rfl (.string spS) (.int .i64 0) (.int .i64 0) (.int .i64 0))
                      have HLS := Lib.hid (show (F'.set j spU).length = L1.length by rw [List.length_set]; exact hlF')
                      generalize F'[j] = y at k0 k1 k2 k3
                      clear hlF' hjF
                      go_wp2_with fail
                      go_roundw
                      case rel => exact ⟨j + 1, F'.set j spU, by omega, by go_num, HLS.out, HOS.out, HCS.out⟩
                      case measure => simp [intOf]; omega
                    · obtain rfl : j = L1.length := by omega
                      have H11 := Lib.hid (H10.out.chg HC.out (fun k hk => Or.inr hk))
                      have HH11 := Lib.hid ((HC.out.block _ (Array.getElem?_eq_some_iff.1 HH10.out).1 (fun e => by
                        have h1 := (HV9.out _ e).1
                        have h2 := HH8L.out
                        omega)).trans HH10.out)
                      obtain ⟨b0, b1, b2, b3, b4, b5, b6, b7⟩ := ac_cells HH11.out
                      have k1 := cell_regrown b1
                      have k2 := cell_regrown b2
                      have k3 := cell_regrown b3
                      have k4 := cell_regrown b4
                      have cA := fun d os => Calls.regrown_of (cright_any x.r.k x.r.t x.r.s x.r.o (Go.Sort.grow (redrawn wr3 d) os))
                      have cB := fun d os => Calls.regrown_of (rright16_any x.r (Go.Sort.grow (redrawn wr3 d) os))
                      have hre : rlK ⟨x.r.k, x.r.t, x.r.s, x.r.o⟩ = rlK x.r := rfl
                      simp only [hre] at cA
                      have hbb : (rlK x.r != rlK x.r) = false := by simp
                      have hrr : (r != r) = false := by simp
                      clear hre b0 b1 b2 b3 b4 b5 b6 b7
                      generalize rlK x.r = bR at *
                      go_wp2_with fail
                      refine wp_region_quiet_below (by kernel_rfl) (by kernel_rfl) ?_
                      repeat (quiet_step (first | (with_reducible exact cA _ _) | (with_reducible exact cB _ _)))
                      refine wpQuiet_nil ?_
                      intro _ hw'
                      obtain ⟨⟨dq, osq⟩, hw''⟩ := hw'
                      subst hw''
                      have H12 := Lib.hid ((H11.out.below (below_regrown wr3 dq osq)).less (T := fun _ => False) (fun _ h => absurd h id))
                      clear k1 k2 k3 k4 cA cB
                      generalize Go.Sort.grow (redrawn wr3 dq) osq = w12 at *
                      go_wp2_with fail
                      go_roundw
                      case rel => exact ⟨k + 1, L1, by go_num, by omega, by omega, H12.out⟩
                      case measure => simp [intOf]; omega
              · have hnl := hlt
                obtain ⟨vG, vX, hG, hX, _⟩ := HPR.out
                have HRG := Lib.hid (fun W (h : Below wr2.heap.size wr2 W) => hG.keep h)
                have HRX := Lib.hid (fun W (h : Below wr2.heap.size wr2 W) => hX.keep h)
                have hl16 := hG.ok.few
                have HBE := Lib.hid hG.bel
                have HSE := Lib.hid (show ∀ W A9 c9, LiS usE W A9 L → Below wr2.heap.size wr2 W → Calls Try.prog 10 #[.slice A9 L.length c9, vX] W fun e w' => e = .returned (.bool true) ∧ Below W.heap.size W w' from fun W A9 c9 h hb => by
                  obtain ⟨Ab, cb, e, hlb⟩ := (HRX.out W hb).own.slice
                  have h2 := rsame16_any A9 c9 L Ab cb L W h hlb (by omega) (by omega)
                  simp only [decide_true] at h2
                  rw [e]
                  exact h2)
                clear hG hX hl16
                have hend : ¬ (k : Int) < Y.length ∨ (k : Int) < Y.length ∧ ¬ (k : Int) < 200 := by omega
                rcases hend with hz1 | ⟨hz1, hz2⟩
                all_goals
                  go_wp2_with fail
                  refine ord.wp_region_ordT 11 [[], [0], [1], [2], [3, 2], [2], [5, 2], [6, 2], [7, 2], [4, 8, 2], [2, 9]] [(0, 152), (1, 153), (2, 154), (3, 155), (4, 156), (5, 157), (6, 158), (7, 159), (8, 160), (9, 161), (10, 162)] (plE G X L vX) (by kernel_rfl) (by kernel_rfl) (by kernel_rfl) (plE_stays _ _ _ _) ((ord.steps_cons ?_ (ord.steps_cons ?_ (ord.steps_cons ?_ (ord.steps_cons ?_ (ord.steps_cons ?_ (ord.steps_cons ?_ (ord.steps_cons ?_ (ord.steps_cons ?_ (ord.steps_cons ?_ (ord.steps_cons ?_ (ord.steps_cons ?_ ord.steps_nil)))))))))))) ?_
                  --STEPS ple
                  · intro o ho x w hb hG
                    obtain rfl := Option.some.inj ho
                    clear ho
                    refine Or.inl ⟨ord.want0 rfl, ?_⟩
                    exact ord.makes_move rfl ⟨Below.refl _ _, rfl⟩
                  · intro o ho x w hb hG
                    obtain rfl := Option.some.inj ho
                    clear ho
                    have h152 : x 0 = .pointer (some ⟨G, 0, none⟩) := hG (0, 152) (List.mem_of_getElem? (i := 0) rfl) rfl
                    refine Or.inl ⟨ord.want0 rfl, ?_⟩
                    exact ord.makes_bin rfl h152 rfl (by go_simp) ⟨Below.refl _ _, rfl⟩
                  · intro o ho x w hb hG
                    obtain rfl := Option.some.inj ho
                    clear ho
                    have h153 : x 1 = .bool true := hG (1, 153) (List.mem_of_getElem? (i := 1) rfl) rfl
                    refine Or.inl ⟨ord.want0 rfl, ?_⟩
                    exact ord.makes_move rfl ⟨Below.refl _ _, h153⟩
                  · intro o ho x w hb hG
                    obtain rfl := Option.some.inj ho
                    clear ho
                    have h154 : x 2 = .bool true := hG (2, 154) (List.mem_of_getElem? (i := 2) rfl) rfl
                    refine Or.inl ⟨ord.wantG rfl rfl h154, ?_⟩
                    exact ord.makes_move rfl ⟨Below.refl _ _, rfl⟩
                  · intro o ho x w hb hG
                    obtain rfl := Option.some.inj ho
                    clear ho
                    have h155 : x 3 = .pointer (some ⟨G, 0, none⟩) := hG (3, 155) (List.mem_of_getElem? (i := 3) rfl) rfl
                    have h154 : x 2 = .bool true := hG (2, 154) (List.mem_of_getElem? (i := 2) rfl) rfl
                    refine Or.inl ⟨ord.wantG rfl rfl h154, ?_⟩
                    exact ord.makes_call1 Try.func17 (by kernel_rfl) (by kernel_rfl) rfl h155 (clist16_any _ G L vG w (HRG.out w (of_drew hb))) (fun e w' h => by
                      obtain ⟨v9, e1, ho, hb2⟩ := h
                      obtain ⟨A, c, e2, hl⟩ := ho.slice
                      exact ⟨_, e1, hb2, A, c, e2, hl⟩)
                  · intro o ho x w hb hG
                    obtain rfl := Option.some.inj ho
                    clear ho
                    have h154 : x 2 = .bool true := hG (2, 154) (List.mem_of_getElem? (i := 2) rfl) rfl
                    refine Or.inl ⟨ord.wantG rfl rfl h154, ?_⟩
                    exact ord.makes_move rfl ⟨Below.refl _ _, rfl⟩
                  · intro o ho x w hb hG
                    obtain rfl := Option.some.inj ho
                    clear ho
                    have h157 : x 5 = .pointer (some ⟨X, 0, none⟩) := hG (5, 157) (List.mem_of_getElem? (i := 5) rfl) rfl
                    have h154 : x 2 = .bool true := hG (2, 154) (List.mem_of_getElem? (i := 2) rfl) rfl
                    refine Or.inl ⟨ord.wantG rfl rfl h154, ?_⟩
                    exact ord.makes_nilCheck rfl h157 ⟨Below.refl _ _, rfl⟩
                  · intro o ho x w hb hG
                    obtain rfl := Option.some.inj ho
                    clear ho
                    have h158 : x 6 = .pointer (some ⟨X, 0, none⟩) := hG (6, 158) (List.mem_of_getElem? (i := 6) rfl) rfl
                    have h154 : x 2 = .bool true := hG (2, 154) (List.mem_of_getElem? (i := 2) rfl) rfl
                    refine Or.inl ⟨ord.wantG rfl rfl h154, ?_⟩
                    exact ord.makes_fieldAddr rfl h158 (run_fbR X w) ⟨Below.refl _ _, rfl⟩
                  · intro o ho x w hb hG
                    obtain rfl := Option.some.inj ho
                    clear ho
                    have h159 : x 7 = .pointer (some ⟨X, 0, none⟩) := hG (7, 159) (List.mem_of_getElem? (i := 7) rfl) rfl
                    have h154 : x 2 = .bool true := hG (2, 154) (List.mem_of_getElem? (i := 2) rfl) rfl
                    refine Or.inl ⟨ord.wantG rfl rfl h154, ?_⟩
                    exact ord.makes_ld rfl h159 (run_ldV _ _ w (HRX.out w (of_drew hb)).cell) ⟨Below.refl _ _, rfl⟩
                  · intro o ho x w hb hG
                    obtain rfl := Option.some.inj ho
                    clear ho
                    have h156 : plE G X L vX 4 (x 4) w := hG (4, 156) (List.mem_of_getElem? (i := 4) rfl) rfl
                    have h160 : x 8 = vX := hG (8, 160) (List.mem_of_getElem? (i := 8) rfl) rfl
                    have h154 : x 2 = .bool true := hG (2, 154) (List.mem_of_getElem? (i := 2) rfl) rfl
                    refine Or.inl ⟨ord.wantG rfl rfl h154, ?_⟩
                    obtain ⟨A9, c9, e9, hl9⟩ := h156
                    have HSW := HSE.out w A9 c9 hl9 (of_drew hb)
                    exact ord.makes_call2 Try.func10 (by kernel_rfl) (by kernel_rfl) rfl e9 h160 HSW (fun e w' h => ⟨_, h.1, h.2, rfl⟩)
                  · intro o ho x w hb hG
                    obtain rfl := Option.some.inj ho
                    clear ho
                    have h154 : x 2 = .bool true := hG (2, 154) (List.mem_of_getElem? (i := 2) rfl) rfl
                    have h161 : x 9 = .bool true := hG (9, 161) (List.mem_of_getElem? (i := 9) rfl) rfl
                    refine Or.inl ⟨ord.want0 rfl, ?_⟩
                    exact ord.makes_pick rfl h154 ⟨Below.refl _ _, h161⟩
                  --END STEPS ple
                  · intro x w5 hb5 hG
                    have e10 : x 10 = .bool true := hG (10, 162) (List.mem_of_getElem? (i := 10) rfl)
                    clear hG
                    simp only [ord.puts, ord.put', List.set_cons_zero, List.set_cons_succ, if_true]
                    rw [e10]
                    simp only [List.drop_succ_cons, List.drop_zero]
                    have HB5 := Lib.hid (HBE.out.trans (hb5.mono HBE.out.size))
                    clear hb5 e10
                    go_wp2_with fail
                    go_ret
                    exact ⟨rfl, HB5.out⟩
          | false =>
            go_wp2_with fail
            refine (cnew16_any w w6 HB6.out).mono ?_
            rintro e w7 ⟨G, rfl, hg, _, hb7⟩
            have HB7 := HB6.out.trans (hb7.mono HB6.out.size)
            go_wp2_with fail
            refine (rnew16_any w w7 HB7).mono ?_
            rintro e w8 ⟨X, rfl, hx, hX8, hb8⟩
            have HP := Lib.hid (TwoS.new hg hb8 hx (fun k hk => by
              rcases hk with rfl | hk
              · exact hX8
              · cases hk))
            clear hg hx hX8 hb7 hb8 HB7
            go_wp2_with fail
            go_loopw [15] (fun i wr2 => ∃ (k : Nat) (L : List Us), i = .int .i64 k ∧ k ≤ Y.length ∧ k ≤ 200 ∧ TwoS w G X (fun _ => False) wr2 L L) (fun i _ => Y.length - (intOf i).toNat)
            case atStart => exact ⟨0, _, rfl, Nat.zero_le _, Nat.zero_le _, HP.out⟩
            case round =>
              obtain ⟨wr2, hwr2⟩ : ∃ W, W = wr := ⟨_, rfl⟩
              subst hwr2
              obtain ⟨k, L, rfl, hk, hk200, hp⟩ := hrel
              have HPR := Lib.hid hp
              clear hp HP
              by_cases hlt : k < Y.length ∧ k < 200
              · obtain ⟨hl1, hl2⟩ := hlt
                have hki : (k : Int) < Y.length := by omega
                have hk2i : (k : Int) < 200 := by omega
                have hk3 : ¬ (k : Int) < 0 := by omega
                obtain ⟨B, o, rfl, hBl, a0, a1, a2, a3, a4, a5, a6, a7⟩ := ac_at (HACT.out.chgS (ChgS.of_below (S := fun _ => False) HPR.out.bel) (fun _ _ _ h => h)) hl1
                have HXC := Lib.hid (HY.out _ (List.getElem_mem hl1))
                generalize Y[k] = x at *
                obtain ⟨H, hH⟩ : ∃ H, H = wr2.heap.size := ⟨_, rfl⟩
                have hba := alloc_below wr2 (.cells #[.int .i64 x.d, .int .i64 x.r.k, .int .i64 x.r.t, .int .i64 x.r.s, .int .i64 x.r.o, .string x.c, .int .i64 x.a, .int .i64 x.n] 40)
                have HM := Lib.hid (HPR.out.more (T := fun k => k = H) hba (fun k e => by subst e; rw [hH]; exact ⟨Nat.le_refl _, by simp⟩))
                have HH := Lib.hid (show (wr2.alloc (.cells #[.int .i64 x.d, .int .i64 x.r.k, .int .i64 x.r.t, .int .i64 x.r.s, .int .i64 x.r.o, .string x.c, .int .i64 x.a, .int .i64 x.n] 40)).heap[H]? = some (.cells #[.int .i64 x.d, .int .i64 x.r.k, .int .i64 x.r.t, .int .i64 x.r.s, .int .i64 x.r.o, .string x.c, .int .i64 x.a, .int .i64 x.n] 40) from by rw [hH]; exact heap_alloc_new _ _)
                clear hba HPR
                go_wp2_with fail
                rw [← hH]
                clear hH a0 a1 a2 a3 a4 a5 a6 a7 hBl
                refine (HM.out.left (fun v hv => do16c hv x HXC.out)).mono ?_
                rintro e w7 ⟨rfl, h7, hk7⟩
                have HH7 := Lib.hid ((hk7 H (Or.inr rfl)).trans HH.out)
                obtain ⟨b0, b1, b2, b3, b4, b5, b6, b7⟩ := ac_cells HH7.out
                clear HM HH
                by_cases hd : x.d = 1
                · have hdb : (x.d == 1) = true := by simpa using hd
                  have HRE := Lib.hid (show ∀ v, RBk w X w7 L v → Calls Try.prog 15 #[.pointer (some ⟨X, 0, none⟩), ruV x.r, .string x.c, .int .i64 x.a, .int .i64 x.n] w7 fun e w' => e = .returned (.int .i64 (doE L x)) ∧ RkS w X w7 v w' (doN L x) from fun v hv => by
                    unfold doE doN
                    rw [if_pos hd, if_pos hd]
                    exact rundo16_any w X L v x.r x.c x.a x.n w7 hv)
                  go_wp2_with fail
                  refine (TwoS.right h7 HRE.out).mono ?_
                  rintro e w8 ⟨rfl, h8, hk8⟩
                  clear hd hdb b0 b1 b2 b3 b4 b5 b6 b7

                  have HH8 := Lib.hid ((hk8 H (Or.inr rfl)).trans HH7.out)
                  have H8 := Lib.hid h8
                  have HH8L := Lib.hid ((Array.getElem?_eq_some_iff.1 HH8.out).1)
                  clear h8 hk8 h7 hk7 HRE HH7
                  obtain ⟨L1, hL⟩ : ∃ L1, doN L x = L1 := ⟨_, rfl⟩
                  obtain ⟨r, hr⟩ : ∃ r, doE L x = r := ⟨_, rfl⟩
                  rw [hL] at H8
                  rw [hr]
                  clear hL hr
                  obtain ⟨va, _, hva, _⟩ := H8.out
                  go_wp2_with fail
                  refine (clist16_any w G L1 va w8 hva).mono ?_
                  rintro e w9 ⟨v9, rfl, ho9, hb9⟩
                  have H9 := H8.out.below hb9
                  obtain ⟨_, vb, _, hvb, _⟩ := H9
                  obtain ⟨A9, c9, rfl, hl9⟩ := ho9.slice
                  obtain ⟨Ab, cb, rfl, hlb⟩ := hvb.own.slice
                  have hcb := hvb.cell
                  have hl16 := hva.ok.few
                  have HSM := rsame16_any A9 c9 L1 Ab cb L1 w9 hl9 hlb (by omega) (by omega)
                  simp only [decide_true] at HSM
                  clear hva hvb hl9 hlb hl16
                  go_wp2_with fail
                  refine HSM.mono ?_
                  rintro e w10 ⟨rfl, hb10⟩
                  clear HSM hcb

                  have HV9 := Lib.hid (show ∀ k, (Value.slice A9 L1.length c9).ownBlock = some k → w8.heap.size ≤ k ∧ k < w9.heap.size from fun k hk => ho9.lt k hk)
                  have HO10 := Lib.hid (ho9.keep hb10)
                  have H10 := Lib.hid (H8.out.more (T := fun k => (Value.slice A9 L1.length c9).ownBlock = some k) (hb9.trans (hb10.mono hb9.size)) (fun k hk => ⟨(HV9.out k hk).1, Nat.lt_of_lt_of_le (HV9.out k hk).2 hb10.size⟩))
                  have HH10 := Lib.hid (((hb9.trans (hb10.mono hb9.size)).block _ (Array.getElem?_eq_some_iff.1 HH8.out).1).trans HH8.out)
                  have HL1 := Lib.hid (show L1.length ≤ 16 from by
                    obtain ⟨_, _, q, _⟩ := H8.out
                    exact q.ok.few)
                  have hL1 : (L1.length : Int) ≤ 16 := by have := HL1.out; omega
                  clear hb9 hb10 ho9 H8
                  go_wp2_with fail
                  go_loopw [21] (fun i wr3 => ∃ (j : Nat) (F' : List Us), j ≤ L1.length ∧ i = .int .i64 j ∧ F'.length = L1.length ∧ OwL usE 31 wr3 w8.heap.size (.slice A9 L1.length c9) F' ∧ ChgS (fun k => (Value.slice A9 L1.length c9).ownBlock = some k) w10 wr3) (fun i _ => L1.length - (intOf i).toNat)
                  case atStart => exact ⟨0, L1, Nat.zero_le _, rfl, rfl, HO10.out, ChgS.refl _ _⟩
                  case round =>
                    obtain ⟨wr3, hwr3⟩ : ∃ W, W = wr := ⟨_, rfl⟩
                    subst hwr3
                    obtain ⟨j, F', hj, rfl, hlF', ho, hc⟩ := hrel
                    have HO := Lib.hid ho
                    have HC := Lib.hid hc
                    clear ho hc HO10
                    by_cases hlt : j < L1.length
                    · have hAg : ∃ g, A9 = some ⟨g, 0, none⟩ := by
                        obtain ⟨g, c', e, _, _, _⟩ := HO.out.lies (by omega)
                        injection e with e1 _ _
                        exact ⟨g, e1⟩
                      obtain ⟨g, rfl⟩ := hAg
                      have hjF : j < F'.length := by omega
                      have hji : (j : Int) < L1.length := by omega
                      have hj0 : ¬ (j : Int) < 0 := by omega
                      obtain ⟨⟨k0, l0⟩, ⟨k1, l1⟩, ⟨k2, l2⟩, ⟨k3, l3⟩⟩ := own_facts HO.out (k := j) hjF (.string spS) (.int .i64 0) (.int .i64 0)
                      have HOS := Lib.hid (own_set4 HO.out hlF'.symm hjF spU)
                      have HCS := Lib.hid (chg_four HC.out (g := g) (k := j) rfl (.string spS) (.int .i64 0) (.int .i64 0) (.int .i64 0))
                      have HLS := Lib.hid (show (F'.set j spU).length = L1.length by rw [List.length_set]; exact hlF')
                      generalize F'[j] = y at k0 k1 k2 k3
                      clear hlF' hjF
                      go_wp2_with fail
                      go_roundw
                      case rel => exact ⟨j + 1, F'.set j spU, by omega, by go_num, HLS.out, HOS.out, HCS.out⟩
                      case measure => simp [intOf]; omega
                    · obtain rfl : j = L1.length := by omega
                      have H11 := Lib.hid (H10.out.chg HC.out (fun k hk => Or.inr hk))
                      have HH11 := Lib.hid ((HC.out.block _ (Array.getElem?_eq_some_iff.1 HH10.out).1 (fun e => by
                        have h1 := (HV9.out _ e).1
                        have h2 := HH8L.out
                        omega)).trans HH10.out)
                      obtain ⟨b0, b1, b2, b3, b4, b5, b6, b7⟩ := ac_cells HH11.out
                      have k1 := cell_regrown b1
                      have k2 := cell_regrown b2
                      have k3 := cell_regrown b3
                      have k4 := cell_regrown b4
                      have cA := fun d os => Calls.regrown_of (cright_any x.r.k x.r.t x.r.s x.r.o (Go.Sort.grow (redrawn wr3 d) os))
                      have cB := fun d os => Calls.regrown_of (rright16_any x.r (Go.Sort.grow (redrawn wr3 d) os))
                      have hre : rlK ⟨x.r.k, x.r.t, x.r.s, x.r.o⟩ = rlK x.r := rfl
                      simp only [hre] at cA
                      have hbb : (rlK x.r != rlK x.r) = false := by simp
                      have hrr : (r != r) = false := by simp
                      clear hre b0 b1 b2 b3 b4 b5 b6 b7
                      generalize rlK x.r = bR at *
                      go_wp2_with fail
                      refine wp_region_quiet_below (by kernel_rfl) (by kernel_rfl) ?_
                      repeat (quiet_step (first | (with_reducible exact cA _ _) | (with_reducible exact cB _ _)))
                      refine wpQuiet_nil ?_
                      intro _ hw'
                      obtain ⟨⟨dq, osq⟩, hw''⟩ := hw'
                      subst hw''
                      have H12 := Lib.hid ((H11.out.below (below_regrown wr3 dq osq)).less (T := fun _ => False) (fun _ h => absurd h id))
                      clear k1 k2 k3 k4 cA cB
                      generalize Go.Sort.grow (redrawn wr3 dq) osq = w12 at *
                      go_wp2_with fail
                      go_roundw
                      case rel => exact ⟨k + 1, L1, by go_num, by omega, by omega, H12.out⟩
                      case measure => simp [intOf]; omega
                · have hdb : (x.d == 1) = false := by simpa using hd
                  have HRE := Lib.hid (show ∀ v, RBk w X w7 L v → Calls Try.prog 16 #[.pointer (some ⟨X, 0, none⟩), ruV x.r, .string x.c, .int .i64 x.a, .int .i64 x.n] w7 fun e w' => e = .returned (.int .i64 (doE L x)) ∧ RkS w X w7 v w' (doN L x) from fun v hv => by
                    unfold doE doN
                    rw [if_neg hd, if_neg hd]
                    exact rtry16_any w X L v x.r x.c x.a x.n w7 hv)
                  go_wp2_with fail
                  refine (TwoS.right h7 HRE.out).mono ?_
                  rintro e w8 ⟨rfl, h8, hk8⟩
                  clear hd hdb b0 b1 b2 b3 b4 b5 b6 b7

                  have HH8 := Lib.hid ((hk8 H (Or.inr rfl)).trans HH7.out)
                  have H8 := Lib.hid h8
                  have HH8L := Lib.hid ((Array.getElem?_eq_some_iff.1 HH8.out).1)
                  clear h8 hk8 h7 hk7 HRE HH7
                  obtain ⟨L1, hL⟩ : ∃ L1, doN L x = L1 := ⟨_, rfl⟩
                  obtain ⟨r, hr⟩ : ∃ r, doE L x = r := ⟨_, rfl⟩
                  rw [hL] at H8
                  rw [hr]
                  clear hL hr
                  obtain ⟨va, _, hva, _⟩ := H8.out
                  go_wp2_with fail
                  refine (clist16_any w G L1 va w8 hva).mono ?_
                  rintro e w9 ⟨v9, rfl, ho9, hb9⟩
                  have H9 := H8.out.below hb9
                  obtain ⟨_, vb, _, hvb, _⟩ := H9
                  obtain ⟨A9, c9, rfl, hl9⟩ := ho9.slice
                  obtain ⟨Ab, cb, rfl, hlb⟩ := hvb.own.slice
                  have hcb := hvb.cell
                  have hl16 := hva.ok.few
                  have HSM := rsame16_any A9 c9 L1 Ab cb L1 w9 hl9 hlb (by omega) (by omega)
                  simp only [decide_true] at HSM
                  clear hva hvb hl9 hlb hl16
                  go_wp2_with fail
                  refine HSM.mono ?_
                  rintro e w10 ⟨rfl, hb10⟩
                  clear HSM hcb

                  have HV9 := Lib.hid (show ∀ k, (Value.slice A9 L1.length c9).ownBlock = some k → w8.heap.size ≤ k ∧ k < w9.heap.size from fun k hk => ho9.lt k hk)
                  have HO10 := Lib.hid (ho9.keep hb10)
                  have H10 := Lib.hid (H8.out.more (T := fun k => (Value.slice A9 L1.length c9).ownBlock = some k) (hb9.trans (hb10.mono hb9.size)) (fun k hk => ⟨(HV9.out k hk).1, Nat.lt_of_lt_of_le (HV9.out k hk).2 hb10.size⟩))
                  have HH10 := Lib.hid (((hb9.trans (hb10.mono hb9.size)).block _ (Array.getElem?_eq_some_iff.1 HH8.out).1).trans HH8.out)
                  have HL1 := Lib.hid (show L1.length ≤ 16 from by
                    obtain ⟨_, _, q, _⟩ := H8.out
                    exact q.ok.few)
                  have hL1 : (L1.length : Int) ≤ 16 := by have := HL1.out; omega
                  clear hb9 hb10 ho9 H8
                  go_wp2_with fail
                  go_loopw [21] (fun i wr3 => ∃ (j : Nat) (F' : List Us), j ≤ L1.length ∧ i = .int .i64 j ∧ F'.length = L1.length ∧ OwL usE 31 wr3 w8.heap.size (.slice A9 L1.length c9) F' ∧ ChgS (fun k => (Value.slice A9 L1.length c9).ownBlock = some k) w10 wr3) (fun i _ => L1.length - (intOf i).toNat)
                  case atStart => exact ⟨0, L1, Nat.zero_le _, rfl, rfl, HO10.out, ChgS.refl _ _⟩
                  case round =>
                    obtain ⟨wr3, hwr3⟩ : ∃ W, W = wr := ⟨_, rfl⟩
                    subst hwr3
                    obtain ⟨j, F', hj, rfl, hlF', ho, hc⟩ := hrel
                    have HO := Lib.hid ho
                    have HC := Lib.hid hc
                    clear ho hc HO10
                    by_cases hlt : j < L1.length
                    · have hAg : ∃ g, A9 = some ⟨g, 0, none⟩ := by
                        obtain ⟨g, c', e, _, _, _⟩ := HO.out.lies (by omega)
                        injection e with e1 _ _
                        exact ⟨g, e1⟩
                      obtain ⟨g, rfl⟩ := hAg
                      have hjF : j < F'.length := by omega
                      have hji : (j : Int) < L1.length := by omega
                      have hj0 : ¬ (j : Int) < 0 := by omega
                      obtain ⟨⟨k0, l0⟩, ⟨k1, l1⟩, ⟨k2, l2⟩, ⟨k3, l3⟩⟩ := own_facts HO.out (k := j) hjF (.string spS) (.int .i64 0) (.int .i64 0)
                      have HOS := Lib.hid (own_set4 HO.out hlF'.symm hjF spU)
                      have HCS := Lib.hid (chg_four HC.out (g := g) (k := j) rfl (.string spS) (.int .i64 0) (.int .i64 0) (.int .i64 0))
                      have HLS := Lib.hid (show (F'.set j spU).length = L1.length by rw [List.length_set]; exact hlF')
                      generalize F'[j] = y at k0 k1 k2 k3
                      clear hlF' hjF
                      go_wp2_with fail
                      go_roundw
                      case rel => exact ⟨j + 1, F'.set j spU, by omega, by go_num, HLS.out, HOS.out, HCS.out⟩
                      case measure => simp [intOf]; omega
                    · obtain rfl : j = L1.length := by omega
                      have H11 := Lib.hid (H10.out.chg HC.out (fun k hk => Or.inr hk))
                      have HH11 := Lib.hid ((HC.out.block _ (Array.getElem?_eq_some_iff.1 HH10.out).1 (fun e => by
                        have h1 := (HV9.out _ e).1
                        have h2 := HH8L.out
                        omega)).trans HH10.out)
                      obtain ⟨b0, b1, b2, b3, b4, b5, b6, b7⟩ := ac_cells HH11.out
                      have k1 := cell_regrown b1
                      have k2 := cell_regrown b2
                      have k3 := cell_regrown b3
                      have k4 := cell_regrown b4
                      have cA := fun d os => Calls.regrown_of (cright_any x.r.k x.r.t x.r.s x.r.o (Go.Sort.grow (redrawn wr3 d) os))
                      have cB := fun d os => Calls.regrown_of (rright16_any x.r (Go.Sort.grow (redrawn wr3 d) os))
                      have hre : rlK ⟨x.r.k, x.r.t, x.r.s, x.r.o⟩ = rlK x.r := rfl
                      simp only [hre] at cA
                      have hbb : (rlK x.r != rlK x.r) = false := by simp
                      have hrr : (r != r) = false := by simp
                      clear hre b0 b1 b2 b3 b4 b5 b6 b7
                      generalize rlK x.r = bR at *
                      go_wp2_with fail
                      refine wp_region_quiet_below (by kernel_rfl) (by kernel_rfl) ?_
                      repeat (quiet_step (first | (with_reducible exact cA _ _) | (with_reducible exact cB _ _)))
                      refine wpQuiet_nil ?_
                      intro _ hw'
                      obtain ⟨⟨dq, osq⟩, hw''⟩ := hw'
                      subst hw''
                      have H12 := Lib.hid ((H11.out.below (below_regrown wr3 dq osq)).less (T := fun _ => False) (fun _ h => absurd h id))
                      clear k1 k2 k3 k4 cA cB
                      generalize Go.Sort.grow (redrawn wr3 dq) osq = w12 at *
                      go_wp2_with fail
                      go_roundw
                      case rel => exact ⟨k + 1, L1, by go_num, by omega, by omega, H12.out⟩
                      case measure => simp [intOf]; omega
              · have hnl := hlt
                obtain ⟨vG, vX, hG, hX, _⟩ := HPR.out
                have HRG := Lib.hid (fun W (h : Below wr2.heap.size wr2 W) => hG.keep h)
                have HRX := Lib.hid (fun W (h : Below wr2.heap.size wr2 W) => hX.keep h)
                have hl16 := hG.ok.few
                have HBE := Lib.hid hG.bel
                have HSE := Lib.hid (show ∀ W A9 c9, LiS usE W A9 L → Below wr2.heap.size wr2 W → Calls Try.prog 10 #[.slice A9 L.length c9, vX] W fun e w' => e = .returned (.bool true) ∧ Below W.heap.size W w' from fun W A9 c9 h hb => by
                  obtain ⟨Ab, cb, e, hlb⟩ := (HRX.out W hb).own.slice
                  have h2 := rsame16_any A9 c9 L Ab cb L W h hlb (by omega) (by omega)
                  simp only [decide_true] at h2
                  rw [e]
                  exact h2)
                clear hG hX hl16
                have hend : ¬ (k : Int) < Y.length ∨ (k : Int) < Y.length ∧ ¬ (k : Int) < 200 := by omega
                rcases hend with hz1 | ⟨hz1, hz2⟩
                all_goals
                  go_wp2_with fail
                  refine ord.wp_region_ordT 11 [[], [0], [1], [2], [3, 2], [2], [5, 2], [6, 2], [7, 2], [4, 8, 2], [2, 9]] [(0, 152), (1, 153), (2, 154), (3, 155), (4, 156), (5, 157), (6, 158), (7, 159), (8, 160), (9, 161), (10, 162)] (plE G X L vX) (by kernel_rfl) (by kernel_rfl) (by kernel_rfl) (plE_stays _ _ _ _) ((ord.steps_cons ?_ (ord.steps_cons ?_ (ord.steps_cons ?_ (ord.steps_cons ?_ (ord.steps_cons ?_ (ord.steps_cons ?_ (ord.steps_cons ?_ (ord.steps_cons ?_ (ord.steps_cons ?_ (ord.steps_cons ?_ (ord.steps_cons ?_ ord.steps_nil)))))))))))) ?_
                  --STEPS ple
                  · intro o ho x w hb hG
                    obtain rfl := Option.some.inj ho
                    clear ho
                    refine Or.inl ⟨ord.want0 rfl, ?_⟩
                    exact ord.makes_move rfl ⟨Below.refl _ _, rfl⟩
                  · intro o ho x w hb hG
                    obtain rfl := Option.some.inj ho
                    clear ho
                    have h152 : x 0 = .pointer (some ⟨G, 0, none⟩) := hG (0, 152) (List.mem_of_getElem? (i := 0) rfl) rfl
                    refine Or.inl ⟨ord.want0 rfl, ?_⟩
                    exact ord.makes_bin rfl h152 rfl (by go_simp) ⟨Below.refl _ _, rfl⟩
                  · intro o ho x w hb hG
                    obtain rfl := Option.some.inj ho
                    clear ho
                    have h153 : x 1 = .bool true := hG (1, 153) (List.mem_of_getElem? (i := 1) rfl) rfl
                    refine Or.inl ⟨ord.want0 rfl, ?_⟩
                    exact ord.makes_move rfl ⟨Below.refl _ _, h153⟩
                  · intro o ho x w hb hG
                    obtain rfl := Option.some.inj ho
                    clear ho
                    have h154 : x 2 = .bool true := hG (2, 154) (List.mem_of_getElem? (i := 2) rfl) rfl
                    refine Or.inl ⟨ord.wantG rfl rfl h154, ?_⟩
                    exact ord.makes_move rfl ⟨Below.refl _ _, rfl⟩
                  · intro o ho x w hb hG
                    obtain rfl := Option.some.inj ho
                    clear ho
                    have h155 : x 3 = .pointer (some ⟨G, 0, none⟩) := hG (3, 155) (List.mem_of_getElem? (i := 3) rfl) rfl
                    have h154 : x 2 = .bool true := hG (2, 154) (List.mem_of_getElem? (i := 2) rfl) rfl
                    refine Or.inl ⟨ord.wantG rfl rfl h154, ?_⟩
                    exact ord.makes_call1 Try.func17 (by kernel_rfl) (by kernel_rfl) rfl h155 (clist16_any _ G L vG w (HRG.out w (of_drew hb))) (fun e w' h => by
                      obtain ⟨v9, e1, ho, hb2⟩ := h
                      obtain ⟨A, c, e2, hl⟩ := ho.slice
                      exact ⟨_, e1, hb2, A, c, e2, hl⟩)
                  · intro o ho x w hb hG
                    obtain rfl := Option.some.inj ho
                    clear ho
                    have h154 : x 2 = .bool true := hG (2, 154) (List.mem_of_getElem? (i := 2) rfl) rfl
                    refine Or.inl ⟨ord.wantG rfl rfl h154, ?_⟩
                    exact ord.makes_move rfl ⟨Below.refl _ _, rfl⟩
                  · intro o ho x w hb hG
                    obtain rfl := Option.some.inj ho
                    clear ho
                    have h157 : x 5 = .pointer (some ⟨X, 0, none⟩) := hG (5, 157) (List.mem_of_getElem? (i := 5) rfl) rfl
                    have h154 : x 2 = .bool true := hG (2, 154) (List.mem_of_getElem? (i := 2) rfl) rfl
                    refine Or.inl ⟨ord.wantG rfl rfl h154, ?_⟩
                    exact ord.makes_nilCheck rfl h157 ⟨Below.refl _ _, rfl⟩
                  · intro o ho x w hb hG
                    obtain rfl := Option.some.inj ho
                    clear ho
                    have h158 : x 6 = .pointer (some ⟨X, 0, none⟩) := hG (6, 158) (List.mem_of_getElem? (i := 6) rfl) rfl
                    have h154 : x 2 = .bool true := hG (2, 154) (List.mem_of_getElem? (i := 2) rfl) rfl
                    refine Or.inl ⟨ord.wantG rfl rfl h154, ?_⟩
                    exact ord.makes_fieldAddr rfl h158 (run_fbR X w) ⟨Below.refl _ _, rfl⟩
                  · intro o ho x w hb hG
                    obtain rfl := Option.some.inj ho
                    clear ho
                    have h159 : x 7 = .pointer (some ⟨X, 0, none⟩) := hG (7, 159) (List.mem_of_getElem? (i := 7) rfl) rfl
                    have h154 : x 2 = .bool true := hG (2, 154) (List.mem_of_getElem? (i := 2) rfl) rfl
                    refine Or.inl ⟨ord.wantG rfl rfl h154, ?_⟩
                    exact ord.makes_ld rfl h159 (run_ldV _ _ w (HRX.out w (of_drew hb)).cell) ⟨Below.refl _ _, rfl⟩
                  · intro o ho x w hb hG
                    obtain rfl := Option.some.inj ho
                    clear ho
                    have h156 : plE G X L vX 4 (x 4) w := hG (4, 156) (List.mem_of_getElem? (i := 4) rfl) rfl
                    have h160 : x 8 = vX := hG (8, 160) (List.mem_of_getElem? (i := 8) rfl) rfl
                    have h154 : x 2 = .bool true := hG (2, 154) (List.mem_of_getElem? (i := 2) rfl) rfl
                    refine Or.inl ⟨ord.wantG rfl rfl h154, ?_⟩
                    obtain ⟨A9, c9, e9, hl9⟩ := h156
                    have HSW := HSE.out w A9 c9 hl9 (of_drew hb)
                    exact ord.makes_call2 Try.func10 (by kernel_rfl) (by kernel_rfl) rfl e9 h160 HSW (fun e w' h => ⟨_, h.1, h.2, rfl⟩)
                  · intro o ho x w hb hG
                    obtain rfl := Option.some.inj ho
                    clear ho
                    have h154 : x 2 = .bool true := hG (2, 154) (List.mem_of_getElem? (i := 2) rfl) rfl
                    have h161 : x 9 = .bool true := hG (9, 161) (List.mem_of_getElem? (i := 9) rfl) rfl
                    refine Or.inl ⟨ord.want0 rfl, ?_⟩
                    exact ord.makes_pick rfl h154 ⟨Below.refl _ _, h161⟩
                  --END STEPS ple
                  · intro x w5 hb5 hG
                    have e10 : x 10 = .bool true := hG (10, 162) (List.mem_of_getElem? (i := 10) rfl)
                    clear hG
                    simp only [ord.puts, ord.put', List.set_cons_zero, List.set_cons_succ, if_true]
                    rw [e10]
                    simp only [List.drop_succ_cons, List.drop_zero]
                    have HB5 := Lib.hid (HBE.out.trans (hb5.mono HBE.out.size))
                    clear hb5 e10
                    go_wp2_with fail
                    go_ret
                    exact ⟨rfl, HB5.out⟩
end Go.Proofs.Ytbcanfhjdllaoaa
