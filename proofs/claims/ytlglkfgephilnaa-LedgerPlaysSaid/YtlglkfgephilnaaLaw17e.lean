/- Law LedgerPlays (layer 17). Written by specs/mklaw17e.py. -/
import Derived.Test.YtlglkfgephilnaaLedT
import Derived.Test.YtlglkfgephilnaaActs17
import Derived.Test.YtlglkfgephilnaaRef17V
import Derived.Test.YtlglkfgephilnaaLedI
namespace Go.Proofs.Ytlglkfgephilnaa
set_option maxRecDepth 100000
open Go.RowKit
/-- what the code's Restore tells, parted later -/
def ResL (w w2 w3 : World) (F : List Po) (pb : Value) (eb : Int) : Prop :=
  (LgOk F ∧ eb = 0 ∧ ∃ G LA O, pb = .pointer (some ⟨G, 0, none⟩) ∧ LgKit w G LA ∧ LA w3 F O ∧ ∀ k, O k → w2.heap.size ≤ k) ∨ (¬ LgOk F ∧ eb = 1 ∧ pb = .pointer none)
/-- both ledgers while both Approve calls are under way, in whatever order: na the code's, nb the document's -/
def JT (u : World) (LA : World → List Po → (Nat → Prop) → Prop) (X : Nat) (S : Nat → Prop) (w0 : World) (L L' : List Po) (na nb : Nat) (c : Nat → Option Value) (w : World) : Prop :=
  TwoG u LA X S w0 w (if (c na).isSome = true then L' else L) (if (c nb).isSome = true then L' else L)
section
variable {u w0 w : World} {G X na nb : Nat} {LA : World → List Po → (Nat → Prop) → Prop} {S : Nat → Prop} {L L' : List Po} {c : Nat → Option Value} {f : FuncId} {args : Array Value} {r : Value}
theorem TwoG.lt_of {M : List Po} (h : TwoG u LA X S w0 w L M) {k : Nat} (hk : S k) : k < w.heap.size := by
  obtain ⟨_, _, _, _, _, h4⟩ := h
  exact (h4 k hk).2.1
theorem JT.start (hK : LgKit u G LA) (h : TwoG u LA X S w0 w L L) : JT u LA X S w0 L L' na nb (fun _ => none) w.drew := h.below hK (Below.refl _ w).drew
theorem JT.keep (h : JT u LA X S w0 L L' na nb c w) {i : Nat} (h1 : i ≠ na) (h2 : i ≠ nb) (y : Value) : JT u LA X S w0 L L' na nb (ord.updZ c i y) w := by
  have e1 : ord.updZ c i y na = c na := if_neg (Ne.symm h1)
  have e2 : ord.updZ c i y nb = c nb := if_neg (Ne.symm h2)
  unfold JT
  rw [e1, e2]
  exact h
theorem JT.held (h : JT u LA X S w0 L L' na nb c w) {k : Nat} (hk : S k) : w.heap[k]? = w0.heap[k]? := TwoG.held h hk
theorem JT.left (hK : LgKit u G LA) (h : JT u LA X S w0 L L' na nb c w) (hn : c na = none) (hab : na ≠ nb) (hc : ∀ O, LA w L O → Calls Try.prog f args w fun e w' => e = .returned r ∧ LgStep LA w O w' L') :
    Calls Try.prog f args w fun e w' => e = .returned r ∧ JT u LA X S w0 L L' na nb (ord.updZ c na r) w' := by
  unfold JT at h
  rw [hn, if_neg (by decide)] at h
  refine (h.left hK hc).mono fun e w' ⟨he, h2⟩ => ⟨he, ?_⟩
  have e1 : ord.updZ c na r na = some r := if_pos rfl
  have e2 : ord.updZ c na r nb = c nb := if_neg (Ne.symm hab)
  unfold JT
  rw [e1, e2, if_pos (show (some r).isSome = true from rfl)]
  exact h2
theorem JT.right (hK : LgKit u G LA) (h : JT u LA X S w0 L L' na nb c w) (hn : c nb = none) (hab : na ≠ nb) (hc : ∀ v, RLg u X w L v → Calls Try.prog f args w fun e w' => e = .returned r ∧ LkS u X w v w' L') :
    Calls Try.prog f args w fun e w' => e = .returned r ∧ JT u LA X S w0 L L' na nb (ord.updZ c nb r) w' := by
  unfold JT at h
  rw [hn, if_neg (show ¬ (none : Option Value).isSome = true by decide)] at h
  refine (h.right hK hc).mono fun e w' ⟨he, h2⟩ => ⟨he, ?_⟩
  have e1 : ord.updZ c nb r na = c na := if_neg hab
  have e2 : ord.updZ c nb r nb = some r := if_pos rfl
  unfold JT
  rw [e1, e2, if_pos (show (some r).isSome = true from rfl)]
  exact h2
theorem JT.done (h : JT u LA X S w0 L L' na nb c w) {y z : Value} (h1 : c na = some y) (h2 : c nb = some z) : TwoG u LA X S w0 w L' L' := by
  unfold JT at h
  rw [h1, h2, if_pos (show (some y).isSome = true from rfl), if_pos (show (some z).isSome = true from rfl)] at h
  exact h
end
/-- what the operations of that region give -/
def plR (G X H : Nat) (k : ByteArray) (a : Int) (t : ByteArray) (r : Int) : Nat → Value → Prop
  | 0, y => y = .pointer (some ⟨G, 0, none⟩)
  | 1, y => y = .pointer (some ⟨H, 1, none⟩)
  | 2, y => y = .string k
  | 3, y => y = .pointer (some ⟨H, 3, none⟩)
  | 4, y => y = .int .i64 a
  | 5, y => y = .pointer (some ⟨H, 2, none⟩)
  | 6, y => y = .string t
  | 7, y => y = .int .i64 r
  | 8, y => y = .pointer (some ⟨X, 0, none⟩)
  | 9, y => y = .pointer (some ⟨H, 1, none⟩)
  | 10, y => y = .string k
  | 11, y => y = .pointer (some ⟨H, 3, none⟩)
  | 12, y => y = .int .i64 a
  | 13, y => y = .pointer (some ⟨H, 2, none⟩)
  | 14, y => y = .string t
  | 15, y => y = .int .i64 r
  | _, _ => True
theorem run_flA1 (H : Nat) (w : World) : (Instr.fieldAt 38 (.pointer (some ⟨H, 0, none⟩)) 1).run Try.prog w = .ok (.pointer (some ⟨H, 1, none⟩)) w := by go_simp
theorem run_flA2 (H : Nat) (w : World) : (Instr.fieldAt 38 (.pointer (some ⟨H, 0, none⟩)) 2).run Try.prog w = .ok (.pointer (some ⟨H, 2, none⟩)) w := by go_simp
theorem run_flA3 (H : Nat) (w : World) : (Instr.fieldAt 38 (.pointer (some ⟨H, 0, none⟩)) 3).run Try.prog w = .ok (.pointer (some ⟨H, 3, none⟩)) w := by go_simp
theorem run_ldI17 (A : Addr) (a : Int) (w : World) (h : w.cell? A = some (.int .i64 a)) : (Instr.loadAt 3 (.pointer (some A))).run Try.prog w = .ok (.int .i64 a) w := by go_simp
theorem makes_callX4 {P : Program} {o : Oper} {a : Act} {w : World} {N : Value → World → Prop} {F : FuncId} {fn : Func} {o1 o2 o3 o4 : Operand} {ts : Array TypeId} {v1 v2 v3 v4 : Value} {post : Ending → World → Prop} (hf : P.funcs[F]? = some fn) (hname : (fn.name == "runtime.NumGoroutine") = false) (hb : fn.body.isNone = false)
    (ho : o.op = .call { callee := .value (.func F), args := #[o1, o2, o3, o4], argTypes := ts }) (h1 : a.eval o1 = v1) (h2 : a.eval o2 = v2) (h3 : a.eval o3 = v3) (h4 : a.eval o4 = v4) (hc : Calls P F #[v1, v2, v3, v4] w post) (hN : ∀ e w', post e w' → ∃ v, e = .returned v ∧ N v w') : ord.makes P o a w N :=
  ord.makes_call hf hname hb ho (by simp [h1, h2, h3, h4]) hc hN
set_option maxHeartbeats 12800000 in
theorem plays17_any (A : Option Addr) (cA : Nat) (F : List Po) (fresh : Bool) (Az : Option Addr) (cz : Nat) (Y : List Ap) (w : World) (hF : LiS poE w A F) (hnil : A = none → F.length = 0 ∧ cA = 0) (h48 : F.length * 48 ≤ 140737488351232)
    (hact : LiS apEnc w Az Y) (hY : ∀ x ∈ Y, x.k.size ≤ maxLen ∧ x.t.size ≤ maxLen) :
    Calls Try.prog 3 #[.slice A F.length cA, .bool fresh, .slice Az Y.length cz] w fun e w' => e = .returned (.bool true) ∧ Below w.heap.size w w' := by
  have HS := Lib.hid (small17_any lgnew w)
  have HF := Lib.hid hF
  have HNIL := Lib.hid hnil
  have HACT := Lib.hid hact
  have HY := Lib.hid hY
  have H48 := Lib.hid h48
  have hlF : (F.length : Int) ≤ 2932031007403 := by omega
  clear hF hnil hact hY h48
  go_enter Try.func3, Try.ntmps3
  go_wp2_with fail
  refine HS.out.mono ?_
  rintro e w1 ⟨rfl, hb1⟩
  have HB1 := Lib.hid hb1
  have ho0 := World.ownsRow_lit (base := w.heap.size) (e := 31) (size := 4) w1 #[] 0 hb1.size (by decide) rfl
  have hb2 := HB1.out.trans ((alloc_below w1 (.cells #[] 31)).mono HB1.out.size)
  obtain ⟨A2, c2, w2, hr2, ho2, _, _, hb3⟩ := run_appL poTy (w1.alloc (.cells #[] 31)) w.heap.size _ [] ho0 A cA F (HF.out.chgS (ChgS.of_below (S := fun _ => False) hb2) (fun _ _ _ h => h)) HNIL.out (by have := H48.out; simp only [List.length_nil]; omega) (by simp only [List.length_nil]; omega) hb2.size
  rw [List.length_nil, Nat.zero_add] at hr2 ho2
  rw [List.nil_append] at ho2
  have HR2 := Lib.hid hr2
  have HO2 := Lib.hid ho2
  have HB2 := Lib.hid (hb2.trans hb3)
  clear hb1 ho0 hb2 hr2 ho2 hb3 HS
  go_wp2_with (at_builtin; refine wpList_runL (.tmp 27) (.tmp 28) rfl rfl rfl rfl rfl HR2.out ?_)
  have hl2 : LiS poE w2 A2 F := by
    obtain ⟨_, _, e, h⟩ := HO2.out.slice
    injection e with e1 _ _
    rw [e1]; exact h
  have HV2 := Lib.hid (show ∀ k, (Value.slice A2 F.length c2).ownBlock = some k → w.heap.size ≤ k ∧ k < w2.heap.size from fun k hk => HO2.out.lt k hk)
  refine (cres17_any w A2 c2 F w2 HB2.out hl2 (by omega)).mono ?_
  rintro e w3 ⟨hb4, hres⟩
  obtain ⟨pb, eb, rfl, hrc⟩ : ∃ pb eb, e = .returned (.tuple #[pb, .int .i64 eb]) ∧ ResL w w2 w3 F pb eb := by
    rcases hres with ⟨h1, G, B, v, h2, h3, h4⟩ | ⟨h1, h2⟩
    · exact ⟨_, _, h2, Or.inl ⟨h1, rfl, G, TLg w G B, fun k => k = G ∨ k = B ∨ v.ownBlock = some k, rfl, lgkit w G B, ⟨v, h3, fun _ => Iff.rfl⟩, h4⟩⟩
    · exact ⟨_, _, h2, Or.inr ⟨h1, rfl, rfl⟩⟩
  have HB3 := Lib.hid (HB2.out.trans (hb4.mono HB2.out.size))
  have HRC := Lib.hid hrc
  clear hrc hres
  have HO3 := Lib.hid (HO2.out.keep hb4)
  have HZ := Lib.hid hb4.size
  have HSM := Lib.hid (rsame17_any A2 c2 F A cA F w3 (hl2.keep hb4) (HF.out.chgS (ChgS.of_below (S := fun _ => False) HB3.out) (fun _ _ _ h => h)) (by omega) (by omega))
  simp only [decide_true] at HSM
  clear hb4 HR2 hl2 HO2
  go_wp2_with fail
  refine HSM.out.mono ?_
  rintro e w4 ⟨rfl, hb5⟩
  have HB4 := Lib.hid (HB3.out.trans (hb5.mono HB3.out.size))
  have HO4 := Lib.hid (HO3.out.keep hb5)
  have HB34 := Lib.hid hb5
  clear hb5 HSM HO3
  go_wp2_with fail
  go_loopw [12] (fun i wr => ∃ (j : Nat) (F' : List Po), j ≤ F.length ∧ i = .int .i64 j ∧ F'.length = F.length ∧ OwL poE 31 wr w.heap.size (.slice A2 F.length c2) F' ∧ ChgS (fun k => (Value.slice A2 F.length c2).ownBlock = some k) w4 wr) (fun i _ => F.length - (intOf i).toNat)
  case atStart => exact ⟨0, F, Nat.zero_le _, rfl, rfl, HO4.out, ChgS.refl _ _⟩
  case round =>
    obtain ⟨j, F', hj, rfl, hlF', ho, hc⟩ := hrel
    have HO := Lib.hid ho
    have HC := Lib.hid hc
    have HLF := Lib.hid hlF'
    clear ho hc HO4
    by_cases hlt : j < F.length
    · have hAg : ∃ g, A2 = some ⟨g, 0, none⟩ := by
        obtain ⟨g, c', e, _, _, _⟩ := HO.out.lies (by omega)
        injection e with e1 _ _
        exact ⟨g, e1⟩
      obtain ⟨g, rfl⟩ := hAg
      have hjF : j < F'.length := by omega
      have hji : (j : Int) < F.length := by omega
      have hj0 : ¬ (j : Int) < 0 := by omega
      obtain ⟨⟨k0, l0⟩, ⟨k1, l1⟩, ⟨k2, l2⟩, ⟨k3, l3⟩⟩ := pown_facts HO.out (k := j) hjF (.string spS) (.int .i64 0) (.int .i64 0)
      have HOS := Lib.hid (pown_set4 HO.out hlF'.symm hjF spP)
      have HCS := Lib.hid (chg_four17 HC.out (g := g) (k := j) rfl (.string spS) (.int .i64 0) (.int .i64 0) (.string ⟨#[]⟩))
      have HLS := Lib.hid (show (F'.set j spP).length = F.length by rw [List.length_set]; exact hlF')
      generalize F'[j] = y at k0 k1 k2 k3
      clear hlF' hjF HLF
      go_wp2_with fail
      go_roundw
      case rel => exact ⟨j + 1, F'.set j spP, by omega, by go_num, HLS.out, HOS.out, HCS.out⟩
      case measure => simp [intOf]; omega
    · obtain rfl : j = F.length := by omega
      obtain ⟨wr1, hwr1⟩ : ∃ W, W = wr := ⟨_, rfl⟩
      subst hwr1
      have HBR := Lib.hid (HB4.out.trans (HC.out.below HB4.out.size fun k hk => (HV2.out k hk).1))
      have HLR := Lib.hid (show LiS poE wr1 A F from HF.out.chgS (ChgS.of_below (S := fun _ => False) HBR.out) (fun _ _ _ h => h))
      have HRR := Lib.hid (rres17_any w A cA F wr1 HBR.out HLR.out)
      clear HO HLF hlF'
      go_wp2_with fail
      refine HRR.out.mono ?_
      rintro e w6 ⟨hb6, hrr⟩
      have HB6 := Lib.hid (HBR.out.trans (hb6.mono HBR.out.size))
      rcases HRC.out with ⟨hok, rfl, G0, LA, O, rfl, hK, hR, hRO⟩ | ⟨hok, rfl, rfl⟩
      · rcases hrr with ⟨_, X0, x0, rfl, hX, hXO⟩ | ⟨hno, _⟩
        · have hRw := hK.keep _ _ _ _ _ (hK.below hR HB34.out) HC.out (fun k hk => ⟨(HV2.out k hk).1, fun e => by
            have h1 := (HV2.out k hk).2
            have h2 := hRO k e
            omega⟩)
          have HP0 := Lib.hid (TwoG.new hK hRw hb6 hX hXO)
          clear hR hRO hX hXO hRw hb6
          cases fresh with
          | true =>
            clear HP0 hK
            go_wp2_with fail
            refine (lgnew w w6 HB6.out).mono ?_
            rintro e w7 ⟨G, LA, O, rfl, hK, hla, _, hb7⟩
            have HB7 := HB6.out.trans (hb7.mono HB6.out.size)
            go_wp2_with fail
            refine (rnew17_any w w7 HB7).mono ?_
            rintro e w8 ⟨X, rfl, hx, hX8, hb8⟩
            have HP := Lib.hid (TwoG.new hK hla hb8 hx (fun k hk => by
              rcases hk with rfl | hk
              · exact hX8
              · cases hk))
            have HK := Lib.hid hK
            clear hK hla hx hX8 hb7 hb8 HB7
            as_aux_lemma =>
              go_wp2_with fail
              go_loopw [15] (fun i wr => ∃ (k : Nat) (L : List Po), i = .int .i64 k ∧ k ≤ Y.length ∧ k ≤ 200 ∧ TwoG w LA X (fun _ => False) wr wr L L) (fun i _ => Y.length - (intOf i).toNat)
              case atStart => exact ⟨0, _, rfl, Nat.zero_le _, Nat.zero_le _, HP.out⟩
              case round =>
                obtain ⟨wr2, hwr2⟩ : ∃ W, W = wr := ⟨_, rfl⟩
                subst hwr2
                obtain ⟨k, L, rfl, hk, hk200, hp⟩ := hrel
                have HPR := Lib.hid hp
                clear hp HP
                by_cases hlt : k < Y.length ∧ k < 200
                · obtain ⟨hl1, hl2⟩ := hlt
                  have hki : (k : Int) < Y.length := by omega
                  have hk2i : (k : Int) < 200 := by omega
                  have hk3 : ¬ (k : Int) < 0 := by omega
                  obtain ⟨B, o, rfl, hBl, a0, a1, a2, a3⟩ := ap_at (HACT.out.chgS (ChgS.of_below (S := fun _ => False) HPR.out.bel) (fun _ _ _ h => h)) hl1
                  have HXC := Lib.hid (HY.out _ (List.getElem_mem hl1))
                  generalize Y[k] = x at *
                  obtain ⟨H, hH⟩ : ∃ H, H = wr2.heap.size := ⟨_, rfl⟩
                  have hba := alloc_below wr2 (.cells #[.int .i64 x.d, .string x.k, .string x.t, .int .i64 x.a] 38)
                  have HM := Lib.hid (HPR.out.more HK.out (T := fun k => k = H) hba (fun k e => by subst e; rw [hH]; exact ⟨Nat.le_refl _, by simp⟩))
                  have HH := Lib.hid (show (wr2.alloc (.cells #[.int .i64 x.d, .string x.k, .string x.t, .int .i64 x.a] 38)).heap[H]? = some (.cells #[.int .i64 x.d, .string x.k, .string x.t, .int .i64 x.a] 38) from by rw [hH]; exact heap_alloc_new wr2 (.cells #[.int .i64 x.d, .string x.k, .string x.t, .int .i64 x.a] 38))
                  obtain ⟨b0, b1, b2, b3⟩ := ap_cells HH.out
                  clear hba HPR
                  rw [hH] at b0 b1 b2 b3
                  by_cases hd : x.d = 0
                  · as_aux_lemma =>
                      rw [hd] at a0 b0 HM HH
                      obtain ⟨L1, hL1⟩ : ∃ L1, apN L x.k x.a x.t = L1 := ⟨_, rfl⟩
                      obtain ⟨r, hr⟩ : ∃ r, apE L x.k x.a x.t = r := ⟨_, rfl⟩
                      have HLA := Lib.hid (fun W O (h : LA W L O) => HK.out.approve W L O x.k x.a x.t h HXC.out.1 HXC.out.2)
                      have HRA := Lib.hid (fun W v (h : RLg w X W L v) => rapp17_any w X L v x.k x.a x.t W h)
                      rw [hL1, hr] at HLA HRA
                      clear hL1 hr
                      go_wp2_with fail
                      clear hd a0 a1 a2 a3 b0 b1 b2 b3 hBl
                      generalize (wr2.alloc (.cells #[.int .i64 0, .string x.k, .string x.t, .int .i64 x.a] 38)) = w7 at *
                      have HJ := Lib.hid (JT.start (L' := L1) (na := 7) (nb := 15) HK.out HM.out)
                      rw [← hH]
                      clear hH
                      refine ord.wp_region_ordZ (JT w LA X (fun k => False ∨ k = H) w7 L L1 7 15) 16 [[], [], [1], [], [3], [], [5], [0, 2, 4, 6], [], [], [9], [], [11], [], [13], [8, 10, 12, 14]] [(0, 98), (1, 99), (2, 100), (3, 101), (4, 102), (5, 103), (6, 104), (7, 105), (8, 106), (9, 107), (10, 108), (11, 109), (12, 110), (13, 111), (14, 112), (15, 113)] (plR G X H x.k x.a x.t r) (by kernel_rfl) (by kernel_rfl) (by kernel_rfl) (ord.steps_cons ?_ (ord.steps_cons ?_ (ord.steps_cons ?_ (ord.steps_cons ?_ (ord.steps_cons ?_ (ord.steps_cons ?_ (ord.steps_cons ?_ (ord.steps_cons ?_ (ord.steps_cons ?_ (ord.steps_cons ?_ (ord.steps_cons ?_ (ord.steps_cons ?_ (ord.steps_cons ?_ (ord.steps_cons ?_ (ord.steps_cons ?_ (ord.steps_cons ?_ ord.steps_nil)))))))))))))))) HJ.out ?_
                      · intro o1 ho y c w8 hj hc hG
                        obtain rfl := Option.some.inj ho
                        clear ho
                        refine Or.inl ⟨ord.want0 rfl, ?_⟩
                        exact ord.makes_move rfl ⟨hj.keep (by decide) (by decide) _, rfl⟩
                      · intro o1 ho y c w8 hj hc hG
                        obtain rfl := Option.some.inj ho
                        clear ho
                        refine Or.inl ⟨ord.want0 rfl, ?_⟩
                        exact ord.makes_fieldAddr rfl rfl (run_flA1 H w8) ⟨hj.keep (by decide) (by decide) _, rfl⟩
                      · intro o1 ho y c w8 hj hc hG
                        obtain rfl := Option.some.inj ho
                        clear ho
                        have h1 : y 1 = .pointer (some ⟨H, 1, none⟩) := (hG (1, 99) (List.mem_of_getElem? (i := 1) rfl) rfl).2
                        refine Or.inl ⟨ord.want0 rfl, ?_⟩
                        exact ord.makes_ld rfl h1 (run_ldS17 _ _ w8 (ap_cells (x := ⟨0, x.k, x.t, x.a⟩) ((hj.held (Or.inr rfl)).trans HH.out)).2.1) ⟨hj.keep (by decide) (by decide) _, rfl⟩
                      · intro o1 ho y c w8 hj hc hG
                        obtain rfl := Option.some.inj ho
                        clear ho
                        refine Or.inl ⟨ord.want0 rfl, ?_⟩
                        exact ord.makes_fieldAddr rfl rfl (run_flA3 H w8) ⟨hj.keep (by decide) (by decide) _, rfl⟩
                      · intro o1 ho y c w8 hj hc hG
                        obtain rfl := Option.some.inj ho
                        clear ho
                        have h3 : y 3 = .pointer (some ⟨H, 3, none⟩) := (hG (3, 101) (List.mem_of_getElem? (i := 3) rfl) rfl).2
                        refine Or.inl ⟨ord.want0 rfl, ?_⟩
                        exact ord.makes_ld rfl h3 (run_ldI17 _ _ w8 (ap_cells (x := ⟨0, x.k, x.t, x.a⟩) ((hj.held (Or.inr rfl)).trans HH.out)).2.2.2) ⟨hj.keep (by decide) (by decide) _, rfl⟩
                      · intro o1 ho y c w8 hj hc hG
                        obtain rfl := Option.some.inj ho
                        clear ho
                        refine Or.inl ⟨ord.want0 rfl, ?_⟩
                        exact ord.makes_fieldAddr rfl rfl (run_flA2 H w8) ⟨hj.keep (by decide) (by decide) _, rfl⟩
                      · intro o1 ho y c w8 hj hc hG
                        obtain rfl := Option.some.inj ho
                        clear ho
                        have h5 : y 5 = .pointer (some ⟨H, 2, none⟩) := (hG (5, 103) (List.mem_of_getElem? (i := 5) rfl) rfl).2
                        refine Or.inl ⟨ord.want0 rfl, ?_⟩
                        exact ord.makes_ld rfl h5 (run_ldS17 _ _ w8 (ap_cells (x := ⟨0, x.k, x.t, x.a⟩) ((hj.held (Or.inr rfl)).trans HH.out)).2.2.1) ⟨hj.keep (by decide) (by decide) _, rfl⟩
                      · intro o1 ho y c w8 hj hc hG
                        obtain rfl := Option.some.inj ho
                        clear ho
                        have h0 : y 0 = .pointer (some ⟨G, 0, none⟩) := (hG (0, 98) (List.mem_of_getElem? (i := 0) rfl) rfl).2
                        have h2 : y 2 = .string x.k := (hG (2, 100) (List.mem_of_getElem? (i := 2) rfl) rfl).2
                        have h4 : y 4 = .int .i64 x.a := (hG (4, 102) (List.mem_of_getElem? (i := 4) rfl) rfl).2
                        have h6 : y 6 = .string x.t := (hG (6, 104) (List.mem_of_getElem? (i := 6) rfl) rfl).2
                        refine Or.inl ⟨ord.want0 rfl, ?_⟩
                        exact makes_callX4 Try.func14 (by kernel_rfl) (by kernel_rfl) rfl h0 h2 h4 h6 (JT.left HK.out hj hc (by decide) (fun O h => HLA.out w8 O h)) (fun e w' h => ⟨_, h.1, h.2, rfl⟩)
                      · intro o1 ho y c w8 hj hc hG
                        obtain rfl := Option.some.inj ho
                        clear ho
                        refine Or.inl ⟨ord.want0 rfl, ?_⟩
                        exact ord.makes_move rfl ⟨hj.keep (by decide) (by decide) _, rfl⟩
                      · intro o1 ho y c w8 hj hc hG
                        obtain rfl := Option.some.inj ho
                        clear ho
                        refine Or.inl ⟨ord.want0 rfl, ?_⟩
                        exact ord.makes_fieldAddr rfl rfl (run_flA1 H w8) ⟨hj.keep (by decide) (by decide) _, rfl⟩
                      · intro o1 ho y c w8 hj hc hG
                        obtain rfl := Option.some.inj ho
                        clear ho
                        have h9 : y 9 = .pointer (some ⟨H, 1, none⟩) := (hG (9, 107) (List.mem_of_getElem? (i := 9) rfl) rfl).2
                        refine Or.inl ⟨ord.want0 rfl, ?_⟩
                        exact ord.makes_ld rfl h9 (run_ldS17 _ _ w8 (ap_cells (x := ⟨0, x.k, x.t, x.a⟩) ((hj.held (Or.inr rfl)).trans HH.out)).2.1) ⟨hj.keep (by decide) (by decide) _, rfl⟩
                      · intro o1 ho y c w8 hj hc hG
                        obtain rfl := Option.some.inj ho
                        clear ho
                        refine Or.inl ⟨ord.want0 rfl, ?_⟩
                        exact ord.makes_fieldAddr rfl rfl (run_flA3 H w8) ⟨hj.keep (by decide) (by decide) _, rfl⟩
                      · intro o1 ho y c w8 hj hc hG
                        obtain rfl := Option.some.inj ho
                        clear ho
                        have h11 : y 11 = .pointer (some ⟨H, 3, none⟩) := (hG (11, 109) (List.mem_of_getElem? (i := 11) rfl) rfl).2
                        refine Or.inl ⟨ord.want0 rfl, ?_⟩
                        exact ord.makes_ld rfl h11 (run_ldI17 _ _ w8 (ap_cells (x := ⟨0, x.k, x.t, x.a⟩) ((hj.held (Or.inr rfl)).trans HH.out)).2.2.2) ⟨hj.keep (by decide) (by decide) _, rfl⟩
                      · intro o1 ho y c w8 hj hc hG
                        obtain rfl := Option.some.inj ho
                        clear ho
                        refine Or.inl ⟨ord.want0 rfl, ?_⟩
                        exact ord.makes_fieldAddr rfl rfl (run_flA2 H w8) ⟨hj.keep (by decide) (by decide) _, rfl⟩
                      · intro o1 ho y c w8 hj hc hG
                        obtain rfl := Option.some.inj ho
                        clear ho
                        have h13 : y 13 = .pointer (some ⟨H, 2, none⟩) := (hG (13, 111) (List.mem_of_getElem? (i := 13) rfl) rfl).2
                        refine Or.inl ⟨ord.want0 rfl, ?_⟩
                        exact ord.makes_ld rfl h13 (run_ldS17 _ _ w8 (ap_cells (x := ⟨0, x.k, x.t, x.a⟩) ((hj.held (Or.inr rfl)).trans HH.out)).2.2.1) ⟨hj.keep (by decide) (by decide) _, rfl⟩
                      · intro o1 ho y c w8 hj hc hG
                        obtain rfl := Option.some.inj ho
                        clear ho
                        have h8 : y 8 = .pointer (some ⟨X, 0, none⟩) := (hG (8, 106) (List.mem_of_getElem? (i := 8) rfl) rfl).2
                        have h10 : y 10 = .string x.k := (hG (10, 108) (List.mem_of_getElem? (i := 10) rfl) rfl).2
                        have h12 : y 12 = .int .i64 x.a := (hG (12, 110) (List.mem_of_getElem? (i := 12) rfl) rfl).2
                        have h14 : y 14 = .string x.t := (hG (14, 112) (List.mem_of_getElem? (i := 14) rfl) rfl).2
                        refine Or.inl ⟨ord.want0 rfl, ?_⟩
                        exact makes_callX4 Try.func15 (by kernel_rfl) (by kernel_rfl) rfl h8 h10 h12 h14 (JT.right HK.out hj hc (by decide) (fun v h => HRA.out w8 v h)) (fun e w' h => ⟨_, h.1, h.2, rfl⟩)
                      · intro y c w8 hj hG
                        have g7 := hG (7, 105) (List.mem_of_getElem? (i := 7) rfl)
                        have g15 := hG (15, 113) (List.mem_of_getElem? (i := 15) rfl)
                        have e7 : y 7 = .int .i64 r := g7.2
                        have e15 : y 15 = .int .i64 r := g15.2
                        have H8 := Lib.hid (hj.done g7.1 g15.1)
                        clear hG g7 g15 hj
                        simp only [ord.puts, ord.put', List.set_cons_zero, List.set_cons_succ, if_true]
                        rw [e7, e15]
                        simp only [List.drop_succ_cons, List.drop_zero]
                        have hrr : (r != r) = false := by simp
                        clear e7 e15 HJ
                        go_wp2_with fail
                        refine (tells17_any HK.out (H8.out.free w8)).mono ?_
                        rintro e w9 ⟨rfl, h9⟩
                        have H9 := Lib.hid h9
                        clear h9 H8
                        go_wp2_with fail
                        go_roundw
                        case rel => exact ⟨k + 1, L1, by go_num, by omega, by omega, H9.out⟩
                        case measure => simp [intOf]; omega
                  have hd0 := hd
                  clear hd
                  by_cases hd : x.d = 1
                  · as_aux_lemma =>
                      rw [hd] at a0 b0 HM HH
                      obtain ⟨L1, hL1⟩ : ∃ L1, rvN L x.k = L1 := ⟨_, rfl⟩
                      obtain ⟨r, hr⟩ : ∃ r, rvE L x.k = r := ⟨_, rfl⟩
                      obtain ⟨n, hn⟩ : ∃ n, rvV L x.k = n := ⟨_, rfl⟩
                      have HLA := Lib.hid (fun W O (h : LA W L O) => HK.out.reverse W L O x.k h HXC.out.1)
                      have HRA := Lib.hid (fun W v (h : RLg w X W L v) => rrev17_any w X L v x.k W h)
                      rw [hL1, hr, hn] at HLA HRA
                      have hrr : (r != r) = false := by simp
                      have hnn : (n != n) = false := by simp
                      clear hL1 hr hn
                      go_wp2_with fail
                      rw [← hH]
                      clear hH
                      refine (TwoG.left HK.out HM.out (fun O h => HLA.out _ O h)).mono ?_
                      rintro e w6a ⟨rfl, h6⟩
                      clear hd a0 a1 a2 a3 b0 b1 b2 b3 hBl HM
                      have H6 := Lib.hid h6
                      obtain ⟨b0, b1, b2, b3⟩ := ap_cells (x := ⟨1, x.k, x.t, x.a⟩) ((h6.held (Or.inr rfl)).trans HH.out)
                      simp only at b0 b1 b2 b3
                      clear h6
                      go_wp2_with fail
                      refine (TwoG.right HK.out H6.out (fun v h => HRA.out _ v h)).mono ?_
                      rintro e w8 ⟨rfl, h8⟩
                      have H8 := Lib.hid h8
                      clear h8 H6 b0 b1 b2 b3
                      go_wp2_with fail

                      refine (tells17_any HK.out (H8.out.free w8)).mono ?_
                      rintro e w9 ⟨rfl, h9⟩
                      have H9 := Lib.hid h9
                      clear h9 H8
                      go_wp2_with fail
                      go_roundw
                      case rel => exact ⟨k + 1, L1, by go_num, by omega, by omega, H9.out⟩
                      case measure => simp [intOf]; omega
                  have hd1 := hd
                  clear hd
                  by_cases hd : x.d = 2
                  · as_aux_lemma =>
                      rw [hd] at a0 b0 HM HH
                      obtain ⟨P, hP⟩ : ∃ P, akP L x.k = P := ⟨_, rfl⟩
                      obtain ⟨q, hq⟩ : ∃ q, akB L x.k = q := ⟨_, rfl⟩
                      have HLA := Lib.hid (fun W O (h : LA W L O) => HK.out.ask W L O x.k h HXC.out.1)
                      have HRA := Lib.hid (fun W v (h : RLg w X W L v) => rask17_any w X L v x.k W h)
                      rw [hP, hq] at HLA HRA
                      have hqq : (q != q) = false := by simp
                      clear hP hq
                      go_wp2_with fail
                      rw [← hH]
                      clear hH
                      refine (TwoG.left HK.out HM.out (fun O h => HLA.out _ O h)).mono ?_
                      rintro e w6a ⟨rfl, h6⟩
                      clear hd a0 a1 a2 a3 b0 b1 b2 b3 hBl HM
                      have hb6a := alloc_below w6a (.cells #[.string P.k, .int .i64 P.a, .int .i64 P.s, .string P.t] 31)
                      obtain ⟨H2, hH2⟩ : ∃ H2, H2 = w6a.heap.size := ⟨_, rfl⟩
                      have HH6 := Lib.hid ((hb6a.block _ (h6.lt_of (Or.inr rfl))).trans ((h6.held (Or.inr rfl)).trans HH.out))
                      have HM6 := Lib.hid (h6.more HK.out (T := fun k => k = H2) hb6a (fun k e => by subst e; rw [hH2]; exact ⟨Nat.le_refl _, by simp⟩))
                      have HP6 := Lib.hid (show (w6a.alloc (.cells #[.string P.k, .int .i64 P.a, .int .i64 P.s, .string P.t] 31)).heap[H2]? = some (.cells #[.string P.k, .int .i64 P.a, .int .i64 P.s, .string P.t] 31) from by rw [hH2]; exact heap_alloc_new w6a (.cells #[.string P.k, .int .i64 P.a, .int .i64 P.s, .string P.t] 31))
                      obtain ⟨b0, b1, b2, b3⟩ := ap_cells (x := ⟨2, x.k, x.t, x.a⟩) HH6.out
                      simp only at b0 b1 b2 b3
                      clear h6 hb6a HH6 HH
                      go_wp2_with fail
                      refine (TwoG.right0 HK.out HM6.out (fun v h => HRA.out _ v h)).mono ?_
                      rintro e w7 ⟨rfl, h7⟩
                      rw [← hH2]
                      clear b0 b1 b2 b3 hH2
                      have hb8 := alloc_below w7 (.cells #[.string P.k, .int .i64 P.a, .int .i64 P.s, .string P.t] 31)
                      have hu7 := (h7.held (Or.inr rfl)).trans HP6.out
                      obtain ⟨d0, d1, d2, d3⟩ := po_cells (z := P) ((hb8.block _ (h7.lt_of (Or.inr rfl))).trans hu7)
                      obtain ⟨u0, u1, u2, u3⟩ := po_cells (z := P) (heap_alloc_new w7 (.cells #[.string P.k, .int .i64 P.a, .int .i64 P.s, .string P.t] 31))
                      have H8a := Lib.hid (h7.below HK.out hb8)
                      have hne := fun w => run_neqPo P P w
                      have hdd : decide (P ≠ P) = false := by simp
                      rw [hdd] at hne
                      clear h7 hb8 hu7 hdd HP6 HM6
                      go_wp2_with fail
                      generalize w7.alloc (.cells #[.string P.k, .int .i64 P.a, .int .i64 P.s, .string P.t] 31) = w8 at *
                      have H8 := H8a
                      clear d0 d1 d2 d3 u0 u1 u2 u3 hne H8a

                      refine (tells17_any HK.out (H8.out.free w8)).mono ?_
                      rintro e w9 ⟨rfl, h9⟩
                      have H9 := Lib.hid h9
                      clear h9 H8
                      go_wp2_with fail
                      go_roundw
                      case rel => exact ⟨k + 1, L, by go_num, by omega, by omega, H9.out⟩
                      case measure => simp [intOf]; omega
                  have hd2 := hd
                  clear hd
                  by_cases hd : x.d = 3
                  · as_aux_lemma =>
                      rw [hd] at a0 b0 HM HH
                      obtain ⟨T, hT⟩ : ∃ T, totP L = T := ⟨_, rfl⟩
                      have HLA := Lib.hid (fun W O (h : LA W L O) => HK.out.close W L O h)
                      have HRA := Lib.hid (fun W v (h : RLg w X W L v) => rclose17_any w X L v W h)
                      rw [hT] at HLA HRA
                      have hTT : (T != T) = false := by simp
                      clear hT
                      go_wp2_with fail
                      rw [← hH]
                      clear hH
                      refine (TwoG.left HK.out HM.out (fun O h => HLA.out _ O h)).mono ?_
                      rintro e w6a ⟨rfl, h6⟩
                      clear hd a0 a1 a2 a3 b0 b1 b2 b3 hBl HM
                      have H6 := Lib.hid h6
                      clear h6
                      go_wp2_with fail
                      refine (TwoG.right HK.out H6.out (fun v h => HRA.out _ v h)).mono ?_
                      rintro e w8 ⟨rfl, h8⟩
                      have H8 := Lib.hid h8
                      clear h8 H6
                      go_wp2_with fail

                      refine (tells17_any HK.out (H8.out.free w8)).mono ?_
                      rintro e w9 ⟨rfl, h9⟩
                      have H9 := Lib.hid h9
                      clear h9 H8
                      go_wp2_with fail
                      go_roundw
                      case rel => exact ⟨k + 1, [], by go_num, by omega, by omega, H9.out⟩
                      case measure => simp [intOf]; omega
                  have hd3 := hd
                  clear hd
                  as_aux_lemma =>
                    have qd0 : (x.d == 0) = false := by simpa using hd0
                    have qd1 : (x.d == 1) = false := by simpa using hd1
                    have qd2 : (x.d == 2) = false := by simpa using hd2
                    have qd3 : (x.d == 3) = false := by simpa using hd3
                    go_wp2_with fail
                    have H8 := HM
                    clear hd0 hd1 hd2 hd3 qd0 qd1 qd2 qd3 a0 a1 a2 a3 b0 b1 b2 b3 hBl HM
                    generalize (wr2.alloc (.cells #[.int .i64 x.d, .string x.k, .string x.t, .int .i64 x.a] 38)) = w8 at *

                    refine (tells17_any HK.out (H8.out.free w8)).mono ?_
                    rintro e w9 ⟨rfl, h9⟩
                    have H9 := Lib.hid h9
                    clear h9 H8
                    go_wp2_with fail
                    go_roundw
                    case rel => exact ⟨k + 1, L, by go_num, by omega, by omega, H9.out⟩
                    case measure => simp [intOf]; omega
                · have hnl := hlt
                  have hend : ¬ (k : Int) < Y.length ∨ (k : Int) < Y.length ∧ ¬ (k : Int) < 200 := by omega
                  rcases hend with hz1 | ⟨hz1, hz2⟩
                  all_goals
                    go_wp2_with fail
                    refine (tells17_any HK.out HPR.out).mono ?_
                    rintro e w9 ⟨rfl, h9⟩
                    have HB9 := Lib.hid h9.bel
                    clear h9
                    go_wp2_with fail
                    go_ret
                    exact ⟨rfl, HB9.out⟩
          | false =>
            obtain ⟨G, hG0⟩ : ∃ G, G = G0 := ⟨_, rfl⟩
            obtain ⟨X, hX0⟩ : ∃ X, X = X0 := ⟨_, rfl⟩
            subst hG0 hX0
            have HP := HP0
            have HK := Lib.hid hK
            clear HP0 hK
            as_aux_lemma =>
              go_wp2_with fail
              go_loopw [15] (fun i wr => ∃ (k : Nat) (L : List Po), i = .int .i64 k ∧ k ≤ Y.length ∧ k ≤ 200 ∧ TwoG w LA X (fun _ => False) wr wr L L) (fun i _ => Y.length - (intOf i).toNat)
              case atStart => exact ⟨0, _, rfl, Nat.zero_le _, Nat.zero_le _, HP.out⟩
              case round =>
                obtain ⟨wr2, hwr2⟩ : ∃ W, W = wr := ⟨_, rfl⟩
                subst hwr2
                obtain ⟨k, L, rfl, hk, hk200, hp⟩ := hrel
                have HPR := Lib.hid hp
                clear hp HP
                by_cases hlt : k < Y.length ∧ k < 200
                · obtain ⟨hl1, hl2⟩ := hlt
                  have hki : (k : Int) < Y.length := by omega
                  have hk2i : (k : Int) < 200 := by omega
                  have hk3 : ¬ (k : Int) < 0 := by omega
                  obtain ⟨B, o, rfl, hBl, a0, a1, a2, a3⟩ := ap_at (HACT.out.chgS (ChgS.of_below (S := fun _ => False) HPR.out.bel) (fun _ _ _ h => h)) hl1
                  have HXC := Lib.hid (HY.out _ (List.getElem_mem hl1))
                  generalize Y[k] = x at *
                  obtain ⟨H, hH⟩ : ∃ H, H = wr2.heap.size := ⟨_, rfl⟩
                  have hba := alloc_below wr2 (.cells #[.int .i64 x.d, .string x.k, .string x.t, .int .i64 x.a] 38)
                  have HM := Lib.hid (HPR.out.more HK.out (T := fun k => k = H) hba (fun k e => by subst e; rw [hH]; exact ⟨Nat.le_refl _, by simp⟩))
                  have HH := Lib.hid (show (wr2.alloc (.cells #[.int .i64 x.d, .string x.k, .string x.t, .int .i64 x.a] 38)).heap[H]? = some (.cells #[.int .i64 x.d, .string x.k, .string x.t, .int .i64 x.a] 38) from by rw [hH]; exact heap_alloc_new wr2 (.cells #[.int .i64 x.d, .string x.k, .string x.t, .int .i64 x.a] 38))
                  obtain ⟨b0, b1, b2, b3⟩ := ap_cells HH.out
                  clear hba HPR
                  rw [hH] at b0 b1 b2 b3
                  by_cases hd : x.d = 0
                  · as_aux_lemma =>
                      rw [hd] at a0 b0 HM HH
                      obtain ⟨L1, hL1⟩ : ∃ L1, apN L x.k x.a x.t = L1 := ⟨_, rfl⟩
                      obtain ⟨r, hr⟩ : ∃ r, apE L x.k x.a x.t = r := ⟨_, rfl⟩
                      have HLA := Lib.hid (fun W O (h : LA W L O) => HK.out.approve W L O x.k x.a x.t h HXC.out.1 HXC.out.2)
                      have HRA := Lib.hid (fun W v (h : RLg w X W L v) => rapp17_any w X L v x.k x.a x.t W h)
                      rw [hL1, hr] at HLA HRA
                      clear hL1 hr
                      go_wp2_with fail
                      clear hd a0 a1 a2 a3 b0 b1 b2 b3 hBl
                      generalize (wr2.alloc (.cells #[.int .i64 0, .string x.k, .string x.t, .int .i64 x.a] 38)) = w7 at *
                      have HJ := Lib.hid (JT.start (L' := L1) (na := 7) (nb := 15) HK.out HM.out)
                      rw [← hH]
                      clear hH
                      refine ord.wp_region_ordZ (JT w LA X (fun k => False ∨ k = H) w7 L L1 7 15) 16 [[], [], [1], [], [3], [], [5], [0, 2, 4, 6], [], [], [9], [], [11], [], [13], [8, 10, 12, 14]] [(0, 98), (1, 99), (2, 100), (3, 101), (4, 102), (5, 103), (6, 104), (7, 105), (8, 106), (9, 107), (10, 108), (11, 109), (12, 110), (13, 111), (14, 112), (15, 113)] (plR G X H x.k x.a x.t r) (by kernel_rfl) (by kernel_rfl) (by kernel_rfl) (ord.steps_cons ?_ (ord.steps_cons ?_ (ord.steps_cons ?_ (ord.steps_cons ?_ (ord.steps_cons ?_ (ord.steps_cons ?_ (ord.steps_cons ?_ (ord.steps_cons ?_ (ord.steps_cons ?_ (ord.steps_cons ?_ (ord.steps_cons ?_ (ord.steps_cons ?_ (ord.steps_cons ?_ (ord.steps_cons ?_ (ord.steps_cons ?_ (ord.steps_cons ?_ ord.steps_nil)))))))))))))))) HJ.out ?_
                      · intro o1 ho y c w8 hj hc hG
                        obtain rfl := Option.some.inj ho
                        clear ho
                        refine Or.inl ⟨ord.want0 rfl, ?_⟩
                        exact ord.makes_move rfl ⟨hj.keep (by decide) (by decide) _, rfl⟩
                      · intro o1 ho y c w8 hj hc hG
                        obtain rfl := Option.some.inj ho
                        clear ho
                        refine Or.inl ⟨ord.want0 rfl, ?_⟩
                        exact ord.makes_fieldAddr rfl rfl (run_flA1 H w8) ⟨hj.keep (by decide) (by decide) _, rfl⟩
                      · intro o1 ho y c w8 hj hc hG
                        obtain rfl := Option.some.inj ho
                        clear ho
                        have h1 : y 1 = .pointer (some ⟨H, 1, none⟩) := (hG (1, 99) (List.mem_of_getElem? (i := 1) rfl) rfl).2
                        refine Or.inl ⟨ord.want0 rfl, ?_⟩
                        exact ord.makes_ld rfl h1 (run_ldS17 _ _ w8 (ap_cells (x := ⟨0, x.k, x.t, x.a⟩) ((hj.held (Or.inr rfl)).trans HH.out)).2.1) ⟨hj.keep (by decide) (by decide) _, rfl⟩
                      · intro o1 ho y c w8 hj hc hG
                        obtain rfl := Option.some.inj ho
                        clear ho
                        refine Or.inl ⟨ord.want0 rfl, ?_⟩
                        exact ord.makes_fieldAddr rfl rfl (run_flA3 H w8) ⟨hj.keep (by decide) (by decide) _, rfl⟩
                      · intro o1 ho y c w8 hj hc hG
                        obtain rfl := Option.some.inj ho
                        clear ho
                        have h3 : y 3 = .pointer (some ⟨H, 3, none⟩) := (hG (3, 101) (List.mem_of_getElem? (i := 3) rfl) rfl).2
                        refine Or.inl ⟨ord.want0 rfl, ?_⟩
                        exact ord.makes_ld rfl h3 (run_ldI17 _ _ w8 (ap_cells (x := ⟨0, x.k, x.t, x.a⟩) ((hj.held (Or.inr rfl)).trans HH.out)).2.2.2) ⟨hj.keep (by decide) (by decide) _, rfl⟩
                      · intro o1 ho y c w8 hj hc hG
                        obtain rfl := Option.some.inj ho
                        clear ho
                        refine Or.inl ⟨ord.want0 rfl, ?_⟩
                        exact ord.makes_fieldAddr rfl rfl (run_flA2 H w8) ⟨hj.keep (by decide) (by decide) _, rfl⟩
                      · intro o1 ho y c w8 hj hc hG
                        obtain rfl := Option.some.inj ho
                        clear ho
                        have h5 : y 5 = .pointer (some ⟨H, 2, none⟩) := (hG (5, 103) (List.mem_of_getElem? (i := 5) rfl) rfl).2
                        refine Or.inl ⟨ord.want0 rfl, ?_⟩
                        exact ord.makes_ld rfl h5 (run_ldS17 _ _ w8 (ap_cells (x := ⟨0, x.k, x.t, x.a⟩) ((hj.held (Or.inr rfl)).trans HH.out)).2.2.1) ⟨hj.keep (by decide) (by decide) _, rfl⟩
                      · intro o1 ho y c w8 hj hc hG
                        obtain rfl := Option.some.inj ho
                        clear ho
                        have h0 : y 0 = .pointer (some ⟨G, 0, none⟩) := (hG (0, 98) (List.mem_of_getElem? (i := 0) rfl) rfl).2
                        have h2 : y 2 = .string x.k := (hG (2, 100) (List.mem_of_getElem? (i := 2) rfl) rfl).2
                        have h4 : y 4 = .int .i64 x.a := (hG (4, 102) (List.mem_of_getElem? (i := 4) rfl) rfl).2
                        have h6 : y 6 = .string x.t := (hG (6, 104) (List.mem_of_getElem? (i := 6) rfl) rfl).2
                        refine Or.inl ⟨ord.want0 rfl, ?_⟩
                        exact makes_callX4 Try.func14 (by kernel_rfl) (by kernel_rfl) rfl h0 h2 h4 h6 (JT.left HK.out hj hc (by decide) (fun O h => HLA.out w8 O h)) (fun e w' h => ⟨_, h.1, h.2, rfl⟩)
                      · intro o1 ho y c w8 hj hc hG
                        obtain rfl := Option.some.inj ho
                        clear ho
                        refine Or.inl ⟨ord.want0 rfl, ?_⟩
                        exact ord.makes_move rfl ⟨hj.keep (by decide) (by decide) _, rfl⟩
                      · intro o1 ho y c w8 hj hc hG
                        obtain rfl := Option.some.inj ho
                        clear ho
                        refine Or.inl ⟨ord.want0 rfl, ?_⟩
                        exact ord.makes_fieldAddr rfl rfl (run_flA1 H w8) ⟨hj.keep (by decide) (by decide) _, rfl⟩
                      · intro o1 ho y c w8 hj hc hG
                        obtain rfl := Option.some.inj ho
                        clear ho
                        have h9 : y 9 = .pointer (some ⟨H, 1, none⟩) := (hG (9, 107) (List.mem_of_getElem? (i := 9) rfl) rfl).2
                        refine Or.inl ⟨ord.want0 rfl, ?_⟩
                        exact ord.makes_ld rfl h9 (run_ldS17 _ _ w8 (ap_cells (x := ⟨0, x.k, x.t, x.a⟩) ((hj.held (Or.inr rfl)).trans HH.out)).2.1) ⟨hj.keep (by decide) (by decide) _, rfl⟩
                      · intro o1 ho y c w8 hj hc hG
                        obtain rfl := Option.some.inj ho
                        clear ho
                        refine Or.inl ⟨ord.want0 rfl, ?_⟩
                        exact ord.makes_fieldAddr rfl rfl (run_flA3 H w8) ⟨hj.keep (by decide) (by decide) _, rfl⟩
                      · intro o1 ho y c w8 hj hc hG
                        obtain rfl := Option.some.inj ho
                        clear ho
                        have h11 : y 11 = .pointer (some ⟨H, 3, none⟩) := (hG (11, 109) (List.mem_of_getElem? (i := 11) rfl) rfl).2
                        refine Or.inl ⟨ord.want0 rfl, ?_⟩
                        exact ord.makes_ld rfl h11 (run_ldI17 _ _ w8 (ap_cells (x := ⟨0, x.k, x.t, x.a⟩) ((hj.held (Or.inr rfl)).trans HH.out)).2.2.2) ⟨hj.keep (by decide) (by decide) _, rfl⟩
                      · intro o1 ho y c w8 hj hc hG
                        obtain rfl := Option.some.inj ho
                        clear ho
                        refine Or.inl ⟨ord.want0 rfl, ?_⟩
                        exact ord.makes_fieldAddr rfl rfl (run_flA2 H w8) ⟨hj.keep (by decide) (by decide) _, rfl⟩
                      · intro o1 ho y c w8 hj hc hG
                        obtain rfl := Option.some.inj ho
                        clear ho
                        have h13 : y 13 = .pointer (some ⟨H, 2, none⟩) := (hG (13, 111) (List.mem_of_getElem? (i := 13) rfl) rfl).2
                        refine Or.inl ⟨ord.want0 rfl, ?_⟩
                        exact ord.makes_ld rfl h13 (run_ldS17 _ _ w8 (ap_cells (x := ⟨0, x.k, x.t, x.a⟩) ((hj.held (Or.inr rfl)).trans HH.out)).2.2.1) ⟨hj.keep (by decide) (by decide) _, rfl⟩
                      · intro o1 ho y c w8 hj hc hG
                        obtain rfl := Option.some.inj ho
                        clear ho
                        have h8 : y 8 = .pointer (some ⟨X, 0, none⟩) := (hG (8, 106) (List.mem_of_getElem? (i := 8) rfl) rfl).2
                        have h10 : y 10 = .string x.k := (hG (10, 108) (List.mem_of_getElem? (i := 10) rfl) rfl).2
                        have h12 : y 12 = .int .i64 x.a := (hG (12, 110) (List.mem_of_getElem? (i := 12) rfl) rfl).2
                        have h14 : y 14 = .string x.t := (hG (14, 112) (List.mem_of_getElem? (i := 14) rfl) rfl).2
                        refine Or.inl ⟨ord.want0 rfl, ?_⟩
                        exact makes_callX4 Try.func15 (by kernel_rfl) (by kernel_rfl) rfl h8 h10 h12 h14 (JT.right HK.out hj hc (by decide) (fun v h => HRA.out w8 v h)) (fun e w' h => ⟨_, h.1, h.2, rfl⟩)
                      · intro y c w8 hj hG
                        have g7 := hG (7, 105) (List.mem_of_getElem? (i := 7) rfl)
                        have g15 := hG (15, 113) (List.mem_of_getElem? (i := 15) rfl)
                        have e7 : y 7 = .int .i64 r := g7.2
                        have e15 : y 15 = .int .i64 r := g15.2
                        have H8 := Lib.hid (hj.done g7.1 g15.1)
                        clear hG g7 g15 hj
                        simp only [ord.puts, ord.put', List.set_cons_zero, List.set_cons_succ, if_true]
                        rw [e7, e15]
                        simp only [List.drop_succ_cons, List.drop_zero]
                        have hrr : (r != r) = false := by simp
                        clear e7 e15 HJ
                        go_wp2_with fail
                        refine (tells17_any HK.out (H8.out.free w8)).mono ?_
                        rintro e w9 ⟨rfl, h9⟩
                        have H9 := Lib.hid h9
                        clear h9 H8
                        go_wp2_with fail
                        go_roundw
                        case rel => exact ⟨k + 1, L1, by go_num, by omega, by omega, H9.out⟩
                        case measure => simp [intOf]; omega
                  have hd0 := hd
                  clear hd
                  by_cases hd : x.d = 1
                  · as_aux_lemma =>
                      rw [hd] at a0 b0 HM HH
                      obtain ⟨L1, hL1⟩ : ∃ L1, rvN L x.k = L1 := ⟨_, rfl⟩
                      obtain ⟨r, hr⟩ : ∃ r, rvE L x.k = r := ⟨_, rfl⟩
                      obtain ⟨n, hn⟩ : ∃ n, rvV L x.k = n := ⟨_, rfl⟩
                      have HLA := Lib.hid (fun W O (h : LA W L O) => HK.out.reverse W L O x.k h HXC.out.1)
                      have HRA := Lib.hid (fun W v (h : RLg w X W L v) => rrev17_any w X L v x.k W h)
                      rw [hL1, hr, hn] at HLA HRA
                      have hrr : (r != r) = false := by simp
                      have hnn : (n != n) = false := by simp
                      clear hL1 hr hn
                      go_wp2_with fail
                      rw [← hH]
                      clear hH
                      refine (TwoG.left HK.out HM.out (fun O h => HLA.out _ O h)).mono ?_
                      rintro e w6a ⟨rfl, h6⟩
                      clear hd a0 a1 a2 a3 b0 b1 b2 b3 hBl HM
                      have H6 := Lib.hid h6
                      obtain ⟨b0, b1, b2, b3⟩ := ap_cells (x := ⟨1, x.k, x.t, x.a⟩) ((h6.held (Or.inr rfl)).trans HH.out)
                      simp only at b0 b1 b2 b3
                      clear h6
                      go_wp2_with fail
                      refine (TwoG.right HK.out H6.out (fun v h => HRA.out _ v h)).mono ?_
                      rintro e w8 ⟨rfl, h8⟩
                      have H8 := Lib.hid h8
                      clear h8 H6 b0 b1 b2 b3
                      go_wp2_with fail

                      refine (tells17_any HK.out (H8.out.free w8)).mono ?_
                      rintro e w9 ⟨rfl, h9⟩
                      have H9 := Lib.hid h9
                      clear h9 H8
                      go_wp2_with fail
                      go_roundw
                      case rel => exact ⟨k + 1, L1, by go_num, by omega, by omega, H9.out⟩
                      case measure => simp [intOf]; omega
                  have hd1 := hd
                  clear hd
                  by_cases hd : x.d = 2
                  · as_aux_lemma =>
                      rw [hd] at a0 b0 HM HH
                      obtain ⟨P, hP⟩ : ∃ P, akP L x.k = P := ⟨_, rfl⟩
                      obtain ⟨q, hq⟩ : ∃ q, akB L x.k = q := ⟨_, rfl⟩
                      have HLA := Lib.hid (fun W O (h : LA W L O) => HK.out.ask W L O x.k h HXC.out.1)
                      have HRA := Lib.hid (fun W v (h : RLg w X W L v) => rask17_any w X L v x.k W h)
                      rw [hP, hq] at HLA HRA
                      have hqq : (q != q) = false := by simp
                      clear hP hq
                      go_wp2_with fail
                      rw [← hH]
                      clear hH
                      refine (TwoG.left HK.out HM.out (fun O h => HLA.out _ O h)).mono ?_
                      rintro e w6a ⟨rfl, h6⟩
                      clear hd a0 a1 a2 a3 b0 b1 b2 b3 hBl HM
                      have hb6a := alloc_below w6a (.cells #[.string P.k, .int .i64 P.a, .int .i64 P.s, .string P.t] 31)
                      obtain ⟨H2, hH2⟩ : ∃ H2, H2 = w6a.heap.size := ⟨_, rfl⟩
                      have HH6 := Lib.hid ((hb6a.block _ (h6.lt_of (Or.inr rfl))).trans ((h6.held (Or.inr rfl)).trans HH.out))
                      have HM6 := Lib.hid (h6.more HK.out (T := fun k => k = H2) hb6a (fun k e => by subst e; rw [hH2]; exact ⟨Nat.le_refl _, by simp⟩))
                      have HP6 := Lib.hid (show (w6a.alloc (.cells #[.string P.k, .int .i64 P.a, .int .i64 P.s, .string P.t] 31)).heap[H2]? = some (.cells #[.string P.k, .int .i64 P.a, .int .i64 P.s, .string P.t] 31) from by rw [hH2]; exact heap_alloc_new w6a (.cells #[.string P.k, .int .i64 P.a, .int .i64 P.s, .string P.t] 31))
                      obtain ⟨b0, b1, b2, b3⟩ := ap_cells (x := ⟨2, x.k, x.t, x.a⟩) HH6.out
                      simp only at b0 b1 b2 b3
                      clear h6 hb6a HH6 HH
                      go_wp2_with fail
                      refine (TwoG.right0 HK.out HM6.out (fun v h => HRA.out _ v h)).mono ?_
                      rintro e w7 ⟨rfl, h7⟩
                      rw [← hH2]
                      clear b0 b1 b2 b3 hH2
                      have hb8 := alloc_below w7 (.cells #[.string P.k, .int .i64 P.a, .int .i64 P.s, .string P.t] 31)
                      have hu7 := (h7.held (Or.inr rfl)).trans HP6.out
                      obtain ⟨d0, d1, d2, d3⟩ := po_cells (z := P) ((hb8.block _ (h7.lt_of (Or.inr rfl))).trans hu7)
                      obtain ⟨u0, u1, u2, u3⟩ := po_cells (z := P) (heap_alloc_new w7 (.cells #[.string P.k, .int .i64 P.a, .int .i64 P.s, .string P.t] 31))
                      have H8a := Lib.hid (h7.below HK.out hb8)
                      have hne := fun w => run_neqPo P P w
                      have hdd : decide (P ≠ P) = false := by simp
                      rw [hdd] at hne
                      clear h7 hb8 hu7 hdd HP6 HM6
                      go_wp2_with fail
                      generalize w7.alloc (.cells #[.string P.k, .int .i64 P.a, .int .i64 P.s, .string P.t] 31) = w8 at *
                      have H8 := H8a
                      clear d0 d1 d2 d3 u0 u1 u2 u3 hne H8a

                      refine (tells17_any HK.out (H8.out.free w8)).mono ?_
                      rintro e w9 ⟨rfl, h9⟩
                      have H9 := Lib.hid h9
                      clear h9 H8
                      go_wp2_with fail
                      go_roundw
                      case rel => exact ⟨k + 1, L, by go_num, by omega, by omega, H9.out⟩
                      case measure => simp [intOf]; omega
                  have hd2 := hd
                  clear hd
                  by_cases hd : x.d = 3
                  · as_aux_lemma =>
                      rw [hd] at a0 b0 HM HH
                      obtain ⟨T, hT⟩ : ∃ T, totP L = T := ⟨_, rfl⟩
                      have HLA := Lib.hid (fun W O (h : LA W L O) => HK.out.close W L O h)
                      have HRA := Lib.hid (fun W v (h : RLg w X W L v) => rclose17_any w X L v W h)
                      rw [hT] at HLA HRA
                      have hTT : (T != T) = false := by simp
                      clear hT
                      go_wp2_with fail
                      rw [← hH]
                      clear hH
                      refine (TwoG.left HK.out HM.out (fun O h => HLA.out _ O h)).mono ?_
                      rintro e w6a ⟨rfl, h6⟩
                      clear hd a0 a1 a2 a3 b0 b1 b2 b3 hBl HM
                      have H6 := Lib.hid h6
                      clear h6
                      go_wp2_with fail
                      refine (TwoG.right HK.out H6.out (fun v h => HRA.out _ v h)).mono ?_
                      rintro e w8 ⟨rfl, h8⟩
                      have H8 := Lib.hid h8
                      clear h8 H6
                      go_wp2_with fail

                      refine (tells17_any HK.out (H8.out.free w8)).mono ?_
                      rintro e w9 ⟨rfl, h9⟩
                      have H9 := Lib.hid h9
                      clear h9 H8
                      go_wp2_with fail
                      go_roundw
                      case rel => exact ⟨k + 1, [], by go_num, by omega, by omega, H9.out⟩
                      case measure => simp [intOf]; omega
                  have hd3 := hd
                  clear hd
                  as_aux_lemma =>
                    have qd0 : (x.d == 0) = false := by simpa using hd0
                    have qd1 : (x.d == 1) = false := by simpa using hd1
                    have qd2 : (x.d == 2) = false := by simpa using hd2
                    have qd3 : (x.d == 3) = false := by simpa using hd3
                    go_wp2_with fail
                    have H8 := HM
                    clear hd0 hd1 hd2 hd3 qd0 qd1 qd2 qd3 a0 a1 a2 a3 b0 b1 b2 b3 hBl HM
                    generalize (wr2.alloc (.cells #[.int .i64 x.d, .string x.k, .string x.t, .int .i64 x.a] 38)) = w8 at *

                    refine (tells17_any HK.out (H8.out.free w8)).mono ?_
                    rintro e w9 ⟨rfl, h9⟩
                    have H9 := Lib.hid h9
                    clear h9 H8
                    go_wp2_with fail
                    go_roundw
                    case rel => exact ⟨k + 1, L, by go_num, by omega, by omega, H9.out⟩
                    case measure => simp [intOf]; omega
                · have hnl := hlt
                  have hend : ¬ (k : Int) < Y.length ∨ (k : Int) < Y.length ∧ ¬ (k : Int) < 200 := by omega
                  rcases hend with hz1 | ⟨hz1, hz2⟩
                  all_goals
                    go_wp2_with fail
                    refine (tells17_any HK.out HPR.out).mono ?_
                    rintro e w9 ⟨rfl, h9⟩
                    have HB9 := Lib.hid h9.bel
                    clear h9
                    go_wp2_with fail
                    go_ret
                    exact ⟨rfl, HB9.out⟩
        · exact absurd hok hno
      · rcases hrr with ⟨hno, _⟩ | ⟨_, rfl⟩
        · exact absurd hno hok
        · cases fresh with
          | true =>
            go_wp2_with fail
            refine (lgnew w w6 HB6.out).mono ?_
            rintro e w7 ⟨G, LA, O, rfl, hK, hla, _, hb7⟩
            have HB7 := HB6.out.trans (hb7.mono HB6.out.size)
            go_wp2_with fail
            refine (rnew17_any w w7 HB7).mono ?_
            rintro e w8 ⟨X, rfl, hx, hX8, hb8⟩
            have HP := Lib.hid (TwoG.new hK hla hb8 hx (fun k hk => by
              rcases hk with rfl | hk
              · exact hX8
              · cases hk))
            have HK := Lib.hid hK
            clear hK hla hx hX8 hb7 hb8 HB7
            as_aux_lemma =>
              go_wp2_with fail
              go_loopw [15] (fun i wr => ∃ (k : Nat) (L : List Po), i = .int .i64 k ∧ k ≤ Y.length ∧ k ≤ 200 ∧ TwoG w LA X (fun _ => False) wr wr L L) (fun i _ => Y.length - (intOf i).toNat)
              case atStart => exact ⟨0, _, rfl, Nat.zero_le _, Nat.zero_le _, HP.out⟩
              case round =>
                obtain ⟨wr2, hwr2⟩ : ∃ W, W = wr := ⟨_, rfl⟩
                subst hwr2
                obtain ⟨k, L, rfl, hk, hk200, hp⟩ := hrel
                have HPR := Lib.hid hp
                clear hp HP
                by_cases hlt : k < Y.length ∧ k < 200
                · obtain ⟨hl1, hl2⟩ := hlt
                  have hki : (k : Int) < Y.length := by omega
                  have hk2i : (k : Int) < 200 := by omega
                  have hk3 : ¬ (k : Int) < 0 := by omega
                  obtain ⟨B, o, rfl, hBl, a0, a1, a2, a3⟩ := ap_at (HACT.out.chgS (ChgS.of_below (S := fun _ => False) HPR.out.bel) (fun _ _ _ h => h)) hl1
                  have HXC := Lib.hid (HY.out _ (List.getElem_mem hl1))
                  generalize Y[k] = x at *
                  obtain ⟨H, hH⟩ : ∃ H, H = wr2.heap.size := ⟨_, rfl⟩
                  have hba := alloc_below wr2 (.cells #[.int .i64 x.d, .string x.k, .string x.t, .int .i64 x.a] 38)
                  have HM := Lib.hid (HPR.out.more HK.out (T := fun k => k = H) hba (fun k e => by subst e; rw [hH]; exact ⟨Nat.le_refl _, by simp⟩))
                  have HH := Lib.hid (show (wr2.alloc (.cells #[.int .i64 x.d, .string x.k, .string x.t, .int .i64 x.a] 38)).heap[H]? = some (.cells #[.int .i64 x.d, .string x.k, .string x.t, .int .i64 x.a] 38) from by rw [hH]; exact heap_alloc_new wr2 (.cells #[.int .i64 x.d, .string x.k, .string x.t, .int .i64 x.a] 38))
                  obtain ⟨b0, b1, b2, b3⟩ := ap_cells HH.out
                  clear hba HPR
                  rw [hH] at b0 b1 b2 b3
                  by_cases hd : x.d = 0
                  · as_aux_lemma =>
                      rw [hd] at a0 b0 HM HH
                      obtain ⟨L1, hL1⟩ : ∃ L1, apN L x.k x.a x.t = L1 := ⟨_, rfl⟩
                      obtain ⟨r, hr⟩ : ∃ r, apE L x.k x.a x.t = r := ⟨_, rfl⟩
                      have HLA := Lib.hid (fun W O (h : LA W L O) => HK.out.approve W L O x.k x.a x.t h HXC.out.1 HXC.out.2)
                      have HRA := Lib.hid (fun W v (h : RLg w X W L v) => rapp17_any w X L v x.k x.a x.t W h)
                      rw [hL1, hr] at HLA HRA
                      clear hL1 hr
                      go_wp2_with fail
                      clear hd a0 a1 a2 a3 b0 b1 b2 b3 hBl
                      generalize (wr2.alloc (.cells #[.int .i64 0, .string x.k, .string x.t, .int .i64 x.a] 38)) = w7 at *
                      have HJ := Lib.hid (JT.start (L' := L1) (na := 7) (nb := 15) HK.out HM.out)
                      rw [← hH]
                      clear hH
                      refine ord.wp_region_ordZ (JT w LA X (fun k => False ∨ k = H) w7 L L1 7 15) 16 [[], [], [1], [], [3], [], [5], [0, 2, 4, 6], [], [], [9], [], [11], [], [13], [8, 10, 12, 14]] [(0, 98), (1, 99), (2, 100), (3, 101), (4, 102), (5, 103), (6, 104), (7, 105), (8, 106), (9, 107), (10, 108), (11, 109), (12, 110), (13, 111), (14, 112), (15, 113)] (plR G X H x.k x.a x.t r) (by kernel_rfl) (by kernel_rfl) (by kernel_rfl) (ord.steps_cons ?_ (ord.steps_cons ?_ (ord.steps_cons ?_ (ord.steps_cons ?_ (ord.steps_cons ?_ (ord.steps_cons ?_ (ord.steps_cons ?_ (ord.steps_cons ?_ (ord.steps_cons ?_ (ord.steps_cons ?_ (ord.steps_cons ?_ (ord.steps_cons ?_ (ord.steps_cons ?_ (ord.steps_cons ?_ (ord.steps_cons ?_ (ord.steps_cons ?_ ord.steps_nil)))))))))))))))) HJ.out ?_
                      · intro o1 ho y c w8 hj hc hG
                        obtain rfl := Option.some.inj ho
                        clear ho
                        refine Or.inl ⟨ord.want0 rfl, ?_⟩
                        exact ord.makes_move rfl ⟨hj.keep (by decide) (by decide) _, rfl⟩
                      · intro o1 ho y c w8 hj hc hG
                        obtain rfl := Option.some.inj ho
                        clear ho
                        refine Or.inl ⟨ord.want0 rfl, ?_⟩
                        exact ord.makes_fieldAddr rfl rfl (run_flA1 H w8) ⟨hj.keep (by decide) (by decide) _, rfl⟩
                      · intro o1 ho y c w8 hj hc hG
                        obtain rfl := Option.some.inj ho
                        clear ho
                        have h1 : y 1 = .pointer (some ⟨H, 1, none⟩) := (hG (1, 99) (List.mem_of_getElem? (i := 1) rfl) rfl).2
                        refine Or.inl ⟨ord.want0 rfl, ?_⟩
                        exact ord.makes_ld rfl h1 (run_ldS17 _ _ w8 (ap_cells (x := ⟨0, x.k, x.t, x.a⟩) ((hj.held (Or.inr rfl)).trans HH.out)).2.1) ⟨hj.keep (by decide) (by decide) _, rfl⟩
                      · intro o1 ho y c w8 hj hc hG
                        obtain rfl := Option.some.inj ho
                        clear ho
                        refine Or.inl ⟨ord.want0 rfl, ?_⟩
                        exact ord.makes_fieldAddr rfl rfl (run_flA3 H w8) ⟨hj.keep (by decide) (by decide) _, rfl⟩
                      · intro o1 ho y c w8 hj hc hG
                        obtain rfl := Option.some.inj ho
                        clear ho
                        have h3 : y 3 = .pointer (some ⟨H, 3, none⟩) := (hG (3, 101) (List.mem_of_getElem? (i := 3) rfl) rfl).2
                        refine Or.inl ⟨ord.want0 rfl, ?_⟩
                        exact ord.makes_ld rfl h3 (run_ldI17 _ _ w8 (ap_cells (x := ⟨0, x.k, x.t, x.a⟩) ((hj.held (Or.inr rfl)).trans HH.out)).2.2.2) ⟨hj.keep (by decide) (by decide) _, rfl⟩
                      · intro o1 ho y c w8 hj hc hG
                        obtain rfl := Option.some.inj ho
                        clear ho
                        refine Or.inl ⟨ord.want0 rfl, ?_⟩
                        exact ord.makes_fieldAddr rfl rfl (run_flA2 H w8) ⟨hj.keep (by decide) (by decide) _, rfl⟩
                      · intro o1 ho y c w8 hj hc hG
                        obtain rfl := Option.some.inj ho
                        clear ho
                        have h5 : y 5 = .pointer (some ⟨H, 2, none⟩) := (hG (5, 103) (List.mem_of_getElem? (i := 5) rfl) rfl).2
                        refine Or.inl ⟨ord.want0 rfl, ?_⟩
                        exact ord.makes_ld rfl h5 (run_ldS17 _ _ w8 (ap_cells (x := ⟨0, x.k, x.t, x.a⟩) ((hj.held (Or.inr rfl)).trans HH.out)).2.2.1) ⟨hj.keep (by decide) (by decide) _, rfl⟩
                      · intro o1 ho y c w8 hj hc hG
                        obtain rfl := Option.some.inj ho
                        clear ho
                        have h0 : y 0 = .pointer (some ⟨G, 0, none⟩) := (hG (0, 98) (List.mem_of_getElem? (i := 0) rfl) rfl).2
                        have h2 : y 2 = .string x.k := (hG (2, 100) (List.mem_of_getElem? (i := 2) rfl) rfl).2
                        have h4 : y 4 = .int .i64 x.a := (hG (4, 102) (List.mem_of_getElem? (i := 4) rfl) rfl).2
                        have h6 : y 6 = .string x.t := (hG (6, 104) (List.mem_of_getElem? (i := 6) rfl) rfl).2
                        refine Or.inl ⟨ord.want0 rfl, ?_⟩
                        exact makes_callX4 Try.func14 (by kernel_rfl) (by kernel_rfl) rfl h0 h2 h4 h6 (JT.left HK.out hj hc (by decide) (fun O h => HLA.out w8 O h)) (fun e w' h => ⟨_, h.1, h.2, rfl⟩)
                      · intro o1 ho y c w8 hj hc hG
                        obtain rfl := Option.some.inj ho
                        clear ho
                        refine Or.inl ⟨ord.want0 rfl, ?_⟩
                        exact ord.makes_move rfl ⟨hj.keep (by decide) (by decide) _, rfl⟩
                      · intro o1 ho y c w8 hj hc hG
                        obtain rfl := Option.some.inj ho
                        clear ho
                        refine Or.inl ⟨ord.want0 rfl, ?_⟩
                        exact ord.makes_fieldAddr rfl rfl (run_flA1 H w8) ⟨hj.keep (by decide) (by decide) _, rfl⟩
                      · intro o1 ho y c w8 hj hc hG
                        obtain rfl := Option.some.inj ho
                        clear ho
                        have h9 : y 9 = .pointer (some ⟨H, 1, none⟩) := (hG (9, 107) (List.mem_of_getElem? (i := 9) rfl) rfl).2
                        refine Or.inl ⟨ord.want0 rfl, ?_⟩
                        exact ord.makes_ld rfl h9 (run_ldS17 _ _ w8 (ap_cells (x := ⟨0, x.k, x.t, x.a⟩) ((hj.held (Or.inr rfl)).trans HH.out)).2.1) ⟨hj.keep (by decide) (by decide) _, rfl⟩
                      · intro o1 ho y c w8 hj hc hG
                        obtain rfl := Option.some.inj ho
                        clear ho
                        refine Or.inl ⟨ord.want0 rfl, ?_⟩
                        exact ord.makes_fieldAddr rfl rfl (run_flA3 H w8) ⟨hj.keep (by decide) (by decide) _, rfl⟩
                      · intro o1 ho y c w8 hj hc hG
                        obtain rfl := Option.some.inj ho
                        clear ho
                        have h11 : y 11 = .pointer (some ⟨H, 3, none⟩) := (hG (11, 109) (List.mem_of_getElem? (i := 11) rfl) rfl).2
                        refine Or.inl ⟨ord.want0 rfl, ?_⟩
                        exact ord.makes_ld rfl h11 (run_ldI17 _ _ w8 (ap_cells (x := ⟨0, x.k, x.t, x.a⟩) ((hj.held (Or.inr rfl)).trans HH.out)).2.2.2) ⟨hj.keep (by decide) (by decide) _, rfl⟩
                      · intro o1 ho y c w8 hj hc hG
                        obtain rfl := Option.some.inj ho
                        clear ho
                        refine Or.inl ⟨ord.want0 rfl, ?_⟩
                        exact ord.makes_fieldAddr rfl rfl (run_flA2 H w8) ⟨hj.keep (by decide) (by decide) _, rfl⟩
                      · intro o1 ho y c w8 hj hc hG
                        obtain rfl := Option.some.inj ho
                        clear ho
                        have h13 : y 13 = .pointer (some ⟨H, 2, none⟩) := (hG (13, 111) (List.mem_of_getElem? (i := 13) rfl) rfl).2
                        refine Or.inl ⟨ord.want0 rfl, ?_⟩
                        exact ord.makes_ld rfl h13 (run_ldS17 _ _ w8 (ap_cells (x := ⟨0, x.k, x.t, x.a⟩) ((hj.held (Or.inr rfl)).trans HH.out)).2.2.1) ⟨hj.keep (by decide) (by decide) _, rfl⟩
                      · intro o1 ho y c w8 hj hc hG
                        obtain rfl := Option.some.inj ho
                        clear ho
                        have h8 : y 8 = .pointer (some ⟨X, 0, none⟩) := (hG (8, 106) (List.mem_of_getElem? (i := 8) rfl) rfl).2
                        have h10 : y 10 = .string x.k := (hG (10, 108) (List.mem_of_getElem? (i := 10) rfl) rfl).2
                        have h12 : y 12 = .int .i64 x.a := (hG (12, 110) (List.mem_of_getElem? (i := 12) rfl) rfl).2
                        have h14 : y 14 = .string x.t := (hG (14, 112) (List.mem_of_getElem? (i := 14) rfl) rfl).2
                        refine Or.inl ⟨ord.want0 rfl, ?_⟩
                        exact makes_callX4 Try.func15 (by kernel_rfl) (by kernel_rfl) rfl h8 h10 h12 h14 (JT.right HK.out hj hc (by decide) (fun v h => HRA.out w8 v h)) (fun e w' h => ⟨_, h.1, h.2, rfl⟩)
                      · intro y c w8 hj hG
                        have g7 := hG (7, 105) (List.mem_of_getElem? (i := 7) rfl)
                        have g15 := hG (15, 113) (List.mem_of_getElem? (i := 15) rfl)
                        have e7 : y 7 = .int .i64 r := g7.2
                        have e15 : y 15 = .int .i64 r := g15.2
                        have H8 := Lib.hid (hj.done g7.1 g15.1)
                        clear hG g7 g15 hj
                        simp only [ord.puts, ord.put', List.set_cons_zero, List.set_cons_succ, if_true]
                        rw [e7, e15]
                        simp only [List.drop_succ_cons, List.drop_zero]
                        have hrr : (r != r) = false := by simp
                        clear e7 e15 HJ
                        go_wp2_with fail
                        refine (tells17_any HK.out (H8.out.free w8)).mono ?_
                        rintro e w9 ⟨rfl, h9⟩
                        have H9 := Lib.hid h9
                        clear h9 H8
                        go_wp2_with fail
                        go_roundw
                        case rel => exact ⟨k + 1, L1, by go_num, by omega, by omega, H9.out⟩
                        case measure => simp [intOf]; omega
                  have hd0 := hd
                  clear hd
                  by_cases hd : x.d = 1
                  · as_aux_lemma =>
                      rw [hd] at a0 b0 HM HH
                      obtain ⟨L1, hL1⟩ : ∃ L1, rvN L x.k = L1 := ⟨_, rfl⟩
                      obtain ⟨r, hr⟩ : ∃ r, rvE L x.k = r := ⟨_, rfl⟩
                      obtain ⟨n, hn⟩ : ∃ n, rvV L x.k = n := ⟨_, rfl⟩
                      have HLA := Lib.hid (fun W O (h : LA W L O) => HK.out.reverse W L O x.k h HXC.out.1)
                      have HRA := Lib.hid (fun W v (h : RLg w X W L v) => rrev17_any w X L v x.k W h)
                      rw [hL1, hr, hn] at HLA HRA
                      have hrr : (r != r) = false := by simp
                      have hnn : (n != n) = false := by simp
                      clear hL1 hr hn
                      go_wp2_with fail
                      rw [← hH]
                      clear hH
                      refine (TwoG.left HK.out HM.out (fun O h => HLA.out _ O h)).mono ?_
                      rintro e w6a ⟨rfl, h6⟩
                      clear hd a0 a1 a2 a3 b0 b1 b2 b3 hBl HM
                      have H6 := Lib.hid h6
                      obtain ⟨b0, b1, b2, b3⟩ := ap_cells (x := ⟨1, x.k, x.t, x.a⟩) ((h6.held (Or.inr rfl)).trans HH.out)
                      simp only at b0 b1 b2 b3
                      clear h6
                      go_wp2_with fail
                      refine (TwoG.right HK.out H6.out (fun v h => HRA.out _ v h)).mono ?_
                      rintro e w8 ⟨rfl, h8⟩
                      have H8 := Lib.hid h8
                      clear h8 H6 b0 b1 b2 b3
                      go_wp2_with fail

                      refine (tells17_any HK.out (H8.out.free w8)).mono ?_
                      rintro e w9 ⟨rfl, h9⟩
                      have H9 := Lib.hid h9
                      clear h9 H8
                      go_wp2_with fail
                      go_roundw
                      case rel => exact ⟨k + 1, L1, by go_num, by omega, by omega, H9.out⟩
                      case measure => simp [intOf]; omega
                  have hd1 := hd
                  clear hd
                  by_cases hd : x.d = 2
                  · as_aux_lemma =>
                      rw [hd] at a0 b0 HM HH
                      obtain ⟨P, hP⟩ : ∃ P, akP L x.k = P := ⟨_, rfl⟩
                      obtain ⟨q, hq⟩ : ∃ q, akB L x.k = q := ⟨_, rfl⟩
                      have HLA := Lib.hid (fun W O (h : LA W L O) => HK.out.ask W L O x.k h HXC.out.1)
                      have HRA := Lib.hid (fun W v (h : RLg w X W L v) => rask17_any w X L v x.k W h)
                      rw [hP, hq] at HLA HRA
                      have hqq : (q != q) = false := by simp
                      clear hP hq
                      go_wp2_with fail
                      rw [← hH]
                      clear hH
                      refine (TwoG.left HK.out HM.out (fun O h => HLA.out _ O h)).mono ?_
                      rintro e w6a ⟨rfl, h6⟩
                      clear hd a0 a1 a2 a3 b0 b1 b2 b3 hBl HM
                      have hb6a := alloc_below w6a (.cells #[.string P.k, .int .i64 P.a, .int .i64 P.s, .string P.t] 31)
                      obtain ⟨H2, hH2⟩ : ∃ H2, H2 = w6a.heap.size := ⟨_, rfl⟩
                      have HH6 := Lib.hid ((hb6a.block _ (h6.lt_of (Or.inr rfl))).trans ((h6.held (Or.inr rfl)).trans HH.out))
                      have HM6 := Lib.hid (h6.more HK.out (T := fun k => k = H2) hb6a (fun k e => by subst e; rw [hH2]; exact ⟨Nat.le_refl _, by simp⟩))
                      have HP6 := Lib.hid (show (w6a.alloc (.cells #[.string P.k, .int .i64 P.a, .int .i64 P.s, .string P.t] 31)).heap[H2]? = some (.cells #[.string P.k, .int .i64 P.a, .int .i64 P.s, .string P.t] 31) from by rw [hH2]; exact heap_alloc_new w6a (.cells #[.string P.k, .int .i64 P.a, .int .i64 P.s, .string P.t] 31))
                      obtain ⟨b0, b1, b2, b3⟩ := ap_cells (x := ⟨2, x.k, x.t, x.a⟩) HH6.out
                      simp only at b0 b1 b2 b3
                      clear h6 hb6a HH6 HH
                      go_wp2_with fail
                      refine (TwoG.right0 HK.out HM6.out (fun v h => HRA.out _ v h)).mono ?_
                      rintro e w7 ⟨rfl, h7⟩
                      rw [← hH2]
                      clear b0 b1 b2 b3 hH2
                      have hb8 := alloc_below w7 (.cells #[.string P.k, .int .i64 P.a, .int .i64 P.s, .string P.t] 31)
                      have hu7 := (h7.held (Or.inr rfl)).trans HP6.out
                      obtain ⟨d0, d1, d2, d3⟩ := po_cells (z := P) ((hb8.block _ (h7.lt_of (Or.inr rfl))).trans hu7)
                      obtain ⟨u0, u1, u2, u3⟩ := po_cells (z := P) (heap_alloc_new w7 (.cells #[.string P.k, .int .i64 P.a, .int .i64 P.s, .string P.t] 31))
                      have H8a := Lib.hid (h7.below HK.out hb8)
                      have hne := fun w => run_neqPo P P w
                      have hdd : decide (P ≠ P) = false := by simp
                      rw [hdd] at hne
                      clear h7 hb8 hu7 hdd HP6 HM6
                      go_wp2_with fail
                      generalize w7.alloc (.cells #[.string P.k, .int .i64 P.a, .int .i64 P.s, .string P.t] 31) = w8 at *
                      have H8 := H8a
                      clear d0 d1 d2 d3 u0 u1 u2 u3 hne H8a

                      refine (tells17_any HK.out (H8.out.free w8)).mono ?_
                      rintro e w9 ⟨rfl, h9⟩
                      have H9 := Lib.hid h9
                      clear h9 H8
                      go_wp2_with fail
                      go_roundw
                      case rel => exact ⟨k + 1, L, by go_num, by omega, by omega, H9.out⟩
                      case measure => simp [intOf]; omega
                  have hd2 := hd
                  clear hd
                  by_cases hd : x.d = 3
                  · as_aux_lemma =>
                      rw [hd] at a0 b0 HM HH
                      obtain ⟨T, hT⟩ : ∃ T, totP L = T := ⟨_, rfl⟩
                      have HLA := Lib.hid (fun W O (h : LA W L O) => HK.out.close W L O h)
                      have HRA := Lib.hid (fun W v (h : RLg w X W L v) => rclose17_any w X L v W h)
                      rw [hT] at HLA HRA
                      have hTT : (T != T) = false := by simp
                      clear hT
                      go_wp2_with fail
                      rw [← hH]
                      clear hH
                      refine (TwoG.left HK.out HM.out (fun O h => HLA.out _ O h)).mono ?_
                      rintro e w6a ⟨rfl, h6⟩
                      clear hd a0 a1 a2 a3 b0 b1 b2 b3 hBl HM
                      have H6 := Lib.hid h6
                      clear h6
                      go_wp2_with fail
                      refine (TwoG.right HK.out H6.out (fun v h => HRA.out _ v h)).mono ?_
                      rintro e w8 ⟨rfl, h8⟩
                      have H8 := Lib.hid h8
                      clear h8 H6
                      go_wp2_with fail

                      refine (tells17_any HK.out (H8.out.free w8)).mono ?_
                      rintro e w9 ⟨rfl, h9⟩
                      have H9 := Lib.hid h9
                      clear h9 H8
                      go_wp2_with fail
                      go_roundw
                      case rel => exact ⟨k + 1, [], by go_num, by omega, by omega, H9.out⟩
                      case measure => simp [intOf]; omega
                  have hd3 := hd
                  clear hd
                  as_aux_lemma =>
                    have qd0 : (x.d == 0) = false := by simpa using hd0
                    have qd1 : (x.d == 1) = false := by simpa using hd1
                    have qd2 : (x.d == 2) = false := by simpa using hd2
                    have qd3 : (x.d == 3) = false := by simpa using hd3
                    go_wp2_with fail
                    have H8 := HM
                    clear hd0 hd1 hd2 hd3 qd0 qd1 qd2 qd3 a0 a1 a2 a3 b0 b1 b2 b3 hBl HM
                    generalize (wr2.alloc (.cells #[.int .i64 x.d, .string x.k, .string x.t, .int .i64 x.a] 38)) = w8 at *

                    refine (tells17_any HK.out (H8.out.free w8)).mono ?_
                    rintro e w9 ⟨rfl, h9⟩
                    have H9 := Lib.hid h9
                    clear h9 H8
                    go_wp2_with fail
                    go_roundw
                    case rel => exact ⟨k + 1, L, by go_num, by omega, by omega, H9.out⟩
                    case measure => simp [intOf]; omega
                · have hnl := hlt
                  have hend : ¬ (k : Int) < Y.length ∨ (k : Int) < Y.length ∧ ¬ (k : Int) < 200 := by omega
                  rcases hend with hz1 | ⟨hz1, hz2⟩
                  all_goals
                    go_wp2_with fail
                    refine (tells17_any HK.out HPR.out).mono ?_
                    rintro e w9 ⟨rfl, h9⟩
                    have HB9 := Lib.hid h9.bel
                    clear h9
                    go_wp2_with fail
                    go_ret
                    exact ⟨rfl, HB9.out⟩
          | false =>
            go_wp2_with fail
            refine (lgnew w w6 HB6.out).mono ?_
            rintro e w7 ⟨G, LA, O, rfl, hK, hla, _, hb7⟩
            have HB7 := HB6.out.trans (hb7.mono HB6.out.size)
            go_wp2_with fail
            refine (rnew17_any w w7 HB7).mono ?_
            rintro e w8 ⟨X, rfl, hx, hX8, hb8⟩
            have HP := Lib.hid (TwoG.new hK hla hb8 hx (fun k hk => by
              rcases hk with rfl | hk
              · exact hX8
              · cases hk))
            have HK := Lib.hid hK
            clear hK hla hx hX8 hb7 hb8 HB7
            as_aux_lemma =>
              go_wp2_with fail
              go_loopw [15] (fun i wr => ∃ (k : Nat) (L : List Po), i = .int .i64 k ∧ k ≤ Y.length ∧ k ≤ 200 ∧ TwoG w LA X (fun _ => False) wr wr L L) (fun i _ => Y.length - (intOf i).toNat)
              case atStart => exact ⟨0, _, rfl, Nat.zero_le _, Nat.zero_le _, HP.out⟩
              case round =>
                obtain ⟨wr2, hwr2⟩ : ∃ W, W = wr := ⟨_, rfl⟩
                subst hwr2
                obtain ⟨k, L, rfl, hk, hk200, hp⟩ := hrel
                have HPR := Lib.hid hp
                clear hp HP
                by_cases hlt : k < Y.length ∧ k < 200
                · obtain ⟨hl1, hl2⟩ := hlt
                  have hki : (k : Int) < Y.length := by omega
                  have hk2i : (k : Int) < 200 := by omega
                  have hk3 : ¬ (k : Int) < 0 := by omega
                  obtain ⟨B, o, rfl, hBl, a0, a1, a2, a3⟩ := ap_at (HACT.out.chgS (ChgS.of_below (S := fun _ => False) HPR.out.bel) (fun _ _ _ h => h)) hl1
                  have HXC := Lib.hid (HY.out _ (List.getElem_mem hl1))
                  generalize Y[k] = x at *
                  obtain ⟨H, hH⟩ : ∃ H, H = wr2.heap.size := ⟨_, rfl⟩
                  have hba := alloc_below wr2 (.cells #[.int .i64 x.d, .string x.k, .string x.t, .int .i64 x.a] 38)
                  have HM := Lib.hid (HPR.out.more HK.out (T := fun k => k = H) hba (fun k e => by subst e; rw [hH]; exact ⟨Nat.le_refl _, by simp⟩))
                  have HH := Lib.hid (show (wr2.alloc (.cells #[.int .i64 x.d, .string x.k, .string x.t, .int .i64 x.a] 38)).heap[H]? = some (.cells #[.int .i64 x.d, .string x.k, .string x.t, .int .i64 x.a] 38) from by rw [hH]; exact heap_alloc_new wr2 (.cells #[.int .i64 x.d, .string x.k, .string x.t, .int .i64 x.a] 38))
                  obtain ⟨b0, b1, b2, b3⟩ := ap_cells HH.out
                  clear hba HPR
                  rw [hH] at b0 b1 b2 b3
                  by_cases hd : x.d = 0
                  · as_aux_lemma =>
                      rw [hd] at a0 b0 HM HH
                      obtain ⟨L1, hL1⟩ : ∃ L1, apN L x.k x.a x.t = L1 := ⟨_, rfl⟩
                      obtain ⟨r, hr⟩ : ∃ r, apE L x.k x.a x.t = r := ⟨_, rfl⟩
                      have HLA := Lib.hid (fun W O (h : LA W L O) => HK.out.approve W L O x.k x.a x.t h HXC.out.1 HXC.out.2)
                      have HRA := Lib.hid (fun W v (h : RLg w X W L v) => rapp17_any w X L v x.k x.a x.t W h)
                      rw [hL1, hr] at HLA HRA
                      clear hL1 hr
                      go_wp2_with fail
                      clear hd a0 a1 a2 a3 b0 b1 b2 b3 hBl
                      generalize (wr2.alloc (.cells #[.int .i64 0, .string x.k, .string x.t, .int .i64 x.a] 38)) = w7 at *
                      have HJ := Lib.hid (JT.start (L' := L1) (na := 7) (nb := 15) HK.out HM.out)
                      rw [← hH]
                      clear hH
                      refine ord.wp_region_ordZ (JT w LA X (fun k => False ∨ k = H) w7 L L1 7 15) 16 [[], [], [1], [], [3], [], [5], [0, 2, 4, 6], [], [], [9], [], [11], [], [13], [8, 10, 12, 14]] [(0, 98), (1, 99), (2, 100), (3, 101), (4, 102), (5, 103), (6, 104), (7, 105), (8, 106), (9, 107), (10, 108), (11, 109), (12, 110), (13, 111), (14, 112), (15, 113)] (plR G X H x.k x.a x.t r) (by kernel_rfl) (by kernel_rfl) (by kernel_rfl) (ord.steps_cons ?_ (ord.steps_cons ?_ (ord.steps_cons ?_ (ord.steps_cons ?_ (ord.steps_cons ?_ (ord.steps_cons ?_ (ord.steps_cons ?_ (ord.steps_cons ?_ (ord.steps_cons ?_ (ord.steps_cons ?_ (ord.steps_cons ?_ (ord.steps_cons ?_ (ord.steps_cons ?_ (ord.steps_cons ?_ (ord.steps_cons ?_ (ord.steps_cons ?_ ord.steps_nil)))))))))))))))) HJ.out ?_
                      · intro o1 ho y c w8 hj hc hG
                        obtain rfl := Option.some.inj ho
                        clear ho
                        refine Or.inl ⟨ord.want0 rfl, ?_⟩
                        exact ord.makes_move rfl ⟨hj.keep (by decide) (by decide) _, rfl⟩
                      · intro o1 ho y c w8 hj hc hG
                        obtain rfl := Option.some.inj ho
                        clear ho
                        refine Or.inl ⟨ord.want0 rfl, ?_⟩
                        exact ord.makes_fieldAddr rfl rfl (run_flA1 H w8) ⟨hj.keep (by decide) (by decide) _, rfl⟩
                      · intro o1 ho y c w8 hj hc hG
                        obtain rfl := Option.some.inj ho
                        clear ho
                        have h1 : y 1 = .pointer (some ⟨H, 1, none⟩) := (hG (1, 99) (List.mem_of_getElem? (i := 1) rfl) rfl).2
                        refine Or.inl ⟨ord.want0 rfl, ?_⟩
                        exact ord.makes_ld rfl h1 (run_ldS17 _ _ w8 (ap_cells (x := ⟨0, x.k, x.t, x.a⟩) ((hj.held (Or.inr rfl)).trans HH.out)).2.1) ⟨hj.keep (by decide) (by decide) _, rfl⟩
                      · intro o1 ho y c w8 hj hc hG
                        obtain rfl := Option.some.inj ho
                        clear ho
                        refine Or.inl ⟨ord.want0 rfl, ?_⟩
                        exact ord.makes_fieldAddr rfl rfl (run_flA3 H w8) ⟨hj.keep (by decide) (by decide) _, rfl⟩
                      · intro o1 ho y c w8 hj hc hG
                        obtain rfl := Option.some.inj ho
                        clear ho
                        have h3 : y 3 = .pointer (some ⟨H, 3, none⟩) := (hG (3, 101) (List.mem_of_getElem? (i := 3) rfl) rfl).2
                        refine Or.inl ⟨ord.want0 rfl, ?_⟩
                        exact ord.makes_ld rfl h3 (run_ldI17 _ _ w8 (ap_cells (x := ⟨0, x.k, x.t, x.a⟩) ((hj.held (Or.inr rfl)).trans HH.out)).2.2.2) ⟨hj.keep (by decide) (by decide) _, rfl⟩
                      · intro o1 ho y c w8 hj hc hG
                        obtain rfl := Option.some.inj ho
                        clear ho
                        refine Or.inl ⟨ord.want0 rfl, ?_⟩
                        exact ord.makes_fieldAddr rfl rfl (run_flA2 H w8) ⟨hj.keep (by decide) (by decide) _, rfl⟩
                      · intro o1 ho y c w8 hj hc hG
                        obtain rfl := Option.some.inj ho
                        clear ho
                        have h5 : y 5 = .pointer (some ⟨H, 2, none⟩) := (hG (5, 103) (List.mem_of_getElem? (i := 5) rfl) rfl).2
                        refine Or.inl ⟨ord.want0 rfl, ?_⟩
                        exact ord.makes_ld rfl h5 (run_ldS17 _ _ w8 (ap_cells (x := ⟨0, x.k, x.t, x.a⟩) ((hj.held (Or.inr rfl)).trans HH.out)).2.2.1) ⟨hj.keep (by decide) (by decide) _, rfl⟩
                      · intro o1 ho y c w8 hj hc hG
                        obtain rfl := Option.some.inj ho
                        clear ho
                        have h0 : y 0 = .pointer (some ⟨G, 0, none⟩) := (hG (0, 98) (List.mem_of_getElem? (i := 0) rfl) rfl).2
                        have h2 : y 2 = .string x.k := (hG (2, 100) (List.mem_of_getElem? (i := 2) rfl) rfl).2
                        have h4 : y 4 = .int .i64 x.a := (hG (4, 102) (List.mem_of_getElem? (i := 4) rfl) rfl).2
                        have h6 : y 6 = .string x.t := (hG (6, 104) (List.mem_of_getElem? (i := 6) rfl) rfl).2
                        refine Or.inl ⟨ord.want0 rfl, ?_⟩
                        exact makes_callX4 Try.func14 (by kernel_rfl) (by kernel_rfl) rfl h0 h2 h4 h6 (JT.left HK.out hj hc (by decide) (fun O h => HLA.out w8 O h)) (fun e w' h => ⟨_, h.1, h.2, rfl⟩)
                      · intro o1 ho y c w8 hj hc hG
                        obtain rfl := Option.some.inj ho
                        clear ho
                        refine Or.inl ⟨ord.want0 rfl, ?_⟩
                        exact ord.makes_move rfl ⟨hj.keep (by decide) (by decide) _, rfl⟩
                      · intro o1 ho y c w8 hj hc hG
                        obtain rfl := Option.some.inj ho
                        clear ho
                        refine Or.inl ⟨ord.want0 rfl, ?_⟩
                        exact ord.makes_fieldAddr rfl rfl (run_flA1 H w8) ⟨hj.keep (by decide) (by decide) _, rfl⟩
                      · intro o1 ho y c w8 hj hc hG
                        obtain rfl := Option.some.inj ho
                        clear ho
                        have h9 : y 9 = .pointer (some ⟨H, 1, none⟩) := (hG (9, 107) (List.mem_of_getElem? (i := 9) rfl) rfl).2
                        refine Or.inl ⟨ord.want0 rfl, ?_⟩
                        exact ord.makes_ld rfl h9 (run_ldS17 _ _ w8 (ap_cells (x := ⟨0, x.k, x.t, x.a⟩) ((hj.held (Or.inr rfl)).trans HH.out)).2.1) ⟨hj.keep (by decide) (by decide) _, rfl⟩
                      · intro o1 ho y c w8 hj hc hG
                        obtain rfl := Option.some.inj ho
                        clear ho
                        refine Or.inl ⟨ord.want0 rfl, ?_⟩
                        exact ord.makes_fieldAddr rfl rfl (run_flA3 H w8) ⟨hj.keep (by decide) (by decide) _, rfl⟩
                      · intro o1 ho y c w8 hj hc hG
                        obtain rfl := Option.some.inj ho
                        clear ho
                        have h11 : y 11 = .pointer (some ⟨H, 3, none⟩) := (hG (11, 109) (List.mem_of_getElem? (i := 11) rfl) rfl).2
                        refine Or.inl ⟨ord.want0 rfl, ?_⟩
                        exact ord.makes_ld rfl h11 (run_ldI17 _ _ w8 (ap_cells (x := ⟨0, x.k, x.t, x.a⟩) ((hj.held (Or.inr rfl)).trans HH.out)).2.2.2) ⟨hj.keep (by decide) (by decide) _, rfl⟩
                      · intro o1 ho y c w8 hj hc hG
                        obtain rfl := Option.some.inj ho
                        clear ho
                        refine Or.inl ⟨ord.want0 rfl, ?_⟩
                        exact ord.makes_fieldAddr rfl rfl (run_flA2 H w8) ⟨hj.keep (by decide) (by decide) _, rfl⟩
                      · intro o1 ho y c w8 hj hc hG
                        obtain rfl := Option.some.inj ho
                        clear ho
                        have h13 : y 13 = .pointer (some ⟨H, 2, none⟩) := (hG (13, 111) (List.mem_of_getElem? (i := 13) rfl) rfl).2
                        refine Or.inl ⟨ord.want0 rfl, ?_⟩
                        exact ord.makes_ld rfl h13 (run_ldS17 _ _ w8 (ap_cells (x := ⟨0, x.k, x.t, x.a⟩) ((hj.held (Or.inr rfl)).trans HH.out)).2.2.1) ⟨hj.keep (by decide) (by decide) _, rfl⟩
                      · intro o1 ho y c w8 hj hc hG
                        obtain rfl := Option.some.inj ho
                        clear ho
                        have h8 : y 8 = .pointer (some ⟨X, 0, none⟩) := (hG (8, 106) (List.mem_of_getElem? (i := 8) rfl) rfl).2
                        have h10 : y 10 = .string x.k := (hG (10, 108) (List.mem_of_getElem? (i := 10) rfl) rfl).2
                        have h12 : y 12 = .int .i64 x.a := (hG (12, 110) (List.mem_of_getElem? (i := 12) rfl) rfl).2
                        have h14 : y 14 = .string x.t := (hG (14, 112) (List.mem_of_getElem? (i := 14) rfl) rfl).2
                        refine Or.inl ⟨ord.want0 rfl, ?_⟩
                        exact makes_callX4 Try.func15 (by kernel_rfl) (by kernel_rfl) rfl h8 h10 h12 h14 (JT.right HK.out hj hc (by decide) (fun v h => HRA.out w8 v h)) (fun e w' h => ⟨_, h.1, h.2, rfl⟩)
                      · intro y c w8 hj hG
                        have g7 := hG (7, 105) (List.mem_of_getElem? (i := 7) rfl)
                        have g15 := hG (15, 113) (List.mem_of_getElem? (i := 15) rfl)
                        have e7 : y 7 = .int .i64 r := g7.2
                        have e15 : y 15 = .int .i64 r := g15.2
                        have H8 := Lib.hid (hj.done g7.1 g15.1)
                        clear hG g7 g15 hj
                        simp only [ord.puts, ord.put', List.set_cons_zero, List.set_cons_succ, if_true]
                        rw [e7, e15]
                        simp only [List.drop_succ_cons, List.drop_zero]
                        have hrr : (r != r) = false := by simp
                        clear e7 e15 HJ
                        go_wp2_with fail
                        refine (tells17_any HK.out (H8.out.free w8)).mono ?_
                        rintro e w9 ⟨rfl, h9⟩
                        have H9 := Lib.hid h9
                        clear h9 H8
                        go_wp2_with fail
                        go_roundw
                        case rel => exact ⟨k + 1, L1, by go_num, by omega, by omega, H9.out⟩
                        case measure => simp [intOf]; omega
                  have hd0 := hd
                  clear hd
                  by_cases hd : x.d = 1
                  · as_aux_lemma =>
                      rw [hd] at a0 b0 HM HH
                      obtain ⟨L1, hL1⟩ : ∃ L1, rvN L x.k = L1 := ⟨_, rfl⟩
                      obtain ⟨r, hr⟩ : ∃ r, rvE L x.k = r := ⟨_, rfl⟩
                      obtain ⟨n, hn⟩ : ∃ n, rvV L x.k = n := ⟨_, rfl⟩
                      have HLA := Lib.hid (fun W O (h : LA W L O) => HK.out.reverse W L O x.k h HXC.out.1)
                      have HRA := Lib.hid (fun W v (h : RLg w X W L v) => rrev17_any w X L v x.k W h)
                      rw [hL1, hr, hn] at HLA HRA
                      have hrr : (r != r) = false := by simp
                      have hnn : (n != n) = false := by simp
                      clear hL1 hr hn
                      go_wp2_with fail
                      rw [← hH]
                      clear hH
                      refine (TwoG.left HK.out HM.out (fun O h => HLA.out _ O h)).mono ?_
                      rintro e w6a ⟨rfl, h6⟩
                      clear hd a0 a1 a2 a3 b0 b1 b2 b3 hBl HM
                      have H6 := Lib.hid h6
                      obtain ⟨b0, b1, b2, b3⟩ := ap_cells (x := ⟨1, x.k, x.t, x.a⟩) ((h6.held (Or.inr rfl)).trans HH.out)
                      simp only at b0 b1 b2 b3
                      clear h6
                      go_wp2_with fail
                      refine (TwoG.right HK.out H6.out (fun v h => HRA.out _ v h)).mono ?_
                      rintro e w8 ⟨rfl, h8⟩
                      have H8 := Lib.hid h8
                      clear h8 H6 b0 b1 b2 b3
                      go_wp2_with fail

                      refine (tells17_any HK.out (H8.out.free w8)).mono ?_
                      rintro e w9 ⟨rfl, h9⟩
                      have H9 := Lib.hid h9
                      clear h9 H8
                      go_wp2_with fail
                      go_roundw
                      case rel => exact ⟨k + 1, L1, by go_num, by omega, by omega, H9.out⟩
                      case measure => simp [intOf]; omega
                  have hd1 := hd
                  clear hd
                  by_cases hd : x.d = 2
                  · as_aux_lemma =>
                      rw [hd] at a0 b0 HM HH
                      obtain ⟨P, hP⟩ : ∃ P, akP L x.k = P := ⟨_, rfl⟩
                      obtain ⟨q, hq⟩ : ∃ q, akB L x.k = q := ⟨_, rfl⟩
                      have HLA := Lib.hid (fun W O (h : LA W L O) => HK.out.ask W L O x.k h HXC.out.1)
                      have HRA := Lib.hid (fun W v (h : RLg w X W L v) => rask17_any w X L v x.k W h)
                      rw [hP, hq] at HLA HRA
                      have hqq : (q != q) = false := by simp
                      clear hP hq
                      go_wp2_with fail
                      rw [← hH]
                      clear hH
                      refine (TwoG.left HK.out HM.out (fun O h => HLA.out _ O h)).mono ?_
                      rintro e w6a ⟨rfl, h6⟩
                      clear hd a0 a1 a2 a3 b0 b1 b2 b3 hBl HM
                      have hb6a := alloc_below w6a (.cells #[.string P.k, .int .i64 P.a, .int .i64 P.s, .string P.t] 31)
                      obtain ⟨H2, hH2⟩ : ∃ H2, H2 = w6a.heap.size := ⟨_, rfl⟩
                      have HH6 := Lib.hid ((hb6a.block _ (h6.lt_of (Or.inr rfl))).trans ((h6.held (Or.inr rfl)).trans HH.out))
                      have HM6 := Lib.hid (h6.more HK.out (T := fun k => k = H2) hb6a (fun k e => by subst e; rw [hH2]; exact ⟨Nat.le_refl _, by simp⟩))
                      have HP6 := Lib.hid (show (w6a.alloc (.cells #[.string P.k, .int .i64 P.a, .int .i64 P.s, .string P.t] 31)).heap[H2]? = some (.cells #[.string P.k, .int .i64 P.a, .int .i64 P.s, .string P.t] 31) from by rw [hH2]; exact heap_alloc_new w6a (.cells #[.string P.k, .int .i64 P.a, .int .i64 P.s, .string P.t] 31))
                      obtain ⟨b0, b1, b2, b3⟩ := ap_cells (x := ⟨2, x.k, x.t, x.a⟩) HH6.out
                      simp only at b0 b1 b2 b3
                      clear h6 hb6a HH6 HH
                      go_wp2_with fail
                      refine (TwoG.right0 HK.out HM6.out (fun v h => HRA.out _ v h)).mono ?_
                      rintro e w7 ⟨rfl, h7⟩
                      rw [← hH2]
                      clear b0 b1 b2 b3 hH2
                      have hb8 := alloc_below w7 (.cells #[.string P.k, .int .i64 P.a, .int .i64 P.s, .string P.t] 31)
                      have hu7 := (h7.held (Or.inr rfl)).trans HP6.out
                      obtain ⟨d0, d1, d2, d3⟩ := po_cells (z := P) ((hb8.block _ (h7.lt_of (Or.inr rfl))).trans hu7)
                      obtain ⟨u0, u1, u2, u3⟩ := po_cells (z := P) (heap_alloc_new w7 (.cells #[.string P.k, .int .i64 P.a, .int .i64 P.s, .string P.t] 31))
                      have H8a := Lib.hid (h7.below HK.out hb8)
                      have hne := fun w => run_neqPo P P w
                      have hdd : decide (P ≠ P) = false := by simp
                      rw [hdd] at hne
                      clear h7 hb8 hu7 hdd HP6 HM6
                      go_wp2_with fail
                      generalize w7.alloc (.cells #[.string P.k, .int .i64 P.a, .int .i64 P.s, .string P.t] 31) = w8 at *
                      have H8 := H8a
                      clear d0 d1 d2 d3 u0 u1 u2 u3 hne H8a

                      refine (tells17_any HK.out (H8.out.free w8)).mono ?_
                      rintro e w9 ⟨rfl, h9⟩
                      have H9 := Lib.hid h9
                      clear h9 H8
                      go_wp2_with fail
                      go_roundw
                      case rel => exact ⟨k + 1, L, by go_num, by omega, by omega, H9.out⟩
                      case measure => simp [intOf]; omega
                  have hd2 := hd
                  clear hd
                  by_cases hd : x.d = 3
                  · as_aux_lemma =>
                      rw [hd] at a0 b0 HM HH
                      obtain ⟨T, hT⟩ : ∃ T, totP L = T := ⟨_, rfl⟩
                      have HLA := Lib.hid (fun W O (h : LA W L O) => HK.out.close W L O h)
                      have HRA := Lib.hid (fun W v (h : RLg w X W L v) => rclose17_any w X L v W h)
                      rw [hT] at HLA HRA
                      have hTT : (T != T) = false := by simp
                      clear hT
                      go_wp2_with fail
                      rw [← hH]
                      clear hH
                      refine (TwoG.left HK.out HM.out (fun O h => HLA.out _ O h)).mono ?_
                      rintro e w6a ⟨rfl, h6⟩
                      clear hd a0 a1 a2 a3 b0 b1 b2 b3 hBl HM
                      have H6 := Lib.hid h6
                      clear h6
                      go_wp2_with fail
                      refine (TwoG.right HK.out H6.out (fun v h => HRA.out _ v h)).mono ?_
                      rintro e w8 ⟨rfl, h8⟩
                      have H8 := Lib.hid h8
                      clear h8 H6
                      go_wp2_with fail

                      refine (tells17_any HK.out (H8.out.free w8)).mono ?_
                      rintro e w9 ⟨rfl, h9⟩
                      have H9 := Lib.hid h9
                      clear h9 H8
                      go_wp2_with fail
                      go_roundw
                      case rel => exact ⟨k + 1, [], by go_num, by omega, by omega, H9.out⟩
                      case measure => simp [intOf]; omega
                  have hd3 := hd
                  clear hd
                  as_aux_lemma =>
                    have qd0 : (x.d == 0) = false := by simpa using hd0
                    have qd1 : (x.d == 1) = false := by simpa using hd1
                    have qd2 : (x.d == 2) = false := by simpa using hd2
                    have qd3 : (x.d == 3) = false := by simpa using hd3
                    go_wp2_with fail
                    have H8 := HM
                    clear hd0 hd1 hd2 hd3 qd0 qd1 qd2 qd3 a0 a1 a2 a3 b0 b1 b2 b3 hBl HM
                    generalize (wr2.alloc (.cells #[.int .i64 x.d, .string x.k, .string x.t, .int .i64 x.a] 38)) = w8 at *

                    refine (tells17_any HK.out (H8.out.free w8)).mono ?_
                    rintro e w9 ⟨rfl, h9⟩
                    have H9 := Lib.hid h9
                    clear h9 H8
                    go_wp2_with fail
                    go_roundw
                    case rel => exact ⟨k + 1, L, by go_num, by omega, by omega, H9.out⟩
                    case measure => simp [intOf]; omega
                · have hnl := hlt
                  have hend : ¬ (k : Int) < Y.length ∨ (k : Int) < Y.length ∧ ¬ (k : Int) < 200 := by omega
                  rcases hend with hz1 | ⟨hz1, hz2⟩
                  all_goals
                    go_wp2_with fail
                    refine (tells17_any HK.out HPR.out).mono ?_
                    rintro e w9 ⟨rfl, h9⟩
                    have HB9 := Lib.hid h9.bel
                    clear h9
                    go_wp2_with fail
                    go_ret
                    exact ⟨rfl, HB9.out⟩
end Go.Proofs.Ytlglkfgephilnaa
