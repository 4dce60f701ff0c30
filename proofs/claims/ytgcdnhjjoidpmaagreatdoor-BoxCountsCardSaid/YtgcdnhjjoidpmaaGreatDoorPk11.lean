/- 5 texts in one, in their order. -/
import Derived.Test.YtgcdnhjjoidpmaaGreatDoorPk10
/- Contracts of package box: a Sealer. -/
namespace Go.Proofs.YtgcdnhjjoidpmaaGreatDoor
open Go.RowKit
/-- a Sealer in block s: its Maker in block g, its key in block B; the next nonce is K -/
structure Slr (w : World) (s g B K len nt : Nat) (key tk : Nat → Nat) (cE : Nat) : Prop where
  enc : w.cell? ⟨s, 0, none⟩ = some (.slice (some ⟨B, 0, none⟩) len cE)
  mak : w.cell? ⟨s, 1, none⟩ = some (.pointer (some ⟨g, 0, none⟩))
  cnt : w.cell? ⟨s, 2, none⟩ = some (.int .u64 (K : Nat))
  cntf : w.frozen? ⟨s, 2, none⟩ = false
  row : SlB w (some ⟨B, 0, none⟩) len key
  maker : MakAt w g nt tk
  ne : s ≠ g
  neBs : B ≠ s
  neBg : B ≠ g
namespace Slr
variable {w w' : World} {s g B K len nt cE : Nat} {key tk : Nat → Nat}
theorem lt (h : Slr w s g B K len nt key tk cE) : s < w.heap.size := block_lt (a := ⟨s, 0, none⟩) h.enc
theorem of_blocks (h : Slr w s g B K len nt key tk cE) (hs : w'.heap[s]? = w.heap[s]?) (hg : w'.heap[g]? = w.heap[g]?) (hB : w'.heap[B]? = w.heap[B]?) (hz : w.heap.size ≤ w'.heap.size) : Slr w' s g B K len nt key tk cE :=
  ⟨(World.cell?_of_block hs).trans h.enc, (World.cell?_of_block hs).trans h.mak, (World.cell?_of_block hs).trans h.cnt, (World.frozen?_of_block hs).trans h.cntf,
    fun h0 => by
      obtain ⟨B', o, e, hB', hc⟩ := h.row h0
      cases e
      exact ⟨B, 0, rfl, Nat.lt_of_lt_of_le hB' hz, fun j hj => ⟨(hc j hj).1, (World.cell?_of_block hB).trans (hc j hj).2⟩⟩,
    h.maker.of_block hg, h.ne, h.neBs, h.neBg⟩
theorem keep (h : Slr w s g B K len nt key tk cE) (hl : 0 < len) (hb : Below w.heap.size w w') : Slr w' s g B K len nt key tk cE :=
  h.of_blocks (hb.block s h.lt) (hb.block g h.maker.lt) (hb.block B (by
    obtain ⟨B', o, e, hB', _⟩ := h.row hl
    cases e
    exact hB')) hb.size
end Slr
theorem OwnB.ownX {w : World} {base n : Nat} {v : Value} {f : Nat → Nat} (h : OwnB w base v n f) : ∃ A c g, v = .slice A n c ∧ (0 < c → A = some ⟨g, 0, none⟩) ∧ (0 < c → base ≤ g) ∧ c ≤ maxLen ∧ n ≤ c := by
  rcases h.2 with ⟨rfl, hn⟩ | ⟨g, cap, cur, rfl, hg, hh, h1, h2, _⟩
  · subst hn; exact ⟨none, 0, 0, rfl, fun h => absurd h (Nat.lt_irrefl 0), fun h => absurd h (Nat.lt_irrefl 0), by unfold maxLen; omega, Nat.le_refl _⟩
  · exact ⟨_, cap, g, rfl, fun _ => rfl, fun _ => hg, h2, h1⟩
theorem of_drewC' {w w' : World} (h : Below w.heap.size w.drew w') : Below w.heap.size w w' := ⟨h.os, h.tape, h.output, h.size, h.block⟩
set_option maxRecDepth 100000 in
theorem newx_wrong (len cap nt ct : Nat) (N : Int) (Ae At : Option Addr) (w : World) (hl : len ≤ 140737488351232) (h : wrong len N 0) :
    Calls Tryz.prog 17 #[.slice Ae len cap, .slice At nt ct, .int .i64 N] w fun e w' => e = .returned (.tuple #[.pointer none, .int .i64 1]) ∧ w = w' := by
  have HC := Lib.hid (check_arg Ae len cap N w hl h)
  clear h
  go_enter Tryz.func17, Tryz.ntmps17
  go_wp2_with fail
  refine HC.out.mono ?_
  rintro e w1 ⟨rfl, rfl⟩
  go_wp2_with fail
  go_ret2
  exact ⟨rfl, rfl⟩
set_option maxRecDepth 100000 in
set_option maxHeartbeats 1600000 in
theorem newx_any (len n cap N nt ct : Nat) (Ae At : Option Addr) (key tk : Nat → Nat) (w : World) (hn : n = 4 ∨ n = 8) (hl : 4 * n = len) (hE : SlB w Ae len key) (hEn : Ae = none → len = 0 ∧ cap = 0) (hN : N ≤ 9223372036854775807) (hnt : nt ≤ 100000000000000) (hct : nt ≤ ct) (hT : SlB w At nt tk) (ht : GT w) :
    Calls Tryz.prog 17 #[.slice Ae len cap, .slice At nt ct, .int .i64 (N : Nat)] w fun e w' => ∃ s g B cE, e = .returned (.tuple #[.pointer (some ⟨s, 0, none⟩), .int .i64 0]) ∧ Slr w' s g B N len nt key tk cE ∧ w.heap.size ≤ s ∧ w.heap.size ≤ g ∧ w.heap.size ≤ B ∧ Below w.heap.size w w' := by
  have HC := Lib.hid (check_any Ae len n cap N key w hn hl hE hN)
  have HE := Lib.hid hE
  have HEN := Lib.hid hEn
  have HT := Lib.hid hT
  have HG := Lib.hid ht
  have HLL := Lib.hid (show len ≤ 100000000000000 ∧ 0 < len by omega)
  have HNT := Lib.hid hnt
  have HCT := Lib.hid hct
  have hNi : (N : Int) ≤ 9223372036854775807 := by omega
  have HYE := Lib.hid (show ∀ j, j < len → key j < 256 from fun j hj => hE.byte hj)
  clear hn hl hE hEn hN hnt hct hT ht
  go_enter Tryz.func17, Tryz.ntmps17
  go_wp2_with fail
  refine HC.out.mono ?_
  rintro e w1 ⟨rfl, h1⟩
  have H1 := Lib.hid h1
  clear h1 HC
  go_wp2_with fail
  refine (clone_any Ae len cap key w1 HLL.out.1 (HE.out.keep H1.out) HEN.out).mono ?_
  rintro e w2 ⟨⟨v, rfl, h1⟩, h2⟩
  obtain ⟨A, cE, B, hv, h3, h4, h5, h6⟩ := h1.ownX
  have h7 : 0 < cE := Nat.lt_of_lt_of_le HLL.out.2 h6
  obtain rfl := h3 h7
  subst hv
  obtain ⟨A2, c2, e2, h8⟩ := OwnB.slice h1 HYE.out
  cases e2
  have HB := Lib.hid (h4 h7)
  have HR2 := Lib.hid h8
  have H2 := Lib.hid (H1.out.trans (h2.mono H1.out.size))
  have HZ2 := Lib.hid h2.size
  clear h1 h2 h3 h4 h5 h6 h7 h8
  go_wp2_with fail
  refine (mnew_any At nt ct tk w2 HNT.out HCT.out (HT.out.keep H2.out) (HG.out.keep H2.out)).mono ?_
  rintro e w3 ⟨g, rfl, h1, h2, h3⟩
  have HGG := Lib.hid h1
  have HM3 := Lib.hid h2
  have HR3 := Lib.hid (HR2.out.keep h3)
  have H3 := Lib.hid (H2.out.trans (h3.mono H2.out.size))
  have HBL := Lib.hid (show B < w2.heap.size from by
    obtain ⟨B', o, e, hB', _⟩ := HR2.out HLL.out.2
    cases e
    exact hB')
  have HZ3 := Lib.hid h3.size
  clear h1 h2 h3 HR2
  go_wp2_with fail
  obtain ⟨s, hs⟩ : ∃ s, w3.heap.size = s := ⟨_, rfl⟩
  have c0 := cell_made w3 #[.slice (some ⟨B, 0, none⟩) len cE, .pointer (some ⟨g, 0, none⟩), .int .u64 0] 66 0 s hs rfl
  have c1 := cell_made w3 #[.slice (some ⟨B, 0, none⟩) len cE, .pointer (some ⟨g, 0, none⟩), .int .u64 0] 66 1 s hs rfl
  have c2 := cell_made w3 #[.slice (some ⟨B, 0, none⟩) len cE, .pointer (some ⟨g, 0, none⟩), .int .u64 0] 66 2 s hs rfl
  have f2 : (w3.alloc (.cells #[.slice (some ⟨B, 0, none⟩) len cE, .pointer (some ⟨g, 0, none⟩), .int .u64 0] 66)).frozen? ⟨s, 2, none⟩ = false := by subst hs; exact World.frozen?_alloc_at _ _ _ _ rfl
  have B4 := alloc_below w3 (.cells #[.slice (some ⟨B, 0, none⟩) len cE, .pointer (some ⟨g, 0, none⟩), .int .u64 0] 66)
  rw [hs]
  generalize w3.alloc (.cells #[.slice (some ⟨B, 0, none⟩) len cE, .pointer (some ⟨g, 0, none⟩), .int .u64 0] 66) = w4 at *
  have hgs : g < s := by rw [← hs]; exact HM3.out.lt
  have hBs : B < s := by rw [← hs]; exact Nat.lt_of_lt_of_le HBL.out HZ3.out
  have hBg : B < g := Nat.lt_of_lt_of_le HBL.out HGG.out
  have hsw : w.heap.size ≤ s := by rw [← hs]; exact H3.out.size
  have HS := Lib.hid (show Slr (w4.setCell ⟨s, 2, none⟩ (.int .u64 (N : Nat))) s g B N len nt key tk cE from
    ⟨(cell_off (by decide) _).trans c0, (cell_off (by decide) _).trans c1, World.cell?_setCell_same w4 ⟨s, 2, none⟩ _ c2, by rw [World.frozen?_setCell]; exact f2,
      (HR3.out.keep B4).chg ((Chg.refl s w4).setCell (a := ⟨s, 2, none⟩) (Or.inl rfl) _) (fun _ B' o e => by cases e; exact Nat.ne_of_lt hBs),
      (HM3.out.keep B4).chg ((Chg.refl s w4).setCell (a := ⟨s, 2, none⟩) (Or.inl rfl) _) (Nat.ne_of_lt hgs), Nat.ne_of_gt hgs, Nat.ne_of_lt hBs, Nat.ne_of_lt hBg⟩)
  have HST := Lib.hid (count_store s 2 (N : Nat) _ w4 c2 f2)
  have HBW := Lib.hid ((H3.out.trans (B4.mono H3.out.size)).setCell (p := ⟨s, 2, none⟩) hsw (.int .u64 (N : Nat)))
  have HQ := Lib.hid (show w.heap.size ≤ s ∧ w.heap.size ≤ g ∧ w.heap.size ≤ B from ⟨hsw, Nat.le_trans H2.out.size HGG.out, Nat.le_trans H1.out.size HB.out⟩)
  clear c0 c1 c2 f2 B4 hs hgs hBs hBg hsw
  refine HST.out.mono ?_
  rintro e w5 ⟨rfl, rfl⟩
  go_wp2_with fail
  go_ret2
  exact ⟨s, g, B, cE, rfl, HS.out, HQ.out.1, HQ.out.2.1, HQ.out.2.2, HBW.out⟩
/-- what Next answers -/
theorem next_low (s g B K len nt cE : Nat) (key tk : Nat → Nat) (w : World) (h : Slr w s g B K len nt key tk cE) (hK : K ≤ 9223372036854775807) :
    Calls Tryz.prog 21 #[.pointer (some ⟨s, 0, none⟩)] w fun e w' => e = .returned (.int .i64 (K : Nat)) ∧ w = w' := by
  have HL := Lib.hid (count_load s 2 _ w h.cnt)
  have hKi : (K : Int) ≤ 9223372036854775807 := by omega
  clear h hK
  go_enter Tryz.func21, Tryz.ntmps21
  go_wp2_with fail
  refine HL.out.mono ?_
  rintro e w1 ⟨rfl, rfl⟩
  go_wp2_with fail
  go_ret
  exact ⟨rfl, rfl⟩
theorem next_high (s g B K len nt cE : Nat) (key tk : Nat → Nat) (w : World) (h : Slr w s g B K len nt key tk cE) (hK : 9223372036854775807 < K) :
    Calls Tryz.prog 21 #[.pointer (some ⟨s, 0, none⟩)] w fun e w' => e = .returned (.int .i64 9223372036854775807) ∧ w = w' := by
  have HL := Lib.hid (count_load s 2 _ w h.cnt)
  have hKi : (9223372036854775807 : Int) < K := by omega
  clear h hK
  go_enter Tryz.func21, Tryz.ntmps21
  go_wp2_with fail
  refine HL.out.mono ?_
  rintro e w1 ⟨rfl, rfl⟩
  go_wp2_with fail
  go_ret
  exact ⟨rfl, rfl⟩
end Go.Proofs.YtgcdnhjjoidpmaaGreatDoor
/- Contracts of package box: a Sealer's Seal. -/
namespace Go.Proofs.YtgcdnhjjoidpmaaGreatDoor
open Go.RowKit
theorem ord.makes_loadV {P : Program} {o : Oper} {a : Act} {w : World} {N : Value → World → Prop} {t : TypeId} {x : Operand} {vx u : Value} (ho : o.op = .load t x) (hx : a.eval x = vx) (hrun : (Instr.loadAt t vx).run P w = .ok u w) (hN : N u w) : makes P o a w N := by
  unfold makes
  have : (execOp a.eval o).run P w = .ok (.value u) w := by
    simp only [execOp, ho, hx, Sem.run_bind]
    rw [hrun]; rfl
  rw [this]; exact hN
theorem ord.makes_extract {P : Program} {o : Oper} {a : Act} {w : World} {N : Value → World → Prop} {x : Operand} {i : Nat} {vs : Array Value} {u : Value} (ho : o.op = .extract x i) (hx : a.eval x = .tuple vs) (hv : vs[i]? = some u) (hN : N u w) : makes P o a w N := by
  unfold makes
  have : (execOp a.eval o).run P w = .ok (.value u) w := by
    simp [execOp, ho, hx, Instr.extract, hv]
  rw [this]; exact hN
theorem ord.makes_call5 {P : Program} {o : Oper} {a : Act} {w : World} {N : Value → World → Prop} {F : FuncId} {fn : Func} {o1 o2 o3 o4 o5 : Operand} {ts : Array TypeId} {v1 v2 v3 v4 v5 : Value} {post : Ending → World → Prop} (hf : P.funcs[F]? = some fn) (hname : (fn.name == "runtime.NumGoroutine") = false) (hb : fn.body.isNone = false)
    (ho : o.op = .call { callee := .value (.func F), args := #[o1, o2, o3, o4, o5], argTypes := ts }) (h1 : a.eval o1 = v1) (h2 : a.eval o2 = v2) (h3 : a.eval o3 = v3) (h4 : a.eval o4 = v4) (h5 : a.eval o5 = v5) (hc : Calls P F #[v1, v2, v3, v4, v5] w post) (hN : ∀ e w', post e w' → ∃ v, e = .returned v ∧ N v w') : makes P o a w N :=
  makes_call hf hname hb ho (by simp [h1, h2, h3, h4, h5]) hc hN
theorem sub64 (x : Nat) (hx : x < 18446744073709551615) : IntKind.u64.wrap (((x + 1 : Nat) : Int) - 1) = (x : Nat) := by
  rw [IntKind.wrap_u64]; omega
/-- the blocks that a Sealer's Seal writes -/
def S2 (s g k : Nat) : Prop := k = s ∨ k = g
/-- what a Sealer's Seal leaves -/
def SrP (s g B K len nt : Nat) (key tk : Nat → Nat) (cE : Nat) (k : Nat) (f : Nat → Nat) (E : Nat) (w : World) (e : Ending) (w' : World) : Prop :=
  ∃ A c, e = .returned (.tuple #[.slice A k c, .int .i64 (E : Nat)]) ∧ OwnB w' w.heap.size (.slice A k c) k f ∧ Slr w' s g B K len nt key tk cE ∧ ChgS (S2 s g) w w'
theorem slr_long (s g B K len nt cE na ca m cp : Nat) (Ab P : Option Addr) (key tk : Nat → Nat) (w : World) (h : Slr w s g B K len nt key tk cE) (hm : 65536 < m) :
    Calls Tryz.prog 19 #[.pointer (some ⟨s, 0, none⟩), .slice Ab na ca, .slice P m cp] w (SrP s g B K len nt key tk cE 0 (fun _ => 0) 2 w) := by
  have HS := Lib.hid h
  have hd : decide ((65536 : Int) < (m : Nat)) = true := by rw [decide_eq_true_eq]; omega
  clear h hm
  go_enter Tryz.func19, Tryz.ntmps19
  go_wp2_with fail
  go_ret2
  exact ⟨none, 0, rfl, OwnB.nil _ _ _, HS.out, ChgS.refl _ _⟩
theorem Slr.count {w : World} {s g B K len nt cE : Nat} {key tk : Nat → Nat} (h : Slr w s g B K len nt key tk cE) (K' : Nat) : Slr (w.setCell ⟨s, 2, none⟩ (.int .u64 (K' : Nat))) s g B K' len nt key tk cE :=
  have hc := (Chg.refl s w).setCell (a := ⟨s, 2, none⟩) (Or.inl rfl) (.int .u64 (K' : Nat))
  ⟨(cell_off (by decide) _).trans h.enc, (cell_off (by decide) _).trans h.mak, World.cell?_setCell_same w ⟨s, 2, none⟩ _ h.cnt, by rw [World.frozen?_setCell]; exact h.cntf,
    h.row.chg hc (fun _ B' o e => by cases e; exact h.neBs), h.maker.chg hc (fun e => h.ne e.symm), h.ne, h.neBs, h.neBg⟩
theorem slr_full (s g B K len nt cE na ca m cp : Nat) (Ab P : Option Addr) (key tk : Nat → Nat) (w : World) (h : Slr w s g B K len nt key tk cE) (hm : m ≤ 65536) (hK : 9223372036854775807 ≤ K) (hK2 : K < 18446744073709551615) :
    Calls Tryz.prog 19 #[.pointer (some ⟨s, 0, none⟩), .slice Ab na ca, .slice P m cp] w (SrP s g B (K + 1) len nt key tk cE 0 (fun _ => 0) 2 w) := by
  have HS := Lib.hid (h.count (K + 1))
  have HC := Lib.hid (count_add s 2 K w hK2 h.cnt h.cntf)
  have hsb := sub64 K hK2
  have hd : decide ((65536 : Int) < (m : Nat)) = false := by rw [decide_eq_false_iff_not]; omega
  have hd2 : decide ((9223372036854775807 : Int) ≤ (K : Nat)) = true := by rw [decide_eq_true_eq]; omega
  obtain ⟨K1, hK1⟩ : ∃ K1, K + 1 = K1 := ⟨_, rfl⟩
  rw [hK1] at HS HC hsb ⊢
  clear h hm hK1 hK hK2
  go_enter Tryz.func19, Tryz.ntmps19
  go_wp2_with fail
  refine HC.out.mono ?_
  rintro e w1 ⟨rfl, hw⟩
  have HW := Lib.hid hw
  clear hw
  go_wp2_with fail
  go_ret2
  exact ⟨none, 0, rfl, OwnB.nil _ _ _, by rw [HW.out]; exact HS.out, by rw [HW.out]; exact (ChgS.refl _ w).setCell (a := ⟨s, 2, none⟩) (Or.inl rfl) _⟩
--DEFS sr
def srG (g _nt : Nat) (_tk : Nat → Nat) (s B len cE K na ca m cp : Nat) (Ab P : Option Addr) (k : Nat) (f : Nat → Nat) (bs : Nat) : Nat → Value → World → Prop
  | 0, v, _ => v = .pointer (some ⟨s, 0, none⟩)
  | 1, v, _ => v = .pointer (some ⟨s, 0, none⟩)
  | 2, v, _ => v = .pointer (some ⟨s, 0, none⟩)
  | 3, v, _ => v = .slice (some ⟨B, 0, none⟩) len cE
  | 4, v, _ => v = .pointer (some ⟨s, 0, none⟩)
  | 5, v, _ => v = .pointer (some ⟨s, 0, none⟩)
  | 6, v, _ => v = .pointer (some ⟨s, 1, none⟩)
  | 7, v, _ => v = .pointer (some ⟨g, 0, none⟩)
  | 8, v, _ => v = .int .u64 (K : Nat)
  | 9, v, _ => v = .int .i64 (K : Nat)
  | 10, v, _ => v = .slice Ab na ca
  | 11, v, _ => v = .slice P m cp
  | 12, v, w => ∃ A c, v = .tuple #[.slice A k c, .int .i64 0] ∧ g < bs ∧ OwnB w bs (.slice A k c) k f
  | 13, v, w => ∃ A c, v = .slice A k c ∧ g < bs ∧ OwnB w bs (.slice A k c) k f
  | 14, v, _ => v = .int .i64 0
  | _, _, _ => True
theorem srG_stays (g nt : Nat) (tk : Nat → Nat) (s B len cE K na ca m cp : Nat) (Ab P : Option Addr) (k : Nat) (f : Nat → Nat) (bs : Nat) : ∀ i v w w', srG g nt tk s B len cE K na ca m cp Ab P k f bs i v w → RelG g nt tk w w' → srG g nt tk s B len cE K na ca m cp Ab P k f bs i v w'
  | 0, _, _, _, h, _ => h
  | 1, _, _, _, h, _ => h
  | 2, _, _, _, h, _ => h
  | 3, _, _, _, h, _ => h
  | 4, _, _, _, h, _ => h
  | 5, _, _, _, h, _ => h
  | 6, _, _, _, h, _ => h
  | 7, _, _, _, h, _ => h
  | 8, _, _, _, h, _ => h
  | 9, _, _, _, h, _ => h
  | 10, _, _, _, h, _ => h
  | 11, _, _, _, h, _ => h
  | 12, v, w, w', h_, hb => by
    obtain ⟨A, c, h1, h2, h3⟩ := h_; exact ⟨A, c, h1, h2, h3.chg hb.1 h2⟩
  | 13, v, w, w', h_, hb => by
    obtain ⟨A, c, h1, h2, h3⟩ := h_; exact ⟨A, c, h1, h2, h3.chg hb.1 h2⟩
  | 14, _, _, _, h, _ => h
  | _ + 15, _, _, _, _, _ => trivial
--END DEFS sr
set_option maxRecDepth 100000 in
set_option maxHeartbeats 1600000 in
theorem slr_any (s g B K n len nt cE na ca m cp : Nat) (Ab P : Option Addr) (key tk about p : Nat → Nat) (w : World) (hn : n = 4 ∨ n = 8) (hl : 4 * n = len) (h : Slr w s g B K len nt key tk cE) (hm : m ≤ 65536) (hK : K < 9223372036854775807) (hA : SlB w Ab na about) (hP : SlB w P m p) (hna : na ≤ 100000000000) (hac : na ≤ ca)
    (hOA : OffS (S2 s g) Ab na) (hOP : OffS (S2 s g) P m) (hkey : By nt tk) (ht : GT w) (hG : ¬ S2 s g 1 ∧ ¬ S2 s g 0) :
    Calls Tryz.prog 19 #[.pointer (some ⟨s, 0, none⟩), .slice Ab na ca, .slice P m cp] w (SrP s g B (K + 1) len nt key tk cE (24 + m) (sealF nt tk na about K m (xorf n key K 0 p)) 0 w) := by
  have HC := Lib.hid (count_add s 2 K w (by omega) h.cnt h.cntf)
  have hsb := sub64 K (by omega)
  have hch := (Chg.refl s w).setCell (a := ⟨s, 2, none⟩) (Or.inl rfl) (.int .u64 ((K + 1 : Nat) : Int))
  have hchs := (ChgS.refl (S2 s g) w).setCell (a := ⟨s, 2, none⟩) (Or.inl rfl) (.int .u64 ((K + 1 : Nat) : Int))
  have hs1 := h.count (K + 1)
  have hA1 := hA.chgS hchs hOA
  have hP1 := hP.chgS hchs hOP
  have ht1 : GT (w.setCell ⟨s, 2, none⟩ (.int .u64 ((K + 1 : Nat) : Int))) := ht.chg hch ⟨fun e => hG.1 (Or.inl e), fun e => hG.2 (Or.inl e)⟩
  have hz1 : (w.setCell ⟨s, 2, none⟩ (.int .u64 ((K + 1 : Nat) : Int))).heap.size = w.heap.size := size_setCell _ _ _
  have HG2 := Lib.hid (show 1 ≠ g ∧ 0 ≠ g from ⟨fun e => hG.1 (Or.inr e), fun e => hG.2 (Or.inr e)⟩)
  have HOA := Lib.hid (show 0 < na → ∀ B o, Ab = some ⟨B, o, none⟩ → B ≠ g from fun h0 B o e hb => hOA h0 B o e (Or.inr hb))
  have HOPg := Lib.hid (show 0 < m → ∀ B o, P = some ⟨B, o, none⟩ → B ≠ g from fun h0 B o e hb => hOP h0 B o e (Or.inr hb))
  have HN := Lib.hid hn
  have HL := Lib.hid hl
  have HM2 := Lib.hid hm
  have HKK := Lib.hid hK
  have HNA := Lib.hid hna
  have HAC := Lib.hid hac
  have HKY := Lib.hid hkey
  have hKi : (K : Int) ≤ 9223372036854775806 := by omega
  have hd : decide ((65536 : Int) < (m : Nat)) = false := by rw [decide_eq_false_iff_not]; omega
  have hd2 : decide ((9223372036854775807 : Int) ≤ (K : Nat)) = false := by rw [decide_eq_false_iff_not]; omega
  obtain ⟨bs, hbs⟩ : ∃ bs, w.heap.size = bs := ⟨_, rfl⟩
  have HBS := Lib.hid hbs
  rw [hbs] at hz1
  obtain ⟨f, hf⟩ : ∃ f, sealF nt tk na about K m (xorf n key K 0 p) = f := ⟨_, rfl⟩
  have HFF := Lib.hid hf
  rw [hf]
  obtain ⟨K1, hK1⟩ : ∃ K1, K + 1 = K1 := ⟨_, rfl⟩
  rw [hK1] at HC hsb hs1 hchs hA1 hP1 ht1 hz1 ⊢
  have HCS := Lib.hid hchs
  generalize hW : w.setCell ⟨s, 2, none⟩ (.int .u64 (K1 : Nat)) = w1 at *
  have HS1 := Lib.hid hs1
  have HA1 := Lib.hid hA1
  have HP1 := Lib.hid hP1
  have HT1 := Lib.hid ht1
  have HZ1 := Lib.hid hz1
  have HGB := Lib.hid (show g < bs by rw [← hz1]; exact hs1.maker.lt)
  clear hn hl h hm hK hA hP hna hac hOA hOP hkey ht hG hch hchs hs1 hA1 hP1 ht1 hz1 hbs hf hK1 hW
  go_enter Tryz.func19, Tryz.ntmps19
  go_wp2_with fail
  refine HC.out.mono ?_
  rintro e w2 ⟨rfl, rfl⟩
  have HRR := Lib.hid (RelG.pre g nt tk)
  have HF0 := Lib.hid (show ∀ w : World, (Instr.fieldAt 66 (.pointer (some ⟨s, 0, none⟩)) 0).run Tryz.prog w = .ok (.pointer (some ⟨s, 0, none⟩)) w from fun w => by go_simp)
  have HF1 := Lib.hid (show ∀ w : World, (Instr.fieldAt 66 (.pointer (some ⟨s, 0, none⟩)) 1).run Tryz.prog w = .ok (.pointer (some ⟨s, 1, none⟩)) w from fun w => by go_simp)
  have HL0 := Lib.hid (show ∀ w5, RelG g nt tk w2.drew w5 → (Instr.loadAt 22 (.pointer (some ⟨s, 0, none⟩))).run Tryz.prog w5 = .ok (.slice (some ⟨B, 0, none⟩) len cE) w5 from fun w5 hb => by
    have hc := ((of_drewC hb.1).cell (o := 0) HS1.out.lt HS1.out.ne).trans HS1.out.enc
    clear hb
    go_simp)
  have HL1 := Lib.hid (show ∀ w5, RelG g nt tk w2.drew w5 → (Instr.loadAt 48 (.pointer (some ⟨s, 1, none⟩))).run Tryz.prog w5 = .ok (.pointer (some ⟨g, 0, none⟩)) w5 from fun w5 hb => by
    have hc := ((of_drewC hb.1).cell (o := 1) HS1.out.lt HS1.out.ne).trans HS1.out.mak
    clear hb
    go_simp)
  have HCV := Lib.hid (show ∀ w : World, (convert 55 3 (.int .u64 (K : Nat))).run Tryz.prog w = .ok (.int .i64 (K : Nat)) w from fun w => by
    have h2 : IntKind.i64.wrap (K : Int) = (K : Nat) := IntWalk.i64_in _ (by omega)
    go_simp)
  have HZ := Lib.hid (show ∀ w5, RelG g nt tk w2.drew w5 → bs ≤ w5.heap.size from fun w5 h => by rw [← HZ1.out]; exact h.1.size)
  have HSE := Lib.hid (show ∀ w5, RelG g nt tk w2.drew w5 → Calls Tryz.prog 22 #[.slice (some ⟨B, 0, none⟩) len cE, .pointer (some ⟨g, 0, none⟩), .int .i64 (K : Nat), .slice Ab na ca, .slice P m cp] w5 (SealG g nt tk (24 + m) f 0 w5) from fun w5 hb => by
    have hc := of_drewC hb.1
    rw [← HFF.out]
    exact seal_any g nt len n cE K na ca m cp (some ⟨B, 0, none⟩) Ab P tk key about p w5 HN.out HL.out (HS1.out.row.chg hc (fun _ B' o e => by cases e; exact HS1.out.neBg)) (HA1.out.chg hc HOA.out) (HP1.out.chg hc HOPg.out) (by have := HKK.out; omega) HM2.out HNA.out HAC.out HKY.out (hb.2 (HS1.out.maker.of_block rfl)) (HT1.out.chg hc HG2.out) HG2.out HOA.out)
  clear HA1 HP1 HT1 HC
  go_wp2_with fail
  refine ord.wp_region_ordR (RelG g nt tk) 15 [[], [0], [1], [2], [], [4], [5], [6], [], [8], [], [], [3, 7, 9, 10, 11], [12], [12]] [(0, 19), (1, 20), (2, 21), (3, 22), (4, 23), (5, 24), (6, 25), (7, 26), (8, 27), (9, 28), (10, 29), (11, 30), (12, 31), (13, 32), (14, 33)] (srG g nt tk s B len cE K na ca m cp Ab P (24 + m) f bs) (by kernel_rfl) (by kernel_rfl) (by kernel_rfl) HRR.out (srG_stays _ _ _ _ _ _ _ _ _ _ _ _ _ _ _ _ _) ((ord.steps_cons ?_ (ord.steps_cons ?_ (ord.steps_cons ?_ (ord.steps_cons ?_ (ord.steps_cons ?_ (ord.steps_cons ?_ (ord.steps_cons ?_ (ord.steps_cons ?_ (ord.steps_cons ?_ (ord.steps_cons ?_ (ord.steps_cons ?_ (ord.steps_cons ?_ (ord.steps_cons ?_ (ord.steps_cons ?_ (ord.steps_cons ?_ ord.steps_nil)))))))))))))))) (fun w' hb => RelG.of_drew hb) ?_
  --STEPS sr
  · intro o ho x w hb hG
    obtain rfl := Option.some.inj ho
    clear ho
    refine Or.inl ⟨ord.want0 rfl, ?_⟩
    exact ord.makes_move rfl ⟨HRR.out.refl _, rfl⟩
  · intro o ho x w hb hG
    obtain rfl := Option.some.inj ho
    clear ho
    have h19 : x 0 = .pointer (some ⟨s, 0, none⟩) := hG (0, 19) (List.mem_of_getElem? (i := 0) rfl) rfl
    refine Or.inl ⟨ord.want0 rfl, ?_⟩
    exact ord.makes_nilCheck rfl h19 ⟨HRR.out.refl _, rfl⟩
  · intro o ho x w hb hG
    obtain rfl := Option.some.inj ho
    clear ho
    have h20 : x 1 = .pointer (some ⟨s, 0, none⟩) := hG (1, 20) (List.mem_of_getElem? (i := 1) rfl) rfl
    refine Or.inl ⟨ord.want0 rfl, ?_⟩
    exact ord.makes_fieldAddr rfl h20 (HF0.out w) ⟨HRR.out.refl _, rfl⟩
  · intro o ho x w hb hG
    obtain rfl := Option.some.inj ho
    clear ho
    have h21 : x 2 = .pointer (some ⟨s, 0, none⟩) := hG (2, 21) (List.mem_of_getElem? (i := 2) rfl) rfl
    refine Or.inl ⟨ord.want0 rfl, ?_⟩
    exact ord.makes_loadV rfl h21 (HL0.out w hb) ⟨HRR.out.refl _, rfl⟩
  · intro o ho x w hb hG
    obtain rfl := Option.some.inj ho
    clear ho
    refine Or.inl ⟨ord.want0 rfl, ?_⟩
    exact ord.makes_move rfl ⟨HRR.out.refl _, rfl⟩
  · intro o ho x w hb hG
    obtain rfl := Option.some.inj ho
    clear ho
    have h23 : x 4 = .pointer (some ⟨s, 0, none⟩) := hG (4, 23) (List.mem_of_getElem? (i := 4) rfl) rfl
    refine Or.inl ⟨ord.want0 rfl, ?_⟩
    exact ord.makes_nilCheck rfl h23 ⟨HRR.out.refl _, rfl⟩
  · intro o ho x w hb hG
    obtain rfl := Option.some.inj ho
    clear ho
    have h24 : x 5 = .pointer (some ⟨s, 0, none⟩) := hG (5, 24) (List.mem_of_getElem? (i := 5) rfl) rfl
    refine Or.inl ⟨ord.want0 rfl, ?_⟩
    exact ord.makes_fieldAddr rfl h24 (HF1.out w) ⟨HRR.out.refl _, rfl⟩
  · intro o ho x w hb hG
    obtain rfl := Option.some.inj ho
    clear ho
    have h25 : x 6 = .pointer (some ⟨s, 1, none⟩) := hG (6, 25) (List.mem_of_getElem? (i := 6) rfl) rfl
    refine Or.inl ⟨ord.want0 rfl, ?_⟩
    exact ord.makes_loadV rfl h25 (HL1.out w hb) ⟨HRR.out.refl _, rfl⟩
  · intro o ho x w hb hG
    obtain rfl := Option.some.inj ho
    clear ho
    refine Or.inl ⟨ord.want0 rfl, ?_⟩
    exact ord.makes_move rfl ⟨HRR.out.refl _, rfl⟩
  · intro o ho x w hb hG
    obtain rfl := Option.some.inj ho
    clear ho
    have h27 : x 8 = .int .u64 (K : Nat) := hG (8, 27) (List.mem_of_getElem? (i := 8) rfl) rfl
    refine Or.inl ⟨ord.want0 rfl, ?_⟩
    exact ord.makes_conv rfl h27 (HCV.out w) ⟨HRR.out.refl _, rfl⟩
  · intro o ho x w hb hG
    obtain rfl := Option.some.inj ho
    clear ho
    refine Or.inl ⟨ord.want0 rfl, ?_⟩
    exact ord.makes_move rfl ⟨HRR.out.refl _, rfl⟩
  · intro o ho x w hb hG
    obtain rfl := Option.some.inj ho
    clear ho
    refine Or.inl ⟨ord.want0 rfl, ?_⟩
    exact ord.makes_move rfl ⟨HRR.out.refl _, rfl⟩
  · intro o ho x w hb hG
    obtain rfl := Option.some.inj ho
    clear ho
    have h22 : x 3 = .slice (some ⟨B, 0, none⟩) len cE := hG (3, 22) (List.mem_of_getElem? (i := 3) rfl) rfl
    have h26 : x 7 = .pointer (some ⟨g, 0, none⟩) := hG (7, 26) (List.mem_of_getElem? (i := 7) rfl) rfl
    have h28 : x 9 = .int .i64 (K : Nat) := hG (9, 28) (List.mem_of_getElem? (i := 9) rfl) rfl
    have h29 : x 10 = .slice Ab na ca := hG (10, 29) (List.mem_of_getElem? (i := 10) rfl) rfl
    have h30 : x 11 = .slice P m cp := hG (11, 30) (List.mem_of_getElem? (i := 11) rfl) rfl
    refine Or.inl ⟨ord.want0 rfl, ?_⟩
    exact ord.makes_call5 Tryz.func22 (by kernel_rfl) (by kernel_rfl) rfl h22 h26 h28 h29 h30 (HSE.out w hb) (fun e w' h => by obtain ⟨A, c, he, h1, h2, h3⟩ := h; exact ⟨_, he, ⟨h3, fun _ => h2⟩, A, c, rfl, HGB.out, h1.less (HZ.out w hb)⟩)
  · intro o ho x w hb hG
    obtain rfl := Option.some.inj ho
    clear ho
    have h31 : srG g nt tk s B len cE K na ca m cp Ab P (24 + m) f bs 12 (x 12) w := hG (12, 31) (List.mem_of_getElem? (i := 12) rfl) rfl
    refine Or.inl ⟨ord.want0 rfl, ?_⟩
    obtain ⟨A, c, hv, h1, h2⟩ := h31
    exact ord.makes_extract rfl hv rfl ⟨HRR.out.refl _, A, c, rfl, h1, h2⟩
  · intro o ho x w hb hG
    obtain rfl := Option.some.inj ho
    clear ho
    have h31 : srG g nt tk s B len cE K na ca m cp Ab P (24 + m) f bs 12 (x 12) w := hG (12, 31) (List.mem_of_getElem? (i := 12) rfl) rfl
    refine Or.inl ⟨ord.want0 rfl, ?_⟩
    obtain ⟨A, c, hv, h1, h2⟩ := h31
    exact ord.makes_extract rfl hv rfl ⟨HRR.out.refl _, rfl⟩
  --END STEPS sr
  · intro x w5 hb hG
    obtain ⟨A9, c9, e9, _, h9⟩ : ∃ A c, x 13 = .slice A (24 + m) c ∧ g < bs ∧ OwnB w5 bs (.slice A (24 + m) c) (24 + m) f := hG (13, 32) (List.mem_of_getElem? (i := 13) rfl)
    have e10 : x 14 = .int .i64 0 := hG (14, 33) (List.mem_of_getElem? (i := 14) rfl)
    clear hG
    have H9 := Lib.hid h9
    have hsn : ∀ o, w5.cell? ⟨s, o, none⟩ = w2.cell? ⟨s, o, none⟩ := fun o => hb.1.cell HS1.out.lt HS1.out.ne
    have HS5 := Lib.hid (show Slr w5 s g B K1 len nt key tk cE from ⟨(hsn 0).trans HS1.out.enc, (hsn 1).trans HS1.out.mak, (hsn 2).trans HS1.out.cnt, (hb.1.frozen HS1.out.lt HS1.out.ne).trans HS1.out.cntf, HS1.out.row.chg hb.1 (fun _ B' o e => by cases e; exact HS1.out.neBg), hb.2 HS1.out.maker, HS1.out.ne, HS1.out.neBs, HS1.out.neBg⟩)
    have HC5 := Lib.hid (HCS.out.trans (ChgS.of_chg hb.1 (Or.inr rfl)))
    clear hb h9 hsn
    simp only [ord.puts, ord.put', if_true]
    rw [e9, e10]
    clear e9 e10
    simp only [List.drop_succ_cons, List.drop_zero]
    go_wp2_with fail
    go_ret2
    exact ⟨A9, c9, rfl, by rw [HBS.out]; exact H9.out, HS5.out, HC5.out⟩
end Go.Proofs.YtgcdnhjjoidpmaaGreatDoor
/- The reference of layer 8: a Sealer. -/
namespace Go.Proofs.YtgcdnhjjoidpmaaGreatDoor
open Go.RowKit
/-- the reference's Sealer in block t: its two keys in rows of their own, all from block L on; the next nonce is K -/
structure RSlr (w : World) (t K len nt : Nat) (key tk : Nat → Nat) (AE : Option Addr) (cE : Nat) (AT : Option Addr) (cT L : Nat) : Prop where
  enc : w.cell? ⟨t, 0, none⟩ = some (.slice AE len cE)
  tag : w.cell? ⟨t, 1, none⟩ = some (.slice AT nt cT)
  nxt : w.cell? ⟨t, 2, none⟩ = some (.int .i64 (K : Nat))
  nxtf : w.frozen? ⟨t, 2, none⟩ = false
  rowE : SlB w AE len key
  rowT : SlB w AT nt tk
  capE : len ≤ cE
  nilT : AT = none → nt = 0 ∧ cT = 0
  lo : L ≤ t
  loE : ∀ B o, AE = some ⟨B, o, none⟩ → L ≤ B ∧ B ≠ t
  loT : ∀ B o, AT = some ⟨B, o, none⟩ → L ≤ B ∧ B ≠ t
namespace RSlr
variable {w w' : World} {t K len nt cE cT L : Nat} {key tk : Nat → Nat} {AE AT : Option Addr}
theorem lt (h : RSlr w t K len nt key tk AE cE AT cT L) : t < w.heap.size := block_lt (a := ⟨t, 0, none⟩) h.enc
/-- kept where all blocks from L on are as they were -/
theorem same (h : RSlr w t K len nt key tk AE cE AT cT L) (hz : w.heap.size ≤ w'.heap.size) (hs : ∀ k, L ≤ k → k < w.heap.size → w'.heap[k]? = w.heap[k]?) : RSlr w' t K len nt key tk AE cE AT cT L := by
  have ht := hs t h.lo h.lt
  have sl : ∀ (A : Option Addr) (n : Nat) (f : Nat → Nat), SlB w A n f → (∀ B o, A = some ⟨B, o, none⟩ → L ≤ B ∧ B ≠ t) → SlB w' A n f := fun A n f hA hlo hn => by
    obtain ⟨B, o, e, hB, hc⟩ := hA hn
    exact ⟨B, o, e, Nat.lt_of_lt_of_le hB hz, fun j hj => ⟨(hc j hj).1, (World.cell?_of_block (hs B (hlo B o e).1 hB)).trans (hc j hj).2⟩⟩
  exact ⟨(World.cell?_of_block ht).trans h.enc, (World.cell?_of_block ht).trans h.tag, (World.cell?_of_block ht).trans h.nxt, (World.frozen?_of_block ht).trans h.nxtf, sl AE len key h.rowE h.loE, sl AT nt tk h.rowT h.loT, h.capE, h.nilT, h.lo, h.loE, h.loT⟩
theorem keep (h : RSlr w t K len nt key tk AE cE AT cT L) (hb : Below w.heap.size w w') : RSlr w' t K len nt key tk AE cE AT cT L := h.same hb.size fun k _ hk => hb.block k hk
theorem less (h : RSlr w t K len nt key tk AE cE AT cT L) {L' : Nat} (hL : L' ≤ L) : RSlr w t K len nt key tk AE cE AT cT L' :=
  ⟨h.enc, h.tag, h.nxt, h.nxtf, h.rowE, h.rowT, h.capE, h.nilT, Nat.le_trans hL h.lo, fun B o e => ⟨Nat.le_trans hL (h.loE B o e).1, (h.loE B o e).2⟩, fun B o e => ⟨Nat.le_trans hL (h.loT B o e).1, (h.loT B o e).2⟩⟩
theorem count (h : RSlr w t K len nt key tk AE cE AT cT L) (K' : Nat) : RSlr (w.setCell ⟨t, 2, none⟩ (.int .i64 (K' : Nat))) t K' len nt key tk AE cE AT cT L :=
  have hc := (Chg.refl t w).setCell (a := ⟨t, 2, none⟩) (Or.inl rfl) (.int .i64 (K' : Nat))
  ⟨(cell_off (by decide) _).trans h.enc, (cell_off (by decide) _).trans h.tag, World.cell?_setCell_same w ⟨t, 2, none⟩ _ h.nxt, by rw [World.frozen?_setCell]; exact h.nxtf,
    h.rowE.chg hc (fun _ B o e => (h.loE B o e).2), h.rowT.chg hc (fun _ B o e => (h.loT B o e).2), h.capE, h.nilT, h.lo, h.loE, h.loT⟩
end RSlr
set_option maxRecDepth 100000 in
theorem rnewx_short (len cap nt ct : Nat) (N : Int) (Ae At : Option Addr) (w : World) (hl : len ≤ 140737488351232) (h : len ≠ 16 ∧ len ≠ 32) :
    Calls Tryz.prog 18 #[.slice Ae len cap, .slice At nt ct, .int .i64 N] w fun e w' => e = .returned (.tuple #[.pointer none, .int .i64 1]) ∧ Below w.heap.size w w' := by
  have HC := Lib.hid (rnew_short Ae len cap w h.1 h.2 hl)
  clear h hl
  go_enter Tryz.func18, Tryz.ntmps18
  go_wp2_with fail
  refine HC.out.mono ?_
  rintro e w1 ⟨rfl, rfl⟩
  go_wp2_with fail
  go_ret2
  exact ⟨rfl, Below.refl _ _⟩
set_option maxRecDepth 100000 in
theorem rnewx_neg (len n cap nt ct : Nat) (N : Int) (Ae At : Option Addr) (key : Nat → Nat) (w : World) (hn : n = 4 ∨ n = 8) (hl : 4 * n = len) (hc : len ≤ cap) (hE : SlB w Ae len key) (hN : N < 0) :
    Calls Tryz.prog 18 #[.slice Ae len cap, .slice At nt ct, .int .i64 N] w fun e w' => e = .returned (.tuple #[.pointer none, .int .i64 1]) ∧ Below w.heap.size w w' := by
  have HC := Lib.hid (rnew_at Ae len n cap key w hl hn hc hE)
  have hd : decide (N < 0) = true := decide_eq_true hN
  clear hn hl hc hE hN
  go_enter Tryz.func18, Tryz.ntmps18
  go_wp2_with fail
  refine HC.out.mono ?_
  rintro e w1 ⟨g, rfl, _, _, h1⟩
  have H1 := Lib.hid h1
  clear h1
  go_wp2_with fail
  go_ret2
  exact ⟨rfl, H1.out⟩
set_option maxRecDepth 100000 in
set_option maxHeartbeats 1600000 in
theorem rnewx_any (len n cap N nt ct : Nat) (Ae At : Option Addr) (key tk : Nat → Nat) (w : World) (hn : n = 4 ∨ n = 8) (hl : 4 * n = len) (hc : len ≤ cap) (hE : SlB w Ae len key) (hEn : Ae = none → len = 0 ∧ cap = 0) (hN : N ≤ 9223372036854775807) (hnt : nt ≤ 100000000000) (hT : SlB w At nt tk) (hTn : At = none → nt = 0 ∧ ct = 0) :
    Calls Tryz.prog 18 #[.slice Ae len cap, .slice At nt ct, .int .i64 (N : Nat)] w fun e w' => ∃ t AE cE AT cT, e = .returned (.tuple #[.pointer (some ⟨t, 0, none⟩), .int .i64 0]) ∧ RSlr w' t N len nt key tk AE cE AT cT w.heap.size ∧ Below w.heap.size w w' := by
  have HC := Lib.hid (rnew_at Ae len n cap key w hl hn hc hE)
  have HE := Lib.hid hE
  have HEN := Lib.hid hEn
  have HT := Lib.hid hT
  have HTN := Lib.hid hTn
  have HNT := Lib.hid hnt
  have HLEN := Lib.hid (show len ≤ 32 by omega)
  have HYE := Lib.hid (show ∀ j, j < len → key j < 256 from fun j hj => hE.byte hj)
  have HYT := Lib.hid (show ∀ j, j < nt → tk j < 256 from fun j hj => hT.byte hj)
  have hd : decide ((N : Int) < 0) = false := by rw [decide_eq_false_iff_not]; omega
  have hNi : (N : Int) ≤ 9223372036854775807 := by omega
  clear hn hl hc hE hEn hN hnt hT hTn
  go_enter Tryz.func18, Tryz.ntmps18
  go_wp2_with fail
  refine HC.out.mono ?_
  rintro e w1 ⟨g, rfl, _, _, h1⟩
  have H1 := Lib.hid h1
  have HE1 := Lib.hid ((HE.out.keep h1).keep (alloc_below w1 (.cells #[] 5)))
  have HO1 := Lib.hid (OwnB.empty w1 w1.heap.size key (Nat.le_refl _))
  have HB1 := Lib.hid (alloc_below w1 (.cells #[] 5))
  clear h1 HC
  go_wp2_with (first | (refine wpList_appO rfl (.tmp 21) (.tmp 22) rfl w1.heap.size _ 0 key rfl HO1.out Ae len cap key rfl HE1.out HEN.out (by have := HLEN.out; omega) HB1.out.size (fun j hj => absurd hj (Nat.not_lt_zero j)) HYE.out ?_; intro AE cE w2 h1 h2 h3 h4; rw [Nat.zero_add] at h1 h2 h3 ⊢; have HO2 := Lib.hid (OwnB.congr h1 (g := key) fun j _ => rfl); have HS2 := Lib.hid (h2.congr (f' := key) fun j _ => rfl); have HC2 := Lib.hid h3.1; have HB2 := Lib.hid (HB1.out.trans h4); have H2 := Lib.hid (H1.out.trans (HB2.out.mono H1.out.size)); have HT2 := Lib.hid ((HT.out.keep H2.out).keep (alloc_below w2 (.cells #[] 5))); have HO3 := Lib.hid (OwnB.empty w2 w2.heap.size tk (Nat.le_refl _)); have HB3 := Lib.hid (alloc_below w2 (.cells #[] 5)); clear h1 h2 h3 h4) |
    (refine wpList_appO rfl (.tmp 24) (.tmp 25) rfl w2.heap.size _ 0 tk rfl HO3.out At nt ct tk rfl HT2.out HTN.out (by have := HNT.out; omega) HB3.out.size (fun j hj => absurd hj (Nat.not_lt_zero j)) HYT.out ?_; intro AT cT w3 h1 h2 h3 h4; rw [Nat.zero_add] at h1 h2 h3 ⊢; have HO4 := Lib.hid (OwnB.congr h1 (g := tk) fun j _ => rfl); have HS4 := Lib.hid (h2.congr (f' := tk) fun j _ => rfl); have HN4 := Lib.hid h3.2.2; have HB4 := Lib.hid (HB3.out.trans h4); have H4 := Lib.hid (H2.out.trans (HB4.out.mono H2.out.size)); clear h1 h2 h3 h4))
  obtain ⟨t, ht⟩ : ∃ t, w3.heap.size = t := ⟨_, rfl⟩
  have c0 := cell_made w3 #[.slice AE len cE, .slice AT nt cT, .int .i64 (N : Nat)] 45 0 t ht rfl
  have c1 := cell_made w3 #[.slice AE len cE, .slice AT nt cT, .int .i64 (N : Nat)] 45 1 t ht rfl
  have c2 := cell_made w3 #[.slice AE len cE, .slice AT nt cT, .int .i64 (N : Nat)] 45 2 t ht rfl
  have f2 : (w3.alloc (.cells #[.slice AE len cE, .slice AT nt cT, .int .i64 (N : Nat)] 45)).frozen? ⟨t, 2, none⟩ = false := by subst ht; exact World.frozen?_alloc_at _ _ _ _ rfl
  have B5 := alloc_below w3 (.cells #[.slice AE len cE, .slice AT nt cT, .int .i64 (N : Nat)] 45)
  have hE3 : SlB w3 AE len key := HS2.out.keep HB4.out
  have blk : ∀ (v : Value) (W : World) (base n : Nat) (f : Nat → Nat) (A : Option Addr) (c : Nat), OwnB W base v n f → v = .slice A n c → base ≥ w.heap.size → W.heap.size ≤ t → ∀ B o, A = some ⟨B, o, none⟩ → w.heap.size ≤ B ∧ B ≠ t := fun v W base n f A c h e hb hW B o eA => by
    subst e
    rcases h.2 with ⟨e1, _⟩ | ⟨g, cap, cur, e1, hg, hh, _⟩
    · cases e1; cases eA
    · injection e1 with e1 _ _
      rw [e1] at eA
      cases eA
      have := (Array.getElem?_eq_some_iff.1 hh).1
      exact ⟨by omega, by omega⟩
  have HS := Lib.hid (show RSlr (w3.alloc (.cells #[.slice AE len cE, .slice AT nt cT, .int .i64 (N : Nat)] 45)) t N len nt key tk AE cE AT cT w.heap.size from
    ⟨c0, c1, c2, f2, hE3.keep B5, HS4.out.keep B5, HC2.out, HN4.out, by rw [← ht]; exact H4.out.size,
      blk _ w2 w1.heap.size len key AE cE HO2.out rfl H1.out.size (by rw [← ht]; exact HB4.out.size), blk _ w3 w2.heap.size nt tk AT cT HO4.out rfl H2.out.size (Nat.le_of_eq ht)⟩)
  have HBW := Lib.hid (H4.out.trans (B5.mono H4.out.size))
  rw [ht]
  clear c0 c1 c2 f2 B5 hE3 blk ht
  go_wp2_with fail
  go_ret2
  exact ⟨t, AE, cE, AT, cT, rfl, HS.out, HBW.out⟩
/-- what the reference's Seal of a Sealer leaves -/
def RSrP (t K len nt : Nat) (key tk : Nat → Nat) (AE : Option Addr) (cE : Nat) (AT : Option Addr) (cT L : Nat) (k : Nat) (f : Nat → Nat) (E : Nat) (w : World) (e : Ending) (w' : World) : Prop :=
  ∃ A c, e = .returned (.tuple #[.slice A k c, .int .i64 (E : Nat)]) ∧ SlB w' A k f ∧ RSlr w' t K len nt key tk AE cE AT cT L ∧ Chg t w w'
set_option maxRecDepth 100000 in
theorem rslr_full (t K len nt cE cT L na ca m cp : Nat) (AE AT Ab P : Option Addr) (key tk : Nat → Nat) (w : World) (h : RSlr w t K len nt key tk AE cE AT cT L) (hx : 65536 < m ∨ (m ≤ 65536 ∧ K = 9223372036854775807)) :
    Calls Tryz.prog 20 #[.pointer (some ⟨t, 0, none⟩), .slice Ab na ca, .slice P m cp] w (RSrP t K len nt key tk AE cE AT cT L 0 (fun _ => 0) 2 w) := by
  have HS := Lib.hid h
  have hc := h.nxt
  have hb : decide ((65536 : Int) < (m : Nat)) = true ∨ (decide ((65536 : Int) < (m : Nat)) = false ∧ ((K : Int) == 9223372036854775807) = true) := by
    simp only [decide_eq_true_eq, decide_eq_false_iff_not, beq_iff_eq]
    omega
  clear h hx
  rcases hb with h1 | ⟨h1, h2⟩
  all_goals
    go_enter Tryz.func20, Tryz.ntmps20
    go_wp2_with fail
    go_ret2
    exact ⟨none, 0, rfl, SlB.none0 _ _, HS.out, Chg.refl _ _⟩
--DEFS rs
def rsG (t : Nat) (AE : Option Addr) (len cE : Nat) (AT : Option Addr) (nt cT : Nat) (K1 K na ca m cp : Nat) (Ab P : Option Addr) (k : Nat) (f : Nat → Nat) : Nat → Value → World → Prop
  | 0, v, _ => v = .pointer (some ⟨t, 0, none⟩)
  | 1, v, _ => v = .pointer (some ⟨t, 0, none⟩)
  | 2, v, _ => v = .pointer (some ⟨t, 0, none⟩)
  | 3, v, _ => v = .slice AE len cE
  | 4, v, _ => v = .pointer (some ⟨t, 0, none⟩)
  | 5, v, _ => v = .pointer (some ⟨t, 0, none⟩)
  | 6, v, _ => v = .pointer (some ⟨t, 1, none⟩)
  | 7, v, _ => v = .slice AT nt cT
  | 8, v, _ => v = .pointer (some ⟨t, 0, none⟩)
  | 9, v, _ => v = .pointer (some ⟨t, 0, none⟩)
  | 10, v, _ => v = .pointer (some ⟨t, 2, none⟩)
  | 11, v, _ => v = .int .i64 (K1 : Nat)
  | 12, v, _ => v = .int .i64 (K : Nat)
  | 13, v, _ => v = .slice Ab na ca
  | 14, v, _ => v = .slice P m cp
  | 15, v, w => ∃ A c, v = .tuple #[.slice A k c, .int .i64 0] ∧ SlB w A k f
  | 16, v, w => ∃ A c, v = .slice A k c ∧ SlB w A k f
  | 17, v, _ => v = .int .i64 0
  | _, _, _ => True
theorem rsG_stays (t : Nat) (AE : Option Addr) (len cE : Nat) (AT : Option Addr) (nt cT : Nat) (K1 K na ca m cp : Nat) (Ab P : Option Addr) (k : Nat) (f : Nat → Nat) : ∀ i v w w', rsG t AE len cE AT nt cT K1 K na ca m cp Ab P k f i v w → Below w.heap.size w w' → rsG t AE len cE AT nt cT K1 K na ca m cp Ab P k f i v w'
  | 0, _, _, _, h, _ => h
  | 1, _, _, _, h, _ => h
  | 2, _, _, _, h, _ => h
  | 3, _, _, _, h, _ => h
  | 4, _, _, _, h, _ => h
  | 5, _, _, _, h, _ => h
  | 6, _, _, _, h, _ => h
  | 7, _, _, _, h, _ => h
  | 8, _, _, _, h, _ => h
  | 9, _, _, _, h, _ => h
  | 10, _, _, _, h, _ => h
  | 11, _, _, _, h, _ => h
  | 12, _, _, _, h, _ => h
  | 13, _, _, _, h, _ => h
  | 14, _, _, _, h, _ => h
  | 15, v, w, w', h_, hb => by
    obtain ⟨A, c, h1, h2⟩ := h_; exact ⟨A, c, h1, h2.keep hb⟩
  | 16, v, w, w', h_, hb => by
    obtain ⟨A, c, h1, h2⟩ := h_; exact ⟨A, c, h1, h2.keep hb⟩
  | 17, _, _, _, h, _ => h
  | _ + 18, _, _, _, _, _ => trivial
--END DEFS rs
set_option maxRecDepth 100000 in
set_option maxHeartbeats 1600000 in
theorem rslr_any (t K n len nt cE cT L na ca m cp : Nat) (AE AT Ab P : Option Addr) (key tk about p : Nat → Nat) (w : World) (hn : n = 4 ∨ n = 8) (hl : 4 * n = len) (h : RSlr w t K len nt key tk AE cE AT cT L) (hm : m ≤ 65536) (hK : K < 9223372036854775807) (hnt : nt ≤ 100000000000) (hA : SlB w Ab na about) (hAn : Ab = none → na = 0 ∧ ca = 0) (hP : SlB w P m p) (hna : na ≤ 100000000000)
    (hOA : Off Ab na t) (hOP : Off P m t) :
    Calls Tryz.prog 20 #[.pointer (some ⟨t, 0, none⟩), .slice Ab na ca, .slice P m cp] w (RSrP t (K + 1) len nt key tk AE cE AT cT L (24 + m) (sealF nt tk na about K m (xorf n key K 0 p)) 0 w) := by
  have hc := h.nxt
  have hf := h.nxtf
  have hch := (Chg.refl t w).setCell (a := ⟨t, 2, none⟩) (Or.inl rfl) (.int .i64 ((K + 1 : Nat) : Int))
  have hs1 := h.count (K + 1)
  have hA1 := hA.chg hch hOA
  have hP1 := hP.chg hch hOP
  have HN := Lib.hid hn
  have HL := Lib.hid hl
  have HM2 := Lib.hid hm
  have HKK := Lib.hid hK
  have HNT := Lib.hid hnt
  have HNA := Lib.hid hna
  have HAN := Lib.hid hAn
  obtain ⟨f, hff⟩ : ∃ f, sealF nt tk na about K m (xorf n key K 0 p) = f := ⟨_, rfl⟩
  have HFF := Lib.hid hff
  rw [hff]
  have hd : decide ((65536 : Int) < (m : Nat)) = false := by rw [decide_eq_false_iff_not]; omega
  have hd2 : ((K : Int) == 9223372036854775807) = false := by rw [beq_eq_false_iff_ne]; omega
  obtain ⟨K1, hK1⟩ : ∃ K1, K + 1 = K1 := ⟨_, rfl⟩
  rw [hK1] at hch hs1 hA1 hP1 ⊢
  have hK1i : (K : Int) + 1 = (K1 : Nat) := by omega
  have HSB := Lib.hid (show (K1 : Int) - 1 = (K : Nat) by omega)
  have hK1b : (K1 : Int) ≤ 9223372036854775807 := by omega
  obtain ⟨w1, hw1⟩ : ∃ w1, w.setCell ⟨t, 2, none⟩ (.int .i64 (K1 : Nat)) = w1 := ⟨_, rfl⟩
  have HW1 := Lib.hid hw1
  rw [hw1] at hch hs1 hA1 hP1
  have HC1 := Lib.hid hch
  have HS1 := Lib.hid hs1
  have HA1 := Lib.hid hA1
  have HP1 := Lib.hid hP1
  clear hn hl h hm hK hnt hA hAn hP hna hOA hOP hff hK1 hch hs1 hA1 hP1 hw1
  go_enter Tryz.func20, Tryz.ntmps20
  go_wp2_with fail
  clear hc hf
  rw [HW1.out]
  have HF0 := Lib.hid (show ∀ w : World, (Instr.fieldAt 45 (.pointer (some ⟨t, 0, none⟩)) 0).run Tryz.prog w = .ok (.pointer (some ⟨t, 0, none⟩)) w from fun w => by go_simp)
  have HF1 := Lib.hid (show ∀ w : World, (Instr.fieldAt 45 (.pointer (some ⟨t, 0, none⟩)) 1).run Tryz.prog w = .ok (.pointer (some ⟨t, 1, none⟩)) w from fun w => by go_simp)
  have HF2 := Lib.hid (show ∀ w : World, (Instr.fieldAt 45 (.pointer (some ⟨t, 0, none⟩)) 2).run Tryz.prog w = .ok (.pointer (some ⟨t, 2, none⟩)) w from fun w => by go_simp)
  have HL0 := Lib.hid (show ∀ w5, Below w1.heap.size w1 w5 → (Instr.loadAt 22 (.pointer (some ⟨t, 0, none⟩))).run Tryz.prog w5 = .ok (.slice AE len cE) w5 from fun w5 hb => by
    have hc := (HS1.out.keep hb).enc
    clear hb
    go_simp)
  have HL1 := Lib.hid (show ∀ w5, Below w1.heap.size w1 w5 → (Instr.loadAt 22 (.pointer (some ⟨t, 1, none⟩))).run Tryz.prog w5 = .ok (.slice AT nt cT) w5 from fun w5 hb => by
    have hc := (HS1.out.keep hb).tag
    clear hb
    go_simp)
  have HL2 := Lib.hid (show ∀ w5, Below w1.heap.size w1 w5 → (Instr.loadAt 3 (.pointer (some ⟨t, 2, none⟩))).run Tryz.prog w5 = .ok (.int .i64 (K1 : Nat)) w5 from fun w5 hb => by
    have hc := (HS1.out.keep hb).nxt
    clear hb
    go_simp)
  have HSUB := Lib.hid (show ∀ w5 : World, (binOp .sub 3 (.int .i64 (K1 : Nat)) (.int .i64 1)).run Tryz.prog w5 = .ok (.int .i64 (K : Nat)) w5 from fun w5 => by
    have h1 := HSB.out
    have h2 : IntKind.i64.wrap (K : Int) = (K : Nat) := IntWalk.i64_in _ (by have := HKK.out; omega)
    go_simp)
  have HSE := Lib.hid (show ∀ w5, Below w1.heap.size w1 w5 → Calls Tryz.prog 10 #[.slice AE len cE, .slice AT nt cT, .int .i64 (K : Nat), .slice Ab na ca, .slice P m cp] w5 (RSU (24 + m) f 0 w5) from fun w5 hb => by
    have hs := HS1.out.keep hb
    rw [← HFF.out]
    exact rseal_any len n cE nt cT na ca m cp K AE AT Ab P key tk about p w5 HN.out HL.out hs.capE hs.rowE (HP1.out.keep hb) (by have := HKK.out; omega) HM2.out HNT.out HNA.out hs.rowT hs.nilT (HA1.out.keep hb) HAN.out)
  clear HA1 HP1
  go_wp2_with fail
  refine ord.wp_region_ordT 18 [[], [0], [1], [2], [], [4], [5], [6], [], [8], [9], [10], [11], [], [], [3, 7, 12, 13, 14], [15], [15]] [(0, 25), (1, 26), (2, 27), (3, 28), (4, 29), (5, 30), (6, 31), (7, 32), (8, 33), (9, 34), (10, 35), (11, 36), (12, 37), (13, 38), (14, 39), (15, 40), (16, 41), (17, 42)] (rsG t AE len cE AT nt cT K1 K na ca m cp Ab P (24 + m) f) (by kernel_rfl) (by kernel_rfl) (by kernel_rfl) (rsG_stays _ _ _ _ _ _ _ _ _ _ _ _ _ _ _ _ _) ((ord.steps_cons ?_ (ord.steps_cons ?_ (ord.steps_cons ?_ (ord.steps_cons ?_ (ord.steps_cons ?_ (ord.steps_cons ?_ (ord.steps_cons ?_ (ord.steps_cons ?_ (ord.steps_cons ?_ (ord.steps_cons ?_ (ord.steps_cons ?_ (ord.steps_cons ?_ (ord.steps_cons ?_ (ord.steps_cons ?_ (ord.steps_cons ?_ (ord.steps_cons ?_ (ord.steps_cons ?_ (ord.steps_cons ?_ ord.steps_nil))))))))))))))))))) ?_
  --STEPS rs
  · intro o ho x w hb hG
    obtain rfl := Option.some.inj ho
    clear ho
    refine Or.inl ⟨ord.want0 rfl, ?_⟩
    exact ord.makes_move rfl ⟨Below.refl _ _, rfl⟩
  · intro o ho x w hb hG
    obtain rfl := Option.some.inj ho
    clear ho
    have h25 : x 0 = .pointer (some ⟨t, 0, none⟩) := hG (0, 25) (List.mem_of_getElem? (i := 0) rfl) rfl
    refine Or.inl ⟨ord.want0 rfl, ?_⟩
    exact ord.makes_nilCheck rfl h25 ⟨Below.refl _ _, rfl⟩
  · intro o ho x w hb hG
    obtain rfl := Option.some.inj ho
    clear ho
    have h26 : x 1 = .pointer (some ⟨t, 0, none⟩) := hG (1, 26) (List.mem_of_getElem? (i := 1) rfl) rfl
    refine Or.inl ⟨ord.want0 rfl, ?_⟩
    exact ord.makes_fieldAddr rfl h26 (HF0.out w) ⟨Below.refl _ _, rfl⟩
  · intro o ho x w hb hG
    obtain rfl := Option.some.inj ho
    clear ho
    have h27 : x 2 = .pointer (some ⟨t, 0, none⟩) := hG (2, 27) (List.mem_of_getElem? (i := 2) rfl) rfl
    refine Or.inl ⟨ord.want0 rfl, ?_⟩
    exact ord.makes_loadV rfl h27 (HL0.out w (of_drew hb)) ⟨Below.refl _ _, rfl⟩
  · intro o ho x w hb hG
    obtain rfl := Option.some.inj ho
    clear ho
    refine Or.inl ⟨ord.want0 rfl, ?_⟩
    exact ord.makes_move rfl ⟨Below.refl _ _, rfl⟩
  · intro o ho x w hb hG
    obtain rfl := Option.some.inj ho
    clear ho
    have h29 : x 4 = .pointer (some ⟨t, 0, none⟩) := hG (4, 29) (List.mem_of_getElem? (i := 4) rfl) rfl
    refine Or.inl ⟨ord.want0 rfl, ?_⟩
    exact ord.makes_nilCheck rfl h29 ⟨Below.refl _ _, rfl⟩
  · intro o ho x w hb hG
    obtain rfl := Option.some.inj ho
    clear ho
    have h30 : x 5 = .pointer (some ⟨t, 0, none⟩) := hG (5, 30) (List.mem_of_getElem? (i := 5) rfl) rfl
    refine Or.inl ⟨ord.want0 rfl, ?_⟩
    exact ord.makes_fieldAddr rfl h30 (HF1.out w) ⟨Below.refl _ _, rfl⟩
  · intro o ho x w hb hG
    obtain rfl := Option.some.inj ho
    clear ho
    have h31 : x 6 = .pointer (some ⟨t, 1, none⟩) := hG (6, 31) (List.mem_of_getElem? (i := 6) rfl) rfl
    refine Or.inl ⟨ord.want0 rfl, ?_⟩
    exact ord.makes_loadV rfl h31 (HL1.out w (of_drew hb)) ⟨Below.refl _ _, rfl⟩
  · intro o ho x w hb hG
    obtain rfl := Option.some.inj ho
    clear ho
    refine Or.inl ⟨ord.want0 rfl, ?_⟩
    exact ord.makes_move rfl ⟨Below.refl _ _, rfl⟩
  · intro o ho x w hb hG
    obtain rfl := Option.some.inj ho
    clear ho
    have h33 : x 8 = .pointer (some ⟨t, 0, none⟩) := hG (8, 33) (List.mem_of_getElem? (i := 8) rfl) rfl
    refine Or.inl ⟨ord.want0 rfl, ?_⟩
    exact ord.makes_nilCheck rfl h33 ⟨Below.refl _ _, rfl⟩
  · intro o ho x w hb hG
    obtain rfl := Option.some.inj ho
    clear ho
    have h34 : x 9 = .pointer (some ⟨t, 0, none⟩) := hG (9, 34) (List.mem_of_getElem? (i := 9) rfl) rfl
    refine Or.inl ⟨ord.want0 rfl, ?_⟩
    exact ord.makes_fieldAddr rfl h34 (HF2.out w) ⟨Below.refl _ _, rfl⟩
  · intro o ho x w hb hG
    obtain rfl := Option.some.inj ho
    clear ho
    have h35 : x 10 = .pointer (some ⟨t, 2, none⟩) := hG (10, 35) (List.mem_of_getElem? (i := 10) rfl) rfl
    refine Or.inl ⟨ord.want0 rfl, ?_⟩
    exact ord.makes_loadV rfl h35 (HL2.out w (of_drew hb)) ⟨Below.refl _ _, rfl⟩
  · intro o ho x w hb hG
    obtain rfl := Option.some.inj ho
    clear ho
    have h36 : x 11 = .int .i64 (K1 : Nat) := hG (11, 36) (List.mem_of_getElem? (i := 11) rfl) rfl
    refine Or.inl ⟨ord.want0 rfl, ?_⟩
    exact ord.makes_bin rfl h36 rfl (HSUB.out w) ⟨Below.refl _ _, rfl⟩
  · intro o ho x w hb hG
    obtain rfl := Option.some.inj ho
    clear ho
    refine Or.inl ⟨ord.want0 rfl, ?_⟩
    exact ord.makes_move rfl ⟨Below.refl _ _, rfl⟩
  · intro o ho x w hb hG
    obtain rfl := Option.some.inj ho
    clear ho
    refine Or.inl ⟨ord.want0 rfl, ?_⟩
    exact ord.makes_move rfl ⟨Below.refl _ _, rfl⟩
  · intro o ho x w hb hG
    obtain rfl := Option.some.inj ho
    clear ho
    have h28 : x 3 = .slice AE len cE := hG (3, 28) (List.mem_of_getElem? (i := 3) rfl) rfl
    have h32 : x 7 = .slice AT nt cT := hG (7, 32) (List.mem_of_getElem? (i := 7) rfl) rfl
    have h37 : x 12 = .int .i64 (K : Nat) := hG (12, 37) (List.mem_of_getElem? (i := 12) rfl) rfl
    have h38 : x 13 = .slice Ab na ca := hG (13, 38) (List.mem_of_getElem? (i := 13) rfl) rfl
    have h39 : x 14 = .slice P m cp := hG (14, 39) (List.mem_of_getElem? (i := 14) rfl) rfl
    refine Or.inl ⟨ord.want0 rfl, ?_⟩
    exact ord.makes_call5 Tryz.func10 (by kernel_rfl) (by kernel_rfl) rfl h28 h32 h37 h38 h39 (HSE.out w (of_drew hb)) (fun e w' h => by obtain ⟨A, c, he, h1, h2⟩ := h; exact ⟨_, he, h2, A, c, rfl, h1⟩)
  · intro o ho x w hb hG
    obtain rfl := Option.some.inj ho
    clear ho
    have h40 : rsG t AE len cE AT nt cT K1 K na ca m cp Ab P (24 + m) f 15 (x 15) w := hG (15, 40) (List.mem_of_getElem? (i := 15) rfl) rfl
    refine Or.inl ⟨ord.want0 rfl, ?_⟩
    obtain ⟨A, c, hv, h1⟩ := h40
    exact ord.makes_extract rfl hv rfl ⟨Below.refl _ _, A, c, rfl, h1⟩
  · intro o ho x w hb hG
    obtain rfl := Option.some.inj ho
    clear ho
    have h40 : rsG t AE len cE AT nt cT K1 K na ca m cp Ab P (24 + m) f 15 (x 15) w := hG (15, 40) (List.mem_of_getElem? (i := 15) rfl) rfl
    refine Or.inl ⟨ord.want0 rfl, ?_⟩
    obtain ⟨A, c, hv, h1⟩ := h40
    exact ord.makes_extract rfl hv rfl ⟨Below.refl _ _, rfl⟩
  --END STEPS rs
  · intro x w5 hb hG
    obtain ⟨A9, c9, e9, h9⟩ : ∃ A c, x 16 = .slice A (24 + m) c ∧ SlB w5 A (24 + m) f := hG (16, 41) (List.mem_of_getElem? (i := 16) rfl)
    have e10 : x 17 = .int .i64 0 := hG (17, 42) (List.mem_of_getElem? (i := 17) rfl)
    clear hG
    have H9 := Lib.hid h9
    have HS5 := Lib.hid (HS1.out.keep hb)
    have HC5 := Lib.hid (HC1.out.thenBelow hb)
    clear hb h9
    simp only [ord.puts, ord.put', if_true]
    rw [e9, e10]
    clear e9 e10
    simp only [List.drop_succ_cons, List.drop_zero]
    go_wp2_with fail
    go_ret2
    exact ⟨A9, c9, rfl, H9.out, HS5.out, HC5.out⟩
end Go.Proofs.YtgcdnhjjoidpmaaGreatDoor
/- BoxCounts. -/
namespace Go.Proofs.YtgcdnhjjoidpmaaGreatDoor
open Go.RowKit
theorem cells_two (w : World) (A0 A1 : Option Addr) (n0 n1 c0 c1 : Nat) (j : Nat) (hj : j < 2) :
    (w.alloc (.cells #[.slice A0 n0 c0, .slice A1 n1 c1] 22)).cell? ⟨w.heap.size, j, none⟩ = some (.slice (t2 A0 A1 j) (t2 n0 n1 j) (t2 c0 c1 j)) := by
  rcases two_of hj with rfl | rfl <;> exact cell_made w _ _ _ _ rfl rfl
theorem fits2_all (w : World) (A0 A1 : Option Addr) (n0 n1 c0 c1 : Nat) (h0 : n0 ≤ 1024) (h1 : n1 ≤ 1024) :
    Calls Tryz.prog 7 #[.slice (some ⟨w.heap.size, 0, none⟩) 2 2] (w.alloc (.cells #[.slice A0 n0 c0, .slice A1 n1 c1] 22)) fun e w' => e = .returned (.bool true) ∧ Below w.heap.size w w' := by
  refine (fits_all w.heap.size 2 2 (t2 A0 A1) (t2 n0 n1) (t2 c0 c1) _ (by decide) (cells_two w A0 A1 n0 n1 c0 c1) (fun j hj => ?_)).mono ?_
  · rcases two_of hj with rfl | rfl
    · exact h0
    · exact h1
  · rintro e w' ⟨he, rfl⟩
    exact ⟨he, alloc_below w _⟩
theorem fits2_not (w : World) (A0 A1 : Option Addr) (n0 n1 c0 c1 : Nat) (h : ¬ (n0 ≤ 1024 ∧ n1 ≤ 1024)) :
    Calls Tryz.prog 7 #[.slice (some ⟨w.heap.size, 0, none⟩) 2 2] (w.alloc (.cells #[.slice A0 n0 c0, .slice A1 n1 c1] 22)) fun e w' => e = .returned (.bool false) ∧ Below w.heap.size w w' := by
  have key : ∃ j, j < 2 ∧ 1024 < t2 n0 n1 j := by
    by_cases h0 : n0 ≤ 1024
    · exact ⟨1, by decide, show 1024 < n1 by omega⟩
    · exact ⟨0, by decide, show 1024 < n0 by omega⟩
  obtain ⟨j, hj, hlt⟩ := key
  refine (fits_not w.heap.size 2 2 j (t2 A0 A1) (t2 n0 n1) (t2 c0 c1) _ (by decide) (cells_two w A0 A1 n0 n1 c0 c1) hj hlt).mono ?_
  rintro e w' ⟨he, rfl⟩
  exact ⟨he, alloc_below w _⟩
set_option maxRecDepth 100000 in
set_option maxHeartbeats 1600000 in
theorem counts_out (len cap nt ct R cR : Nat) (N : Int) (Ae At AR : Option Addr) (w : World) (ht : GT w) (h : ¬ (len ≤ 1024 ∧ nt ≤ 1024)) :
    Calls Tryz.prog 5 #[.slice Ae len cap, .slice At nt ct, .int .i64 N, .slice AR R cR] w fun e w' => e = .returned (.bool true) ∧ Below w.heap.size w w' := by
  have HS := Lib.hid (small8_any w ht)
  have HF := Lib.hid (fun w => fits2_not w Ae At len nt cap ct h)
  clear ht h
  go_enter Tryz.func5, Tryz.ntmps5
  go_wp2_with fail
  refine HS.out.mono ?_
  rintro e w1 ⟨rfl, h1⟩
  have H1 := Lib.hid h1
  clear h1
  go_wp2_with fail
  refine (HF.out w1).mono ?_
  rintro e w2 ⟨rfl, h2⟩
  have H2 := Lib.hid (H1.out.trans (h2.mono H1.out.size))
  clear h2
  go_wp2_with fail
  go_ret
  exact ⟨rfl, H2.out⟩
theorem owned_k (W : World) (g len B : Nat) (b : Nat → Nat) (hl : len ≤ 1024) (h : W.rowIs g 5 (len + 1) (fun j => .int .u8 (if j < len then b j else 77 : Nat))) (hg : B ≤ g) (hB : B ≤ W.heap.size) :
    Calls Tryz.prog 12 #[.slice (some ⟨W.heap.size, 0, none⟩) 1 1] (W.alloc (.cells #[.slice (some ⟨g, 0, none⟩) len (len + 1)] 22)) fun e w' => e = .returned (.bool true) ∧ Below B W w' ∧ Chg g W w' :=
  (owned_one W g len (len + 1) _ (lent_arr h) (by omega)).mono fun _ _ ⟨he, hc⟩ => ⟨he, hc.below hB hg, hc⟩
set_option maxRecDepth 100000 in
set_option maxHeartbeats 1600000 in
theorem counts_wrong (len cap nt ct R cR : Nat) (N : Int) (Ae At AR : Option Addr) (key : Nat → Nat) (w : World) (hE : SlB w Ae len key) (ht : GT w) (hl : len ≤ 1024) (hnt : nt ≤ 1024) (h : wrong len N 0)
    (hr : ∀ w, SlB w Ae len key → Calls Tryz.prog 18 #[.slice Ae len cap, .slice At nt ct, .int .i64 N] w fun e w' => e = .returned (.tuple #[.pointer none, .int .i64 1]) ∧ Below w.heap.size w w') :
    Calls Tryz.prog 5 #[.slice Ae len cap, .slice At nt ct, .int .i64 N, .slice AR R cR] w fun e w' => e = .returned (.bool true) ∧ Below w.heap.size w w' := by
  have HS := Lib.hid (small8_any w ht)
  have HF := Lib.hid (fun w => fits2_all w Ae At len nt cap ct hl hnt)
  have HE := Lib.hid hE
  have HL := Lib.hid (show len ≤ 140737488351232 ∧ len ≤ 1024 from ⟨by omega, hl⟩)
  have HW := Lib.hid h
  have HR := Lib.hid hr
  clear hE ht hl hnt h hr
  go_enter Tryz.func5, Tryz.ntmps5
  go_wp2_with fail
  refine HS.out.mono ?_
  rintro e w1 ⟨rfl, h1⟩
  have H1 := Lib.hid h1
  clear h1
  go_wp2_with fail
  refine (HF.out w1).mono ?_
  rintro e w2 ⟨rfl, h2⟩
  have H2 := Lib.hid (H1.out.trans (h2.mono H1.out.size))
  clear h2
  go_wp2_with fail
  refine (lent_any Ae len cap key w2 HL.out.1 (HE.out.keep H2.out)).mono ?_
  rintro e w3 ⟨gK, rfl, h1, h2, h3⟩
  have HGK := Lib.hid (Nat.le_trans H2.out.size h1)
  have HK3 := Lib.hid h2
  have H3 := Lib.hid (H2.out.trans (h3.mono H2.out.size))
  clear h1 h2 h3
  go_wp2_with fail
  refine (newx_wrong len (len + 1) nt ct N (some ⟨gK, 0, none⟩) At w3 HL.out.1 HW.out).mono ?_
  rintro e w4 ⟨rfl, rfl⟩
  go_wp2_with fail
  refine (kept_any gK Ae len cap key w3 HL.out.1 (HE.out.keep H3.out) HK3.out).mono ?_
  rintro e w4 ⟨rfl, rfl⟩
  go_wp2_with fail
  refine (owned_k w3 gK len w.heap.size key HL.out.2 HK3.out HGK.out H3.out.size).mono ?_
  rintro e w4 ⟨rfl, h1, _⟩
  have H4 := Lib.hid (H3.out.trans h1)
  clear h1
  go_wp2_with fail
  refine (HR.out w4 (HE.out.keep H4.out)).mono ?_
  rintro e w5 ⟨rfl, h1⟩
  have H5 := Lib.hid (H4.out.trans (h1.mono H4.out.size))
  clear h1
  go_wp2_with fail
  go_ret
  exact ⟨rfl, H5.out⟩
/-- what Next answers -/
def capN (K : Nat) : Nat := if K ≤ 9223372036854775807 then K else 9223372036854775807
theorem next_cap (s g B K len nt cE : Nat) (key tk : Nat → Nat) (w : World) (h : Slr w s g B K len nt key tk cE) : Calls Tryz.prog 21 #[.pointer (some ⟨s, 0, none⟩)] w fun e w' => e = .returned (.int .i64 (capN K : Nat)) ∧ w = w' := by
  unfold capN
  by_cases hK : K ≤ 9223372036854775807
  · rw [if_pos hK]; exact next_low s g B K len nt cE key tk w h hK
  · rw [if_neg hK]; exact next_high s g B K len nt cE key tk w h (by omega)
/-- both Sealers, call by call: what they answer and leave -/
theorem turn_cases (s g B K n len nt cE t Nn cF cT L m cm : Nat) (AF AT P : Option Addr) (key tk p : Nat → Nat) (w0 w : World) (hn : n = 4 ∨ n = 8) (hl : 4 * n = len) (hnt : nt ≤ 1024) (hY : By nt tk) (hS : Slr w s g B K len nt key tk cE) (hb : Below w0.heap.size w0 w) (ht : GT w0) (hP : SlB w0 P m p)
    (hs : w0.heap.size ≤ s) (hg : w0.heap.size ≤ g) (htt : w0.heap.size ≤ t) (hN : Nn = capN K) (hK : K ≤ 9223372036854775907) (_hm : m ≤ 1024 ∨ 65536 < m) :
    ∃ (k E K' : Nat) (f : Nat → Nat), By k f ∧ K' ≤ K + 1 ∧ Calls Tryz.prog 19 #[.pointer (some ⟨s, 0, none⟩), .slice none 0 0, .slice P m cm] w (SrP s g B K' len nt key tk cE k f E w) ∧
      ∀ w', RSlr w' t Nn len nt key tk AF cF AT cT L → SlB w' P m p → Calls Tryz.prog 20 #[.pointer (some ⟨t, 0, none⟩), .slice none 0 0, .slice P m cm] w' (RSrP t (capN K') len nt key tk AF cF AT cT L k f E w') := by
  by_cases h1 : 65536 < m
  · exact ⟨0, 2, K, fun _ => 0, fun j hj => absurd hj (Nat.not_lt_zero j), by omega, slr_long s g B K len nt cE 0 0 m cm none P key tk w hS h1, fun w' hR _ => by
      subst hN
      exact rslr_full t (capN K) len nt cF cT L 0 0 m cm AF AT none P key tk w' hR (Or.inl h1)⟩
  · by_cases h2 : 9223372036854775807 ≤ K
    · have e1 : capN K = 9223372036854775807 := by unfold capN; split <;> omega
      have e2 : capN (K + 1) = 9223372036854775807 := by unfold capN; split <;> omega
      refine ⟨0, 2, K + 1, fun _ => 0, fun j hj => absurd hj (Nat.not_lt_zero j), Nat.le_refl _, slr_full s g B K len nt cE 0 0 m cm none P key tk w hS (by omega) h2 (by omega), fun w' hR _ => ?_⟩
      subst hN
      rw [e2]
      rw [e1] at hR
      exact rslr_full t _ len nt cF cT L 0 0 m cm AF AT none P key tk w' hR (Or.inr ⟨by omega, rfl⟩)
    · have e1 : capN K = K := by unfold capN; rw [if_pos (by omega)]
      have e2 : capN (K + 1) = K + 1 := by unfold capN; rw [if_pos (by omega)]
      have hsg : ∀ k, S2 s g k → w0.heap.size ≤ k := fun k hk => by
        rcases hk with rfl | rfl
        · exact hs
        · exact hg
      refine ⟨24 + m, 0, K + 1, _, sealF_by (xorf_lt hn (fun j hj => hS.row.byte (by omega)) (fun j hj => hP.byte hj)), Nat.le_refl _, slr_any s g B K n len nt cE 0 0 m cm none P key tk (fun _ => 0) p w hn hl hS (by omega) (by omega) (SlB.none0 _ _) (hP.keep hb) (by decide) (Nat.le_refl 0) (fun h => absurd h (Nat.lt_irrefl 0)) (hP.offS hsg) hY (ht.keep hb)
        ⟨fun hk => absurd (hsg _ hk) (Nat.not_le.2 ht.ltk), fun hk => absurd (hsg _ hk) (Nat.not_le.2 ht.lth)⟩, fun w' hR hP' => ?_⟩
      subst hN
      rw [e2]
      rw [e1] at hR
      exact rslr_any t K n len nt cF cT L 0 0 m cm AF AT none P key tk (fun _ => 0) p w' hn hl hR (by omega) (by omega) (by omega) (SlB.none0 _ _) (fun _ => ⟨rfl, rfl⟩) hP' (by decide) (fun h => absurd h (Nat.lt_irrefl 0)) (hP.off htt)
theorem Slr.keepFrom {w0 w w' : World} {s g B K K0 len nt cE : Nat} {key tk : Nat → Nat} (h : Slr w s g B K len nt key tk cE) (h0 : Slr w0 s g B K0 len nt key tk cE) (hl : 0 < len) (hb : Below w0.heap.size w w') : Slr w' s g B K len nt key tk cE :=
  h.of_blocks (hb.block s h0.lt) (hb.block g h0.maker.lt) (hb.block B (by
    obtain ⟨B', o, e, hB', _⟩ := h0.row hl
    cases e
    exact hB')) hb.size
theorem RSlr.keepFrom {w0 w w' : World} {t K K0 len nt cE cT L : Nat} {key tk : Nat → Nat} {AE AT : Option Addr} (h : RSlr w t K len nt key tk AE cE AT cT L) (h0 : RSlr w0 t K0 len nt key tk AE cE AT cT L) (hb : Below w0.heap.size w w') : RSlr w' t K len nt key tk AE cE AT cT L := by
  have ht := hb.block t h0.lt
  have sl : ∀ (A : Option Addr) (n : Nat) (f : Nat → Nat), SlB w A n f → SlB w0 A n f → SlB w' A n f := fun A n f hA hA0 hn => by
    obtain ⟨B, o, e, hB, hc⟩ := hA hn
    obtain ⟨B', o', e', hB', _⟩ := hA0 hn
    rw [e] at e'
    cases e'
    exact ⟨B, o, e, Nat.lt_of_lt_of_le hB hb.size, fun j hj => ⟨(hc j hj).1, (World.cell?_of_block (hb.block B hB')).trans (hc j hj).2⟩⟩
  exact ⟨(World.cell?_of_block ht).trans h.enc, (World.cell?_of_block ht).trans h.tag, (World.cell?_of_block ht).trans h.nxt, (World.frozen?_of_block ht).trans h.nxtf, sl AE len key h.rowE h0.rowE, sl AT nt tk h.rowT h0.rowT, h.capE, h.nilT, h.lo, h.loE, h.loT⟩
theorem OwnR.chg' {W W' : World} {A : Option Addr} {c g K : Nat} (h : OwnR W A c g) (hb : Chg K W W') (hK : 0 < c → g ≠ K) : OwnR W' A c g := fun hc => (h.chg hb (hK hc)) hc
theorem owned_1 (W : World) (A0 : Option Addr) (n0 c0 g0 B : Nat) (h0 : OwnR W A0 c0 g0) (b0 : 0 < c0 → B ≤ g0) (l0 : c0 ≤ 9223372036854775807) (hB : B ≤ W.heap.size) :
    Calls Tryz.prog 12 #[.slice (some ⟨W.heap.size, 0, none⟩) 1 1] (W.alloc (.cells #[.slice A0 n0 c0] 22)) fun e w' => e = .returned (.bool true) ∧ Below B W w' := by
  refine (owned_rows 1 W #[.slice A0 n0 c0] (fun _ => A0) (fun _ => n0) (fun _ => c0) (fun _ => g0) (by decide) (fun j hj => by obtain rfl : j = 0 := (by omega); rfl) (fun _ _ => h0) (fun i j hij hj => by omega) (fun _ _ => l0)).mono ?_
  rintro e w' ⟨he, h⟩
  refine ⟨he, h.below hB fun k hk => ?_⟩
  obtain ⟨j, hj, hc, rfl⟩ := hk
  exact b0 hc
end Go.Proofs.YtgcdnhjjoidpmaaGreatDoor
/- BoxCounts: the walk. -/
namespace Go.Proofs.YtgcdnhjjoidpmaaGreatDoor
open Go.RowKit
set_option maxRecDepth 100000 in
set_option maxHeartbeats 6400000 in
theorem counts_go (len n cap nt ct R cR N : Nat) (Ae At AR : Option Addr) (key tk : Nat → Nat) (w0 : World) (hn : n = 4 ∨ n = 8) (hl4 : 4 * n = len) (hcap : len ≤ cap) (hct : nt ≤ ct) (hEn : Ae = none → len = 0 ∧ cap = 0) (hTn : At = none → nt = 0 ∧ ct = 0) (hE : SlB w0 Ae len key) (hT : SlB w0 At nt tk) (hR : RowsIn w0 AR R) (hRR : R ≤ 140737488351232) (ht : GT w0)
    (hl : len ≤ 1024) (hnt : nt ≤ 1024) (hN : N ≤ 9223372036854775807) :
    Calls Tryz.prog 5 #[.slice Ae len cap, .slice At nt ct, .int .i64 (N : Nat), .slice AR R cR] w0 fun e w' => e = .returned (.bool true) ∧ Below w0.heap.size w0 w' := by
  have HS := Lib.hid (small8_any w0 ht)
  have HF := Lib.hid (fun w => fits2_all w Ae At len nt cap ct hl hnt)
  have HE := Lib.hid hE
  have HT := Lib.hid hT
  have HRI := Lib.hid hR
  have HG := Lib.hid ht
  have HL := Lib.hid (show len ≤ 140737488351232 ∧ len ≤ 1024 ∧ 0 < len from ⟨by omega, hl, by omega⟩)
  have HYE := Lib.hid (show By len key from fun j hj => hE.byte hj)
  have HYT := Lib.hid (show By nt tk from fun j hj => hT.byte hj)
  have HW := Lib.hid (fun (w : World) (A : Option Addr) (c : Nat) (h : SlB w A len key) (hA : A ≠ none) (hT : SlB w At nt tk) (ht : GT w) => newx_any len n c N nt ct A At key tk w hn hl4 h (fun e => absurd e hA) hN (by omega) hct hT ht)
  have HRN := Lib.hid (fun (w : World) (h : SlB w Ae len key) (hT : SlB w At nt tk) => rnewx_any len n cap N nt ct Ae At key tk w hn hl4 hcap h hEn hN (by omega) hT hTn)
  have HTC := Lib.hid (fun (s g B K cE t Nn cF cT L m cm : Nat) (AF AT P : Option Addr) (p : Nat → Nat) (w : World) => turn_cases s g B K n len nt cE t Nn cF cT L m cm AF AT P key tk p w0 w hn hl4 hnt (fun j hj => hT.byte hj))
  have hcN : capN N = N := by unfold capN; rw [if_pos hN]
  have HCN := Lib.hid hcN
  have HNB := Lib.hid hN
  have HRB := Lib.hid hRR
  have hRi : (R : Int) ≤ 140737488351232 := by omega
  clear hn hl4 hcap hct hEn hTn hE hT hR hRR ht hl hnt hN hcN
  go_enter Tryz.func5, Tryz.ntmps5
  go_wp2_with fail
  refine HS.out.mono ?_
  rintro e w1 ⟨rfl, h1⟩
  have H1 := Lib.hid h1
  clear h1
  go_wp2_with fail
  refine (HF.out w1).mono ?_
  rintro e w2 ⟨rfl, h2⟩
  have H2 := Lib.hid (H1.out.trans (h2.mono H1.out.size))
  clear h2
  go_wp2_with fail
  refine (lent_any Ae len cap key w2 HL.out.1 (HE.out.keep H2.out)).mono ?_
  rintro e w3 ⟨gK, rfl, h1, h2, h3⟩
  have HGK := Lib.hid (Nat.le_trans H2.out.size h1)
  have HK3 := Lib.hid h2
  have H3 := Lib.hid (H2.out.trans (h3.mono H2.out.size))
  clear h1 h2 h3
  go_wp2_with fail
  refine (HW.out w3 (some ⟨gK, 0, none⟩) (len + 1) (lent_slB HK3.out HYE.out) (fun e => by cases e) (HT.out.keep H3.out) (HG.out.keep H3.out)).mono ?_
  rintro e w4 ⟨s, g, B, cE, rfl, h1, h2, h3, h4, h5⟩
  have HSL4 := Lib.hid h1
  have HLO := Lib.hid (show w3.heap.size ≤ s ∧ w3.heap.size ≤ g ∧ w3.heap.size ≤ B from ⟨h2, h3, h4⟩)
  have HK4 := Lib.hid (HK3.out.of_block (h5.block gK HK3.out.lt))
  have H4 := Lib.hid (H3.out.trans (h5.mono H3.out.size))
  clear h1 h2 h3 h4 h5
  go_wp2_with fail
  refine (kept_any gK Ae len cap key w4 HL.out.1 (HE.out.keep H4.out) HK4.out).mono ?_
  rintro e w5 ⟨rfl, rfl⟩
  go_wp2_with fail
  refine (owned_k w4 gK len w0.heap.size key HL.out.2.1 HK4.out HGK.out H4.out.size).mono ?_
  rintro e w5 ⟨rfl, h1, h2⟩
  have hk3 := HK3.out.lt
  have HSL5 := Lib.hid (HSL4.out.of_blocks (h2.block s HSL4.out.lt (by have := HLO.out; omega)) (h2.block g HSL4.out.maker.lt (by have := HLO.out; omega))
    (h2.block B (by obtain ⟨B', o, e, hB', _⟩ := HSL4.out.row HL.out.2.2; cases e; exact hB') (by have := HLO.out; omega)) h2.size)
  have H5 := Lib.hid (H4.out.trans h1)
  clear h1 h2 hk3
  go_wp2_with fail
  refine (HRN.out w5 (HE.out.keep H5.out) (HT.out.keep H5.out)).mono ?_
  rintro e w6 ⟨t, AF, cF, AT, cT, rfl, h1, h2⟩
  have HRS6 := Lib.hid h1
  have HSL6 := Lib.hid (HSL5.out.keep HL.out.2.2 h2)
  have HSGL := Lib.hid (show s < w5.heap.size ∧ g < w5.heap.size ∧ B < w5.heap.size from ⟨HSL5.out.lt, HSL5.out.maker.lt, by obtain ⟨B', o, e, hB', _⟩ := HSL5.out.row HL.out.2.2; cases e; exact hB'⟩)
  have HLO0 := Lib.hid (show w0.heap.size ≤ s ∧ w0.heap.size ≤ g ∧ w0.heap.size ≤ B ∧ w0.heap.size ≤ t from ⟨Nat.le_trans H3.out.size HLO.out.1, Nat.le_trans H3.out.size HLO.out.2.1, Nat.le_trans H3.out.size HLO.out.2.2, Nat.le_trans H5.out.size h1.lo⟩)
  have H6 := Lib.hid (H5.out.trans (h2.mono H5.out.size))
  have HLL6 := Lib.hid h2.size
  obtain ⟨L, hL⟩ : ∃ L, w5.heap.size = L := ⟨_, rfl⟩
  rw [hL] at HRS6 HSGL HLL6
  clear h1 h2 hL HSL4 HSL5 HK3 HK4 HE HT HF HS HW HRN HGK HLO H1 H2 H3 H4 H5
  go_wp2_with fail
  go_loopw [17] (fun v wr => ∃ i K : Nat, i ≤ 20 ∧ K ≤ N + i ∧ v = .int .i64 i ∧ Slr wr s g B K len nt key tk cE ∧ RSlr wr t (capN K) len nt key tk AF cF AT cT L ∧ Below w0.heap.size w0 wr ∧ L ≤ wr.heap.size) (fun v _ => 20 - (intOf v).toNat)
  case atStart => exact ⟨0, N, by decide, Nat.le_refl _, rfl, HSL6.out, by rw [HCN.out]; exact HRS6.out, H6.out, HLL6.out⟩
  case round =>
    obtain ⟨i, K, hi, hK, rfl, h1, h2, h3, h4⟩ := hrel
    have HSr := Lib.hid h1
    have HRr := Lib.hid h2
    have HBr := Lib.hid h3
    have HLr := Lib.hid h4
    have HKr := Lib.hid hK
    clear h1 h2 h3 h4 hK
    by_cases hlt : i < R ∧ i < 20
    · obtain ⟨hiR, hi20⟩ := hlt
      have hii : (i : Int) < R := by omega
      have hi2 : (i : Int) < 20 := by omega
      obtain ⟨Bq, oq, hAR, hBq, hrows⟩ := HRI.out (by omega)
      subst hAR
      obtain ⟨P, m, cm, p, hcell, hP, hmc, hPn⟩ := hrows i hiR
      have HP := Lib.hid hP
      have HCELL := Lib.hid hcell
      have HBQ := Lib.hid hBq
      have hc0 := (HBr.out.cell (p := ⟨Bq, oq + i, none⟩) hBq).trans hcell
      clear hrows hcell hBq hP hPn
      by_cases hmid : 1024 < m ∧ m ≤ 65536
      · have d1 : decide ((1024 : Int) < (m : Nat)) = true := by rw [decide_eq_true_eq]; omega
        have d2 : decide (((m : Nat) : Int) ≤ 65536) = true := by rw [decide_eq_true_eq]; omega
        clear hmid
        go_wp2_with fail
        go_ret
        exact ⟨rfl, HBr.out⟩
      · have hx : decide ((1024 : Int) < (m : Nat)) = false ∨ (decide ((1024 : Int) < (m : Nat)) = true ∧ decide (((m : Nat) : Int) ≤ 65536) = false) := by
          simp only [decide_eq_true_eq, decide_eq_false_iff_not]
          omega
        obtain ⟨k, E, K', f, hky, hKK, hs1, hr1⟩ := HTC.out s g B K cE t (capN K) cF cT L m cm AF AT P p wr HSr.out HBr.out HG.out HP.out HLO0.out.1 HLO0.out.2.1 HLO0.out.2.2.2 rfl (by have := HKr.out; have := HNB.out; omega) (by omega)
        have HKY := Lib.hid hky
        have HK2 := Lib.hid hKK
        have HS1 := Lib.hid hs1
        have HR1 := Lib.hid hr1
        clear hky hKK hs1 hr1 hmid
        obtain ⟨q, hq⟩ : ∃ q, capN K' = q := ⟨_, rfl⟩
        rw [hq] at HR1
        have HCQ := Lib.hid hq
        clear hq
        rcases hx with d1 | ⟨d1, d2⟩
        all_goals
          go_wp2_with fail
          refine HS1.out.mono ?_
          rintro e v1 ⟨A1, c1, rfl, h1, h2, h3⟩
          obtain ⟨A1', c1', gX, eX, ho, hg, hcl, hkc⟩ := h1.ownR
          cases eX
          obtain ⟨A1'', c1'', eY, hs⟩ := OwnB.slice h1 HKY.out
          cases eY
          have HX1 := Lib.hid hs
          have HOX := Lib.hid ho
          have HGX := Lib.hid hg
          have HCL := Lib.hid (show c1 ≤ 9223372036854775807 ∧ k ≤ c1 from ⟨hcl, hkc⟩)
          have HSv := Lib.hid h2
          have HRv := Lib.hid (HRr.out.same h3.size fun k hk hlt => h3.block k hlt (fun e => by have := HSGL.out; rcases e with rfl | rfl <;> omega))
          have HBv := Lib.hid (HBr.out.trans (h3.below HBr.out.size (fun k e => by have := HLO0.out; rcases e with rfl | rfl <;> omega)))
          have HZv := Lib.hid h3.size
          have hc1 := (HBv.out.cell (p := ⟨Bq, oq + i, none⟩) HBQ.out).trans HCELL.out
          clear h1 h2 h3 ho hg hcl hs hkc
          go_wp2_with fail
          refine (HR1.out v1 HRv.out (HP.out.keep HBv.out)).mono ?_
          rintro e v2 ⟨A2, c2, rfl, h1, h2, h3⟩
          have htr := HRr.out.lt
          have HX2 := Lib.hid (HX1.out.chg h3 (fun h0 Bz oz e => by
            have hc : 0 < c1 := Nat.lt_of_lt_of_le h0 HCL.out.2
            have e2 := (HOX.out hc).1
            rw [e] at e2
            cases e2
            have := HGX.out hc
            omega))
          have HY2 := Lib.hid h1
          have HOX2 := Lib.hid (HOX.out.chg' h3 (fun hc => by have := HGX.out hc; omega))
          have HS2 := Lib.hid (HSv.out.of_blocks (h3.block s HSv.out.lt (by have := HSGL.out; have := HRr.out.lo; omega)) (h3.block g HSv.out.maker.lt (by have := HSGL.out; have := HRr.out.lo; omega))
            (h3.block B (by obtain ⟨B', o, e, hB', _⟩ := HSv.out.row HL.out.2.2; cases e; exact hB') (by have := HSGL.out; have := HRr.out.lo; omega)) h3.size)
          have HR2 := Lib.hid h2
          have HB2 := Lib.hid (HBv.out.trans (h3.below HBv.out.size HLO0.out.2.2.2))
          have HZ2 := Lib.hid (Nat.le_trans HZv.out h3.size)
          have hcx := convSl (cap := c1) HX2.out (Nat.le_refl k)
          have hcy := convSl (cap := c2) HY2.out (Nat.le_refl k)
          obtain ⟨X, hX⟩ : ∃ X, strOf k f = X := ⟨_, rfl⟩
          rw [hX] at hcx hcy
          clear h1 h2 h3 htr hX hc0 hc1
          go_wp2_with fail
          refine (owned_1 v2 A1 k c1 gX wr.heap.size HOX2.out HGX.out HCL.out.1 HZ2.out).mono ?_
          rintro e v3 ⟨rfl, hb⟩
          have HS3 := Lib.hid (HS2.out.keepFrom HSr.out HL.out.2.2 hb)
          have HR3 := Lib.hid (HR2.out.keepFrom HRr.out hb)
          have HB3 := Lib.hid (HB2.out.trans (hb.mono HBr.out.size))
          have HZ3 := Lib.hid (Nat.le_trans HLr.out (Nat.le_trans HZ2.out hb.size))
          have hct := HR3.out.nxt
          have HNX := Lib.hid (show ∀ nq, Calls Tryz.prog 21 #[.pointer (some ⟨s, 0, none⟩)] (v3.drewN nq) fun e w' => e = .returned (.int .i64 (q : Nat)) ∧ v3.drewN nq = w' from fun nq => by
            have h := next_cap s g B K' len nt cE key tk (v3.drewN nq) (HS3.out.of_blocks rfl rfl rfl (Nat.le_refl _))
            rw [HCQ.out] at h
            exact h)
          clear hb hcx hcy HS1 HR1
          go_wp2_with fail
          go_quiet ((go_at_call 21; exact Calls.quiet_of_same (same_flip (HNX.out _))))
          go_wp2_with fail
          go_roundw
          case rel => exact ⟨i + 1, K', by omega, by have := HK2.out; have := HKr.out; omega, by go_num, HS3.out.of_blocks rfl rfl rfl (Nat.le_refl _), by rw [HCQ.out]; exact HR3.out.same (Nat.le_refl _) (fun _ _ _ => rfl), drawn HB3.out _, HZ3.out⟩
          case measure => simp [intOf]; omega
    · have hx : ¬ (i : Int) < R ∨ ((i : Int) < R ∧ ¬ (i : Int) < 20) := by omega
      have hct := HRr.out.nxt
      obtain ⟨q, hq⟩ : ∃ q, capN K = q := ⟨_, rfl⟩
      rw [hq] at hct
      have HNX := Lib.hid (show ∀ nq, Calls Tryz.prog 21 #[.pointer (some ⟨s, 0, none⟩)] (wr.drewN nq) fun e w' => e = .returned (.int .i64 (q : Nat)) ∧ wr.drewN nq = w' from fun nq => by
        have h := next_cap s g B K len nt cE key tk (wr.drewN nq) (HSr.out.of_blocks rfl rfl rfl (Nat.le_refl _))
        rw [hq] at h
        exact h)
      clear hlt hi hq
      rcases hx with h1 | ⟨h1, h2⟩
      all_goals
        go_wp2_with fail
        go_quiet ((go_at_call 21; exact Calls.quiet_of_same (same_flip (HNX.out _))))
        go_wp2_with fail
        go_ret
        exact ⟨rfl, drawn HBr.out _⟩
theorem counts_all (len cap nt ct R cR : Nat) (N : Int) (Ae At AR : Option Addr) (key tk : Nat → Nat) (w : World) (hN : N ≤ 9223372036854775807) (hcap : len ≤ cap) (hct : nt ≤ ct) (hEn : Ae = none → len = 0 ∧ cap = 0) (hTn : At = none → nt = 0 ∧ ct = 0) (hE : SlB w Ae len key) (hT : SlB w At nt tk) (hR : RowsIn w AR R) (hRR : R ≤ 140737488351232) (ht : GT w) :
    Calls Tryz.prog 5 #[.slice Ae len cap, .slice At nt ct, .int .i64 N, .slice AR R cR] w fun e w' => e = .returned (.bool true) ∧ Below w.heap.size w w' := by
  by_cases h : len ≤ 1024 ∧ nt ≤ 1024
  · obtain ⟨hl, hnt⟩ := h
    by_cases hk : len ≠ 16 ∧ len ≠ 32
    · exact counts_wrong len cap nt ct R cR N Ae At AR key w hE ht hl hnt (Or.inl hk) fun w _ => rnewx_short len cap nt ct N Ae At w (by omega) hk
    · obtain ⟨n, hn, hl4⟩ : ∃ n, (n = 4 ∨ n = 8) ∧ 4 * n = len := by
        by_cases h : len = 16
        · exact ⟨4, Or.inl rfl, h.symm⟩
        · exact ⟨8, Or.inr rfl, by omega⟩
      by_cases hneg : N < 0
      · exact counts_wrong len cap nt ct R cR N Ae At AR key w hE ht hl hnt (Or.inr (Or.inl hneg)) fun w hE => rnewx_neg len n cap nt ct N Ae At key w hn hl4 hcap hE hneg
      · obtain ⟨N', rfl⟩ : ∃ N' : Nat, N = (N' : Nat) := ⟨N.toNat, by omega⟩
        exact counts_go len n cap nt ct R cR N' Ae At AR key tk w hn hl4 hcap hct hEn hTn hE hT hR hRR ht hl hnt (by omega)
  · exact counts_out len cap nt ct R cR N Ae At AR w ht h
end Go.Proofs.YtgcdnhjjoidpmaaGreatDoor
