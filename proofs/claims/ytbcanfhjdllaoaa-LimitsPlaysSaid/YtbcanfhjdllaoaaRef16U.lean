/- The document's Undo (layer 16). -/
import Derived.Test.YtbcanfhjdllaoaaLimV
import Derived.Test.YtbcanfhjdllaoaaLimQ
import Derived.StillTailTactics
namespace Go.Proofs.Ytbcanfhjdllaoaa
set_option maxRecDepth 100000
open Go.RowKit
theorem rundo16_bad (u : World) (X : Nat) (L : List Us) (v : Value) (r : Rl) (c : ByteArray) (a t : Int) (w : World) (h : RBk u X w L v) (hk : myK r c a t = false) :
    Calls Try.prog 15 #[.pointer (some ⟨X, 0, none⟩), ruV r, .string c, .int .i64 a, .int .i64 t] w fun e w' => e = .returned (.int .i64 (unE L r c a t)) ∧ RkS u X w v w' (unN L r c a t) := by
  have he : unE L r c a t = 1 := by unfold unE; rw [if_neg (by rw [hk]; decide)]
  have hn : unN L r c a t = L := by unfold unN; rw [if_neg (by rw [hk]; decide)]
  rw [he, hn]
  have HM := Lib.hid (fun w => rmay16_any r c a t w)
  rw [hk] at HM
  have HBL := Lib.hid (alloc_below w (.cells #[.int .i64 r.k, .int .i64 r.t, .int .i64 r.s, .int .i64 r.o] 38))
  have HH := Lib.hid h
  clear h hk he hn
  obtain ⟨k, rt, rs, ro⟩ := r
  simp only at HBL
  go_enter Try.func15, Try.ntmps15
  go_wp2_with fail
  refine (HM.out _).mono ?_
  rintro e w1 ⟨rfl, hb1⟩
  have HB1 := Lib.hid (HBL.out.trans (hb1.mono HBL.out.size))
  clear hb1
  go_wp2_with fail
  go_ret
  exact ⟨rfl, RkS.same HH.out HB1.out⟩
set_option maxHeartbeats 6400000 in
theorem rundo16_good (u : World) (X : Nat) (L : List Us) (v : Value) (k rt s o : Int) (c : ByteArray) (a t : Int) (w : World) (h : RBk u X w L v) (hk : MyK ⟨k, rt, s, o⟩ c a t) :
    Calls Try.prog 15 #[.pointer (some ⟨X, 0, none⟩), ruV ⟨k, rt, s, o⟩, .string c, .int .i64 a, .int .i64 t] w fun e w' => e = .returned (.int .i64 (unE L ⟨k, rt, s, o⟩ c a t)) ∧ RkS u X w v w' (unN L ⟨k, rt, s, o⟩ c a t) := by
  have HM := Lib.hid (fun w => rmay16_any ⟨k, rt, s, o⟩ c a t w)
  rw [my_iff.2 hk] at HM
  have hk1 := hk.rk
  have ht1 := hk.t
  have ha1 := hk.a
  simp only at hk1
  obtain ⟨W, hW⟩ : ∃ W, winW ⟨k, rt, s, o⟩ t = W := ⟨_, rfl⟩
  have hW' : t / k = W := hW
  have HN := Lib.hid (fun h => un_none (L := L) (c := c) (a := a) hW (my_iff.2 hk) h)
  have HS := Lib.hid (fun x (hf : fndU L c = some x) h => un_some (L := L) (c := c) (a := a) hW (my_iff.2 hk) hf h)
  have HBL := Lib.hid (alloc_below w (.cells #[.int .i64 k, .int .i64 rt, .int .i64 s, .int .i64 o] 38))
  have HR0 := Lib.hid (heap_alloc_new w (.cells #[.int .i64 k, .int .i64 rt, .int .i64 s, .int .i64 o] 38))
  have HH := Lib.hid h
  have HWE := Lib.hid hW'
  have hk0 : ¬ k = 0 := by omega
  have hdv : IntKind.i64.wrap (t.tdiv k) = W := by
    rw [← hW', IntKind.wrap_i64, Int.tdiv_eq_ediv_of_nonneg ht1.1]
    have h1 : t / k ≤ t := Int.ediv_le_self _ ht1.1
    have h2 : 0 ≤ t / k := Int.ediv_nonneg ht1.1 (by omega)
    generalize t / k = q at *
    omega
  clear h hk hW hW'
  go_enter Try.func15, Try.ntmps15
  go_wp2_with fail
  refine (HM.out _).mono ?_
  rintro e w1 ⟨rfl, hb1⟩
  have HR1 := Lib.hid ((hb1.block _ (Array.getElem?_eq_some_iff.1 HR0.out).1).trans HR0.out)
  obtain ⟨r0, r1, r2, r3⟩ := ru_cells HR1.out
  have HB1 := Lib.hid (HBL.out.trans (hb1.mono HBL.out.size))
  have HK1 := Lib.hid (HH.out.keep HB1.out)
  have HF := Lib.hid (rat16_any u X L v c w1 HK1.out)
  clear hb1 HM HBL HR0
  go_wp2_with fail
  refine HF.out.mono ?_
  rintro e w2 ⟨p, rfl, hp, rfl⟩
  clear HF
  have hX := HK1.out.cell
  have hL16 : (L.length : Int) ≤ 16 := by have := HK1.out.ok.few; omega
  rcases hp with ⟨rfl, hf⟩ | ⟨kk, hkk, rfl, hf⟩
  · have HE := Lib.hid (HN.out (unK_nil hf))
    clear HN HS
    go_wp2_with fail
    go_quiet (fail)
    go_wp2_with fail
    go_ret
    exact ⟨by rw [HE.out.1]; rfl, by rw [HE.out.2]; exact RkS.same HH.out (drawn HB1.out _)⟩
  · obtain ⟨g, cp, rfl, hgb, hgl, ⟨c0, c1, c2, c3⟩, cf⟩ := us_own HK1.out.own hkk
    have hki : (kk : Int) < L.length := by omega
    have hki0 : decide ((kk : Int) < 0) = false := decide_eq_false (by omega)
    have hki1 : (0 : Int) ≤ kk := by omega
    have hgX : g ≠ X := HK1.out.ne g rfl
    have HXO := Lib.hid (HK1.out.ok.each _ (List.getElem_mem hkk))
    by_cases hw : L[kk].w = W
    · have qw : (L[kk].w != W) = false := by simpa using hw
      by_cases hn : L[kk].n = 0
      · have qn : (L[kk].n == 0) = true := by simpa using hn
        have HE := Lib.hid (HN.out (unK_no hf (fun h => h.2.1 hn)))
        generalize L[kk] = x at *
        clear HN HS hw hn
        go_wp2_with fail
        go_quiet (fail)
        go_wp2_with fail
        go_ret
        exact ⟨by rw [HE.out.1]; rfl, by rw [HE.out.2]; exact RkS.same HH.out (drawn HB1.out _)⟩
      · have qn : (L[kk].n == 0) = false := by simpa using hn
        by_cases hs : L[kk].s < a
        · have qs : decide (L[kk].s < a) = true := decide_eq_true hs
          have HE := Lib.hid (HN.out (unK_no hf (fun h => by have := h.2.2; omega)))
          generalize L[kk] = x at *
          clear HN HS hw hn hs
          go_wp2_with fail
          go_quiet (fail)
          go_wp2_with fail
          go_ret
          exact ⟨by rw [HE.out.1]; rfl, by rw [HE.out.2]; exact RkS.same HH.out (drawn HB1.out _)⟩
        · have qs : decide (L[kk].s < a) = false := decide_eq_false hs
          have HE := Lib.hid (HS.out _ hf ⟨hw, hn, by omega⟩)
          have x1 := HXO.out.n0
          have x2 := HXO.out.nB
          have x3 := HXO.out.s0
          have x4 := HXO.out.sB
          have HOK := Lib.hid (show UsOk ⟨L[kk].c, L[kk].w, L[kk].n - 1, L[kk].s - a⟩ from ⟨HXO.out.c1, HXO.out.c32, HXO.out.w0, by show 0 ≤ L[kk].n - 1; omega, by show L[kk].n - 1 ≤ _; omega, by show 0 ≤ L[kk].s - a; omega, by show L[kk].s - a ≤ _; omega, HXO.out.wB⟩)
          have hn1 : IntKind.i64.wrap (L[kk].n - 1) = L[kk].n - 1 := by rw [IntKind.wrap_i64]; omega
          have hs1 : IntKind.i64.wrap (L[kk].s - a) = L[kk].s - a := by rw [IntKind.wrap_i64]; omega
          have HG := Lib.hid (show ∀ n, RkS u X w (.slice (some ⟨g, 0, none⟩) L.length cp) (((w2.drewN n).setCell ⟨g, kk * 4 + 2, none⟩ (.int .i64 (L[kk].n - 1))).setCell ⟨g, kk * 4 + 3, none⟩ (.int .i64 (L[kk].s - a))) (setU L ⟨L[kk].c, L[kk].w, L[kk].n - 1, L[kk].s - a⟩) from fun n => by
            obtain ⟨b1, b2⟩ := (HK1.out.keep (drawn (Below.refl _ w2) n)).cells2 hkk HOK.out
            exact RkS.of b1 ((ChgS.of_below (drawn HB1.out n)).trans b2) rfl)
          have HC := Lib.hid (show ∀ n, ((w2.drewN n).cell? ⟨X, 0, none⟩ = some (.slice (some ⟨g, 0, none⟩) L.length cp) ∧ (w2.drewN n).cell? ⟨g, kk * 4 + 2, none⟩ = some (.int .i64 L[kk].n) ∧ (w2.drewN n).frozen? ⟨g, kk * 4 + 2, none⟩ = false) ∧
              (((w2.drewN n).setCell ⟨g, kk * 4 + 2, none⟩ (.int .i64 (L[kk].n - 1))).cell? ⟨X, 0, none⟩ = some (.slice (some ⟨g, 0, none⟩) L.length cp) ∧ ((w2.drewN n).setCell ⟨g, kk * 4 + 2, none⟩ (.int .i64 (L[kk].n - 1))).cell? ⟨g, kk * 4 + 3, none⟩ = some (.int .i64 L[kk].s) ∧ ((w2.drewN n).setCell ⟨g, kk * 4 + 2, none⟩ (.int .i64 (L[kk].n - 1))).frozen? ⟨g, kk * 4 + 3, none⟩ = false) from fun n => by
            refine ⟨⟨hX, c2, cf _⟩, ?_, ?_, by rw [World.frozen?_setCell]; exact cf _⟩
            · exact (World.cell?_setCell_other (w2.drewN n) ⟨g, kk * 4 + 2, none⟩ ⟨X, 0, none⟩ _ (fun e => hgX (congrArg Addr.block e))).trans hX
            · exact (World.cell?_setCell_other (w2.drewN n) ⟨g, kk * 4 + 2, none⟩ ⟨g, kk * 4 + 3, none⟩ _ (fun e => by have := congrArg Addr.off e; simp only at this; omega)).trans c3)
          generalize L[kk] = x at *
          clear HN HS hw hn hs x1 x2 x3 x4 cf
          go_wp2_with fail
          go_quiet (fail)
          obtain ⟨⟨m1, d1, d2⟩, m3, d3, d4⟩ := HC.out nq
          have HGN := Lib.hid (HG.out nq)
          clear HG HC c0 c1 c2 c3 r0 r1 r2 r3 qw qn qs hX
          generalize w2.drewN nq = w3 at *
          go_wp2_with fail
          clear m1 d1 d2
          generalize w3.setCell ⟨g, kk * 4 + 2, none⟩ (.int .i64 (x.n - 1)) = w4 at *
          have HGD := Lib.hid (show RkS u X w (.slice (some ⟨g, 0, none⟩) L.length cp) (w4.drew.setCell ⟨g, kk * 4 + 3, none⟩ (.int .i64 (x.s - a))) (setU L ⟨x.c, x.w, x.n - 1, x.s - a⟩) from HGN.out.then (Below.refl _ _).drew)
          refine wp_region_still_tail 17 (by kernel_rfl) (by kernel_rfl) ?_
          change wpStill _ _ w4.drew (fun a' => wpList _ _ _ _ a' w4.drew) _ _
          replace m3 : w4.drew.cell? _ = _ := m3
          replace d3 : w4.drew.cell? _ = _ := d3
          replace d4 : w4.drew.frozen? _ = _ := d4
          clear HGN
          generalize w4.drew = Wd at *
          simp only [List.take_succ_cons, List.take_zero, List.drop_succ_cons, List.drop_zero]
          repeat still_step
          refine wpStill_nil ?_
          go_wp2_with fail
          go_ret
          exact ⟨by rw [HE.out.1]; rfl, by rw [HE.out.2]; exact HGD.out⟩
    · have qw : (L[kk].w != W) = true := by simpa using hw
      have HE := Lib.hid (HN.out (unK_no hf (fun h => hw h.1)))
      generalize L[kk] = x at *
      clear HN HS hw
      go_wp2_with fail
      go_quiet (fail)
      go_wp2_with fail
      go_ret
      exact ⟨by rw [HE.out.1]; rfl, by rw [HE.out.2]; exact RkS.same HH.out (drawn HB1.out _)⟩
end Go.Proofs.Ytbcanfhjdllaoaa
