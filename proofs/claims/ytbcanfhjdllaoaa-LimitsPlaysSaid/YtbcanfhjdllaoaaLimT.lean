/- Layer 16, the code: Try. -/
import Derived.Test.YtbcanfhjdllaoaaLimP
namespace Go.Proofs.Ytbcanfhjdllaoaa
set_option maxRecDepth 100000
open Go.RowKit
theorem try_put {L : List Us} {r : Rl} {c : ByteArray} {a t : Int} {x : Us} (hm : myK r c a t = true) (hx : getU L c (winW r t) = x) :
    trE L r c a t = (if rfE r x a = 0 then ptE L (nxtU x a) else rfE r x a) ∧ trN L r c a t = (if rfE r x a = 0 then ptN L (nxtU x a) else L) := by
  have hg := get_card (L := L) (c := c) (W := winW r t)
  rw [hx] at hg
  have e : trE L r c a t = (if rfE r x a = 0 then ptE L (nxtU x a) else rfE r x a) := by
    unfold trE rfE ptE
    rw [if_pos hm, hx]
    show _ = _
    by_cases h1 : r.o < a
    · simp only [if_pos h1]; rfl
    by_cases h2 : r.t ≤ x.n
    · simp only [if_neg h1, if_pos h2]; rfl
    by_cases h3 : r.s - a < x.s
    · simp only [if_neg h1, if_neg h2, if_pos h3]; rfl
    simp only [if_neg h1, if_neg h2, if_neg h3, if_true]
    show (if (fndU L c).isSome = true then (0 : Int) else if L.length < 16 then 0 else if (L.any fun v => decide (v.w ≠ winW r t)) = true then 0 else 14) = (if (fndU L x.c).isSome = true then (0 : Int) else if L.length < 16 then 0 else if (L.any fun v => decide (v.w ≠ x.w)) = true then 0 else 14)
    rw [hg.1, hg.2]
  refine ⟨e, ?_⟩
  unfold trN
  rw [e, hx]
  by_cases h : rfE r x a = 0
  · rw [if_pos h, if_pos h]
    rfl
  · rw [if_neg h, if_neg h, if_neg h]
theorem rf_cases (r : Rl) (x : Us) (a : Int) : rfE r x a = 0 ∨ (rfE r x a ≠ 0 ∧ (rfE r x a != 0) = true) := by
  by_cases h : rfE r x a = 0
  · exact Or.inl h
  · exact Or.inr ⟨h, by simpa using h⟩
/-- a book beside another block that is stored into -/
theorem RBk.other {u w : World} {X b i : Nat} {L : List Us} {v : Value} (h : RBk u X w L v) (hb : u.heap.size ≤ b) (hX : b ≠ X) (hv : v.ownBlock ≠ some b) (x : Value) : RBk u X (w.setCell ⟨b, i, none⟩ x) L v :=
  ⟨h.bel.setCell hb _, h.uX, (World.cell?_setCell_other w ⟨b, i, none⟩ ⟨X, 0, none⟩ _ (fun e => hX (congrArg Addr.block e))).trans h.cell, by rw [World.frozen?_setCell]; exact h.froz, h.own.setNe (a := ⟨b, i, none⟩) (fun g hg e => hv (by rw [hg]; exact congrArg some e)) x, h.ne, h.ok⟩
theorem ru_cells {w : World} {b : Nat} {k t s o : Int} (h : w.heap[b]? = some (.cells #[.int .i64 k, .int .i64 t, .int .i64 s, .int .i64 o] 38)) :
    w.cell? ⟨b, 0, none⟩ = some (.int .i64 k) ∧ w.cell? ⟨b, 1, none⟩ = some (.int .i64 t) ∧ w.cell? ⟨b, 2, none⟩ = some (.int .i64 s) ∧ w.cell? ⟨b, 3, none⟩ = some (.int .i64 o) :=
  ⟨(Lib.cell_of_heap h 0).trans rfl, (Lib.cell_of_heap h 1).trans rfl, (Lib.cell_of_heap h 2).trans rfl, (Lib.cell_of_heap h 3).trans rfl⟩
theorem ctry16_bad (u : World) (X : Nat) (L : List Us) (v : Value) (k rt s o : Int) (c : ByteArray) (a t : Int) (w : World) (h : RBk u X w L v) (hk : myK ⟨k, rt, s, o⟩ c a t = false) :
    Calls Try.prog 20 #[.pointer (some ⟨X, 0, none⟩), ruW k rt s o, .string c, .int .i64 a, .int .i64 t] w fun e w' => e = .returned (.int .i64 (trE L ⟨k, rt, s, o⟩ c a t)) ∧ RkS u X w v w' (trN L ⟨k, rt, s, o⟩ c a t) := by
  have he : trE L ⟨k, rt, s, o⟩ c a t = 1 := by unfold trE; rw [if_neg (by rw [hk]; decide)]
  have hn : trN L ⟨k, rt, s, o⟩ c a t = L := by unfold trN; rw [if_neg (by rw [he]; decide)]
  rw [he, hn]
  have HM := Lib.hid (fun w => istx_any k rt s o c a t w)
  rw [hk] at HM
  have HBL := Lib.hid (alloc_below w (.cells #[.int .i64 k, .int .i64 rt, .int .i64 s, .int .i64 o] 38))
  have HH := Lib.hid h
  clear h hk he hn
  go_enter Try.func20, Try.ntmps20
  go_wp2_with fail
  refine (HM.out _).mono ?_
  rintro e w1 ⟨rfl, hb1⟩
  have HB1 := Lib.hid (HBL.out.trans (hb1.mono HBL.out.size))
  clear hb1
  go_wp2_with fail
  go_ret
  exact ⟨rfl, RkS.same HH.out HB1.out⟩
set_option maxHeartbeats 6400000 in
theorem ctry16_good (u : World) (X : Nat) (L : List Us) (v : Value) (k rt s o : Int) (c : ByteArray) (a t : Int) (w : World) (h : RBk u X w L v) (hk : MyK ⟨k, rt, s, o⟩ c a t) :
    Calls Try.prog 20 #[.pointer (some ⟨X, 0, none⟩), ruW k rt s o, .string c, .int .i64 a, .int .i64 t] w fun e w' => e = .returned (.int .i64 (trE L ⟨k, rt, s, o⟩ c a t)) ∧ RkS u X w v w' (trN L ⟨k, rt, s, o⟩ c a t) := by
  have HM := Lib.hid (fun w => istx_any k rt s o c a t w)
  rw [my_iff.2 hk] at HM
  have HMY := Lib.hid hk
  have HBL := Lib.hid (alloc_below w (.cells #[.int .i64 k, .int .i64 rt, .int .i64 s, .int .i64 o] 38))
  have HR0 := Lib.hid (heap_alloc_new w (.cells #[.int .i64 k, .int .i64 rt, .int .i64 s, .int .i64 o] 38))
  have HH := Lib.hid h
  have hk1 := hk.rk
  have ht1 := hk.t
  simp only at hk1
  obtain ⟨W, hW⟩ : ∃ W, winW ⟨k, rt, s, o⟩ t = W := ⟨_, rfl⟩
  have hW' : t / k = W := hW
  have HX0 := Lib.hid (get_ok h.ok (c := c) (W := W) hk.c (by rw [← hW]; exact win_nn hk.rk.1 hk.t.1) (by rw [← hW]; exact win_le hk.rk.1 hk.t))
  have HC := Lib.hid (fun w1 h => counted16_any u X L v c W w1 h)
  have HXC := Lib.hid (get_card (L := L) (c := c) (W := W))
  have HTP := Lib.hid (fun x (hx : getU L c W = x) => try_put (my_iff.2 hk) (hW ▸ hx))
  obtain ⟨x, hx⟩ : ∃ x, getU L c W = x := ⟨_, rfl⟩
  rw [hx] at HX0 HC HXC
  have HE := Lib.hid (HTP.out x hx)
  have HWE := Lib.hid hW'
  clear h hk hW hW' hx HTP
  go_enter Try.func20, Try.ntmps20
  go_wp2_with fail
  refine (HM.out _).mono ?_
  rintro e w1 ⟨rfl, hb1⟩
  have hr1 := (hb1.block _ (Array.getElem?_eq_some_iff.1 HR0.out).1).trans HR0.out
  have HR1 := Lib.hid hr1
  obtain ⟨r0, r1, r2, r3⟩ := ru_cells hr1
  have HB1 := Lib.hid (HBL.out.trans (hb1.mono HBL.out.size))
  clear hb1 hr1 HM HBL HR0
  go_wp2_with fail
  rw [HWE.out]
  refine (HC.out _ (HH.out.keep HB1.out)).mono ?_
  rintro e w2 ⟨rfl, hb2⟩
  have hr2 := (hb2.block _ (Array.getElem?_eq_some_iff.1 HR1.out).1).trans HR1.out
  have HB2 := Lib.hid (HB1.out.trans (hb2.mono HB1.out.size))
  have hu2 := heap_alloc_new w2 (.cells #[.string x.c, .int .i64 x.w, .int .i64 x.n, .int .i64 x.s] 31)
  have hb3 := alloc_below w2 (.cells #[.string x.c, .int .i64 x.w, .int .i64 x.n, .int .i64 x.s] 31)
  have HB3 := Lib.hid (HB2.out.trans (hb3.mono HB2.out.size))
  have HU := Lib.hid hu2
  have HR3 := Lib.hid ((hb3.block _ (Array.getElem?_eq_some_iff.1 hr2).1).trans hr2)
  have HL2 := Lib.hid (show w.heap.size ≤ w2.heap.size from HB2.out.size)
  obtain ⟨r0, r1, r2, r3⟩ := ru_cells HR3.out
  obtain ⟨u0, u1, u2, u3⟩ := us_cells HU.out
  have HRF := Lib.hid (refusal16_any k rt s o x.c x.w x.n x.s a (w2.alloc (.cells #[.string x.c, .int .i64 x.w, .int .i64 x.n, .int .i64 x.s] 31)) HMY.out.a ⟨HX0.out.n0, HX0.out.nB⟩ ⟨HX0.out.s0, HX0.out.sB⟩)
  clear hb2 hr2 hu2 hb3
  have hxe : (⟨x.c, x.w, x.n, x.s⟩ : Us) = x := rfl
  rw [hxe] at HRF
  clear hxe
  go_wp2_with fail
  refine HRF.out.mono ?_
  rintro e w4 ⟨rfl, hb4⟩
  have HB4 := Lib.hid (HB3.out.trans (hb4.mono HB3.out.size))
  have HU4 := Lib.hid ((hb4.block _ (Array.getElem?_eq_some_iff.1 HU.out).1).trans HU.out)
  clear hb4 HRF r0 r1 r2 r3 u0 u1 u2 u3
  rcases rf_cases ⟨k, rt, s, o⟩ x a with h0 | ⟨h0, h1⟩
  · rw [if_pos h0, if_pos h0] at HE
    rw [h0]
    have hnB := HX0.out.nB
    have hn0 := HX0.out.n0
    have hsB := HX0.out.sB
    have hs0 := HX0.out.s0
    have ha := HMY.out.a
    have hn1 : IntKind.i64.wrap (x.n + 1) = x.n + 1 := by rw [IntKind.wrap_i64]; omega
    have hs1 : IntKind.i64.wrap (x.s + a) = x.s + a := by rw [IntKind.wrap_i64]; omega
    have hqo : UsOk (nxtU x a) := by
      have e := HX0.out
      have e1 : rfE ⟨k, rt, s, o⟩ x a = 0 := h0
      unfold rfE at e1
      have m1 := HMY.out.rt
      have m2 := HMY.out.rs
      simp only at e1 m1 m2
      split at e1
      · cases e1
      split at e1
      · cases e1
      split at e1
      · cases e1
      exact ⟨e.c1, e.c32, e.w0, by show 0 ≤ x.n + 1; omega, by show x.n + 1 ≤ _; omega, by show 0 ≤ x.s + a; omega, by show x.s + a ≤ _; omega, e.wB⟩
    have HQO := Lib.hid hqo
    clear hqo h0
    have h5 := Lib.heap_setCell_same (i := 2) HU4.out (.int .i64 (x.n + 1))
    have h6 := Lib.heap_setCell_same (i := 3) h5 (.int .i64 (x.s + a))
    have HU6 := Lib.hid (us_cells (z := nxtU x a) h6)
    obtain ⟨_, _, c2, _⟩ := us_cells HU4.out
    obtain ⟨_, _, _, c3⟩ := us_cells (z := ⟨x.c, x.w, x.n + 1, x.s⟩) h5
    have f2 := fz_of HU4.out 2
    have f3 := fz_of h5 3
    have hlw := HH.out.bel.size
    have hbX : w2.heap.size ≠ X := by have := block_lt (a := ⟨X, 0, none⟩) HH.out.cell; have := HL2.out; simp only at *; omega
    have hbv : v.ownBlock ≠ some w2.heap.size := fun e => by have := (HH.out.own.lt _ e).2; have := HL2.out; omega
    have HK6 := Lib.hid (((HH.out.keep HB4.out).other (i := 2) (Nat.le_trans hlw HL2.out) hbX hbv (.int .i64 (x.n + 1))).other (i := 3) (Nat.le_trans hlw HL2.out) hbX hbv (.int .i64 (x.s + a)))
    have HB6 := Lib.hid (show Below w.heap.size w ((w4.setCell ⟨w2.heap.size, 2, none⟩ (.int .i64 (x.n + 1))).setCell ⟨w2.heap.size, 3, none⟩ (.int .i64 (x.s + a))) from (HB4.out.setCell HL2.out _).setCell HL2.out _)
    clear h5 h6 hnB hn0 hsB hs0 hlw hbX hbv
    simp only at c3
    go_wp2_with fail
    refine (put16_any u X L v (nxtU x a) _ HK6.out HQO.out).mono ?_
    rintro e w7 ⟨rfl, hr⟩
    have HRK := Lib.hid hr
    clear hr
    go_wp2_with fail
    go_ret
    exact ⟨by rw [HE.out.1]; rfl, by rw [HE.out.2]; exact HRK.out.after HB6.out⟩
  · rw [if_neg h0, if_neg h0] at HE
    generalize rfE ⟨k, rt, s, o⟩ x a = E at *
    go_wp2_with fail
    go_ret
    exact ⟨by rw [HE.out.1]; rfl, by rw [HE.out.2]; exact RkS.same HH.out HB4.out⟩
end Go.Proofs.Ytbcanfhjdllaoaa
