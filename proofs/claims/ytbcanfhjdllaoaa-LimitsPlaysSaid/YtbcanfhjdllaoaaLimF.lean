/- Layer 16, the code: find, counted, refusal, copyOf. -/
import Derived.Test.YtbcanfhjdllaoaaLimW
import Derived.Test.YtbcanfhjdllaoaaLimC
import Derived.Test.YtbcanfhjdllaoaaRef16B
import Derived.Test.YtbcanfhjdllaoaaShClone
import Derived.Test.YtbcanfhjdllaoaaLimU
namespace Go.Proofs.Ytbcanfhjdllaoaa
set_option maxRecDepth 100000
open Go.RowKit
/-- what find tells: a pointer into the book's row -/
def FndP (L : List Us) (v : Value) (c : ByteArray) (p : Value) : Prop :=
  (p = .pointer none ∧ fndU L c = none) ∨ ∃ (k g cc : Nat) (hk : k < L.length), p = .pointer (some ⟨g, k * 4, none⟩) ∧ v = .slice (some ⟨g, 0, none⟩) L.length cc ∧ fndU L c = some L[k]
theorem find16_any (u : World) (G : Nat) (L : List Us) (v : Value) (c : ByteArray) (w : World) (h : RBk u G w L v) :
    Calls Try.prog 23 #[.pointer (some ⟨G, 0, none⟩), .string c] w fun e w' => ∃ p, e = .returned p ∧ FndP L v c p ∧ w' = w := by
  obtain ⟨A, cc, hv, hl⟩ := h.own.slice
  have HL := Lib.hid hl
  have HO := Lib.hid h.own
  have HV := Lib.hid hv
  have HOK := Lib.hid h.ok
  have hcell := h.cell
  rw [hv] at hcell
  have hL16 : (L.length : Int) ≤ 16 := by have := h.ok.few; omega
  clear h hl hv
  go_enter Try.func23, Try.ntmps23
  go_wp2_with fail
  go_loopw [11] (fun i wr => ∃ k : Nat, k ≤ L.length ∧ i = .int .i64 k ∧ wr = w ∧ ∀ j (h : j < L.length), j < k → L[j].c ≠ c) (fun i _ => L.length - (intOf i).toNat)
  case atStart => exact ⟨0, Nat.zero_le _, rfl, rfl, fun j _ hj => absurd hj (Nat.not_lt_zero j)⟩
  case round =>
    obtain ⟨k, hk, rfl, rfl, hno⟩ := hrel
    have HNO := Lib.hid hno
    clear hno
    by_cases hlt : k < L.length
    · have hk1 : (k : Int) < L.length := by omega
      obtain ⟨g, cp, hvg, _, _, ⟨c1, _, _, _⟩, _⟩ := us_own HO.out hlt
      have hve := HV.out
      rw [hvg] at hve
      injection hve with e1 e2 e3
      subst e1 e3
      have HVG := Lib.hid hvg
      clear hvg
      by_cases he : L[k].c = c
      · have HE := Lib.hid (show FndP L v c (.pointer (some ⟨g, k * 4, none⟩)) from Or.inr ⟨k, g, cp, hlt, rfl, HVG.out, by rw [← he]; exact fnd_of HOK.out.apart (List.getElem_mem hlt)⟩)
        have q1 : (L[k].c.toList == c.toList) = true := by rw [he]; simp
        generalize L[k].c = x at *
        clear he
        go_wp2_with fail
        go_ret
        exact ⟨_, rfl, HE.out, rfl⟩
      · have HE := Lib.hid he
        have q1 : (L[k].c.toList == c.toList) = false := by rw [str_eq16]; exact decide_eq_false he
        have HN := Lib.hid (show ∀ j (h : j < L.length), j < k + 1 → L[j].c ≠ c from fun j hj hjk => by
          rcases Nat.lt_or_ge j k with h1 | h1
          · exact HNO.out j hj h1
          · obtain rfl : j = k := by omega
            exact HE.out)
        clear he HE
        generalize L[k].c = x at *
        go_wp2_with fail
        go_roundw
        case rel => exact ⟨k + 1, by omega, by go_num, trivial, HN.out⟩
        case measure => simp [intOf]; omega
    · have hk1 : ¬ (k : Int) < L.length := by omega
      have HE := Lib.hid (show FndP L v c (.pointer none) from Or.inl ⟨rfl, fnd_none.2 fun v hv => by
        obtain ⟨j, hj, rfl⟩ := List.getElem_of_mem hv
        exact HNO.out j hj (by omega)⟩)
      go_wp2_with fail
      go_ret
      exact ⟨_, rfl, HE.out, rfl⟩
/-- the cells of a use's block -/
theorem us_cells {w : World} {b : Nat} {z : Us} (h : w.heap[b]? = some (.cells #[.string z.c, .int .i64 z.w, .int .i64 z.n, .int .i64 z.s] 31)) :
    w.cell? ⟨b, 0, none⟩ = some (.string z.c) ∧ w.cell? ⟨b, 1, none⟩ = some (.int .i64 z.w) ∧ w.cell? ⟨b, 2, none⟩ = some (.int .i64 z.n) ∧ w.cell? ⟨b, 3, none⟩ = some (.int .i64 z.s) :=
  ⟨(Lib.cell_of_heap h 0).trans rfl, (Lib.cell_of_heap h 1).trans rfl, (Lib.cell_of_heap h 2).trans rfl, (Lib.cell_of_heap h 3).trans rfl⟩
theorem get_none {L : List Us} {c : ByteArray} (h : fndU L c = none) (W : Int) : getU L c W = ⟨c, W, 0, 0⟩ := by unfold getU; rw [h]
theorem get_same {L : List Us} {c : ByteArray} {v : Us} (h : fndU L c = some v) {W : Int} (hw : v.w = W) : getU L c W = v := by unfold getU; rw [h]; exact if_pos hw
theorem get_else {L : List Us} {c : ByteArray} {v : Us} (h : fndU L c = some v) {W : Int} (hw : v.w ≠ W) : getU L c W = ⟨c, W, 0, 0⟩ := by unfold getU; rw [h]; exact if_neg hw
/-- a use's cells in a row of its own -/
theorem us_own2 {w : World} {base g n cc : Nat} {F : List Us} (h : OwL usE 31 w base (.slice (some ⟨g, 0, none⟩) n cc) F) {j : Nat} (hj : j < F.length) : (base ≤ g ∧ g < w.heap.size) ∧
    (w.cell? ⟨g, j * 4, none⟩ = some (.string F[j].c) ∧ w.cell? ⟨g, j * 4 + 1, none⟩ = some (.int .i64 F[j].w) ∧ w.cell? ⟨g, j * 4 + 2, none⟩ = some (.int .i64 F[j].n) ∧ w.cell? ⟨g, j * 4 + 3, none⟩ = some (.int .i64 F[j].s)) ∧
    ∀ i, w.frozen? ⟨g, i, none⟩ = false := by
  obtain ⟨g', cp, e, h1, h2, h3, h4⟩ := us_own h hj
  injection e with e1 e2 e3
  injection e1 with e1
  injection e1 with e1
  subst e1
  exact ⟨⟨h1, h2⟩, h3, h4⟩
set_option maxHeartbeats 1600000 in
theorem counted16_any (u : World) (G : Nat) (L : List Us) (v : Value) (c : ByteArray) (W : Int) (w : World) (h : RBk u G w L v) :
    Calls Try.prog 30 #[.pointer (some ⟨G, 0, none⟩), .string c, .int .i64 W] w fun e w' => e = .returned (usV (getU L c W)) ∧ Below w.heap.size w w' := by
  have hz := alloc_below w (.cells #[.string ⟨#[]⟩, .int .i64 0, .int .i64 0, .int .i64 0] 31)
  have HF := Lib.hid (find16_any u G L v c _ (h.keep hz))
  have HZ := Lib.hid hz
  have HH := Lib.hid (h.keep hz)
  have HU := Lib.hid (show (w.alloc (.cells #[.string ⟨#[]⟩, .int .i64 0, .int .i64 0, .int .i64 0] 31)).heap[w.heap.size]? = some (.cells #[.string ⟨#[]⟩, .int .i64 0, .int .i64 0, .int .i64 0] 31) by
    show (w.heap.push _)[w.heap.size]? = _
    rw [Array.getElem?_push_size])
  clear h hz
  go_enter Try.func30, Try.ntmps30
  go_wp2_with fail
  refine HF.out.mono ?_
  rintro e w1 ⟨p, rfl, hp, rfl⟩
  clear HF
  generalize w.alloc (.cells #[.string ⟨#[]⟩, .int .i64 0, .int .i64 0, .int .i64 0] 31) = w1 at *
  rcases hp with ⟨rfl, hf⟩ | ⟨k, g, cc, hk, rfl, hv, hf⟩
  · have HE := Lib.hid (get_none hf W)
    obtain ⟨⟨k0, f0⟩, ⟨k1, f1⟩, ⟨k2, f2⟩, ⟨k3, f3⟩⟩ := st_facts (y := ⟨⟨#[]⟩, 0, 0, 0⟩) HU.out (.string c) (.int .i64 W) (.int .i64 0)
    have HST := Lib.hid (us_cells (st_heap (y := ⟨⟨#[]⟩, 0, 0, 0⟩) (z := ⟨c, W, 0, 0⟩) HU.out))
    have HSB := Lib.hid (st_below (b := w.heap.size) (z := ⟨c, W, 0, 0⟩) HZ.out (Nat.le_refl _))
    unfold stU at HST HSB
    simp only at HST HSB k0 k1 k2 k3
    clear HZ HH HU hf
    go_wp2_with fail
    obtain ⟨q0, q1, q2, q3⟩ := HST.out
    exact bodyPost_ret (v := usV ⟨c, W, 0, 0⟩) (by simp [results, Try.results30, go_sem, q0, q1, q2, q3]) rfl ⟨by rw [HE.out], HSB.out⟩
  · obtain ⟨_, ⟨c0, c1, c2, c3⟩, _⟩ := us_own2 (hv ▸ HH.out.own) hk
    by_cases hw : L[k].w = W
    · have HE := Lib.hid (get_same hf hw)
      have qw : (L[k].w == W) = true := by simpa using hw
      generalize L[k] = x at *
      obtain ⟨xc, xw, xn, xs⟩ := x
      simp only at c0 c1 c2 c3 qw
      obtain ⟨⟨k0, f0⟩, ⟨k1, f1⟩, ⟨k2, f2⟩, ⟨k3, f3⟩⟩ := st_facts (y := ⟨⟨#[]⟩, 0, 0, 0⟩) HU.out (.string xc) (.int .i64 xw) (.int .i64 xn)
      have HST := Lib.hid (us_cells (st_heap (y := ⟨⟨#[]⟩, 0, 0, 0⟩) (z := ⟨xc, xw, xn, xs⟩) HU.out))
      have HSB := Lib.hid (st_below (b := w.heap.size) (z := ⟨xc, xw, xn, xs⟩) HZ.out (Nat.le_refl _))
      unfold stU at HST HSB
      simp only at HST HSB k0 k1 k2 k3
      clear HZ HH HU hf hw hv
      go_wp2_with fail
      obtain ⟨q0, q1, q2, q3⟩ := HST.out
      exact bodyPost_ret (v := usV ⟨xc, xw, xn, xs⟩) (by simp [results, Try.results30, go_sem, q0, q1, q2, q3]) rfl ⟨by rw [HE.out], HSB.out⟩
    · have HE := Lib.hid (get_else hf hw)
      have qw : (L[k].w == W) = false := by simpa using hw
      generalize L[k] = x at *
      obtain ⟨xc, xw, xn, xs⟩ := x
      simp only at c0 c1 c2 c3 qw
      obtain ⟨⟨k0, f0⟩, ⟨k1, f1⟩, ⟨k2, f2⟩, ⟨k3, f3⟩⟩ := st_facts (y := ⟨⟨#[]⟩, 0, 0, 0⟩) HU.out (.string c) (.int .i64 W) (.int .i64 0)
      have HST := Lib.hid (us_cells (st_heap (y := ⟨⟨#[]⟩, 0, 0, 0⟩) (z := ⟨c, W, 0, 0⟩) HU.out))
      have HSB := Lib.hid (st_below (b := w.heap.size) (z := ⟨c, W, 0, 0⟩) HZ.out (Nat.le_refl _))
      unfold stU at HST HSB
      simp only at HST HSB k0 k1 k2 k3
      clear HZ HH HU hf hw hv
      go_wp2_with fail
      obtain ⟨q0, q1, q2, q3⟩ := HST.out
      exact bodyPost_ret (v := usV ⟨c, W, 0, 0⟩) (by simp [results, Try.results30, go_sem, q0, q1, q2, q3]) rfl ⟨by rw [HE.out], HSB.out⟩
/-- what refusal tells -/
def rfE (r : Rl) (x : Us) (a : Int) : Int := if r.o < a then 17 else if r.t ≤ x.n then 18 else if r.s - a < x.s then 17 else 0
set_option maxHeartbeats 1600000 in
theorem refusal16_any (k t s o : Int) (c : ByteArray) (W n S a : Int) (w : World) (ha : 0 ≤ a ∧ a ≤ 999999999999) (hn : 0 ≤ n ∧ n ≤ 1125899906842624) (hS : 0 ≤ S ∧ S ≤ 1125899906842624) :
    Calls Try.prog 31 #[ruW k t s o, .agg #[.string c, .int .i64 W, .int .i64 n, .int .i64 S], .int .i64 a] w fun e w' => e = .returned (.int .i64 (rfE ⟨k, t, s, o⟩ ⟨c, W, n, S⟩ a)) ∧ Below w.heap.size w w' := by
  have W1 := Lib.hid (fun B V h => within1 o a B V h)
  have W2 := Lib.hid (fun B V h => within1 t (n + 1) B V h)
  have W3 := Lib.hid (fun B V h => within1 s (S + a) B V h)
  have hb := (alloc_below w (.cells #[.int .i64 k, .int .i64 t, .int .i64 s, .int .i64 o] 38)).alloc (by simp) (.cells #[.string c, .int .i64 W, .int .i64 n, .int .i64 S] 31)
  have HB := Lib.hid hb
  clear hb
  have hn1 : IntKind.i64.wrap (n + 1) = n + 1 := by rw [IntKind.wrap_i64]; omega
  have hs1 : IntKind.i64.wrap (S + a) = S + a := by rw [IntKind.wrap_i64]; omega
  by_cases h1 : o < a
  · have HE := Lib.hid (show rfE ⟨k, t, s, o⟩ ⟨c, W, n, S⟩ a = 17 from if_pos h1)
    rw [decide_eq_false (show ¬ (0 ≤ a ∧ a ≤ o) by omega)] at W1
    go_enter Try.func31, Try.ntmps31
    go_wp2_with fail
    refine (W1.out _ _ (cell_new (by simp) rfl)).mono ?_
    rintro e w2 ⟨rfl, rfl⟩
    go_wp2_with fail
    go_ret
    exact ⟨by rw [HE.out]; rfl, HB.out.alloc (by simp; omega) _⟩
  rw [decide_eq_true (show (0 ≤ a ∧ a ≤ o) by omega)] at W1
  by_cases h2 : t ≤ n
  · have HE := Lib.hid (show rfE ⟨k, t, s, o⟩ ⟨c, W, n, S⟩ a = 18 from (if_neg h1).trans (if_pos h2))
    rw [decide_eq_false (show ¬ (0 ≤ n + 1 ∧ n + 1 ≤ t) by omega)] at W2
    go_enter Try.func31, Try.ntmps31
    go_wp2_with fail
    refine (W1.out _ _ (cell_new (by simp) rfl)).mono ?_
    rintro e w2 ⟨rfl, rfl⟩
    go_wp2_with fail
    refine (W2.out _ _ (cell_new (by simp) rfl)).mono ?_
    rintro e w3 ⟨rfl, rfl⟩
    go_wp2_with fail
    go_ret
    exact ⟨by rw [HE.out]; rfl, (HB.out.alloc (by simp; omega) _).alloc (by simp; omega) _⟩
  rw [decide_eq_true (show (0 ≤ n + 1 ∧ n + 1 ≤ t) by omega)] at W2
  by_cases h3 : s - a < S
  · have HE := Lib.hid (show rfE ⟨k, t, s, o⟩ ⟨c, W, n, S⟩ a = 17 from (if_neg h1).trans ((if_neg h2).trans (if_pos h3)))
    rw [decide_eq_false (show ¬ (0 ≤ S + a ∧ S + a ≤ s) by omega)] at W3
    go_enter Try.func31, Try.ntmps31
    go_wp2_with fail
    refine (W1.out _ _ (cell_new (by simp) rfl)).mono ?_
    rintro e w2 ⟨rfl, rfl⟩
    go_wp2_with fail
    refine (W2.out _ _ (cell_new (by simp) rfl)).mono ?_
    rintro e w3 ⟨rfl, rfl⟩
    go_wp2_with fail
    refine (W3.out _ _ (cell_new (by simp) rfl)).mono ?_
    rintro e w4 ⟨rfl, rfl⟩
    go_wp2_with fail
    go_ret
    exact ⟨by rw [HE.out]; rfl, ((HB.out.alloc (by simp; omega) _).alloc (by simp; omega) _).alloc (by simp; omega) _⟩
  · have HE := Lib.hid (show rfE ⟨k, t, s, o⟩ ⟨c, W, n, S⟩ a = 0 from (if_neg h1).trans ((if_neg h2).trans (if_neg h3)))
    rw [decide_eq_true (show (0 ≤ S + a ∧ S + a ≤ s) by omega)] at W3
    go_enter Try.func31, Try.ntmps31
    go_wp2_with fail
    refine (W1.out _ _ (cell_new (by simp) rfl)).mono ?_
    rintro e w2 ⟨rfl, rfl⟩
    go_wp2_with fail
    refine (W2.out _ _ (cell_new (by simp) rfl)).mono ?_
    rintro e w3 ⟨rfl, rfl⟩
    go_wp2_with fail
    refine (W3.out _ _ (cell_new (by simp) rfl)).mono ?_
    rintro e w4 ⟨rfl, rfl⟩
    go_wp2_with fail
    go_ret
    exact ⟨by rw [HE.out]; rfl, ((HB.out.alloc (by simp; omega) _).alloc (by simp; omega) _).alloc (by simp; omega) _⟩
set_option maxHeartbeats 1600000 in
theorem copyof16_any (c : ByteArray) (W n s : Int) (w : World) (hc : c.size ≤ 281474976710656) : Calls Try.prog 24 #[.agg #[.string c, .int .i64 W, .int .i64 n, .int .i64 s]] w fun e w' => e = .returned (.agg #[.string c, .int .i64 W, .int .i64 n, .int .i64 s]) ∧ Below w.heap.size w w' := by
  have HC := Lib.hid (fun V => sclone_any c V hc)
  obtain ⟨w1, hw1⟩ : ∃ w1, w1 = (w.alloc (.cells #[.string c, .int .i64 W, .int .i64 n, .int .i64 s] 31)).alloc (.cells #[.string ⟨#[]⟩, .int .i64 0, .int .i64 0, .int .i64 0] 31) := ⟨_, rfl⟩
  have hA : w1.heap[w.heap.size]? = some (.cells #[.string c, .int .i64 W, .int .i64 n, .int .i64 s] 31) := by
    rw [hw1]
    have h1 := heap_alloc_new w (.cells #[.string c, .int .i64 W, .int .i64 n, .int .i64 s] 31)
    exact ((alloc_below _ _).block _ (Array.getElem?_eq_some_iff.1 h1).1).trans h1
  have hB : w1.heap[w.heap.size + 1]? = some (.cells #[.string ⟨#[]⟩, .int .i64 0, .int .i64 0, .int .i64 0] 31) := by
    have h := heap_alloc_new (w.alloc (.cells #[.string c, .int .i64 W, .int .i64 n, .int .i64 s] 31)) (.cells #[.string ⟨#[]⟩, .int .i64 0, .int .i64 0, .int .i64 0] 31)
    rw [hw1]
    have e : (w.alloc (.cells #[.string c, .int .i64 W, .int .i64 n, .int .i64 s] 31)).heap.size = w.heap.size + 1 := by simp
    rwa [e] at h
  have hb : Below w.heap.size w w1 := by rw [hw1]; exact (alloc_below w _).alloc (by simp) _
  have HW1 := Lib.hid hw1
  have HA := Lib.hid hA
  have HB := Lib.hid hB
  have HBL := Lib.hid hb
  clear hc hw1 hA hB hb
  go_enter Try.func24, Try.ntmps24
  go_wp2_with fail
  rw [← HW1.out]
  refine (HC.out _).mono ?_
  rintro e w2 ⟨rfl, hb2⟩
  have HB2 := Lib.hid (HBL.out.trans (hb2.mono HBL.out.size))
  have hA2 : w2.heap[w.heap.size]? = some (.cells #[.string c, .int .i64 W, .int .i64 n, .int .i64 s] 31) := (hb2.block _ (Array.getElem?_eq_some_iff.1 HA.out).1).trans HA.out
  have hB2 : w2.heap[w.heap.size + 1]? = some (.cells #[.string ⟨#[]⟩, .int .i64 0, .int .i64 0, .int .i64 0] 31) := (hb2.block _ (Array.getElem?_eq_some_iff.1 HB.out).1).trans HB.out
  have hA3 := Lib.heap_setCell_same (i := 0) hA2 (.string c)
  have hB3 : (w2.setCell ⟨w.heap.size, 0, none⟩ (.string c)).heap[w.heap.size + 1]? = some (.cells #[.string ⟨#[]⟩, .int .i64 0, .int .i64 0, .int .i64 0] 31) := (Below.heap_setCell w2 ⟨w.heap.size, 0, none⟩ (.string c) _ (by simp)).trans hB2
  have b3 : Below w.heap.size w (w2.setCell ⟨w.heap.size, 0, none⟩ (.string c)) := HB2.out.setCell (Nat.le_refl _) _
  obtain ⟨c0, _⟩ := us_cells (z := ⟨c, W, n, s⟩) hA2
  have cf := fz_of hA2 0
  obtain ⟨c4, c5, c6, c7⟩ := us_cells (z := ⟨c, W, n, s⟩) hA3
  obtain ⟨⟨k0, f0⟩, ⟨k1, f1⟩, ⟨k2, f2⟩, ⟨k3, f3⟩⟩ := st_facts (y := ⟨⟨#[]⟩, 0, 0, 0⟩) hB3 (.string c) (.int .i64 W) (.int .i64 n)
  have HST := Lib.hid (us_cells (st_heap (y := ⟨⟨#[]⟩, 0, 0, 0⟩) (z := ⟨c, W, n, s⟩) hB3))
  have HSB := Lib.hid (st_below (b := w.heap.size + 1) (z := ⟨c, W, n, s⟩) b3 (Nat.le_succ _))
  unfold stU at HST HSB
  simp only at HST HSB k0 k1 k2 k3 c0 c4 c5 c6 c7
  clear HC HW1 HA HB HBL HB2 hb2 hA2 hB2 hA3 hB3 b3
  go_wp2_with fail
  obtain ⟨q0, q1, q2, q3⟩ := HST.out
  exact bodyPost_ret (v := usV ⟨c, W, n, s⟩) (by simp [results, Try.results24, go_sem, q0, q1, q2, q3]) rfl ⟨rfl, HSB.out⟩
end Go.Proofs.Ytbcanfhjdllaoaa
