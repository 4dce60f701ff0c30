/- The document's Try (layer 16). Written by sh/mkr16.sh (specs/mkref16t.py, mkapp.py). -/
import Derived.Test.YtbcanfhjdllaoaaLimQ
import Derived.Test.YtbcanfhjdllaoaaLimT
import Derived.BigQuiet
namespace Go.Proofs.Ytbcanfhjdllaoaa
set_option maxRecDepth 100000
open Go.RowKit
theorem no_try {L : List Us} {r : Rl} {c : ByteArray} {a t : Int} {x : Us} (h : trE L r c a t = (if rfE r x a = 0 then ptE L (nxtU x a) else rfE r x a) ∧ trN L r c a t = (if rfE r x a = 0 then ptN L (nxtU x a) else L)) (hn : rfE r x a ≠ 0) : trE L r c a t = rfE r x a ∧ trN L r c a t = L := by
  rw [if_neg hn, if_neg hn] at h
  exact h
theorem yes_try {L : List Us} {r : Rl} {c : ByteArray} {a t : Int} {x : Us} (h : trE L r c a t = (if rfE r x a = 0 then ptE L (nxtU x a) else rfE r x a) ∧ trN L r c a t = (if rfE r x a = 0 then ptN L (nxtU x a) else L)) (hn : rfE r x a = 0) : trE L r c a t = ptE L (nxtU x a) ∧ trN L r c a t = ptN L (nxtU x a) := by
  rw [if_pos hn, if_pos hn] at h
  exact h
theorem nxt_ok {r : Rl} {c : ByteArray} {a t : Int} {x : Us} (e : UsOk x) (m : MyK r c a t) (h : rfE r x a = 0) : UsOk (nxtU x a) := by
  unfold rfE at h
  have m1 := m.rt
  have m2 := m.rs
  have m3 := m.a
  have e1 := e.n0
  have e2 := e.s0
  split at h
  · cases h
  split at h
  · cases h
  split at h
  · cases h
  exact ⟨e.c1, e.c32, e.w0, by show 0 ≤ x.n + 1; omega, by show x.n + 1 ≤ _; omega, by show 0 ≤ x.s + a; omega, by show x.s + a ≤ _; omega, e.wB⟩
theorem pt_found {L : List Us} {q : Us} (h : (fndU L q.c).isSome = true) : ptE L q = 0 ∧ ptN L q = setU L q := by
  have e : ptE L q = 0 := by unfold ptE; rw [if_pos h]
  exact ⟨e, by unfold ptN putU; rw [if_pos e, if_pos h]⟩
theorem pt_room {L : List Us} {q : Us} (h : fndU L q.c = none) (hl : L.length < 16) : ptE L q = 0 ∧ ptN L q = L ++ [q] := by
  have e : ptE L q = 0 := by unfold ptE; rw [h, if_neg (by decide), if_pos hl]
  exact ⟨e, by unfold ptN putU; rw [if_pos e, h, if_neg (by decide), if_pos hl]⟩
theorem pt_out {L : List Us} {q : Us} (h : fndU L q.c = none) (hl : ¬ L.length < 16) (ha : (L.any fun v => decide (v.w ≠ q.w)) = true) : ptE L q = 0 ∧ ptN L q = outU L q.w ++ [q] := by
  have e : ptE L q = 0 := by unfold ptE; rw [h, if_neg (by decide), if_neg hl, if_pos ha]
  exact ⟨e, by unfold ptN putU; rw [if_pos e, h, if_neg (by decide), if_neg hl]⟩
theorem pt_full {L : List Us} {q : Us} (h : fndU L q.c = none) (hl : ¬ L.length < 16) (ha : (L.any fun v => decide (v.w ≠ q.w)) = false) : ptE L q = 14 ∧ ptN L q = L := by
  have e : ptE L q = 14 := by unfold ptE; rw [h, if_neg (by decide), if_neg hl, if_neg (by rw [ha]; decide)]
  exact ⟨e, by unfold ptN; rw [if_neg (by rw [e]; decide)]⟩
theorem st_other {w : World} {b k : Nat} {z : Us} (h : k ≠ b) : (stU w b z).heap[k]? = w.heap[k]? := by
  unfold stU
  rw [Below.heap_setCell _ _ _ _ h, Below.heap_setCell _ _ _ _ h, Below.heap_setCell _ _ _ _ h, Below.heap_setCell _ _ _ _ h]
theorem RBk.stU {u w : World} {X b : Nat} {L : List Us} {v : Value} {z : Us} (h : RBk u X w L v) (hb : u.heap.size ≤ b) (hX : b ≠ X) (hv : v.ownBlock ≠ some b) : RBk u X (stU w b z) L v :=
  (((h.other hb hX hv _).other hb hX hv _).other hb hX hv _).other hb hX hv _
/-- another row of new memory stored -/
theorem RkS.new {u w w' : World} {X : Nat} {L L' : List Us} {v v' : Value} (h : RBk u X w L v) (hb : Below w.heap.size w w') (h' : OwL usE 31 w' w.heap.size v' L') (ok : BkOk L') : RkS u X w v (w'.setCell ⟨X, 0, none⟩ v') L' := by
  have hX := block_lt (a := ⟨X, 0, none⟩) h.cell
  have k := h.keep hb
  have hne : ∀ g, v'.ownBlock = some g → g ≠ X := fun g hg => by
    have h1 := (h'.lt g hg).1
    have hX' : X < w.heap.size := hX
    omega
  exact ⟨v', RBk.store k.bel h.uX k.cell k.froz (h'.less h.bel.size) hne ok, (ChgS.of_below hb).setCell (a := ⟨X, 0, none⟩) (Or.inl rfl) _, fun g hg => Or.inr (h'.lt g hg).1⟩
theorem rtry16_bad (u : World) (X : Nat) (L : List Us) (v : Value) (r : Rl) (c : ByteArray) (a t : Int) (w : World) (h : RBk u X w L v) (hk : myK r c a t = false) :
    Calls Try.prog 16 #[.pointer (some ⟨X, 0, none⟩), ruV r, .string c, .int .i64 a, .int .i64 t] w fun e w' => e = .returned (.int .i64 (trE L r c a t)) ∧ RkS u X w v w' (trN L r c a t) := by
  have he : trE L r c a t = 1 := by unfold trE; rw [if_neg (by rw [hk]; decide)]
  have hn : trN L r c a t = L := by unfold trN; rw [if_neg (by rw [he]; decide)]
  rw [he, hn]
  have HM := Lib.hid (fun w => rmay16_any r c a t w)
  rw [hk] at HM
  have HBL := Lib.hid (alloc_below w (.cells #[.int .i64 r.k, .int .i64 r.t, .int .i64 r.s, .int .i64 r.o] 38))
  have HH := Lib.hid h
  clear h hk he hn
  obtain ⟨k, rt, rs, ro⟩ := r
  simp only at HBL
  go_enter Try.func16, Try.ntmps16
  go_wp2_with fail
  refine (HM.out _).mono ?_
  rintro e w1 ⟨rfl, hb1⟩
  have HB1 := Lib.hid (HBL.out.trans (hb1.mono HBL.out.size))
  clear hb1
  go_wp2_with fail
  go_ret
  exact ⟨rfl, RkS.same HH.out HB1.out⟩
set_option maxHeartbeats 6400000 in
theorem rtry16_good (u : World) (X : Nat) (L : List Us) (v : Value) (k rt rs ro : Int) (c : ByteArray) (a t : Int) (w : World) (h : RBk u X w L v) (hk : MyK ⟨k, rt, rs, ro⟩ c a t) :
    Calls Try.prog 16 #[.pointer (some ⟨X, 0, none⟩), ruV ⟨k, rt, rs, ro⟩, .string c, .int .i64 a, .int .i64 t] w fun e w' => e = .returned (.int .i64 (trE L ⟨k, rt, rs, ro⟩ c a t)) ∧ RkS u X w v w' (trN L ⟨k, rt, rs, ro⟩ c a t) := by
  have HM := Lib.hid (fun w => rmay16_any ⟨k, rt, rs, ro⟩ c a t w)
  rw [my_iff.2 hk] at HM
  have HMY := Lib.hid hk
  have HBL := Lib.hid (alloc_below w (.cells #[.int .i64 k, .int .i64 rt, .int .i64 rs, .int .i64 ro] 38))
  have HR0 := Lib.hid (heap_alloc_new w (.cells #[.int .i64 k, .int .i64 rt, .int .i64 rs, .int .i64 ro] 38))
  have HH := Lib.hid h
  have hk1 := hk.rk
  have ht1 := hk.t
  have ha1 := hk.a
  have hs1 := hk.rs
  simp only at hk1 hs1
  obtain ⟨W, hW⟩ : ∃ W, winW ⟨k, rt, rs, ro⟩ t = W := ⟨_, rfl⟩
  have hW' : t / k = W := hW
  have HX0 := Lib.hid (get_ok h.ok (c := c) (W := W) hk.c (by rw [← hW]; exact win_nn hk.rk.1 hk.t.1) (by rw [← hW]; exact win_le hk.rk.1 hk.t))
  have HXC := Lib.hid (get_card (L := L) (c := c) (W := W))
  have HTP := Lib.hid (fun x (hx : getU L c W = x) => try_put (my_iff.2 hk) (hW ▸ hx))
  have HWE := Lib.hid hW'
  clear h hk hW hW'
  go_enter Try.func16, Try.ntmps16
  go_wp2_with fail
  refine (HM.out _).mono ?_
  rintro e w1 ⟨rfl, hb1⟩
  have HR1 := Lib.hid ((hb1.block _ (Array.getElem?_eq_some_iff.1 HR0.out).1).trans HR0.out)
  obtain ⟨c0, c1, c2, c3⟩ := ru_cells HR1.out
  have HB1 := Lib.hid (HBL.out.trans (hb1.mono HBL.out.size))
  clear hb1 HM HBL HR0
  have hba := alloc_below w1 (.cells #[.string c, .int .i64 (t / k), .int .i64 0, .int .i64 0] 31)
  have HB2 := Lib.hid (HB1.out.trans (hba.mono HB1.out.size))
  have HQ := Lib.hid (HH.out.keep HB2.out)
  have HAT := Lib.hid (rat16_any u X L v c _ HQ.out)
  have HR2 := Lib.hid ((hba.block _ (Array.getElem?_eq_some_iff.1 HR1.out).1).trans HR1.out)
  have HU := Lib.hid (heap_alloc_new w1 (.cells #[.string c, .int .i64 (t / k), .int .i64 0, .int .i64 0] 31))
  have HUX2 := Lib.hid (show u.heap.size ≤ w1.heap.size ∧ w1.heap.size ≠ X ∧ v.ownBlock ≠ some w1.heap.size ∧ w.heap.size ≤ w1.heap.size from ⟨Nat.le_trans HH.out.bel.size HB1.out.size, by
    have := block_lt (a := ⟨X, 0, none⟩) HH.out.cell
    have := HB1.out.size
    simp only at *
    omega, fun hg => by
    have := (HH.out.own.lt _ hg).2
    have := HB1.out.size
    omega, HB1.out.size⟩)
  have HWH := Lib.hid (show w.heap.size ≠ w1.heap.size from by have := (Array.getElem?_eq_some_iff.1 HR1.out).1; omega)
  clear hba
  go_wp2_with fail
  refine HAT.out.mono ?_
  rintro e w2 ⟨qk, rfl, hq, rfl⟩
  clear HAT c0 c1 c2 c3
  rw [HWE.out] at HB2 HQ HR2 HU ⊢
  generalize w1.alloc (.cells #[.string c, .int .i64 W, .int .i64 0, .int .i64 0] 31) = w2 at *
  generalize hH : w1.heap.size = H at *
  obtain ⟨u0, u1, u2, u3⟩ := us_cells (z := ⟨c, W, 0, 0⟩) HU.out
  obtain ⟨r0, r1, r2, r3⟩ := ru_cells HR2.out
  simp only at u0 u1 u2 u3
  have hX := HQ.out.cell
  have hL16 : (L.length : Int) ≤ 16 := by have := HQ.out.ok.few; omega
  rcases hq with ⟨rfl, hf⟩ | ⟨kk, hkk, rfl, hf⟩
  · have HXE := Lib.hid (get_none hf W)
    have HE := Lib.hid (HTP.out _ HXE.out)
    rw [HXE.out] at HX0 HXC
    obtain ⟨x, hx⟩ : ∃ x : Us, x = ⟨c, W, 0, 0⟩ := ⟨_, rfl⟩
    rw [← hx] at HX0 HXC HE
    have HXD := Lib.hid hx
    clear HXE HTP hx
    go_wp2_with fail
    go_quiet (fail)
    have HK3 := Lib.hid (HQ.out.keep (drawn (Below.refl _ w2) nq))
    have HB3 := Lib.hid (drawn HB2.out nq)
    have HU3 := Lib.hid (show (w2.drewN nq).heap[H]? = some (.cells #[.string x.c, .int .i64 x.w, .int .i64 x.n, .int .i64 x.s] 31) by rw [HXD.out]; exact HU.out)
    clear u0 u1 u2 u3
    replace r0 : (w2.drewN nq).cell? ⟨w.heap.size, 0, none⟩ = some (.int .i64 k) := r0
    replace r1 : (w2.drewN nq).cell? ⟨w.heap.size, 1, none⟩ = some (.int .i64 rt) := r1
    replace r2 : (w2.drewN nq).cell? ⟨w.heap.size, 2, none⟩ = some (.int .i64 rs) := r2
    replace r3 : (w2.drewN nq).cell? ⟨w.heap.size, 3, none⟩ = some (.int .i64 ro) := r3
    generalize w2.drewN nq = w3 at *
    obtain ⟨u0, u1, u2, u3⟩ := us_cells HU3.out
    by_cases h1 : ro < a
    · have HF := Lib.hid (show rfE ⟨k, rt, rs, ro⟩ x a = 17 from if_pos h1)
      have HE2 := Lib.hid (no_try HE.out (by rw [HF.out]; decide))
      go_wp2_with fail
      go_ret
      exact ⟨by rw [HE2.out.1, HF.out]; rfl, by rw [HE2.out.2]; exact RkS.same HH.out HB3.out⟩
    by_cases h2 : rt ≤ x.n
    · have HF := Lib.hid (show rfE ⟨k, rt, rs, ro⟩ x a = 18 from (if_neg h1).trans (if_pos h2))
      have HE2 := Lib.hid (no_try HE.out (by rw [HF.out]; decide))
      go_wp2_with fail
      go_ret
      exact ⟨by rw [HE2.out.1, HF.out]; rfl, by rw [HE2.out.2]; exact RkS.same HH.out HB3.out⟩
    by_cases h3 : rs - a < x.s
    · have HF := Lib.hid (show rfE ⟨k, rt, rs, ro⟩ x a = 17 from (if_neg h1).trans ((if_neg h2).trans (if_pos h3)))
      have HE2 := Lib.hid (no_try HE.out (by rw [HF.out]; decide))
      go_wp2_with fail
      go_ret
      exact ⟨by rw [HE2.out.1, HF.out]; rfl, by rw [HE2.out.2]; exact RkS.same HH.out HB3.out⟩
    have HF := Lib.hid (show rfE ⟨k, rt, rs, ro⟩ x a = 0 from (if_neg h1).trans ((if_neg h2).trans (if_neg h3)))
    have HE2 := Lib.hid (yes_try HE.out HF.out)
    have HQO := Lib.hid (nxt_ok HX0.out HMY.out HF.out)
    have hs0 := HX0.out.s0
    have hsB := HX0.out.sB
    have hn0 := HX0.out.n0
    have hnB := HX0.out.nB
    have hn1 : IntKind.i64.wrap (x.n + 1) = x.n + 1 := by rw [IntKind.wrap_i64]; omega
    have hs1 : IntKind.i64.wrap (x.s + a) = x.s + a := by rw [IntKind.wrap_i64]; omega
    have h5 := Lib.heap_setCell_same (i := 2) HU3.out (.int .i64 (x.n + 1))
    have h6 := Lib.heap_setCell_same (i := 3) h5 (.int .i64 (x.s + a))
    obtain ⟨q, hq⟩ : ∃ q, q = nxtU x a := ⟨_, rfl⟩
    have HU6 := Lib.hid (show ((w3.setCell ⟨H, 2, none⟩ (.int .i64 (x.n + 1))).setCell ⟨H, 3, none⟩ (.int .i64 (x.s + a))).heap[H]? = some (.cells #[.string q.c, .int .i64 q.w, .int .i64 q.n, .int .i64 q.s] 31) from by rw [hq]; exact h6)
    rw [← hq] at HE2 HQO
    have HQE := Lib.hid hq
    obtain ⟨_, _, e2, _⟩ := us_cells HU3.out
    obtain ⟨_, _, _, e3⟩ := us_cells (z := ⟨x.c, x.w, x.n + 1, x.s⟩) h5
    have f2 := fz_of HU3.out 2
    have f3 := fz_of h5 3
    have HK6 := Lib.hid ((HK3.out.other (i := 2) HUX2.out.1 HUX2.out.2.1 HUX2.out.2.2.1 (.int .i64 (x.n + 1))).other (i := 3) HUX2.out.1 HUX2.out.2.1 HUX2.out.2.2.1 (.int .i64 (x.s + a)))
    have HB6 := Lib.hid (show Below w.heap.size w ((w3.setCell ⟨H, 2, none⟩ (.int .i64 (x.n + 1))).setCell ⟨H, 3, none⟩ (.int .i64 (x.s + a))) from (HB3.out.setCell HUX2.out.2.2.2 _).setCell HUX2.out.2.2.2 _)
    clear hq h5 h6 hs0 hsB hn0 hnB HF
    simp only at e3
    have hcell := HK6.out.cell
    have hU6 := us_cells HU6.out

    have HFN := Lib.hid (show fndU L q.c = none by rw [HQE.out]; show fndU L x.c = none; rw [HXC.out.1, hf])
    have HHV := Lib.hid HUX2.out.2.2.1
    have HUX := Lib.hid HH.out.uX
    obtain ⟨d0, d1, d2, d3⟩ := hU6
    by_cases hl : L.length < 16
    · obtain ⟨A, cp, hv, hli⟩ := HK6.out.own.slice
      have hcell2 := hcell
      rw [hv] at hcell2
      have hl1 : ((L.length : Nat) : Int) < 16 := by omega
      have HPF := Lib.hid (pt_room HFN.out hl)
      have HOK2 := Lib.hid (show BkOk (L ++ [q]) from by
        have := put_ok HK6.out.ok HQO.out (Or.inr (Or.inl hl))
        unfold putU at this
        rw [HFN.out, if_neg (by decide), if_pos hl] at this
        exact this)
      go_wp2_with fail
      have HJ := Lib.hid (JA.start (na := 7) (nb := 6) HK6.out HU6.out)
      generalize ((w3.setCell ⟨H, 2, none⟩ (.int .i64 (x.n + 1))).setCell ⟨H, 3, none⟩ (.int .i64 (x.s + a))) = W0 at *
      clear hcell hcell2 d0 d1 d2 d3 e2 e3 f2 f3 r0 r1 r2 r3 u0 u1 u2 u3 hli hv
      refine ord.wp_region_ordZ (JA u W0 X L v q H 7 6) 10 [[], [], [1], [2], [3], [], [5], [4, 6], [0], [8]] [(0, 94), (1, 95), (2, 96), (3, 97), (4, 98), (5, 99), (6, 100), (7, 101), (8, 102), (9, 103)] (apR X v q) (by kernel_rfl) (by kernel_rfl) (by kernel_rfl) (ord.steps_cons ?_ (ord.steps_cons ?_ (ord.steps_cons ?_ (ord.steps_cons ?_ (ord.steps_cons ?_ (ord.steps_cons ?_ (ord.steps_cons ?_ (ord.steps_cons ?_ (ord.steps_cons ?_ (ord.steps_cons ?_ ord.steps_nil)))))))))) HJ.out ?_
      · intro o ho x c w hj hc hG
        obtain rfl := Option.some.inj ho
        clear ho
        refine Or.inl ⟨ord.want0 rfl, ?_⟩
        exact ord.makes_move rfl ⟨hj.keep (by decide) (by decide) _, rfl⟩
      · intro o ho x c w hj hc hG
        obtain rfl := Option.some.inj ho
        clear ho
        refine Or.inl ⟨ord.want0 rfl, ?_⟩
        exact ord.makes_move rfl ⟨hj.keep (by decide) (by decide) _, rfl⟩
      · intro o ho x c w hj hc hG
        obtain rfl := Option.some.inj ho
        clear ho
        have h1 : x 1 = .pointer (some ⟨X, 0, none⟩) := (hG (1, 95) (List.mem_of_getElem? (i := 1) rfl) rfl).2
        refine Or.inl ⟨ord.want0 rfl, ?_⟩
        exact ord.makes_nilCheck rfl h1 ⟨hj.keep (by decide) (by decide) _, rfl⟩
      · intro o ho x c w hj hc hG
        obtain rfl := Option.some.inj ho
        clear ho
        have h2 : x 2 = .pointer (some ⟨X, 0, none⟩) := (hG (2, 96) (List.mem_of_getElem? (i := 2) rfl) rfl).2
        refine Or.inl ⟨ord.want0 rfl, ?_⟩
        exact ord.makes_fieldAddr rfl h2 (run_fbR X w) ⟨hj.keep (by decide) (by decide) _, rfl⟩
      · intro o ho x c w hj hc hG
        obtain rfl := Option.some.inj ho
        clear ho
        have h3 : x 3 = .pointer (some ⟨X, 0, none⟩) := (hG (3, 97) (List.mem_of_getElem? (i := 3) rfl) rfl).2
        refine Or.inl ⟨ord.want0 rfl, ?_⟩
        exact ord.makes_ld rfl h3 (run_ldV _ _ w hj.cell) ⟨hj.keep (by decide) (by decide) _, rfl⟩
      · intro o ho x c w hj hc hG
        obtain rfl := Option.some.inj ho
        clear ho
        refine Or.inl ⟨ord.want0 rfl, ?_⟩
        exact ord.makes_ld rfl rfl (run_ldU _ _ w hj.box) ⟨hj.keep (by decide) (by decide) _, rfl⟩
      · intro o ho x c w hj hc hG
        obtain rfl := Option.some.inj ho
        clear ho
        have h5 : x 5 = .agg #[.string q.c, .int .i64 q.w, .int .i64 q.n, .int .i64 q.s] := (hG (5, 99) (List.mem_of_getElem? (i := 5) rfl) rfl).2
        refine Or.inl ⟨ord.want0 rfl, ?_⟩
        exact ord.makes_build1 rfl h5 (run_lit1 q w) ⟨hj.build (by decide), trivial⟩
      · intro o ho x c w hj hc hG
        obtain rfl := Option.some.inj ho
        clear ho
        have h4 : x 4 = v := (hG (4, 98) (List.mem_of_getElem? (i := 4) rfl) rfl).2
        have h6 := (hG (6, 100) (List.mem_of_getElem? (i := 6) rfl) rfl).1
        refine Or.inl ⟨ord.want0 rfl, ?_⟩
        obtain ⟨y, w', hr, hj'⟩ := hj.append hc h6 HHV.out
        exact makes_app rfl rfl h4 rfl hr ⟨hj', trivial⟩
      · intro o ho x c w hj hc hG
        obtain rfl := Option.some.inj ho
        clear ho
        have h0 : x 0 = .pointer (some ⟨X, 0, none⟩) := (hG (0, 94) (List.mem_of_getElem? (i := 0) rfl) rfl).2
        refine Or.inl ⟨ord.want0 rfl, ?_⟩
        exact ord.makes_nilCheck rfl h0 ⟨hj.keep (by decide) (by decide) _, rfl⟩
      · intro o ho x c w hj hc hG
        obtain rfl := Option.some.inj ho
        clear ho
        have h8 : x 8 = .pointer (some ⟨X, 0, none⟩) := (hG (8, 102) (List.mem_of_getElem? (i := 8) rfl) rfl).2
        refine Or.inl ⟨ord.want0 rfl, ?_⟩
        exact ord.makes_fieldAddr rfl h8 (run_fbR X w) ⟨hj.keep (by decide) (by decide) _, rfl⟩
      · intro x c w5 hj hG
        have g7 := (hG (7, 101) (List.mem_of_getElem? (i := 7) rfl)).1
        have e9 : x 9 = .pointer (some ⟨X, 0, none⟩) := (hG (9, 103) (List.mem_of_getElem? (i := 9) rfl)).2
        clear hG
        simp only [ord.puts, ord.put', List.set_cons_zero, List.set_cons_succ, if_true]
        rw [e9]
        simp only [List.drop_succ_cons, List.drop_zero]
        have hcell := hj.cell
        have hfroz := hj.froz
        obtain ⟨yA, yc, hye, _⟩ := (hj.post _ g7).1.cap_le
        rw [show (L ++ [q]).length = L.length + 1 from List.length_append] at hye
        have HD := Lib.hid (hj.done g7 HUX.out HOK2.out)
        clear hj g7 e9 HJ
        rw [hye] at HD ⊢
        clear hye
        go_wp2_with fail
        go_ret
        exact ⟨by rw [HE2.out.1, HPF.out.1]; rfl, by rw [HE2.out.2, HPF.out.2]; exact HD.out.after HB6.out⟩
    · have hl1 : ¬ ((L.length : Nat) : Int) < 16 := by omega
      obtain ⟨g, cp, hv, _, _, _⟩ := HK6.out.own.lies (by omega)
      subst hv
      have HCP := Lib.hid (show L.length ≤ cp from by
        obtain ⟨_, c2, e, h, _, _⟩ := HK6.out.own.cap_le
        injection e with _ _ e3
        rw [e3]; exact h)
      have HLI := Lib.hid (show ∀ W base, OwL usE 31 W base (.slice (some ⟨g, 0, none⟩) L.length cp) L → LiS usE W (some ⟨g, 0, none⟩) L from fun W base h => by
        obtain ⟨_, _, e, hl⟩ := h.slice
        injection e with e1 _ _
        rw [e1]; exact hl)
      go_wp2_with fail
      generalize ((w3.setCell ⟨H, 2, none⟩ (.int .i64 (x.n + 1))).setCell ⟨H, 3, none⟩ (.int .i64 (x.s + a))) = w6 at *
      clear d0 d2 d3 e2 e3 f2 f3 r0 r1 r2 r3 u0 u1 u2 u3
      go_loopw [14] (fun i wr => ∃ (j d : Nat), j ≤ L.length ∧ i = .int .i64 j ∧ wr = w6.drewN d ∧ ∀ m (h : m < L.length), m < j → L[m].w = q.w) (fun i _ => L.length - (intOf i).toNat)
      case atStart => exact ⟨0, 0, Nat.zero_le _, rfl, rfl, fun m _ hm => absurd hm (Nat.not_lt_zero m)⟩
      case round =>
        obtain ⟨j, d, hj, rfl, rfl, hno⟩ := hrel
        have HNO := Lib.hid hno
        clear hno
        replace hcell : (w6.drewN d).cell? ⟨X, 0, none⟩ = some (.slice (some ⟨g, 0, none⟩) L.length cp) := hcell
        replace d1 : (w6.drewN d).cell? ⟨H, 1, none⟩ = some (.int .i64 q.w) := d1
        by_cases hlt : j < L.length
        · have hji : (j : Int) < L.length := by omega
          have hji0 : ¬ (j : Int) < 0 := by omega
          obtain ⟨_, ⟨_, c1, _, _⟩, _⟩ := us_own2 (HK6.out.own.drewN d) hlt
          by_cases he : L[j].w = q.w
          · have qe : (L[j].w != q.w) = false := by simpa using he
            have HN := Lib.hid (show ∀ m (h : m < L.length), m < j + 1 → L[m].w = q.w from fun m hm hmj => by
              rcases Nat.lt_or_ge m j with h1 | h1
              · exact HNO.out m hm h1
              · obtain rfl : m = j := by omega
                exact he)
            generalize hWd : w6.drewN d = wd at *
            have HWD := Lib.hid hWd
            clear hWd he
            go_wp2_with fail
            go_quiet (fail)
            go_wp2_with fail
            go_roundw
            case rel => exact ⟨j + 1, d + nq, by omega, by go_num, by rw [← HWD.out, World.drewN_drewN], HN.out⟩
            case measure => simp [intOf]; omega
          · have qe : (L[j].w != q.w) = true := by simpa using he
            have HOU := Lib.hid (out_at hlt he HNO.out)
            have HPF := Lib.hid (pt_out HFN.out hl (any_some hlt he))
            have HOK2 := Lib.hid (show BkOk (L.take j ++ L.drop (j + 1) ++ [q]) from by
              have := put_ok HK6.out.ok HQO.out (Or.inr (Or.inr (any_some hlt he)))
              unfold putU at this
              rw [HFN.out, if_neg (by decide), if_neg hl, HOU.out] at this
              exact this)
            have HBD := Lib.hid (drawn HB6.out d)
            have HKD := Lib.hid (HK6.out.keep (drawn (Below.refl _ w6) d))
            have HUD := Lib.hid (show (w6.drewN d).heap[H]? = some (.cells #[.string q.c, .int .i64 q.w, .int .i64 q.n, .int .i64 q.s] 31) from HU6.out)
            generalize w6.drewN d = wd at *
            go_wp2_with fail
            go_quiet (fail)
            have HB7 := Lib.hid (drawn HBD.out nq)
            have HK7 := Lib.hid (HKD.out.keep (drawn (Below.refl _ wd) nq))
            have HU7 := Lib.hid (show (wd.drewN nq).heap[H]? = some (.cells #[.string q.c, .int .i64 q.w, .int .i64 q.n, .int .i64 q.s] 31) from HUD.out)
            clear hcell c1 d1 HBD HKD HUD
            generalize wd.drewN nq = w7 at *
            have e1 : (L.take j).length = j := by rw [List.length_take]; omega
            have e2 : (L.drop (j + 1)).length = L.length - (j + 1) := List.length_drop
            have h16 := HK6.out.ok.few
            have hcp := HCP.out
            have hli7 := HLI.out _ _ HK7.out.own
            obtain ⟨A1, p1, w8, hr1, ho1, _, _, hb1⟩ := run_appL usTy w7 w7.heap.size _ _ (OwL.nil _ _ _) _ cp (L.take j) (LiS.loU hli7 cp (by omega)) (fun hA => by unfold loU at hA; split at hA <;> first | (rename_i hc0; rw [e1]; omega) | cases hA) (by rw [e1]; simp only [List.length_nil]; omega) (by rw [e1]; simp only [List.length_nil]; omega) (Nat.le_refl _)
            rw [List.length_nil, Nat.zero_add, e1] at hr1 ho1
            rw [List.nil_append] at ho1
            have ho1' : OwL usE 31 w8 w7.heap.size (.slice A1 (L.take j).length p1) (L.take j) := by rw [e1]; exact ho1
            have hk8 := HK7.out.keep hb1
            obtain ⟨A2, p2, w9, hr2, ho2, _, _, hb2⟩ := run_appL usTy w8 w7.heap.size _ _ ho1' _ (cp - (j + 1)) (L.drop (j + 1)) (LiS.hiU (c := cp) (HLI.out _ _ hk8.own) (by omega) hcp) (fun hA => by unfold hiU at hA; split at hA <;> first | (rename_i hc0; rw [e2]; omega) | cases hA) (by rw [e1, e2]; omega) (by rw [e1, e2]; omega) hb1.size
            have hB9 : Below w7.heap.size w7 w9 := hb1.trans hb2
            have ho2' : OwL usE 31 w9 w7.heap.size (.slice A2 (L.take j ++ L.drop (j + 1)).length p2) (L.take j ++ L.drop (j + 1)) := by rw [List.length_append]; exact ho2
            have e3 : (L.take j ++ L.drop (j + 1)).length = j + (L.length - (j + 1)) := by rw [List.length_append, e1, e2]
            obtain ⟨A3, p3, w10, hr3, ho3, _, _, hb3⟩ := run_appL usTy (w9.alloc (.cells #[.string q.c, .int .i64 q.w, .int .i64 q.n, .int .i64 q.s] 31)) w7.heap.size _ _ (ho2'.alloc _) _ 1 [q] (one_el (E := usE) (T := 31) w9 q) (fun h => by cases h) (by rw [e3]; simp only [List.length_singleton]; omega) (by rw [e3]; simp only [List.length_singleton]; omega) (by have := hB9.size; simp; omega)
            have hB10 : Below w7.heap.size w7 w10 := (hB9.alloc hB9.size _).trans hb3
            rw [e1, e2] at hr2
            rw [e3] at hr3 ho3
            have HK10 := HK7.out.keep hB10
            have HEND := Lib.hid (RkS.new HH.out (HB7.out.trans (hB10.mono HB7.out.size)) (ho3.less HB7.out.size) HOK2.out)
            have HR1' := Lib.hid hr1
            have HR2' := Lib.hid hr2
            have HR3' := Lib.hid hr3
            have hc7 := HK7.out.cell
            have hc8 := hk8.cell
            obtain ⟨v0, v1, v2, v3⟩ := us_cells ((hB9.block _ (Array.getElem?_eq_some_iff.1 HU7.out).1).trans HU7.out)
            have hc10 := HK10.cell
            have hf10 := HK10.froz
            have hlo := fun W => run_loU W (some ⟨g, 0, none⟩) L.length cp j (by omega)
            have hhi := fun W => run_hiU W (some ⟨g, 0, none⟩) L.length cp j (by omega)
            rw [← HOU.out] at HEND
            clear hr1 hr2 hr3 ho1 ho2 ho3 ho1' ho2' hb1 hb2 hb3 hB9 hB10 hk8 HK10 e1 e2 e3 hli7 h16 hcp he qe HK7 HU7 HB7
            go_wp2_with (first
              | (at_builtin; refine wpList_runL (.tmp 124) (.tmp 130) rfl rfl rfl rfl rfl HR1'.out ?_)
              | (at_builtin; refine wpList_runL (.tmp 132) (.tmp 139) rfl rfl rfl rfl rfl HR2'.out ?_)
              | (at_builtin; refine wpList_runL (.tmp 142) (.tmp 144) rfl rfl rfl rfl rfl HR3'.out ?_))
            go_ret
            exact ⟨by rw [HE2.out.1, HPF.out.1]; rfl, by rw [HE2.out.2, HPF.out.2]; exact HEND.out⟩
        · obtain rfl : j = L.length := by omega
          have HPF := Lib.hid (pt_full HFN.out hl (any_none fun m hm => HNO.out m hm hm))
          go_wp2_with fail
          go_ret
          exact ⟨by rw [HE2.out.1, HPF.out.1]; rfl, by rw [HE2.out.2, HPF.out.2]; exact RkS.same HH.out (drawn HB6.out _)⟩
  · obtain ⟨g, cp, rfl, hgb, hgl, ⟨b0, b1, b2, b3⟩, bf⟩ := us_own HQ.out.own hkk
    have HKC := Lib.hid (fnd_mem hf).2
    have hki : (kk : Int) < L.length := by omega
    have hki0 : ¬ (kk : Int) < 0 := by omega
    have hki1 : (0 : Int) ≤ kk := by omega
    by_cases hw : L[kk].w = W
    · have qw : (L[kk].w == W) = true := by simpa using hw
      have HXE := Lib.hid (get_same hf hw)
      have HE := Lib.hid (HTP.out _ HXE.out)
      rw [HXE.out] at HX0 HXC
      clear HXE HTP hw
      go_wp2_with fail
      go_quiet (fail)
      have HQd := Lib.hid (HQ.out.keep (drawn (Below.refl _ w2) nq))
      have HBd := Lib.hid (drawn HB2.out nq)
      have HUd := Lib.hid (show (w2.drewN nq).heap[H]? = some (.cells #[.string c, .int .i64 W, .int .i64 0, .int .i64 0] 31) from HU.out)
      have HRd := Lib.hid (show (w2.drewN nq).heap[w.heap.size]? = some (.cells #[.int .i64 k, .int .i64 rt, .int .i64 rs, .int .i64 ro] 38) from HR2.out)
      have hXd := HQd.out.cell
      obtain ⟨_, ⟨b0, b1, b2, b3⟩, _⟩ := us_own2 HQd.out.own hkk
      clear u0 u1 u2 u3 r0 r1 r2 r3
      generalize w2.drewN nq = wd at *
      obtain ⟨x, hx⟩ : ∃ x, L[kk] = x := ⟨_, rfl⟩
      rw [hx] at HX0 HXC HE b0 b1 b2 b3 HKC
      have HXK := Lib.hid hx
      clear hx
      obtain ⟨⟨k0, l0⟩, ⟨k1, l1⟩, ⟨k2, l2⟩, ⟨k3, l3⟩⟩ := st_facts (y := ⟨c, W, 0, 0⟩) HUd.out (.string x.c) (.int .i64 x.w) (.int .i64 x.n)
      have HU3 := Lib.hid (st_heap (y := ⟨c, W, 0, 0⟩) (z := x) HUd.out)
      have HB3 := Lib.hid (st_below (b := H) (z := x) HBd.out HUX2.out.2.2.2)
      have HK3 := Lib.hid (HQd.out.stU (b := H) (z := x) HUX2.out.1 HUX2.out.2.1 HUX2.out.2.2.1)
      have hr3 : (stU wd H x).heap[w.heap.size]? = some (.cells #[.int .i64 k, .int .i64 rt, .int .i64 rs, .int .i64 ro] 38) := (st_other HWH.out).trans HRd.out
      obtain ⟨r0, r1, r2, r3⟩ := ru_cells hr3
      obtain ⟨u0, u1, u2, u3⟩ := us_cells HU3.out
      have hX3 := HK3.out.cell
      clear hr3
      unfold Go.Proofs.Ytbcanfhjdllaoaa.stU at HU3 HB3 HK3 r0 r1 r2 r3 u0 u1 u2 u3 hX3
      simp only at k0 k1 k2 k3
      by_cases h1 : ro < a
      · have HF := Lib.hid (show rfE ⟨k, rt, rs, ro⟩ x a = 17 from if_pos h1)
        have HE2 := Lib.hid (no_try HE.out (by rw [HF.out]; decide))
        go_wp2_with fail
        go_ret
        exact ⟨by rw [HE2.out.1, HF.out]; rfl, by rw [HE2.out.2]; exact RkS.same HH.out HB3.out⟩
      by_cases h2 : rt ≤ x.n
      · have HF := Lib.hid (show rfE ⟨k, rt, rs, ro⟩ x a = 18 from (if_neg h1).trans (if_pos h2))
        have HE2 := Lib.hid (no_try HE.out (by rw [HF.out]; decide))
        go_wp2_with fail
        go_ret
        exact ⟨by rw [HE2.out.1, HF.out]; rfl, by rw [HE2.out.2]; exact RkS.same HH.out HB3.out⟩
      by_cases h3 : rs - a < x.s
      · have HF := Lib.hid (show rfE ⟨k, rt, rs, ro⟩ x a = 17 from (if_neg h1).trans ((if_neg h2).trans (if_pos h3)))
        have HE2 := Lib.hid (no_try HE.out (by rw [HF.out]; decide))
        go_wp2_with fail
        go_ret
        exact ⟨by rw [HE2.out.1, HF.out]; rfl, by rw [HE2.out.2]; exact RkS.same HH.out HB3.out⟩
      have HF := Lib.hid (show rfE ⟨k, rt, rs, ro⟩ x a = 0 from (if_neg h1).trans ((if_neg h2).trans (if_neg h3)))
      have HE2 := Lib.hid (yes_try HE.out HF.out)
      have HQO := Lib.hid (nxt_ok HX0.out HMY.out HF.out)
      have hs0 := HX0.out.s0
      have hsB := HX0.out.sB
      have hn0 := HX0.out.n0
      have hnB := HX0.out.nB
      have hn1 : IntKind.i64.wrap (x.n + 1) = x.n + 1 := by rw [IntKind.wrap_i64]; omega
      have hs1 : IntKind.i64.wrap (x.s + a) = x.s + a := by rw [IntKind.wrap_i64]; omega
      have h5 := Lib.heap_setCell_same (i := 2) HU3.out (.int .i64 (x.n + 1))
      have h6 := Lib.heap_setCell_same (i := 3) h5 (.int .i64 (x.s + a))
      obtain ⟨q, hq⟩ : ∃ q, q = nxtU x a := ⟨_, rfl⟩
      have HU6 := Lib.hid (show ((((((wd.setCell ⟨H, 0, none⟩ (.string x.c)).setCell ⟨H, 1, none⟩ (.int .i64 x.w)).setCell ⟨H, 2, none⟩ (.int .i64 x.n)).setCell ⟨H, 3, none⟩ (.int .i64 x.s)).setCell ⟨H, 2, none⟩ (.int .i64 (x.n + 1))).setCell ⟨H, 3, none⟩ (.int .i64 (x.s + a))).heap[H]? = some (.cells #[.string q.c, .int .i64 q.w, .int .i64 q.n, .int .i64 q.s] 31) from by rw [hq]; exact h6)
      rw [← hq] at HE2 HQO
      have HQE := Lib.hid hq
      obtain ⟨_, _, e2, _⟩ := us_cells HU3.out
      obtain ⟨_, _, _, e3⟩ := us_cells (z := ⟨x.c, x.w, x.n + 1, x.s⟩) h5
      have f2 := fz_of HU3.out 2
      have f3 := fz_of h5 3
      have HK6 := Lib.hid ((HK3.out.other (i := 2) HUX2.out.1 HUX2.out.2.1 HUX2.out.2.2.1 (.int .i64 (x.n + 1))).other (i := 3) HUX2.out.1 HUX2.out.2.1 HUX2.out.2.2.1 (.int .i64 (x.s + a)))
      have HB6 := Lib.hid (show Below w.heap.size w ((((((wd.setCell ⟨H, 0, none⟩ (.string x.c)).setCell ⟨H, 1, none⟩ (.int .i64 x.w)).setCell ⟨H, 2, none⟩ (.int .i64 x.n)).setCell ⟨H, 3, none⟩ (.int .i64 x.s)).setCell ⟨H, 2, none⟩ (.int .i64 (x.n + 1))).setCell ⟨H, 3, none⟩ (.int .i64 (x.s + a))) from (HB3.out.setCell HUX2.out.2.2.2 _).setCell HUX2.out.2.2.2 _)
      clear hq h5 h6 hs0 hsB hn0 hnB HF
      simp only at e3
      have hcell := HK6.out.cell
      have hU6 := us_cells HU6.out

      obtain ⟨d0, d1, d2, d3⟩ := hU6
      obtain ⟨⟨k0, l0⟩, ⟨k1, l1⟩, ⟨k2, l2⟩, ⟨k3, l3⟩⟩ := row_facts HK6.out hkk (.string q.c) (.int .i64 q.w) (.int .i64 q.n)
      have HC4 := Lib.hid (HK6.out.cells4 hkk (q := q) (by rw [HQE.out]; exact HXC.out.1.trans (HKC.out.symm.trans (congrArg Us.c HXK.out.symm))) HQO.out)
      go_wp2_with fail
      clear e2 e3 f2 f3 r0 r1 r2 r3
      go_region
      clear hcell d0 d1 d2 d3 k0 k1 k2 k3 l0 l1 l2 l3
      have HEND := Lib.hid (show RkS u X w (.slice (some ⟨g, 0, none⟩) L.length cp) _ (setU L q) from RkS.of (HC4.out.1.keep (Below.refl _ _).drew) (((ChgS.of_below HB6.out).trans HC4.out.2).drewN 1) rfl)
      have HPF := Lib.hid (pt_found (q := q) (by rw [HQE.out]; show (fndU L x.c).isSome = true; rw [HXC.out.1, hf]; rfl))
      go_wp2_with fail
      go_ret
      exact ⟨by rw [HE2.out.1, HPF.out.1]; rfl, by rw [HE2.out.2, HPF.out.2]; exact HEND.out⟩
    · have qw : (L[kk].w == W) = false := by simpa using hw
      have HXE := Lib.hid (get_else hf hw)
      have HE := Lib.hid (HTP.out _ HXE.out)
      rw [HXE.out] at HX0 HXC
      obtain ⟨x, hx⟩ : ∃ x : Us, x = ⟨c, W, 0, 0⟩ := ⟨_, rfl⟩
      rw [← hx] at HX0 HXC HE
      have HXD := Lib.hid hx
      clear HXE HTP hx hw
      go_wp2_with fail
      go_quiet (fail)
      have HK3 := Lib.hid (HQ.out.keep (drawn (Below.refl _ w2) nq))
      have HB3 := Lib.hid (drawn HB2.out nq)
      have HU3 := Lib.hid (show (w2.drewN nq).heap[H]? = some (.cells #[.string x.c, .int .i64 x.w, .int .i64 x.n, .int .i64 x.s] 31) by rw [HXD.out]; exact HU.out)
      clear u0 u1 u2 u3
      replace r0 : (w2.drewN nq).cell? ⟨w.heap.size, 0, none⟩ = some (.int .i64 k) := r0
      replace r1 : (w2.drewN nq).cell? ⟨w.heap.size, 1, none⟩ = some (.int .i64 rt) := r1
      replace r2 : (w2.drewN nq).cell? ⟨w.heap.size, 2, none⟩ = some (.int .i64 rs) := r2
      replace r3 : (w2.drewN nq).cell? ⟨w.heap.size, 3, none⟩ = some (.int .i64 ro) := r3
      generalize w2.drewN nq = w3 at *
      obtain ⟨u0, u1, u2, u3⟩ := us_cells HU3.out
      by_cases h1 : ro < a
      · have HF := Lib.hid (show rfE ⟨k, rt, rs, ro⟩ x a = 17 from if_pos h1)
        have HE2 := Lib.hid (no_try HE.out (by rw [HF.out]; decide))
        go_wp2_with fail
        go_ret
        exact ⟨by rw [HE2.out.1, HF.out]; rfl, by rw [HE2.out.2]; exact RkS.same HH.out HB3.out⟩
      by_cases h2 : rt ≤ x.n
      · have HF := Lib.hid (show rfE ⟨k, rt, rs, ro⟩ x a = 18 from (if_neg h1).trans (if_pos h2))
        have HE2 := Lib.hid (no_try HE.out (by rw [HF.out]; decide))
        go_wp2_with fail
        go_ret
        exact ⟨by rw [HE2.out.1, HF.out]; rfl, by rw [HE2.out.2]; exact RkS.same HH.out HB3.out⟩
      by_cases h3 : rs - a < x.s
      · have HF := Lib.hid (show rfE ⟨k, rt, rs, ro⟩ x a = 17 from (if_neg h1).trans ((if_neg h2).trans (if_pos h3)))
        have HE2 := Lib.hid (no_try HE.out (by rw [HF.out]; decide))
        go_wp2_with fail
        go_ret
        exact ⟨by rw [HE2.out.1, HF.out]; rfl, by rw [HE2.out.2]; exact RkS.same HH.out HB3.out⟩
      have HF := Lib.hid (show rfE ⟨k, rt, rs, ro⟩ x a = 0 from (if_neg h1).trans ((if_neg h2).trans (if_neg h3)))
      have HE2 := Lib.hid (yes_try HE.out HF.out)
      have HQO := Lib.hid (nxt_ok HX0.out HMY.out HF.out)
      have hs0 := HX0.out.s0
      have hsB := HX0.out.sB
      have hn0 := HX0.out.n0
      have hnB := HX0.out.nB
      have hn1 : IntKind.i64.wrap (x.n + 1) = x.n + 1 := by rw [IntKind.wrap_i64]; omega
      have hs1 : IntKind.i64.wrap (x.s + a) = x.s + a := by rw [IntKind.wrap_i64]; omega
      have h5 := Lib.heap_setCell_same (i := 2) HU3.out (.int .i64 (x.n + 1))
      have h6 := Lib.heap_setCell_same (i := 3) h5 (.int .i64 (x.s + a))
      obtain ⟨q, hq⟩ : ∃ q, q = nxtU x a := ⟨_, rfl⟩
      have HU6 := Lib.hid (show ((w3.setCell ⟨H, 2, none⟩ (.int .i64 (x.n + 1))).setCell ⟨H, 3, none⟩ (.int .i64 (x.s + a))).heap[H]? = some (.cells #[.string q.c, .int .i64 q.w, .int .i64 q.n, .int .i64 q.s] 31) from by rw [hq]; exact h6)
      rw [← hq] at HE2 HQO
      have HQE := Lib.hid hq
      obtain ⟨_, _, e2, _⟩ := us_cells HU3.out
      obtain ⟨_, _, _, e3⟩ := us_cells (z := ⟨x.c, x.w, x.n + 1, x.s⟩) h5
      have f2 := fz_of HU3.out 2
      have f3 := fz_of h5 3
      have HK6 := Lib.hid ((HK3.out.other (i := 2) HUX2.out.1 HUX2.out.2.1 HUX2.out.2.2.1 (.int .i64 (x.n + 1))).other (i := 3) HUX2.out.1 HUX2.out.2.1 HUX2.out.2.2.1 (.int .i64 (x.s + a)))
      have HB6 := Lib.hid (show Below w.heap.size w ((w3.setCell ⟨H, 2, none⟩ (.int .i64 (x.n + 1))).setCell ⟨H, 3, none⟩ (.int .i64 (x.s + a))) from (HB3.out.setCell HUX2.out.2.2.2 _).setCell HUX2.out.2.2.2 _)
      clear hq h5 h6 hs0 hsB hn0 hnB HF
      simp only at e3
      have hcell := HK6.out.cell
      have hU6 := us_cells HU6.out

      obtain ⟨d0, d1, d2, d3⟩ := hU6
      obtain ⟨⟨k0, l0⟩, ⟨k1, l1⟩, ⟨k2, l2⟩, ⟨k3, l3⟩⟩ := row_facts HK6.out hkk (.string q.c) (.int .i64 q.w) (.int .i64 q.n)
      have HC4 := Lib.hid (HK6.out.cells4 hkk (q := q) (by rw [HQE.out]; exact HXC.out.1.trans HKC.out.symm) HQO.out)
      go_wp2_with fail
      clear e2 e3 f2 f3 r0 r1 r2 r3
      go_region
      clear hcell d0 d1 d2 d3 k0 k1 k2 k3 l0 l1 l2 l3
      have HEND := Lib.hid (show RkS u X w (.slice (some ⟨g, 0, none⟩) L.length cp) _ (setU L q) from RkS.of (HC4.out.1.keep (Below.refl _ _).drew) (((ChgS.of_below HB6.out).trans HC4.out.2).drewN 1) rfl)
      have HPF := Lib.hid (pt_found (q := q) (by rw [HQE.out]; show (fndU L x.c).isSome = true; rw [HXC.out.1, hf]; rfl))
      go_wp2_with fail
      go_ret
      exact ⟨by rw [HE2.out.1, HPF.out.1]; rfl, by rw [HE2.out.2, HPF.out.2]; exact HEND.out⟩
end Go.Proofs.Ytbcanfhjdllaoaa
