/- Layer 16, the code: put. Written by sh/expand.py out of specs/XLimP.raw. -/
import Derived.Test.YtbcanfhjdllaoaaLimD
import Derived.Test.YtbcanfhjdllaoaaLimS
namespace Go.Proofs.Ytbcanfhjdllaoaa
set_option maxRecDepth 100000
open Go.RowKit
theorem RkS.of {u w w' : World} {X : Nat} {v v' : Value} {L' : List Us} (h : RBk u X w' L' v') (hc : ChgS (fun k => k = X ∨ v.ownBlock = some k) w w') (hv : v'.ownBlock = v.ownBlock) : RkS u X w v w' L' := ⟨v', h, hc, fun g hg => Or.inl (by rw [← hv]; exact hg)⟩
theorem RkS.chain {u w w1 w' : World} {X : Nat} {L' : List Us} {v v1 : Value} (hc : ChgS (fun k => k = X ∨ v.ownBlock = some k) w w1) (hv : v1.ownBlock = v.ownBlock) (h : RkS u X w1 v1 w' L') : RkS u X w v w' L' := by
  obtain ⟨v', h1, h2, h3⟩ := h
  rw [hv] at h2
  refine ⟨v', h1, hc.trans h2, fun g hg => ?_⟩
  rcases h3 g hg with h | h
  · exact Or.inl (by rw [← hv]; exact h)
  · exact Or.inr (Nat.le_trans hc.size h)
set_option maxHeartbeats 1600000 in
theorem put16_a (u : World) (X : Nat) (L : List Us) (v : Value) (q : Us) (w : World) (h : RBk u X w L v) (hq : UsOk q) (hf : (fndU L q.c).isSome = true) :
    Calls Try.prog 32 #[.pointer (some ⟨X, 0, none⟩), .agg #[.string q.c, .int .i64 q.w, .int .i64 q.n, .int .i64 q.s]] w fun e w' => e = .returned (.int .i64 0) ∧ RkS u X w v w' (setU L q) := by
  have hb := alloc_below w (.cells #[.string q.c, .int .i64 q.w, .int .i64 q.n, .int .i64 q.s] 31)
  have HF := Lib.hid (find16_any u X L v q.c _ (h.keep hb))
  have HK := Lib.hid (h.keep hb)
  have HB := Lib.hid hb
  have HU := Lib.hid (heap_alloc_new w (.cells #[.string q.c, .int .i64 q.w, .int .i64 q.n, .int .i64 q.s] 31))
  have HOWN := Lib.hid (show ∀ g, v.ownBlock = some g → g < w.heap.size from fun g hg => (h.own.lt g hg).2)
  clear h hb
  go_enter Try.func32, Try.ntmps32
  go_wp2_with fail
  refine HF.out.mono ?_
  rintro e w1 ⟨p, rfl, hp, rfl⟩
  clear HF
  rcases hp with ⟨_, hn⟩ | ⟨k, g, cc, hk, rfl, hv, hn⟩
  · rw [hn] at hf; cases hf
  · subst hv
    have HKC := Lib.hid (fnd_mem hn).2
    obtain ⟨hgg, ⟨c0, c1, c2, c3⟩, cf⟩ := us_own2 HK.out.own hk
    obtain ⟨d0, d1, d2, d3⟩ := us_cells HU.out
    have hgH : g ≠ w.heap.size := fun e => by have := HOWN.out g rfl; omega
    have cf1 := cf (k * 4 + 1)
    have cf2 := cf (k * 4 + 2)
    have cf3 := cf (k * 4 + 3)
    obtain ⟨r1, r2⟩ := HK.out.cells3 hk (q := q) HKC.out.symm hq
    have HEND := Lib.hid (show RkS u X w (.slice (some ⟨g, 0, none⟩) L.length cc) _ (setU L q) from RkS.of (r1.keep (Below.refl _ _).drew) (((ChgS.of_below HB.out).trans r2).drewN 1) rfl)
    generalize w.alloc (.cells #[.string q.c, .int .i64 q.w, .int .i64 q.n, .int .i64 q.s] 31) = w1 at *
    generalize hH : w.heap.size = H at *
    clear cf hn hf r1 r2
    go_wp2_with fail
    clear HK HB HU HOWN
    go_region
    clear c0 c1 c2 c3 d0 d1 d2 d3 cf1 cf2 cf3
    go_wp2_with fail
    go_ret
    exact ⟨rfl, HEND.out⟩
set_option maxHeartbeats 1600000 in
theorem put16_b (u : World) (X : Nat) (L : List Us) (v : Value) (q : Us) (w : World) (h : RBk u X w L v) (hq : UsOk q) (hf : fndU L q.c = none) (hl : L.length < 16) :
    Calls Try.prog 32 #[.pointer (some ⟨X, 0, none⟩), .agg #[.string q.c, .int .i64 q.w, .int .i64 q.n, .int .i64 q.s]] w fun e w' => e = .returned (.int .i64 0) ∧ RkS u X w v w' (L ++ [q]) := by
  have hb := alloc_below w (.cells #[.string q.c, .int .i64 q.w, .int .i64 q.n, .int .i64 q.s] 31)
  have HF := Lib.hid (find16_any u X L v q.c _ (h.keep hb))
  have HK := Lib.hid (h.keep hb)
  have HB := Lib.hid hb
  have HU := Lib.hid (heap_alloc_new w (.cells #[.string q.c, .int .i64 q.w, .int .i64 q.n, .int .i64 q.s] 31))
  have HHV := Lib.hid (show v.ownBlock ≠ some w.heap.size from fun hg => by have := (h.own.lt _ hg).2; omega)
  have HSZ := Lib.hid (show q.c.size ≤ 281474976710656 from Nat.le_trans hq.c32 (by decide))
  have HUX := Lib.hid h.uX
  have HOK2 := Lib.hid (show BkOk (L ++ [q]) from by
    have := put_ok h.ok hq (Or.inr (Or.inl hl))
    unfold putU at this
    rw [hf, if_neg (by decide), if_pos hl] at this
    exact this)
  obtain ⟨A, cp, hv, _⟩ := HK.out.own.slice
  have HV := Lib.hid hv
  have hcell := HK.out.cell
  rw [hv] at hcell
  have hd : decide ((16 : Int) ≤ ((L.length : Nat) : Int)) = false := decide_eq_false (by omega)
  clear h hb hv
  go_enter Try.func32, Try.ntmps32
  go_wp2_with fail
  refine HF.out.mono ?_
  rintro e w1 ⟨p, rfl, hp, rfl⟩
  clear HF
  rcases hp with ⟨rfl, _⟩ | ⟨k, g, cc, hk, rfl, hv, hn⟩
  · obtain ⟨d0, d1, d2, d3⟩ := us_cells HU.out
    generalize w.alloc (.cells #[.string q.c, .int .i64 q.w, .int .i64 q.n, .int .i64 q.s] 31) = W0 at *
    generalize hH : w.heap.size = H at *
    have HJ := Lib.hid (JA.start (na := 8) (nb := 7) HK.out HU.out)
    go_wp2_with fail
    clear hcell
    refine ord.wp_region_ordZ (JA u W0 X L v q H 8 7) 11 [[], [], [1], [2], [3], [], [5], [6], [4, 7], [0], [9]] [(0, 53), (1, 54), (2, 55), (3, 56), (4, 57), (5, 58), (6, 59), (7, 60), (8, 61), (9, 62), (10, 63)] (apC X v q) (by kernel_rfl) (by kernel_rfl) (by kernel_rfl) (ord.steps_cons ?_ (ord.steps_cons ?_ (ord.steps_cons ?_ (ord.steps_cons ?_ (ord.steps_cons ?_ (ord.steps_cons ?_ (ord.steps_cons ?_ (ord.steps_cons ?_ (ord.steps_cons ?_ (ord.steps_cons ?_ (ord.steps_cons ?_ ord.steps_nil))))))))))) HJ.out ?_
    · intro o ho x c w hj hc hG
      obtain rfl := Option.some.inj ho
      clear ho
      refine Or.inl ⟨ord.want0 rfl, ?_⟩
      exact ord.makes_move rfl ⟨hj.keep (by decide) (by decide) _, rfl⟩
    · intro o ho x c w hj hc hG
      obtain rfl := Option.some.inj ho
      clear ho
      refine Or.inl ⟨ord.want0 rfl, ?_⟩
      exact ord.makes_move rfl ⟨hj.keep (by decide) (by decide) _, rfl⟩
    · intro o ho x c w hj hc hG
      obtain rfl := Option.some.inj ho
      clear ho
      have h1 : x 1 = .pointer (some ⟨X, 0, none⟩) := (hG (1, 54) (List.mem_of_getElem? (i := 1) rfl) rfl).2
      refine Or.inl ⟨ord.want0 rfl, ?_⟩
      exact ord.makes_nilCheck rfl h1 ⟨hj.keep (by decide) (by decide) _, rfl⟩
    · intro o ho x c w hj hc hG
      obtain rfl := Option.some.inj ho
      clear ho
      have h2 : x 2 = .pointer (some ⟨X, 0, none⟩) := (hG (2, 55) (List.mem_of_getElem? (i := 2) rfl) rfl).2
      refine Or.inl ⟨ord.want0 rfl, ?_⟩
      exact ord.makes_fieldAddr rfl h2 (run_fbB X w) ⟨hj.keep (by decide) (by decide) _, rfl⟩
    · intro o ho x c w hj hc hG
      obtain rfl := Option.some.inj ho
      clear ho
      have h3 : x 3 = .pointer (some ⟨X, 0, none⟩) := (hG (3, 56) (List.mem_of_getElem? (i := 3) rfl) rfl).2
      refine Or.inl ⟨ord.want0 rfl, ?_⟩
      exact ord.makes_ld rfl h3 (run_ldV _ _ w hj.cell) ⟨hj.keep (by decide) (by decide) _, rfl⟩
    · intro o ho x c w hj hc hG
      obtain rfl := Option.some.inj ho
      clear ho
      refine Or.inl ⟨ord.want0 rfl, ?_⟩
      exact ord.makes_ld rfl rfl (run_ldU _ _ w hj.box) ⟨hj.keep (by decide) (by decide) _, rfl⟩
    · intro o ho x c w hj hc hG
      obtain rfl := Option.some.inj ho
      clear ho
      have h5 : x 5 = .agg #[.string q.c, .int .i64 q.w, .int .i64 q.n, .int .i64 q.s] := (hG (5, 58) (List.mem_of_getElem? (i := 5) rfl) rfl).2
      refine Or.inl ⟨ord.want0 rfl, ?_⟩
      exact ord.makes_call1 Try.func24 (by kernel_rfl) (by kernel_rfl) rfl h5 (copyof16_any q.c q.w q.n q.s w HSZ.out) (fun e w' h => ⟨_, h.1, (hj.below h.2).keep (by decide) (by decide) _, rfl⟩)
    · intro o ho x c w hj hc hG
      obtain rfl := Option.some.inj ho
      clear ho
      have h6 : x 6 = .agg #[.string q.c, .int .i64 q.w, .int .i64 q.n, .int .i64 q.s] := (hG (6, 59) (List.mem_of_getElem? (i := 6) rfl) rfl).2
      refine Or.inl ⟨ord.want0 rfl, ?_⟩
      exact ord.makes_build1 rfl h6 (run_lit1 q w) ⟨hj.build (by decide), trivial⟩
    · intro o ho x c w hj hc hG
      obtain rfl := Option.some.inj ho
      clear ho
      have h4 : x 4 = v := (hG (4, 57) (List.mem_of_getElem? (i := 4) rfl) rfl).2
      have h7 := (hG (7, 60) (List.mem_of_getElem? (i := 7) rfl) rfl).1
      refine Or.inl ⟨ord.want0 rfl, ?_⟩
      obtain ⟨y, w', hr, hj'⟩ := hj.append hc h7 HHV.out
      exact makes_app rfl rfl h4 rfl hr ⟨hj', trivial⟩
    · intro o ho x c w hj hc hG
      obtain rfl := Option.some.inj ho
      clear ho
      have h0 : x 0 = .pointer (some ⟨X, 0, none⟩) := (hG (0, 53) (List.mem_of_getElem? (i := 0) rfl) rfl).2
      refine Or.inl ⟨ord.want0 rfl, ?_⟩
      exact ord.makes_nilCheck rfl h0 ⟨hj.keep (by decide) (by decide) _, rfl⟩
    · intro o ho x c w hj hc hG
      obtain rfl := Option.some.inj ho
      clear ho
      have h9 : x 9 = .pointer (some ⟨X, 0, none⟩) := (hG (9, 62) (List.mem_of_getElem? (i := 9) rfl) rfl).2
      refine Or.inl ⟨ord.want0 rfl, ?_⟩
      exact ord.makes_fieldAddr rfl h9 (run_fbB X w) ⟨hj.keep (by decide) (by decide) _, rfl⟩
    · intro x c w5 hj hG
      have g8 := (hG (8, 61) (List.mem_of_getElem? (i := 8) rfl)).1
      have e10 : x 10 = .pointer (some ⟨X, 0, none⟩) := (hG (10, 63) (List.mem_of_getElem? (i := 10) rfl)).2
      clear hG
      simp only [ord.puts, ord.put', List.set_cons_zero, List.set_cons_succ, if_true]
      rw [e10]
      simp only [List.drop_succ_cons, List.drop_zero]
      have hcell := hj.cell
      have hfroz := hj.froz
      obtain ⟨yA, yc, hye, _⟩ := (hj.post _ g8).1.cap_le
      rw [show (L ++ [q]).length = L.length + 1 from List.length_append] at hye
      have HD := Lib.hid (hj.done g8 HUX.out HOK2.out)
      clear hj g8 e10 HJ
      rw [hye] at HD ⊢
      clear hye
      go_wp2_with fail
      go_ret
      exact ⟨rfl, HD.out.after (by rw [hH]; exact HB.out)⟩
  · rw [hn] at hf; cases hf
set_option maxHeartbeats 3200000 in
theorem put16_d (u : World) (X : Nat) (L : List Us) (v : Value) (q : Us) (w : World) (h : RBk u X w L v) (hf : fndU L q.c = none) (hl : ¬ L.length < 16) (ha : ∀ j (h : j < L.length), L[j].w = q.w) :
    Calls Try.prog 32 #[.pointer (some ⟨X, 0, none⟩), .agg #[.string q.c, .int .i64 q.w, .int .i64 q.n, .int .i64 q.s]] w fun e w' => e = .returned (.int .i64 14) ∧ RkS u X w v w' L := by
  have hb := alloc_below w (.cells #[.string q.c, .int .i64 q.w, .int .i64 q.n, .int .i64 q.s] 31)
  have HF := Lib.hid (find16_any u X L v q.c _ (h.keep hb))
  have HK := Lib.hid (h.keep hb)
  have HB := Lib.hid hb
  have HU := Lib.hid (heap_alloc_new w (.cells #[.string q.c, .int .i64 q.w, .int .i64 q.n, .int .i64 q.s] 31))
  obtain ⟨A, cp, hv, hli⟩ := HK.out.own.slice
  have HIX := Lib.hid (index16_any A cp L q.w w.heap.size _ hli (us_cells HU.out).2.1 (by have := h.ok.few; omega))
  have hcell := HK.out.cell
  rw [hv] at hcell
  have HH := Lib.hid h
  have hd : decide ((16 : Int) ≤ ((L.length : Nat) : Int)) = true := decide_eq_true (by omega)
  clear h hb hv
  go_enter Try.func32, Try.ntmps32
  go_wp2_with fail
  refine HF.out.mono ?_
  rintro e w1 ⟨p, rfl, hp, rfl⟩
  clear HF
  rcases hp with ⟨rfl, _⟩ | ⟨k, g, cc, hk, rfl, hv, hn⟩
  · obtain ⟨d0, d1, d2, d3⟩ := us_cells HU.out
    go_wp2_with fail
    refine HIX.out.mono ?_
    rintro e w2 ⟨i, rfl, hi, hb2⟩
    have HB2 := Lib.hid (HB.out.trans (hb2.mono HB.out.size))
    rcases hi with ⟨rfl, _⟩ | ⟨k, hk, rfl, h1, _⟩
    · clear hb2 HIX
      go_wp2_with fail
      go_ret
      exact ⟨rfl, RkS.same HH.out HB2.out⟩
    · exact absurd (ha k hk) h1
  · rw [hn] at hf; cases hf
/-- a book behind one that is taken out -/
theorem RBk.out1 {u w w' : World} {X : Nat} {L : List Us} {g n cp k : Nat} {W : Int} (h : RBk u X w L (.slice (some ⟨g, 0, none⟩) n cp)) (hk : k < L.length) (ho : OwL usE 31 w' u.heap.size (.slice (some ⟨g, 0, none⟩) (L.length - 1) cp) (L.take k ++ L.drop (k + 1))) (hc : Chg g w w') (hw : outU L W = L.take k ++ L.drop (k + 1)) :
    RBk u X (w'.setCell ⟨X, 0, none⟩ (.slice (some ⟨g, 0, none⟩) (L.length - 1) cp)) (outU L W) (.slice (some ⟨g, 0, none⟩) (L.length - 1) cp) := by
  have hgX : g ≠ X := h.ne g rfl
  have hX := block_lt (a := ⟨X, 0, none⟩) h.cell
  have _ := hk
  rw [hw]
  refine RBk.store (v := .slice (some ⟨g, 0, none⟩) n cp) (h.bel.trans (hc.below h.bel.size (h.own.lt g rfl).1)) h.uX ((hc.cell hX (Ne.symm hgX)).trans h.cell) ((hc.frozen hX (Ne.symm hgX)).trans h.froz) ho (fun q hq => h.ne q hq) ?_
  rw [← hw]
  exact ⟨Nat.le_trans (List.Sublist.length_le (List.eraseP_sublist ..)) h.ok.few, h.ok.apart.sublist (List.eraseP_sublist ..), fun v hv => h.ok.each v (mem_out hv)⟩
set_option maxHeartbeats 6400000 in
theorem put16_c (u : World) (X : Nat) (L : List Us) (v : Value) (q : Us) (w : World) (h : RBk u X w L v) (hq : UsOk q) (hf : fndU L q.c = none) (hl : ¬ L.length < 16) (ha : (L.any fun v => decide (v.w ≠ q.w)) = true) :
    Calls Try.prog 32 #[.pointer (some ⟨X, 0, none⟩), .agg #[.string q.c, .int .i64 q.w, .int .i64 q.n, .int .i64 q.s]] w fun e w' => e = .returned (.int .i64 0) ∧ RkS u X w v w' (outU L q.w ++ [q]) := by
  have hb := alloc_below w (.cells #[.string q.c, .int .i64 q.w, .int .i64 q.n, .int .i64 q.s] 31)
  have HF := Lib.hid (find16_any u X L v q.c _ (h.keep hb))
  have HK := Lib.hid (h.keep hb)
  have HB := Lib.hid hb
  have HU := Lib.hid (heap_alloc_new w (.cells #[.string q.c, .int .i64 q.w, .int .i64 q.n, .int .i64 q.s] 31))
  have HVH := Lib.hid (show v.ownBlock ≠ some w.heap.size from fun hg => by have := (h.own.lt _ hg).2; omega)
  have HSZ := Lib.hid (show q.c.size ≤ 281474976710656 from Nat.le_trans hq.c32 (by decide))
  have HUX := Lib.hid h.uX
  have HXW := Lib.hid (block_lt (a := ⟨X, 0, none⟩) h.cell)
  have HOK2 := Lib.hid (show BkOk (outU L q.w ++ [q]) from by
    have := put_ok h.ok hq (Or.inr (Or.inr ha))
    unfold putU at this
    rw [hf, if_neg (by decide), if_neg hl] at this
    exact this)
  obtain ⟨g, cp, hv, _⟩ := HK.out.own.lies (by omega)
  subst hv
  obtain ⟨_, _, hvs, hli⟩ := HK.out.own.slice
  injection hvs with hv1 _ hv3
  subst hv1 hv3
  have HIX := Lib.hid (index16_any (some ⟨g, 0, none⟩) cp L q.w w.heap.size _ hli (us_cells HU.out).2.1 (by have := h.ok.few; omega))
  have hcell := HK.out.cell
  have hd : decide ((16 : Int) ≤ ((L.length : Nat) : Int)) = true := decide_eq_true (by omega)
  clear h hb hli
  go_enter Try.func32, Try.ntmps32
  go_wp2_with fail
  refine HF.out.mono ?_
  rintro e w1 ⟨p, rfl, hp, rfl⟩
  clear HF
  rcases hp with ⟨rfl, _⟩ | ⟨k, g, cc, hk, rfl, hv, hn⟩
  · obtain ⟨d0, d1, d2, d3⟩ := us_cells HU.out
    go_wp2_with fail
    refine HIX.out.mono ?_
    rintro e w2 ⟨i, rfl, hi, hb2⟩
    clear HIX
    rcases hi with ⟨_, hi⟩ | ⟨k, hk, rfl, h1, h2⟩
    · exfalso
      rw [any_none hi] at ha
      cases ha
    · have HOU := Lib.hid (out_at hk h1 h2)
      have HB2 := Lib.hid (HB.out.trans (hb2.mono HB.out.size))
      have HK2 := Lib.hid (HK.out.keep hb2)
      have HU2 := Lib.hid ((hb2.block _ (Array.getElem?_eq_some_iff.1 HU.out).1).trans HU.out)
      have hcell2 := HK2.out.cell
      have hki : ¬ (k : Int) < 0 := by omega
      have hk16 : (k : Int) ≤ 16 := by have := HK.out.ok.few; omega
      have HDE := Lib.hid (delete16_any w2 u.heap.size g cp L k hk HK2.out.own)
      clear hb2 hcell d0 d1 d2 d3 h1 h2 ha
      go_wp2_with fail
      refine HDE.out.mono ?_
      rintro e w3 ⟨rfl, ho3, hc3⟩
      have HRB := Lib.hid (HK2.out.out1 hk ho3 hc3 HOU.out)
      have hgX : X ≠ g := (HK2.out.ne g rfl).symm
      have hcell3 := (hc3.cell (o := 0) (block_lt (a := ⟨X, 0, none⟩) hcell2) hgX).trans hcell2
      have hfroz3 := (hc3.frozen (o := 0) (block_lt (a := ⟨X, 0, none⟩) hcell2) hgX).trans HK2.out.froz
      have hHX : w.heap.size ≠ X := by have := HXW.out; omega
      have hHg : w.heap.size ≠ g := fun e => HVH.out (by rw [e]; rfl)
      have HU3 := Lib.hid (show (w3.setCell ⟨X, 0, none⟩ (.slice (some ⟨g, 0, none⟩) (L.length - 1) cp)).heap[w.heap.size]? = some (.cells #[.string q.c, .int .i64 q.w, .int .i64 q.n, .int .i64 q.s] 31) from
        (Below.heap_setCell w3 ⟨X, 0, none⟩ _ _ hHX).trans ((hc3.block _ (Array.getElem?_eq_some_iff.1 HU2.out).1 hHg).trans HU2.out))
      have HCS := Lib.hid (show ChgS (fun j => j = X ∨ (Value.slice (some ⟨g, 0, none⟩) L.length cp).ownBlock = some j) w (w3.setCell ⟨X, 0, none⟩ (.slice (some ⟨g, 0, none⟩) (L.length - 1) cp)) from
        ((ChgS.of_below HB2.out).trans (ChgS.of_chg hc3 (Or.inr rfl))).setCell (a := ⟨X, 0, none⟩) (Or.inl rfl) _)
      have HHV := Lib.hid (show (Value.slice (some ⟨g, 0, none⟩) (L.length - 1) cp).ownBlock ≠ some w.heap.size from fun e => HVH.out e)
      clear HDE ho3 hc3
      have hfrozX := hfroz3
      have hu := us_cells HU3.out
      go_wp2_with fail
      have HJ := Lib.hid (JA.start (na := 8) (nb := 7) HRB.out HU3.out)
      generalize w3.setCell ⟨X, 0, none⟩ (.slice (some ⟨g, 0, none⟩) (L.length - 1) cp) = W0 at *
      obtain ⟨v', hv'⟩ : ∃ v', v' = Value.slice (some ⟨g, 0, none⟩) (L.length - 1) cp := ⟨_, rfl⟩
      rw [← hv'] at HJ HHV
      have HOB := Lib.hid (show v'.ownBlock = (Value.slice (some ⟨g, 0, none⟩) L.length cp).ownBlock by rw [hv']; rfl)
      clear hv' HRB hcell2 hcell3 hfroz3 hfrozX
      obtain ⟨L', hL'⟩ : ∃ L', L' = outU L q.w := ⟨_, rfl⟩
      rw [← hL'] at HJ HOK2
      have HLL := Lib.hid hL'
      clear hL'
      generalize hH : w.heap.size = H at *
      refine ord.wp_region_ordZ (JA u W0 X L' v' q H 8 7) 11 [[], [], [1], [2], [3], [], [5], [6], [4, 7], [0], [9]] [(0, 53), (1, 54), (2, 55), (3, 56), (4, 57), (5, 58), (6, 59), (7, 60), (8, 61), (9, 62), (10, 63)] (apC X v' q) (by kernel_rfl) (by kernel_rfl) (by kernel_rfl) (ord.steps_cons ?_ (ord.steps_cons ?_ (ord.steps_cons ?_ (ord.steps_cons ?_ (ord.steps_cons ?_ (ord.steps_cons ?_ (ord.steps_cons ?_ (ord.steps_cons ?_ (ord.steps_cons ?_ (ord.steps_cons ?_ (ord.steps_cons ?_ ord.steps_nil))))))))))) HJ.out ?_
      · intro o ho x c w hj hc hG
        obtain rfl := Option.some.inj ho
        clear ho
        refine Or.inl ⟨ord.want0 rfl, ?_⟩
        exact ord.makes_move rfl ⟨hj.keep (by decide) (by decide) _, rfl⟩
      · intro o ho x c w hj hc hG
        obtain rfl := Option.some.inj ho
        clear ho
        refine Or.inl ⟨ord.want0 rfl, ?_⟩
        exact ord.makes_move rfl ⟨hj.keep (by decide) (by decide) _, rfl⟩
      · intro o ho x c w hj hc hG
        obtain rfl := Option.some.inj ho
        clear ho
        have h1 : x 1 = .pointer (some ⟨X, 0, none⟩) := (hG (1, 54) (List.mem_of_getElem? (i := 1) rfl) rfl).2
        refine Or.inl ⟨ord.want0 rfl, ?_⟩
        exact ord.makes_nilCheck rfl h1 ⟨hj.keep (by decide) (by decide) _, rfl⟩
      · intro o ho x c w hj hc hG
        obtain rfl := Option.some.inj ho
        clear ho
        have h2 : x 2 = .pointer (some ⟨X, 0, none⟩) := (hG (2, 55) (List.mem_of_getElem? (i := 2) rfl) rfl).2
        refine Or.inl ⟨ord.want0 rfl, ?_⟩
        exact ord.makes_fieldAddr rfl h2 (run_fbB X w) ⟨hj.keep (by decide) (by decide) _, rfl⟩
      · intro o ho x c w hj hc hG
        obtain rfl := Option.some.inj ho
        clear ho
        have h3 : x 3 = .pointer (some ⟨X, 0, none⟩) := (hG (3, 56) (List.mem_of_getElem? (i := 3) rfl) rfl).2
        refine Or.inl ⟨ord.want0 rfl, ?_⟩
        exact ord.makes_ld rfl h3 (run_ldV _ _ w hj.cell) ⟨hj.keep (by decide) (by decide) _, rfl⟩
      · intro o ho x c w hj hc hG
        obtain rfl := Option.some.inj ho
        clear ho
        refine Or.inl ⟨ord.want0 rfl, ?_⟩
        exact ord.makes_ld rfl rfl (run_ldU _ _ w hj.box) ⟨hj.keep (by decide) (by decide) _, rfl⟩
      · intro o ho x c w hj hc hG
        obtain rfl := Option.some.inj ho
        clear ho
        have h5 : x 5 = .agg #[.string q.c, .int .i64 q.w, .int .i64 q.n, .int .i64 q.s] := (hG (5, 58) (List.mem_of_getElem? (i := 5) rfl) rfl).2
        refine Or.inl ⟨ord.want0 rfl, ?_⟩
        exact ord.makes_call1 Try.func24 (by kernel_rfl) (by kernel_rfl) rfl h5 (copyof16_any q.c q.w q.n q.s w HSZ.out) (fun e w' h => ⟨_, h.1, (hj.below h.2).keep (by decide) (by decide) _, rfl⟩)
      · intro o ho x c w hj hc hG
        obtain rfl := Option.some.inj ho
        clear ho
        have h6 : x 6 = .agg #[.string q.c, .int .i64 q.w, .int .i64 q.n, .int .i64 q.s] := (hG (6, 59) (List.mem_of_getElem? (i := 6) rfl) rfl).2
        refine Or.inl ⟨ord.want0 rfl, ?_⟩
        exact ord.makes_build1 rfl h6 (run_lit1 q w) ⟨hj.build (by decide), trivial⟩
      · intro o ho x c w hj hc hG
        obtain rfl := Option.some.inj ho
        clear ho
        have h4 : x 4 = v' := (hG (4, 57) (List.mem_of_getElem? (i := 4) rfl) rfl).2
        have h7 := (hG (7, 60) (List.mem_of_getElem? (i := 7) rfl) rfl).1
        refine Or.inl ⟨ord.want0 rfl, ?_⟩
        obtain ⟨y, w', hr, hj'⟩ := hj.append hc h7 HHV.out
        exact makes_app rfl rfl h4 rfl hr ⟨hj', trivial⟩
      · intro o ho x c w hj hc hG
        obtain rfl := Option.some.inj ho
        clear ho
        have h0 : x 0 = .pointer (some ⟨X, 0, none⟩) := (hG (0, 53) (List.mem_of_getElem? (i := 0) rfl) rfl).2
        refine Or.inl ⟨ord.want0 rfl, ?_⟩
        exact ord.makes_nilCheck rfl h0 ⟨hj.keep (by decide) (by decide) _, rfl⟩
      · intro o ho x c w hj hc hG
        obtain rfl := Option.some.inj ho
        clear ho
        have h9 : x 9 = .pointer (some ⟨X, 0, none⟩) := (hG (9, 62) (List.mem_of_getElem? (i := 9) rfl) rfl).2
        refine Or.inl ⟨ord.want0 rfl, ?_⟩
        exact ord.makes_fieldAddr rfl h9 (run_fbB X w) ⟨hj.keep (by decide) (by decide) _, rfl⟩
      · intro x c w5 hj hG
        have g8 := (hG (8, 61) (List.mem_of_getElem? (i := 8) rfl)).1
        have e10 : x 10 = .pointer (some ⟨X, 0, none⟩) := (hG (10, 63) (List.mem_of_getElem? (i := 10) rfl)).2
        clear hG
        simp only [ord.puts, ord.put', List.set_cons_zero, List.set_cons_succ, if_true]
        rw [e10]
        simp only [List.drop_succ_cons, List.drop_zero]
        have hcell := hj.cell
        have hfroz := hj.froz
        obtain ⟨yA, yc, hye, _⟩ := (hj.post _ g8).1.cap_le
        rw [show (L' ++ [q]).length = L'.length + 1 from List.length_append] at hye
        have HD := Lib.hid (hj.done g8 HUX.out HOK2.out)
        clear hj g8 e10 HJ
        rw [hye] at HD ⊢
        clear hye
        go_wp2_with fail
        go_ret
        exact ⟨rfl, RkS.chain HCS.out HOB.out (by rw [← HLL.out]; exact HD.out)⟩
  · rw [hn] at hf; cases hf
def ptE (L : List Us) (q : Us) : Int := if (fndU L q.c).isSome = true then 0 else if L.length < 16 then 0 else if (L.any fun v => decide (v.w ≠ q.w)) = true then 0 else 14
def ptN (L : List Us) (q : Us) : List Us := if ptE L q = 0 then putU L q else L
theorem put16_any (u : World) (X : Nat) (L : List Us) (v : Value) (q : Us) (w : World) (h : RBk u X w L v) (hq : UsOk q) :
    Calls Try.prog 32 #[.pointer (some ⟨X, 0, none⟩), .agg #[.string q.c, .int .i64 q.w, .int .i64 q.n, .int .i64 q.s]] w fun e w' => e = .returned (.int .i64 (ptE L q)) ∧ RkS u X w v w' (ptN L q) := by
  cases hf : (fndU L q.c).isSome with
  | true =>
    have e : ptE L q = 0 := by unfold ptE; rw [if_pos hf]
    have n : ptN L q = setU L q := by unfold ptN putU; rw [if_pos e, if_pos hf]
    rw [e, n]
    exact put16_a u X L v q w h hq hf
  | false =>
    have hf' : ¬ (fndU L q.c).isSome = true := by rw [hf]; decide
    have hn : fndU L q.c = none := by
      cases hh : fndU L q.c with
      | none => rfl
      | some x => rw [hh] at hf; cases hf
    by_cases hl : L.length < 16
    · have e : ptE L q = 0 := by unfold ptE; rw [if_neg hf', if_pos hl]
      have n : ptN L q = L ++ [q] := by unfold ptN putU; rw [if_pos e, if_neg hf', if_pos hl]
      rw [e, n]
      exact put16_b u X L v q w h hq hn hl
    · cases ha : (L.any fun v => decide (v.w ≠ q.w)) with
      | true =>
        have e : ptE L q = 0 := by unfold ptE; rw [if_neg hf', if_neg hl, if_pos ha]
        have n : ptN L q = outU L q.w ++ [q] := by unfold ptN putU; rw [if_pos e, if_neg hf', if_neg hl]
        rw [e, n]
        exact put16_c u X L v q w h hq hn hl ha
      | false =>
        have e : ptE L q = 14 := by unfold ptE; rw [if_neg hf', if_neg hl, if_neg (by rw [ha]; decide)]
        have n : ptN L q = L := by unfold ptN; rw [if_neg (by rw [e]; decide)]
        rw [e, n]
        refine put16_d u X L v q w h hn hl fun j hj => ?_
        have := List.any_eq_false.1 ha _ (List.getElem_mem hj)
        simpa using this
end Go.Proofs.Ytbcanfhjdllaoaa
