/- The document's New, Restore (layer 16). Written by sh/mkr16.sh (specs/mkref16v.py, mkapp.py). -/
import Derived.Test.YtbcanfhjdllaoaaLimR
namespace Go.Proofs.Ytbcanfhjdllaoaa
set_option maxRecDepth 100000
open Go.RowKit
theorem rnew16_any (u w : World) (hb : Below u.heap.size u w) : Calls Try.prog 13 #[] w fun e w' => ∃ G, e = .returned (.pointer (some ⟨G, 0, none⟩)) ∧ RBk u G w' [] (.slice none 0 0) ∧ w.heap.size ≤ G ∧ Below w.heap.size w w' := by
  have HB := Lib.hid hb
  clear hb
  go_enter Try.func13, Try.ntmps13
  go_wp2_with fail
  go_ret
  refine ⟨_, rfl, ⟨?_, HB.out.size, ?_, ?_, OwL.nil _ _ _, (fun g hg => by cases hg), BkOk.nil⟩, Nat.le_refl _, alloc_below _ _⟩
  · exact HB.out.trans ((alloc_below w _).mono HB.out.size)
  · exact (World.cell?_alloc_at _ _ _ _ rfl).trans rfl
  · exact World.frozen?_alloc_at _ _ _ _ rfl
set_option maxHeartbeats 6400000 in
theorem rres16_any (u : World) (A : Option Addr) (cp : Nat) (F : List Us) (w : World) (hb : Below u.heap.size u w) (hF : LiS usE w A F) (hl : F.length ≤ 140737488355328) (hw : ∀ x ∈ F, x.w ≤ 9223372036854775807) :
    Calls Try.prog 11 #[.slice A F.length cp] w fun e w' => Below w.heap.size w w' ∧ ((BkOk F ∧ ∃ G v, e = .returned (.tuple #[.pointer (some ⟨G, 0, none⟩), .int .i64 0]) ∧ RBk u G w' F v ∧ ∀ k, (k = G ∨ v.ownBlock = some k) → w.heap.size ≤ k) ∨ (¬ BkOk F ∧ e = .returned (.tuple #[.pointer none, .int .i64 1]))) := by
  by_cases h16 : F.length ≤ 16
  · have h16i : ¬ (16 : Int) < F.length := by omega
    have HF := Lib.hid hF
    have H16 := Lib.hid h16
    have HWF := Lib.hid hw
    obtain ⟨X, hXd⟩ : ∃ X, X = w.heap.size := ⟨_, rfl⟩
    have HR := Lib.hid (show RBk u X (w.alloc (.cells #[.slice none 0 0] 45)) [] (.slice none 0 0) from by
      subst hXd
      exact ⟨hb.trans ((alloc_below w _).mono hb.size), hb.size, (World.cell?_alloc_at _ _ _ _ rfl).trans rfl, World.frozen?_alloc_at _ _ _ _ rfl, OwL.nil _ _ _, (fun g hg => by cases hg), BkOk.nil⟩)
    have HB1 := Lib.hid (alloc_below w (.cells #[.slice none 0 0] 45))
    have HX := Lib.hid (show w.heap.size ≤ X by omega)
    have HUX := Lib.hid (show u.heap.size ≤ X by rw [hXd]; exact hb.size)
    have HXD := Lib.hid hXd
    clear hb hF hl h16 hw hXd
    go_enter Try.func11, Try.ntmps11
    go_wp2_with fail
    rw [← HXD.out]
    go_loopw [5] (fun i wr => ∃ (k : Nat) (v : Value), k ≤ F.length ∧ i = .int .i64 k ∧ RBk u X wr (F.take k) v ∧ (∀ g, v.ownBlock = some g → w.heap.size ≤ g) ∧ Below w.heap.size w wr) (fun i _ => F.length - (intOf i).toNat)
    case atStart => exact ⟨0, _, Nat.zero_le _, rfl, HR.out, (fun g hg => by cases hg), HB1.out⟩
    case round =>
      obtain ⟨k, v, hk, rfl, hr, hv, hb⟩ := hrel
      have HVW := Lib.hid hv
      clear hv
      have HRB := Lib.hid hr
      have HB := Lib.hid hb
      clear hr hb HR HB1
      by_cases hlt : k < F.length
      · have hki : (k : Int) < F.length := by omega
        have hk16 : (k : Int) ≤ 16 := by have := H16.out; omega
        obtain ⟨B, o, rfl, hBl, c0, c1, c2, c3⟩ := us_at (HF.out.keep HB.out) hlt
        have HTK := Lib.hid (show F.take (k + 1) = F.take k ++ [F[k]] from by rw [List.take_add_one, List.getElem?_eq_getElem hlt]; rfl)
        have HNX := Lib.hid (fun ok hn => bk_next hlt H16.out HRB.out.ok ok hn)
        have HTW := Lib.hid (fun y (hn : fndU (F.take k) F[k].c = some y) => bk_twice hlt hn)
        have HEA := Lib.hid (show BkOk F → UsOk F[k] from fun h => h.each _ (List.getElem_mem hlt))
        have HWB := Lib.hid (HWF.out _ (List.getElem_mem hlt))
        generalize F[k] = q at *
        have hu := heap_alloc_new wr (.cells #[.string q.c, .int .i64 q.w, .int .i64 q.n, .int .i64 q.s] 31)
        have hb2 := alloc_below wr (.cells #[.string q.c, .int .i64 q.w, .int .i64 q.n, .int .i64 q.s] 31)
        have HU := Lib.hid hu
        have HB2 := Lib.hid (HB.out.trans (hb2.mono HB.out.size))
        have HK2 := Lib.hid (HRB.out.keep hb2)
        have HHV := Lib.hid (show v.ownBlock ≠ some wr.heap.size from fun hg => by have := (HRB.out.own.lt _ hg).2; omega)
        have HAT := Lib.hid (rat16_any u X (F.take k) v q.c _ HK2.out)
        clear hu hb2 HRB
        generalize hH : wr.heap.size = H at *
        obtain ⟨u0, u1, u2, u3⟩ := us_cells HU.out
        go_wp2_with fail
        refine HAT.out.mono ?_
        rintro e w3 ⟨p, rfl, hp, rfl⟩
        clear HAT
        rcases hp with ⟨rfl, hf⟩ | ⟨kk, hkk, rfl, hf⟩
        · skip
          by_cases h0 : q.c.size = 0
          · have HNO := Lib.hid (show ¬ BkOk F from fun hbk => by
              have h := HEA.out hbk
              have := h.c1; omega)
            have e1 := nil_of_size h0
            clear HNX HTW HEA
            go_wp2_with fail
            go_ret2
            exact ⟨HB2.out, Or.inr ⟨HNO.out, rfl⟩⟩
          have e1 := not_nil (c := q.c) (by omega)
          have e2 := toList_of_size (s := q.c) (by omega)
          by_cases h1 : 32 < q.c.size
          · have HNO := Lib.hid (show ¬ BkOk F from fun hbk => by
              have h := HEA.out hbk
              have := h.c32; omega)
            have d1 : decide ((32 : Int) < ((q.c.size : Nat) : Int)) = true := decide_eq_true (by omega)
            clear HNX HTW HEA
            go_wp2_with fail
            go_ret2
            exact ⟨HB2.out, Or.inr ⟨HNO.out, rfl⟩⟩
          have d1 : decide ((32 : Int) < ((q.c.size : Nat) : Int)) = false := decide_eq_false (by omega)
          by_cases h2 : q.w < 0
          · have HNO := Lib.hid (show ¬ BkOk F from fun hbk => by
              have h := HEA.out hbk
              have := h.w0; omega)
            have d2 : decide (q.w < 0) = true := decide_eq_true (by omega)
            clear HNX HTW HEA
            go_wp2_with fail
            go_ret2
            exact ⟨HB2.out, Or.inr ⟨HNO.out, rfl⟩⟩
          have d2 : decide (q.w < 0) = false := decide_eq_false (by omega)
          by_cases h3 : q.n < 0
          · have HNO := Lib.hid (show ¬ BkOk F from fun hbk => by
              have h := HEA.out hbk
              have := h.n0; omega)
            have d3 : decide (q.n < 0) = true := decide_eq_true (by omega)
            clear HNX HTW HEA
            go_wp2_with fail
            go_ret2
            exact ⟨HB2.out, Or.inr ⟨HNO.out, rfl⟩⟩
          have d3 : decide (q.n < 0) = false := decide_eq_false (by omega)
          by_cases h4 : q.s < 0
          · have HNO := Lib.hid (show ¬ BkOk F from fun hbk => by
              have h := HEA.out hbk
              have := h.s0; omega)
            have d4 : decide (q.s < 0) = true := decide_eq_true (by omega)
            clear HNX HTW HEA
            go_wp2_with fail
            go_ret2
            exact ⟨HB2.out, Or.inr ⟨HNO.out, rfl⟩⟩
          have d4 : decide (q.s < 0) = false := decide_eq_false (by omega)
          by_cases h5 : 1125899906842624 < q.n
          · have HNO := Lib.hid (show ¬ BkOk F from fun hbk => by
              have h := HEA.out hbk
              have := h.nB; omega)
            have d5 : decide (1125899906842624 < q.n) = true := decide_eq_true (by omega)
            clear HNX HTW HEA
            go_wp2_with fail
            go_ret2
            exact ⟨HB2.out, Or.inr ⟨HNO.out, rfl⟩⟩
          have d5 : decide (1125899906842624 < q.n) = false := decide_eq_false (by omega)
          by_cases h6 : 1125899906842624 < q.s
          · have HNO := Lib.hid (show ¬ BkOk F from fun hbk => by
              have h := HEA.out hbk
              have := h.sB; omega)
            have d6 : decide (1125899906842624 < q.s) = true := decide_eq_true (by omega)
            clear HNX HTW HEA
            go_wp2_with fail
            go_ret2
            exact ⟨HB2.out, Or.inr ⟨HNO.out, rfl⟩⟩
          have d6 : decide (1125899906842624 < q.s) = false := decide_eq_false (by omega)
          have HUO := Lib.hid (show UsOk q from ⟨by omega, by omega, by omega, by omega, by omega, by omega, by omega, HWB.out⟩)
          have HOK2 := Lib.hid (HNX.out HUO.out hf)
          obtain ⟨L', hL'⟩ : ∃ L', L' = F.take k := ⟨_, rfl⟩
          rw [← hL'] at HK2 HOK2 HTK
          have HJ := Lib.hid (JA.start (na := 7) (nb := 6) HK2.out HU.out)
          clear hL' HNX HTW HEA hf
          go_wp2_with fail
          clear c0 c1 c2 c3 d1 d2 d3 d4 d5 d6 e1 e2
          generalize wr.alloc (.cells #[.string q.c, .int .i64 q.w, .int .i64 q.n, .int .i64 q.s] 31) = W0 at *
          refine ord.wp_region_ordZ (JA u W0 X L' v q H 7 6) 10 [[], [], [1], [2], [3], [], [5], [4, 6], [0], [8]] [(0, 63), (1, 64), (2, 65), (3, 66), (4, 67), (5, 68), (6, 69), (7, 70), (8, 71), (9, 72)] (apR X v q) (by kernel_rfl) (by kernel_rfl) (by kernel_rfl) (ord.steps_cons ?_ (ord.steps_cons ?_ (ord.steps_cons ?_ (ord.steps_cons ?_ (ord.steps_cons ?_ (ord.steps_cons ?_ (ord.steps_cons ?_ (ord.steps_cons ?_ (ord.steps_cons ?_ (ord.steps_cons ?_ ord.steps_nil)))))))))) HJ.out ?_
          · intro o ho x c w hj hc hG
            obtain rfl := Option.some.inj ho
            clear ho
            refine Or.inl ⟨ord.want0 rfl, ?_⟩
            exact ord.makes_move rfl ⟨hj.keep (by decide) (by decide) _, rfl⟩
          · intro o ho x c w hj hc hG
            obtain rfl := Option.some.inj ho
            clear ho
            refine Or.inl ⟨ord.want0 rfl, ?_⟩
            exact ord.makes_move rfl ⟨hj.keep (by decide) (by decide) _, rfl⟩
          · intro o ho x c w hj hc hG
            obtain rfl := Option.some.inj ho
            clear ho
            have h1 : x 1 = .pointer (some ⟨X, 0, none⟩) := (hG (1, 64) (List.mem_of_getElem? (i := 1) rfl) rfl).2
            refine Or.inl ⟨ord.want0 rfl, ?_⟩
            exact ord.makes_nilCheck rfl h1 ⟨hj.keep (by decide) (by decide) _, rfl⟩
          · intro o ho x c w hj hc hG
            obtain rfl := Option.some.inj ho
            clear ho
            have h2 : x 2 = .pointer (some ⟨X, 0, none⟩) := (hG (2, 65) (List.mem_of_getElem? (i := 2) rfl) rfl).2
            refine Or.inl ⟨ord.want0 rfl, ?_⟩
            exact ord.makes_fieldAddr rfl h2 (run_fbR X w) ⟨hj.keep (by decide) (by decide) _, rfl⟩
          · intro o ho x c w hj hc hG
            obtain rfl := Option.some.inj ho
            clear ho
            have h3 : x 3 = .pointer (some ⟨X, 0, none⟩) := (hG (3, 66) (List.mem_of_getElem? (i := 3) rfl) rfl).2
            refine Or.inl ⟨ord.want0 rfl, ?_⟩
            exact ord.makes_ld rfl h3 (run_ldV _ _ w hj.cell) ⟨hj.keep (by decide) (by decide) _, rfl⟩
          · intro o ho x c w hj hc hG
            obtain rfl := Option.some.inj ho
            clear ho
            refine Or.inl ⟨ord.want0 rfl, ?_⟩
            exact ord.makes_ld rfl rfl (run_ldU _ _ w hj.box) ⟨hj.keep (by decide) (by decide) _, rfl⟩
          · intro o ho x c w hj hc hG
            obtain rfl := Option.some.inj ho
            clear ho
            have h5 : x 5 = .agg #[.string q.c, .int .i64 q.w, .int .i64 q.n, .int .i64 q.s] := (hG (5, 68) (List.mem_of_getElem? (i := 5) rfl) rfl).2
            refine Or.inl ⟨ord.want0 rfl, ?_⟩
            exact ord.makes_build1 rfl h5 (run_lit1 q w) ⟨hj.build (by decide), trivial⟩
          · intro o ho x c w hj hc hG
            obtain rfl := Option.some.inj ho
            clear ho
            have h4 : x 4 = v := (hG (4, 67) (List.mem_of_getElem? (i := 4) rfl) rfl).2
            have h6 := (hG (6, 69) (List.mem_of_getElem? (i := 6) rfl) rfl).1
            refine Or.inl ⟨ord.want0 rfl, ?_⟩
            obtain ⟨y, w', hr, hj'⟩ := hj.append hc h6 HHV.out
            exact makes_app rfl rfl h4 rfl hr ⟨hj', trivial⟩
          · intro o ho x c w hj hc hG
            obtain rfl := Option.some.inj ho
            clear ho
            have h0 : x 0 = .pointer (some ⟨X, 0, none⟩) := (hG (0, 63) (List.mem_of_getElem? (i := 0) rfl) rfl).2
            refine Or.inl ⟨ord.want0 rfl, ?_⟩
            exact ord.makes_nilCheck rfl h0 ⟨hj.keep (by decide) (by decide) _, rfl⟩
          · intro o ho x c w hj hc hG
            obtain rfl := Option.some.inj ho
            clear ho
            have h8 : x 8 = .pointer (some ⟨X, 0, none⟩) := (hG (8, 71) (List.mem_of_getElem? (i := 8) rfl) rfl).2
            refine Or.inl ⟨ord.want0 rfl, ?_⟩
            exact ord.makes_fieldAddr rfl h8 (run_fbR X w) ⟨hj.keep (by decide) (by decide) _, rfl⟩
          · intro x c w5 hj hG
            have g7 := (hG (7, 70) (List.mem_of_getElem? (i := 7) rfl)).1
            have e9 : x 9 = .pointer (some ⟨X, 0, none⟩) := (hG (9, 72) (List.mem_of_getElem? (i := 9) rfl)).2
            clear hG
            simp only [ord.puts, ord.put', List.set_cons_zero, List.set_cons_succ, if_true]
            rw [e9]
            simp only [List.drop_succ_cons, List.drop_zero]
            have hcell := hj.cell
            have hfroz := hj.froz
            obtain ⟨yA, yc, hye, _⟩ := (hj.post _ g7).1.cap_le
            rw [show (L' ++ [q]).length = L'.length + 1 from List.length_append] at hye
            have HD := Lib.hid (hj.done g7 HUX.out HOK2.out)
            clear hj g7 e9 HJ
            rw [hye] at HD ⊢
            clear hye
            go_wp2_with fail
            go_roundw
            case rel =>
              obtain ⟨v2, r1, r2, r3⟩ := HD.out
              rw [← HTK.out] at r1
              refine ⟨k + 1, v2, by omega, by go_num, r1, fun g hg => ?_, HB2.out.trans (r2.below HB2.out.size fun j hj => ?_)⟩
              · rcases r3 g hg with h | h
                · exact HVW.out g h
                · exact Nat.le_trans HB2.out.size h
              · rcases hj with rfl | hj
                · exact HX.out
                · exact HVW.out j hj
            case measure => simp [intOf]; omega
        · have hkd : decide ((0 : Int) ≤ kk) = true := decide_eq_true (by omega)
          have HNO := Lib.hid (HTW.out _ hf)
          clear HNX HTW HEA
          go_wp2_with fail
          go_ret2
          exact ⟨HB2.out, Or.inr ⟨HNO.out, rfl⟩⟩
      · obtain rfl : k = F.length := by omega
        rw [List.take_length] at HRB
        have HE := HRB.out.ok
        go_wp2_with fail
        go_ret2
        exact ⟨HB.out, Or.inl ⟨HE, X, v, rfl, HRB.out, fun j hj => hj.elim (fun e => e ▸ HX.out) (HVW.out j)⟩⟩
  · have h16i : (16 : Int) < F.length := by omega
    have HNO := Lib.hid (show ¬ BkOk F from fun h => h16 h.few)
    have HBL := Lib.hid (alloc_below w (.cells #[.slice none 0 0] 45))
    clear hb hF hl h16 hw
    go_enter Try.func11, Try.ntmps11
    go_wp2_with fail
    go_ret2
    exact ⟨HBL.out, Or.inr ⟨HNO.out, rfl⟩⟩
end Go.Proofs.Ytbcanfhjdllaoaa
