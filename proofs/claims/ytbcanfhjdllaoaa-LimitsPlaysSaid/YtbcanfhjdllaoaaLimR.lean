/- Layer 16, the code: Restore. Written by sh/expand.py out of specs/XLimR.raw. -/
import Derived.Test.YtbcanfhjdllaoaaLimL
namespace Go.Proofs.Ytbcanfhjdllaoaa
set_option maxRecDepth 100000
open Go.RowKit
/-- the next use of a row that may be -/
theorem bk_next {F : List Us} {k : Nat} (hk : k < F.length) (h16 : F.length ≤ 16) (h : BkOk (F.take k)) (ok : UsOk F[k]) (hn : fndU (F.take k) F[k].c = none) : BkOk (F.take k ++ [F[k]]) := by
  have := put_ok h ok (Or.inr (Or.inl (by rw [List.length_take]; omega)))
  unfold putU at this
  rw [hn, if_neg (by decide), if_pos (by rw [List.length_take]; omega)] at this
  exact this
theorem bk_twice {F : List Us} {k : Nat} (hk : k < F.length) {y : Us} (hn : fndU (F.take k) F[k].c = some y) : ¬ BkOk F := fun h => by
  obtain ⟨h1, h2⟩ := fnd_mem hn
  obtain ⟨j, hj, rfl⟩ := List.getElem_of_mem h1
  rw [List.length_take] at hj
  rw [List.getElem_take] at h2
  have := h.apart
  rw [List.pairwise_iff_getElem] at this
  exact this j k (by omega) hk (by omega) h2
set_option maxHeartbeats 6400000 in
theorem cres16_any (u : World) (A : Option Addr) (cp : Nat) (F : List Us) (w : World) (hb : Below u.heap.size u w) (hF : LiS usE w A F) (hl : F.length ≤ 140737488355328) :
    Calls Try.prog 9 #[.slice A F.length cp] w fun e w' => Below w.heap.size w w' ∧ ((BkOk F ∧ ∃ G v, e = .returned (.tuple #[.pointer (some ⟨G, 0, none⟩), .int .i64 0]) ∧ RBk u G w' F v ∧ ∀ k, (k = G ∨ v.ownBlock = some k) → w.heap.size ≤ k) ∨ (¬ BkOk F ∧ e = .returned (.tuple #[.pointer none, .int .i64 1]))) := by
  by_cases h16 : F.length ≤ 16
  · have h16i : ¬ (16 : Int) < F.length := by omega
    have HN := Lib.hid (cnew16_any u w hb)
    have HF := Lib.hid hF
    have H16 := Lib.hid h16
    clear hb hF hl h16
    go_enter Try.func9, Try.ntmps9
    go_wp2_with fail
    refine HN.out.mono ?_
    rintro e w1 ⟨X, rfl, hr, hX, hb1⟩
    have HR := Lib.hid hr
    have HX := Lib.hid hX
    have HB1 := Lib.hid hb1
    have HUX := Lib.hid hr.uX
    clear hr hX hb1 HN
    go_wp2_with fail
    go_loopw [13] (fun i wr => ∃ (k : Nat) (v : Value), k ≤ F.length ∧ i = .int .i64 k ∧ RBk u X wr (F.take k) v ∧ (∀ g, v.ownBlock = some g → w.heap.size ≤ g) ∧ Below w.heap.size w wr) (fun i _ => F.length - (intOf i).toNat)
    case atStart => exact ⟨0, _, Nat.zero_le _, rfl, HR.out, (fun g hg => by cases hg), HB1.out⟩
    case round =>
      obtain ⟨k, v, hk, rfl, hr, hv, hb⟩ := hrel
      have HVW := Lib.hid hv
      clear hv
      have HRB := Lib.hid hr
      have HB := Lib.hid hb
      clear hr hb HR HB1
      by_cases hlt : k < F.length
      · have hki : (k : Int) < F.length := by omega
        have hk16 : (k : Int) ≤ 16 := by have := H16.out; omega
        obtain ⟨B, o, rfl, hBl, c0, c1, c2, c3⟩ := us_at (HF.out.keep HB.out) hlt
        have HTK := Lib.hid (show F.take (k + 1) = F.take k ++ [F[k]] from by rw [List.take_add_one, List.getElem?_eq_getElem hlt]; rfl)
        have HNX := Lib.hid (fun ok hn => bk_next hlt H16.out HRB.out.ok ok hn)
        have HTW := Lib.hid (fun y (hn : fndU (F.take k) F[k].c = some y) => bk_twice hlt hn)
        have HEA := Lib.hid (show BkOk F → UsOk F[k] from fun h => h.each _ (List.getElem_mem hlt))
        have HIS := Lib.hid (fun W => isuse_any F[k].c F[k].w F[k].n F[k].s W)
        generalize F[k] = q at *
        have hqe : (⟨q.c, q.w, q.n, q.s⟩ : Us) = q := rfl
        rw [hqe] at HIS
        clear hqe
        have hu := heap_alloc_new wr (.cells #[.string q.c, .int .i64 q.w, .int .i64 q.n, .int .i64 q.s] 31)
        have hb2 := alloc_below wr (.cells #[.string q.c, .int .i64 q.w, .int .i64 q.n, .int .i64 q.s] 31)
        have HU := Lib.hid hu
        have HB2 := Lib.hid (HB.out.trans (hb2.mono HB.out.size))
        have HK2 := Lib.hid (HRB.out.keep hb2)
        have HHV := Lib.hid (show v.ownBlock ≠ some wr.heap.size from fun hg => by have := (HRB.out.own.lt _ hg).2; omega)
        clear hu hb2 HRB
        generalize hH : wr.heap.size = H at *
        cases hus : usK q with
        | false =>
          rw [hus] at HIS
          have HNO := Lib.hid (show ¬ BkOk F from fun h => by
            have := us_iff.2 (HEA.out h)
            rw [hus] at this; cases this)
          clear hus HEA HTW HNX HTK
          go_wp2_with fail
          refine (HIS.out _).mono ?_
          rintro e w3 ⟨rfl, hb3⟩
          have HB3 := Lib.hid (HB2.out.trans (hb3.mono HB2.out.size))
          clear hb3
          go_wp2_with fail
          go_ret2
          exact ⟨HB3.out, Or.inr ⟨HNO.out, rfl⟩⟩
        | true =>
          rw [hus] at HIS
          have HUO := Lib.hid (us_iff.1 hus)
          clear hus HEA
          go_wp2_with fail
          refine (HIS.out _).mono ?_
          rintro e w3 ⟨rfl, hb3⟩
          have HB3 := Lib.hid (HB2.out.trans (hb3.mono HB2.out.size))
          have HU3 := Lib.hid ((hb3.block _ (Array.getElem?_eq_some_iff.1 HU.out).1).trans HU.out)
          have HK3 := Lib.hid (HK2.out.keep hb3)
          have HFI := Lib.hid (find16_any u X (F.take k) v q.c w3 HK3.out)
          obtain ⟨d0, d1, d2, d3⟩ := us_cells HU3.out
          clear hb3 HU HK2 HB2
          go_wp2_with fail
          refine HFI.out.mono ?_
          rintro e W0 ⟨p, rfl, hp, rfl⟩
          clear HFI
          rcases hp with ⟨rfl, hf⟩ | ⟨kk, g, cc, hkk, rfl, hv, hf⟩
          · have HOK2 := Lib.hid (HNX.out HUO.out hf)
            have HSZ := Lib.hid (show q.c.size ≤ 281474976710656 from Nat.le_trans HUO.out.c32 (by decide))
            obtain ⟨L', hL'⟩ : ∃ L', L' = F.take k := ⟨_, rfl⟩
            rw [← hL'] at HK3 HOK2 HTK
            have HJ := Lib.hid (JA.start (na := 8) (nb := 7) HK3.out HU3.out)
            clear hL' HNX HTW HUO hf
            go_wp2_with fail
            clear c0 c1 c2 c3 d0 d1 d2 d3
            refine ord.wp_region_ordZ (JA u W0 X L' v q H 8 7) 11 [[], [], [1], [2], [3], [], [5], [6], [4, 7], [0], [9]] [(0, 27), (1, 28), (2, 29), (3, 30), (4, 31), (5, 32), (6, 33), (7, 34), (8, 35), (9, 36), (10, 37)] (apC X v q) (by kernel_rfl) (by kernel_rfl) (by kernel_rfl) (ord.steps_cons ?_ (ord.steps_cons ?_ (ord.steps_cons ?_ (ord.steps_cons ?_ (ord.steps_cons ?_ (ord.steps_cons ?_ (ord.steps_cons ?_ (ord.steps_cons ?_ (ord.steps_cons ?_ (ord.steps_cons ?_ (ord.steps_cons ?_ ord.steps_nil))))))))))) HJ.out ?_
            · intro o ho x c w hj hc hG
              obtain rfl := Option.some.inj ho
              clear ho
              refine Or.inl ⟨ord.want0 rfl, ?_⟩
              exact ord.makes_move rfl ⟨hj.keep (by decide) (by decide) _, rfl⟩
            · intro o ho x c w hj hc hG
              obtain rfl := Option.some.inj ho
              clear ho
              refine Or.inl ⟨ord.want0 rfl, ?_⟩
              exact ord.makes_move rfl ⟨hj.keep (by decide) (by decide) _, rfl⟩
            · intro o ho x c w hj hc hG
              obtain rfl := Option.some.inj ho
              clear ho
              have h1 : x 1 = .pointer (some ⟨X, 0, none⟩) := (hG (1, 28) (List.mem_of_getElem? (i := 1) rfl) rfl).2
              refine Or.inl ⟨ord.want0 rfl, ?_⟩
              exact ord.makes_nilCheck rfl h1 ⟨hj.keep (by decide) (by decide) _, rfl⟩
            · intro o ho x c w hj hc hG
              obtain rfl := Option.some.inj ho
              clear ho
              have h2 : x 2 = .pointer (some ⟨X, 0, none⟩) := (hG (2, 29) (List.mem_of_getElem? (i := 2) rfl) rfl).2
              refine Or.inl ⟨ord.want0 rfl, ?_⟩
              exact ord.makes_fieldAddr rfl h2 (run_fbB X w) ⟨hj.keep (by decide) (by decide) _, rfl⟩
            · intro o ho x c w hj hc hG
              obtain rfl := Option.some.inj ho
              clear ho
              have h3 : x 3 = .pointer (some ⟨X, 0, none⟩) := (hG (3, 30) (List.mem_of_getElem? (i := 3) rfl) rfl).2
              refine Or.inl ⟨ord.want0 rfl, ?_⟩
              exact ord.makes_ld rfl h3 (run_ldV _ _ w hj.cell) ⟨hj.keep (by decide) (by decide) _, rfl⟩
            · intro o ho x c w hj hc hG
              obtain rfl := Option.some.inj ho
              clear ho
              refine Or.inl ⟨ord.want0 rfl, ?_⟩
              exact ord.makes_ld rfl rfl (run_ldU _ _ w hj.box) ⟨hj.keep (by decide) (by decide) _, rfl⟩
            · intro o ho x c w hj hc hG
              obtain rfl := Option.some.inj ho
              clear ho
              have h5 : x 5 = .agg #[.string q.c, .int .i64 q.w, .int .i64 q.n, .int .i64 q.s] := (hG (5, 32) (List.mem_of_getElem? (i := 5) rfl) rfl).2
              refine Or.inl ⟨ord.want0 rfl, ?_⟩
              exact ord.makes_call1 Try.func24 (by kernel_rfl) (by kernel_rfl) rfl h5 (copyof16_any q.c q.w q.n q.s w HSZ.out) (fun e w' h => ⟨_, h.1, (hj.below h.2).keep (by decide) (by decide) _, rfl⟩)
            · intro o ho x c w hj hc hG
              obtain rfl := Option.some.inj ho
              clear ho
              have h6 : x 6 = .agg #[.string q.c, .int .i64 q.w, .int .i64 q.n, .int .i64 q.s] := (hG (6, 33) (List.mem_of_getElem? (i := 6) rfl) rfl).2
              refine Or.inl ⟨ord.want0 rfl, ?_⟩
              exact ord.makes_build1 rfl h6 (run_lit1 q w) ⟨hj.build (by decide), trivial⟩
            · intro o ho x c w hj hc hG
              obtain rfl := Option.some.inj ho
              clear ho
              have h4 : x 4 = v := (hG (4, 31) (List.mem_of_getElem? (i := 4) rfl) rfl).2
              have h7 := (hG (7, 34) (List.mem_of_getElem? (i := 7) rfl) rfl).1
              refine Or.inl ⟨ord.want0 rfl, ?_⟩
              obtain ⟨y, w', hr, hj'⟩ := hj.append hc h7 HHV.out
              exact makes_app rfl rfl h4 rfl hr ⟨hj', trivial⟩
            · intro o ho x c w hj hc hG
              obtain rfl := Option.some.inj ho
              clear ho
              have h0 : x 0 = .pointer (some ⟨X, 0, none⟩) := (hG (0, 27) (List.mem_of_getElem? (i := 0) rfl) rfl).2
              refine Or.inl ⟨ord.want0 rfl, ?_⟩
              exact ord.makes_nilCheck rfl h0 ⟨hj.keep (by decide) (by decide) _, rfl⟩
            · intro o ho x c w hj hc hG
              obtain rfl := Option.some.inj ho
              clear ho
              have h9 : x 9 = .pointer (some ⟨X, 0, none⟩) := (hG (9, 36) (List.mem_of_getElem? (i := 9) rfl) rfl).2
              refine Or.inl ⟨ord.want0 rfl, ?_⟩
              exact ord.makes_fieldAddr rfl h9 (run_fbB X w) ⟨hj.keep (by decide) (by decide) _, rfl⟩
            · intro x c w5 hj hG
              have g8 := (hG (8, 35) (List.mem_of_getElem? (i := 8) rfl)).1
              have e10 : x 10 = .pointer (some ⟨X, 0, none⟩) := (hG (10, 37) (List.mem_of_getElem? (i := 10) rfl)).2
              clear hG
              simp only [ord.puts, ord.put', List.set_cons_zero, List.set_cons_succ, if_true]
              rw [e10]
              simp only [List.drop_succ_cons, List.drop_zero]
              have hcell := hj.cell
              have hfroz := hj.froz
              obtain ⟨yA, yc, hye, _⟩ := (hj.post _ g8).1.cap_le
              rw [show (L' ++ [q]).length = L'.length + 1 from List.length_append] at hye
              have HD := Lib.hid (hj.done g8 HUX.out HOK2.out)
              clear hj g8 e10 HJ
              rw [hye] at HD ⊢
              clear hye
              go_wp2_with fail
              go_roundw
              case rel =>
                obtain ⟨v2, r1, r2, r3⟩ := HD.out
                rw [← HTK.out] at r1
                refine ⟨k + 1, v2, by omega, by go_num, r1, fun g hg => ?_, HB3.out.trans (r2.below HB3.out.size fun j hj => ?_)⟩
                · rcases r3 g hg with h | h
                  · exact HVW.out g h
                  · exact Nat.le_trans HB3.out.size h
                · rcases hj with rfl | hj
                  · exact HX.out
                  · exact HVW.out j hj
              case measure => simp [intOf]; omega
          · have HNO := Lib.hid (HTW.out _ hf)
            clear HNX HTW HUO
            go_wp2_with fail
            go_ret2
            exact ⟨HB3.out, Or.inr ⟨HNO.out, rfl⟩⟩
      · obtain rfl : k = F.length := by omega
        rw [List.take_length] at HRB
        have HE := HRB.out.ok
        go_wp2_with fail
        go_ret2
        exact ⟨HB.out, Or.inl ⟨HE, X, v, rfl, HRB.out, fun j hj => hj.elim (fun e => e ▸ HX.out) (HVW.out j)⟩⟩
  · have h16i : (16 : Int) < F.length := by omega
    have HNO := Lib.hid (show ¬ BkOk F from fun h => h16 h.few)
    clear hb hF hl h16
    go_enter Try.func9, Try.ntmps9
    go_wp2_with fail
    go_ret2
    exact ⟨Below.refl _ _, Or.inr ⟨HNO.out, rfl⟩⟩
end Go.Proofs.Ytbcanfhjdllaoaa
