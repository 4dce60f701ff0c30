/- The document's ledger (layer 17): Approve. Written by specs/mkref17t.py. -/
import Derived.Test.YtlglkfgephilnaaRef17C
namespace Go.Proofs.Ytlglkfgephilnaa
set_option maxRecDepth 100000
open Go.RowKit
theorem py_pm (k : ByteArray) (a : Int) (t : ByteArray) : pyK k a t = pmK ⟨k, a, 1, t⟩ := by
  rw [Bool.eq_iff_iff, pm_iff, py_iff]
theorem LgIn.add {L : List Po} (h : LgIn L) {p : Po} (ok : PoOk p) (new : fndP L p.k = none) (few : L.length < 24) : LgIn (L ++ [p]) := by
  refine ⟨by rw [List.length_append, List.length_singleton]; omega, List.pairwise_append.2 ⟨h.apart, List.pairwise_singleton _ _, fun x hx y hy => ?_⟩, fun x hx => ?_⟩
  · rw [List.mem_singleton.1 hy]; exact fndP_none.1 new x hx
  · rcases List.mem_append.1 hx with hx | hx
    · exact h.each x hx
    · rw [List.mem_singleton.1 hx]; exact ok
set_option maxHeartbeats 6400000 in
theorem rapp17_any (u : World) (X : Nat) (L : List Po) (v : Value) (k : ByteArray) (a : Int) (t : ByteArray) (w : World) (h : RLg u X w L v) :
    Calls Try.prog 15 #[.pointer (some ⟨X, 0, none⟩), .string k, .int .i64 a, .string t] w fun e w' => e = .returned (.int .i64 (apE L k a t)) ∧ LkS u X w v w' (apN L k a t) := by
  obtain ⟨q, hq⟩ : ∃ q, q = (⟨k, a, 1, t⟩ : Po) := ⟨_, rfl⟩
  obtain ⟨H, hH⟩ : ∃ H, H = w.heap.size := ⟨_, rfl⟩
  obtain ⟨w1, hw1⟩ : ∃ w1, w1 = w.alloc (.cells #[.string k, .int .i64 a, .int .i64 1, .string t] 31) := ⟨_, rfl⟩
  have hB : w1.heap[H]? = some (.cells #[.string q.k, .int .i64 q.a, .int .i64 q.s, .string q.t] 31) := by
    rw [hw1, hH, hq]; exact heap_alloc_new w (.cells #[.string k, .int .i64 a, .int .i64 1, .string t] 31)
  have hb : Below w.heap.size w w1 := by rw [hw1]; exact alloc_below w _
  have HM := Lib.hid (rmay17_any ⟨k, a, 1, t⟩ w1)
  have HHV := Lib.hid (show v.ownBlock ≠ some H from fun hg => by have := (h.own.lt _ hg).2; omega)
  have HW1 := Lib.hid (And.intro hw1 hH)
  have HB := Lib.hid hB
  have HBL := Lib.hid hb
  have HH := Lib.hid h
  have HQ := Lib.hid hq
  have HUX := Lib.hid h.uX
  clear h hw1 hB hb hq hH
  go_enter Try.func15, Try.ntmps15
  go_wp2_with fail
  rw [← HW1.out.1]
  try rw [← HW1.out.2]
  refine HM.out.mono ?_
  rintro e w2 ⟨rfl, hb2⟩
  have HB2 := Lib.hid (HBL.out.trans (hb2.mono HBL.out.size))
  have HU2 := Lib.hid ((hb2.block _ (Array.getElem?_eq_some_iff.1 HB.out).1).trans HB.out)
  have HK2 := Lib.hid (HH.out.keep HB2.out)
  have HPY := Lib.hid (py_pm k a t)
  clear hb2 HM HB HBL HW1
  cases hpm : pmK ⟨k, a, 1, t⟩
  · have he : apE L k a t = 1 := by unfold apE; rw [HPY.out, hpm]; rfl
    have hn : apN L k a t = L := if_neg (by rw [he]; decide)
    have HZ := Lib.hid (And.intro he hn)
    clear he hn hpm
    go_wp2_with fail
    go_ret
    exact ⟨by rw [HZ.out.1]; rfl, by rw [HZ.out.2]; exact LkS.same HH.out HB2.out⟩
  · have hpo := pm_iff.1 hpm
    have HPO := Lib.hid hpo
    have HPM := Lib.hid (HPY.out.trans hpm)
    have HAT := Lib.hid (rat17_any u X L v k w2 HK2.out)
    have HTO := Lib.hid (rtotal17_any u X L v w2 HK2.out)
    clear hpm hpo HPY
    go_wp2_with fail
    refine HAT.out.mono ?_
    rintro e w3 ⟨x, rfl, hx, rfl⟩
    clear HAT
    rcases hx with ⟨rfl, hf⟩ | ⟨kk, hkk, rfl, hf⟩
    · have hcell := HK2.out.cell
      obtain ⟨A, cp, hv, hli⟩ := HK2.out.own.slice
      have hcell2 := hcell
      rw [hv] at hcell2
      by_cases hl : L.length < 24
      · have hl1 : ¬ (24 : Int) ≤ L.length := by omega
        have hl2 : decide ((24 : Int) ≤ L.length) = false := decide_eq_false hl1
        have HF := Lib.hid hf
        have HLL := Lib.hid hl
        clear hf
        go_wp2_with fail
        refine HTO.out.mono ?_
        rintro e w4 ⟨rfl, rfl⟩
        clear HTO
        have h1 := totP_nn HH.out.ok.each
        have h2 := totP_le HH.out.ok.each
        have h3 := HPO.out.a0
        have h4 := HPO.out.aB
        simp only at h3 h4
        have hw1 : IntKind.i64.wrap (totP L + a) = totP L + a := by rw [IntKind.wrap_i64]; omega
        by_cases ht : 5000000000000 < totP L + a
        · have he : apE L k a t = 19 := by unfold apE; rw [HPM.out, HF.out, if_pos rfl, if_neg (by decide), if_neg (by omega), if_pos ht]
          have hn : apN L k a t = L := if_neg (by rw [he]; decide)
          have HZ := Lib.hid (And.intro he hn)
          have qt : decide (5000000000000 < totP L + a) = true := decide_eq_true ht
          clear he hn ht h1 h2 h3 h4
          generalize totP L = T at *
          go_wp2_with fail
          go_ret
          exact ⟨by rw [HZ.out.1]; rfl, by rw [HZ.out.2]; exact LkS.same HH.out HB2.out⟩
        · have he : apE L k a t = 0 := by unfold apE; rw [HPM.out, HF.out, if_pos rfl, if_neg (by decide), if_neg (by omega), if_neg ht]
          have hn : apN L k a t = L ++ [q] := (if_pos he).trans (by rw [HQ.out])
          have HZ := Lib.hid (And.intro he hn)
          have qt : decide (5000000000000 < totP L + a) = false := decide_eq_false ht
          have HOK2 := Lib.hid (show LgIn (L ++ [q]) from by rw [HQ.out]; exact HH.out.ok.add HPO.out HF.out HLL.out)
          clear he hn ht h1 h2 h3 h4
          generalize totP L = T at *
          go_wp2_with fail
          have HJ := Lib.hid (JA.start (na := 7) (nb := 6) HK2.out (po_cells HU2.out))
          generalize w4 = W0 at *
          clear hcell hcell2 hli hv
          refine ord.wp_region_ordZ (JA u W0 X L v q H 0 7 6) 10 [[], [], [1], [2], [3], [], [5], [4, 6], [0], [8]] [(0, 34), (1, 35), (2, 36), (3, 37), (4, 38), (5, 39), (6, 40), (7, 41), (8, 42), (9, 43)] (apR X v q) (by kernel_rfl) (by kernel_rfl) (by kernel_rfl) (ord.steps_cons ?_ (ord.steps_cons ?_ (ord.steps_cons ?_ (ord.steps_cons ?_ (ord.steps_cons ?_ (ord.steps_cons ?_ (ord.steps_cons ?_ (ord.steps_cons ?_ (ord.steps_cons ?_ (ord.steps_cons ?_ ord.steps_nil)))))))))) HJ.out ?_
          · intro o ho x c w hj hc hG
            obtain rfl := Option.some.inj ho
            clear ho
            refine Or.inl ⟨ord.want0 rfl, ?_⟩
            exact ord.makes_move rfl ⟨hj.keep (by decide) (by decide) _, rfl⟩
          · intro o ho x c w hj hc hG
            obtain rfl := Option.some.inj ho
            clear ho
            refine Or.inl ⟨ord.want0 rfl, ?_⟩
            exact ord.makes_move rfl ⟨hj.keep (by decide) (by decide) _, rfl⟩
          · intro o ho x c w hj hc hG
            obtain rfl := Option.some.inj ho
            clear ho
            have h1 : x 1 = .pointer (some ⟨X, 0, none⟩) := (hG (1, 35) (List.mem_of_getElem? (i := 1) rfl) rfl).2
            refine Or.inl ⟨ord.want0 rfl, ?_⟩
            exact ord.makes_nilCheck rfl h1 ⟨hj.keep (by decide) (by decide) _, rfl⟩
          · intro o ho x c w hj hc hG
            obtain rfl := Option.some.inj ho
            clear ho
            have h2 : x 2 = .pointer (some ⟨X, 0, none⟩) := (hG (2, 36) (List.mem_of_getElem? (i := 2) rfl) rfl).2
            refine Or.inl ⟨ord.want0 rfl, ?_⟩
            exact ord.makes_fieldAddr rfl h2 (run_fl X w) ⟨hj.keep (by decide) (by decide) _, rfl⟩
          · intro o ho x c w hj hc hG
            obtain rfl := Option.some.inj ho
            clear ho
            have h3 : x 3 = .pointer (some ⟨X, 0, none⟩) := (hG (3, 37) (List.mem_of_getElem? (i := 3) rfl) rfl).2
            refine Or.inl ⟨ord.want0 rfl, ?_⟩
            exact ord.makes_ld rfl h3 (run_ldV _ _ w hj.cell) ⟨hj.keep (by decide) (by decide) _, rfl⟩
          · intro o ho x c w hj hc hG
            obtain rfl := Option.some.inj ho
            clear ho
            refine Or.inl ⟨ord.want0 rfl, ?_⟩
            exact ord.makes_ld rfl rfl (run_ldP _ _ _ w hj.box) ⟨hj.keep (by decide) (by decide) _, rfl⟩
          · intro o ho x c w hj hc hG
            obtain rfl := Option.some.inj ho
            clear ho
            have h5 : x 5 = .agg #[.string q.k, .int .i64 q.a, .int .i64 q.s, .string q.t] := (hG (5, 39) (List.mem_of_getElem? (i := 5) rfl) rfl).2
            refine Or.inl ⟨ord.want0 rfl, ?_⟩
            exact ord.makes_build1 rfl h5 (run_lit1 q w) ⟨hj.build (by decide), trivial⟩
          · intro o ho x c w hj hc hG
            obtain rfl := Option.some.inj ho
            clear ho
            have h4 : x 4 = v := (hG (4, 38) (List.mem_of_getElem? (i := 4) rfl) rfl).2
            have h6 := (hG (6, 40) (List.mem_of_getElem? (i := 6) rfl) rfl).1
            refine Or.inl ⟨ord.want0 rfl, ?_⟩
            obtain ⟨y, w', hr, hj'⟩ := hj.append hc h6 HHV.out
            exact makes_app rfl rfl h4 rfl hr ⟨hj', trivial⟩
          · intro o ho x c w hj hc hG
            obtain rfl := Option.some.inj ho
            clear ho
            have h0 : x 0 = .pointer (some ⟨X, 0, none⟩) := (hG (0, 34) (List.mem_of_getElem? (i := 0) rfl) rfl).2
            refine Or.inl ⟨ord.want0 rfl, ?_⟩
            exact ord.makes_nilCheck rfl h0 ⟨hj.keep (by decide) (by decide) _, rfl⟩
          · intro o ho x c w hj hc hG
            obtain rfl := Option.some.inj ho
            clear ho
            have h8 : x 8 = .pointer (some ⟨X, 0, none⟩) := (hG (8, 42) (List.mem_of_getElem? (i := 8) rfl) rfl).2
            refine Or.inl ⟨ord.want0 rfl, ?_⟩
            exact ord.makes_fieldAddr rfl h8 (run_fl X w) ⟨hj.keep (by decide) (by decide) _, rfl⟩
          · intro x c w5 hj hG
            have g7 := (hG (7, 41) (List.mem_of_getElem? (i := 7) rfl)).1
            have e9 : x 9 = .pointer (some ⟨X, 0, none⟩) := (hG (9, 43) (List.mem_of_getElem? (i := 9) rfl)).2
            clear hG
            simp only [ord.puts, ord.put', List.set_cons_zero, List.set_cons_succ, if_true]
            rw [e9]
            simp only [List.drop_succ_cons, List.drop_zero]
            have hcell := hj.cell
            have hfroz := hj.froz
            obtain ⟨yA, yc, hye, _⟩ := (hj.post _ g7).1.cap_le
            rw [show (L ++ [q]).length = L.length + 1 from List.length_append] at hye
            have HD := Lib.hid (hj.done g7 HUX.out HOK2.out)
            clear hj g7 e9 HJ
            rw [hye] at HD ⊢
            clear hye
            go_wp2_with fail
            go_ret
            exact ⟨by rw [HZ.out.1]; rfl, by rw [HZ.out.2]; exact HD.out.after HB2.out⟩
      · have hl1 : (24 : Int) ≤ L.length := by omega
        have hl2 : decide ((24 : Int) ≤ L.length) = true := decide_eq_true hl1
        have he : apE L k a t = 14 := by unfold apE; rw [HPM.out, hf, if_pos rfl, if_neg (by decide), if_pos (by omega)]
        have hn : apN L k a t = L := if_neg (by rw [he]; decide)
        have HZ := Lib.hid (And.intro he hn)
        clear he hn hf HTO
        go_wp2_with fail
        go_ret
        exact ⟨by rw [HZ.out.1]; rfl, by rw [HZ.out.2]; exact LkS.same HH.out HB2.out⟩
    · have he : apE L k a t = 16 := by unfold apE; rw [HPM.out, hf, if_pos rfl]; rfl
      have hn : apN L k a t = L := if_neg (by rw [he]; decide)
      have hki : (0 : Int) ≤ kk := by omega
      have HZ := Lib.hid (And.intro he hn)
      clear he hn hf HTO
      go_wp2_with fail
      go_ret
      exact ⟨by rw [HZ.out.1]; rfl, by rw [HZ.out.2]; exact LkS.same HH.out HB2.out⟩
end Go.Proofs.Ytlglkfgephilnaa
