/- Layer 17, the code: add, Approve. -/
import Derived.Test.YtlglkfgephilnaaLedC
import Derived.Test.YtlglkfgephilnaaRef17T
import Derived.Test.YtlglkfgephilnaaLedY
import Derived.Lib.QuietBelow
import Derived.Test.YtlglkfgephilnaaOrdT
namespace Go.Proofs.Ytlglkfgephilnaa
set_option maxRecDepth 100000
open Go.RowKit
/-- add: what it answers, what it leaves -/
def adE (L : List Po) (p : Po) : Int :=
  if pmK p = true then if (fndP L p.k).isSome = true then 16 else if 24 ≤ L.length then 14 else if 5000000000000 < totP L + cntP p then 19 else 0 else 1
def adN (L : List Po) (p : Po) : List Po := if adE L p = 0 then L ++ [p] else L
theorem ad_ap (L : List Po) (k : ByteArray) (a : Int) (t : ByteArray) : adE L ⟨k, a, 1, t⟩ = apE L k a t ∧ adN L ⟨k, a, 1, t⟩ = apN L k a t := by
  have h : adE L ⟨k, a, 1, t⟩ = apE L k a t := by
    unfold adE apE
    rw [py_pm]
    rfl
  refine ⟨h, ?_⟩
  unfold adN apN
  rw [h]
/-- when add lets through -/
theorem ad_iff {L : List Po} {p : Po} : adE L p = 0 ↔ PoOk p ∧ fndP L p.k = none ∧ L.length < 24 ∧ totP L + cntP p ≤ 5000000000000 := by
  unfold adE
  by_cases h1 : pmK p = true
  · rw [if_pos h1]
    cases h2 : fndP L p.k with
    | some q =>
      rw [if_pos (show (some q).isSome = true from rfl)]
      exact ⟨(fun h => absurd h (by decide)), fun h => by cases h.2.1⟩
    | none =>
      rw [if_neg (by decide)]
      by_cases h3 : 24 ≤ L.length
      · rw [if_pos h3]; exact ⟨(fun h => absurd h (by decide)), fun h => by have := h.2.2.1; omega⟩
      · rw [if_neg h3]
        by_cases h4 : 5000000000000 < totP L + cntP p
        · rw [if_pos h4]; exact ⟨(fun h => absurd h (by decide)), fun h => by have := h.2.2.2; omega⟩
        · rw [if_neg h4]; exact ⟨fun _ => ⟨pm_iff.1 h1, rfl, by omega, by omega⟩, fun _ => rfl⟩
  · rw [if_neg h1]
    exact ⟨(fun h => absurd h (by decide)), fun h => absurd (pm_iff.2 h.1) h1⟩
theorem below_dn {B : Nat} {a w : World} (h : Below B a w) (n : Nat) : Below B a (w.drewN n) := ⟨h.os, h.tape, h.output, h.size, h.block⟩
theorem run_flC (G : Nat) (w : World) : (Instr.fieldAt 60 (.pointer (some ⟨G, 0, none⟩)) 0).run Try.prog w = .ok (.pointer (some ⟨G, 0, none⟩)) w := by go_simp
theorem run_flC1 (G : Nat) (w : World) : (Instr.fieldAt 60 (.pointer (some ⟨G, 0, none⟩)) 1).run Try.prog w = .ok (.pointer (some ⟨G, 1, none⟩)) w := by go_simp
theorem run_flP (H : Nat) (w : World) : (Instr.fieldAt 31 (.pointer (some ⟨H, 0, none⟩)) 0).run Try.prog w = .ok (.pointer (some ⟨H, 0, none⟩)) w := by go_simp
theorem run_ldM17 (A : Addr) (B : Nat) (w : World) (h : w.cell? A = some (.map (some B))) : (Instr.loadAt 58 (.pointer (some A))).run Try.prog w = .ok (.map (some B)) w := by go_simp
theorem run_ldS17 (A : Addr) (s : ByteArray) (w : World) (h : w.cell? A = some (.string s)) : (Instr.loadAt 9 (.pointer (some A))).run Try.prog w = .ok (.string s) w := by go_simp
theorem run_ln17 (A : Option Addr) (n c : Nat) (ty : TypeId) (w : World) : (Builtin.len_ #[22] ty #[.slice A n c]).run Try.prog w = .ok (.int .i64 (n : Nat)) w := by go_simp
--DEFS am
def amG (G B H n : Nat) (vl : Value) (k : ByteArray) : Nat → Value → World → Prop
  | 0, v, _ => v = .pointer (some ⟨G, 0, none⟩)
  | 1, v, _ => v = .pointer (some ⟨G, 0, none⟩)
  | 2, v, _ => v = .pointer (some ⟨G, 1, none⟩)
  | 3, v, _ => v = .map (some B)
  | 4, v, _ => v = .pointer (some ⟨H, 0, none⟩)
  | 5, v, _ => v = .string k
  | 6, v, _ => v = .pointer (some ⟨G, 0, none⟩)
  | 7, v, _ => v = .pointer (some ⟨G, 0, none⟩)
  | 8, v, _ => v = .pointer (some ⟨G, 0, none⟩)
  | 9, v, _ => v = vl
  | 10, v, _ => v = .int .i64 (n : Nat)
  | _, _, _ => True
theorem amG_stays (G B H n : Nat) (vl : Value) (k : ByteArray) : ∀ i v w w', amG G B H n vl k i v w → Below w.heap.size w w' → amG G B H n vl k i v w'
  | 0, _, _, _, h, _ => h
  | 1, _, _, _, h, _ => h
  | 2, _, _, _, h, _ => h
  | 3, _, _, _, h, _ => h
  | 4, _, _, _, h, _ => h
  | 5, _, _, _, h, _ => h
  | 6, _, _, _, h, _ => h
  | 7, _, _, _, h, _ => h
  | 8, _, _, _, h, _ => h
  | 9, _, _, _, h, _ => h
  | 10, _, _, _, h, _ => h
  | _ + 11, _, _, _, _, _ => trivial
--END DEFS am
/-- behind a map's change -/
theorem LkA.after2 {u w w1 w2 w' : World} {G B : Nat} {L' : List Po} {v : Value} (hb : Below w.heap.size w w1) (hc : ChgS (fun k => k = B) w1 w2) (h : LkA u G B w2 v w' L') : LkA u G B w v w' L' := by
  obtain ⟨v', h1, h2, h3⟩ := h
  refine ⟨v', h1, (ChgS.of_below hb).trans ((chgS_wide17 hc fun k hk => Or.inr (Or.inl hk)).trans h2), fun g hg => ?_⟩
  rcases h3 g hg with h | h
  · exact Or.inl h
  · exact Or.inr (Nat.le_trans hb.size (Nat.le_trans hc.size h))
set_option maxHeartbeats 6400000 in
theorem cadd17_any (u : World) (G B : Nat) (L : List Po) (vl : Value) (q : Po) (w : World) (h : LgA u G B w L vl) :
    Calls Try.prog 26 #[.pointer (some ⟨G, 0, none⟩), poV q] w fun e w' => e = .returned (.int .i64 (adE L q)) ∧ LkA u G B w vl w' (adN L q) := by
  obtain ⟨H0, hH⟩ : ∃ H0, H0 = w.heap.size := ⟨_, rfl⟩
  obtain ⟨w1, hw1⟩ : ∃ w1, w1 = w.alloc (.cells #[.string q.k, .int .i64 q.a, .int .i64 q.s, .string q.t] 31) := ⟨_, rfl⟩
  have hB : w1.heap[H0]? = some (.cells #[.string q.k, .int .i64 q.a, .int .i64 q.s, .string q.t] 31) := by
    rw [hw1, hH]; exact heap_alloc_new w (.cells #[.string q.k, .int .i64 q.a, .int .i64 q.s, .string q.t] 31)
  have hb : Below w.heap.size w w1 := by rw [hw1]; exact alloc_below w _
  have HM := Lib.hid (ispost_any q w1)
  have HW1 := Lib.hid (And.intro hw1 hH)
  have HB := Lib.hid hB
  have HBL := Lib.hid hb
  have HH := Lib.hid h
  obtain ⟨e0, e1, e2, e3⟩ := po_cells hB
  clear h hw1 hB hb hH
  go_enter Try.func26, Try.ntmps26
  go_wp2_with fail
  rw [← HW1.out.1]
  try rw [← HW1.out.2]
  refine HM.out.mono ?_
  rintro e w2 ⟨rfl, hb2⟩
  have HB2 := Lib.hid (HBL.out.trans (hb2.mono HBL.out.size))
  have HU2 := Lib.hid ((hb2.block _ (Array.getElem?_eq_some_iff.1 HB.out).1).trans HB.out)
  have HK2 := Lib.hid (HH.out.keep HB2.out)
  clear hb2 HM HB HBL HW1 e0 e1 e2 e3
  cases hpm : pmK q
  · have he : adE L q = 1 := by unfold adE; rw [hpm]; rfl
    have hn : adN L q = L := if_neg (by rw [he]; decide)
    have HZ := Lib.hid (And.intro he hn)
    clear he hn hpm
    go_wp2_with fail
    go_ret
    exact ⟨by rw [HZ.out.1]; rfl, by rw [HZ.out.2]; exact LkA.same HH.out HB2.out⟩
  · have HPO := Lib.hid (pm_iff.1 hpm)
    have HPM := Lib.hid hpm
    have m0 : ∀ n, (Instr.lookup 58 (.map (some B)) (.string q.k) true).run Try.prog (w2.drewN n) = .ok (.tuple #[.int .i64 ((plc L q.k).getD 0 : Nat), .bool (plc L q.k).isSome]) (w2.drewN n) := fun n => (HK2.out.mp.block (w' := w2.drewN n) rfl).look q.k (Nat.le_trans HPO.out.k40 (by decide))
    have d0 : ∀ n, (w2.drewN n).cell? ⟨H0, 0, none⟩ = some (.string q.k) := fun n => (po_cells HU2.out).1
    have cel1 : ∀ n, (w2.drewN n).cell? ⟨G, 1, none⟩ = some (.map (some B)) := fun n => HK2.out.cel1
    have hpl : (plc L q.k = none) ∨ ∃ j, plc L q.k = some j := by cases plc L q.k with
      | none => exact Or.inl rfl
      | some j => exact Or.inr ⟨j, rfl⟩
    clear hpm
    rcases hpl with hpl | ⟨j, hpl⟩
    · have hf := plc_none.1 hpl
      have HF := Lib.hid hf
      rw [hpl] at m0
      simp only [Option.getD_none, Option.isSome_none] at m0
      clear hpl hf
      go_wp2_with fail
      go_quiet (fail)
      have HB3 := Lib.hid (HB2.out.trans ((show Below w2.heap.size w2 (w2.drewN nq) from ⟨rfl, rfl, rfl, Nat.le_refl _, fun _ _ => rfl⟩).mono HB2.out.size))
      have HU3 := Lib.hid (show (w2.drewN nq).heap[H0]? = _ from HU2.out)
      have HK3 := Lib.hid (HH.out.keep HB3.out)
      clear m0 d0 cel1 HB2 HU2 HK2
      generalize w2.drewN nq = w3 at *
      obtain ⟨A, cp, hv, hli⟩ := HK3.out.r.own.slice
      have hcell := HK3.out.r.cell
      rw [hv] at hcell
      by_cases hl : L.length < 24
      · have hl1 : ¬ (24 : Int) ≤ L.length := by omega
        have hl2 : decide ((24 : Int) ≤ L.length) = false := decide_eq_false hl1
        have HLL := Lib.hid hl
        clear hl
        go_wp2_with fail
        have cA := fun d os => Calls.regrown_of (ctotal17_any u G L vl (Go.Sort.grow (redrawn w3 d) os) (HK3.out.r.keep (below_regrown w3 d os)))
        have cB := fun d os => Calls.regrown_of (counted17_any q (Go.Sort.grow (redrawn w3 d) os))
        obtain ⟨e0, e1, e2, e3⟩ := po_cells HU3.out
        have k0 := cell_regrown e0
        have k1 := cell_regrown e1
        have k2 := cell_regrown e2
        have k3 := cell_regrown e3
        have h1 := totP_nn HH.out.r.ok.each
        have h2 := totP_le HH.out.r.ok.each
        have h3 := HPO.out.a0
        have h4 := HPO.out.aB
        have h5 : 0 ≤ cntP q ∧ cntP q ≤ 999999999999 := by unfold cntP; split <;> omega
        have hw1 : IntKind.i64.wrap (totP L + cntP q) = totP L + cntP q := by rw [IntKind.wrap_i64]; omega
        have HTT := Lib.hid (show adE L q = if 5000000000000 < totP L + cntP q then 19 else 0 from by unfold adE; rw [if_pos HPM.out, HF.out, if_neg (by decide), if_neg (by have := HLL.out; omega)])
        have HTP := Lib.hid (show totP (L ++ [q]) = totP L + cntP q from by rw [totP_app, cnt_ok HPO.out]; simp [totP])
        clear h1 h2 h3 h4 h5 e0 e1 e2 e3
        generalize totP L = T at *
        generalize cntP q = C at *
        refine wp_region_quiet_below (by kernel_rfl) (by kernel_rfl) ?_
        repeat (quiet_step (first | (with_reducible exact cA _ _) | (with_reducible exact cB _ _)))
        refine wpQuiet_nil ?_
        intro _ hw'
        obtain ⟨⟨dq, osq⟩, hw''⟩ := hw'
        subst hw''
        have hb4 := below_regrown w3 dq osq
        have HB4 := Lib.hid (HB3.out.trans (hb4.mono HB3.out.size))
        have HU4 := Lib.hid ((hb4.block _ (Array.getElem?_eq_some_iff.1 HU3.out).1).trans HU3.out)
        clear k0 k1 k2 k3 cA cB hb4 HB3 HU3 HK3 hw1 hcell hv hli
        generalize Go.Sort.grow (redrawn w3 dq) osq = w4 at *
        by_cases ht : 5000000000000 < T + C
        · have he : adE L q = 19 := HTT.out.trans (if_pos ht)
          have hn : adN L q = L := if_neg (by rw [he]; decide)
          have HZ := Lib.hid (And.intro he hn)
          have qt : decide (5000000000000 < T + C) = true := decide_eq_true ht
          rw [qt]
          clear he hn ht HTT HTP qt
          go_wp2_with fail
          go_ret
          exact ⟨by rw [HZ.out.1]; rfl, by rw [HZ.out.2]; exact LkA.same HH.out HB4.out⟩
        · have he : adE L q = 0 := HTT.out.trans (if_neg ht)
          have hn : adN L q = L ++ [q] := if_pos he
          have HZ := Lib.hid (And.intro he hn)
          have qt : decide (5000000000000 < T + C) = false := decide_eq_false ht
          have HTO := Lib.hid (show totP (L ++ [q]) ≤ 5000000000000 from by rw [HTP.out]; omega)
          have HCP := Lib.hid (fun W => copyof17_any q W (Nat.le_trans HPO.out.k40 (by decide)) (Nat.le_trans HPO.out.t (by decide)))
          obtain ⟨e0, e1, e2, e3⟩ := po_cells HU4.out
          rw [qt]
          clear he hn ht HTT HTP qt
          go_wp2_with fail
          refine (HCP.out _).mono ?_
          rintro e w5a ⟨rfl, hb5⟩
          have HB5 := Lib.hid (HB4.out.trans (hb5.mono HB4.out.size))
          have hb6 := alloc_below w5a (.cells #[.string q.k, .int .i64 q.a, .int .i64 q.s, .string q.t] 31)
          have HB6 := Lib.hid (HB5.out.trans (hb6.mono HB5.out.size))
          have HU6 := Lib.hid (heap_alloc_new w5a (.cells #[.string q.k, .int .i64 q.a, .int .i64 q.s, .string q.t] 31))
          have HS6 := Lib.hid (show w.heap.size ≤ w5a.heap.size from HB5.out.size)
          clear e0 e1 e2 e3 hb5 hb6 HB4 HU4 HB5 HCP
          go_wp2_with fail
          generalize w5a.heap.size = H at *
          generalize w5a.alloc (.cells #[.string q.k, .int .i64 q.a, .int .i64 q.s, .string q.t] 31) = w6 at *
          have HK6 := Lib.hid (HH.out.keep HB6.out)
          obtain ⟨A, cp, hv, hli⟩ := HK6.out.r.own.slice
          have HC := Lib.hid (fun (W : World) (hb : Below w6.heap.size w6 W) => (show W.cell? ⟨G, 1, none⟩ = some (.map (some B)) ∧ W.cell? ⟨G, 0, none⟩ = some vl ∧ W.cell? ⟨H, 0, none⟩ = some (.string q.k) from ⟨(HK6.out.keep hb).cel1, (HK6.out.keep hb).r.cell, (po_cells ((hb.block _ (Array.getElem?_eq_some_iff.1 HU6.out).1).trans HU6.out)).1⟩))
          have HLN := Lib.hid (fun (W : World) => (show (Builtin.len_ #[22] 3 #[vl]).run Try.prog W = .ok (.int .i64 (L.length : Nat)) W from by rw [hv]; exact run_ln17 A L.length cp _ W))
          refine ord.wp_region_ordT 11 [[], [0], [1], [2], [], [4], [], [6], [7], [8], [9]] [(0, 36), (1, 37), (2, 38), (3, 39), (4, 40), (5, 41), (6, 42), (7, 43), (8, 44), (9, 45), (10, 46)] (amG G B H L.length vl q.k) (by kernel_rfl) (by kernel_rfl) (by kernel_rfl) (amG_stays G B H L.length vl q.k) ((ord.steps_cons ?_ (ord.steps_cons ?_ (ord.steps_cons ?_ (ord.steps_cons ?_ (ord.steps_cons ?_ (ord.steps_cons ?_ (ord.steps_cons ?_ (ord.steps_cons ?_ (ord.steps_cons ?_ (ord.steps_cons ?_ (ord.steps_cons ?_ ord.steps_nil)))))))))))) ?_
          --STEPS am
          · intro o ho x w hb hG
            obtain rfl := Option.some.inj ho
            clear ho
            refine Or.inl ⟨ord.want0 rfl, ?_⟩
            exact ord.makes_move rfl ⟨Below.refl _ _, rfl⟩
          · intro o ho x w hb hG
            obtain rfl := Option.some.inj ho
            clear ho
            have h36 : x 0 = .pointer (some ⟨G, 0, none⟩) := hG (0, 36) (List.mem_of_getElem? (i := 0) rfl) rfl
            refine Or.inl ⟨ord.want0 rfl, ?_⟩
            exact ord.makes_nilCheck rfl h36 ⟨Below.refl _ _, rfl⟩
          · intro o ho x w hb hG
            obtain rfl := Option.some.inj ho
            clear ho
            have h37 : x 1 = .pointer (some ⟨G, 0, none⟩) := hG (1, 37) (List.mem_of_getElem? (i := 1) rfl) rfl
            refine Or.inl ⟨ord.want0 rfl, ?_⟩
            exact ord.makes_fieldAddr rfl h37 (run_flC1 G w) ⟨Below.refl _ _, rfl⟩
          · intro o ho x w hb hG
            obtain rfl := Option.some.inj ho
            clear ho
            have h38 : x 2 = .pointer (some ⟨G, 1, none⟩) := hG (2, 38) (List.mem_of_getElem? (i := 2) rfl) rfl
            refine Or.inl ⟨ord.want0 rfl, ?_⟩
            exact ord.makes_ld rfl h38 (run_ldM17 _ _ w (HC.out w (of_drew hb)).1) ⟨Below.refl _ _, rfl⟩
          · intro o ho x w hb hG
            obtain rfl := Option.some.inj ho
            clear ho
            refine Or.inl ⟨ord.want0 rfl, ?_⟩
            exact ord.makes_fieldAddr rfl rfl (run_flP H w) ⟨Below.refl _ _, rfl⟩
          · intro o ho x w hb hG
            obtain rfl := Option.some.inj ho
            clear ho
            have h40 : x 4 = .pointer (some ⟨H, 0, none⟩) := hG (4, 40) (List.mem_of_getElem? (i := 4) rfl) rfl
            refine Or.inl ⟨ord.want0 rfl, ?_⟩
            exact ord.makes_ld rfl h40 (run_ldS17 _ _ w (HC.out w (of_drew hb)).2.2) ⟨Below.refl _ _, rfl⟩
          · intro o ho x w hb hG
            obtain rfl := Option.some.inj ho
            clear ho
            refine Or.inl ⟨ord.want0 rfl, ?_⟩
            exact ord.makes_move rfl ⟨Below.refl _ _, rfl⟩
          · intro o ho x w hb hG
            obtain rfl := Option.some.inj ho
            clear ho
            have h42 : x 6 = .pointer (some ⟨G, 0, none⟩) := hG (6, 42) (List.mem_of_getElem? (i := 6) rfl) rfl
            refine Or.inl ⟨ord.want0 rfl, ?_⟩
            exact ord.makes_nilCheck rfl h42 ⟨Below.refl _ _, rfl⟩
          · intro o ho x w hb hG
            obtain rfl := Option.some.inj ho
            clear ho
            have h43 : x 7 = .pointer (some ⟨G, 0, none⟩) := hG (7, 43) (List.mem_of_getElem? (i := 7) rfl) rfl
            refine Or.inl ⟨ord.want0 rfl, ?_⟩
            exact ord.makes_fieldAddr rfl h43 (run_flC G w) ⟨Below.refl _ _, rfl⟩
          · intro o ho x w hb hG
            obtain rfl := Option.some.inj ho
            clear ho
            have h44 : x 8 = .pointer (some ⟨G, 0, none⟩) := hG (8, 44) (List.mem_of_getElem? (i := 8) rfl) rfl
            refine Or.inl ⟨ord.want0 rfl, ?_⟩
            exact ord.makes_ld rfl h44 (run_ldV _ _ w (HC.out w (of_drew hb)).2.1) ⟨Below.refl _ _, rfl⟩
          · intro o ho x w hb hG
            obtain rfl := Option.some.inj ho
            clear ho
            have h45 : x 9 = vl := hG (9, 45) (List.mem_of_getElem? (i := 9) rfl) rfl
            refine Or.inl ⟨ord.want0 rfl, ?_⟩
            exact ord.makes_len rfl rfl h45 (HLN.out w) ⟨Below.refl _ _, rfl⟩
          --END STEPS am
          · intro x w6b hb hG
            have e3 : x 3 = .map (some B) := hG (3, 39) (List.mem_of_getElem? (i := 3) rfl)
            have e5 : x 5 = .string q.k := hG (5, 41) (List.mem_of_getElem? (i := 5) rfl)
            have e10 : x 10 = .int .i64 (L.length : Nat) := hG (10, 46) (List.mem_of_getElem? (i := 10) rfl)
            clear hG
            simp only [ord.puts, ord.put', List.set_cons_zero, List.set_cons_succ, if_true]
            rw [e3, e5, e10]
            simp only [List.drop_succ_cons, List.drop_zero]
            have HK6b := HK6.out.keep hb
            obtain ⟨w7, hr7, hm7, hc7⟩ := HK6b.mp.store (by have := HLL.out; omega) q (Nat.le_trans HPO.out.k40 (by decide)) HF.out
            have HUX := Lib.hid HK6b.r.uX
            have hBH : B < w.heap.size := HH.out.mp.lt
            have r7 : RLg u G w7 L vl := HK6b.r.chgS hc7 fun k hk => ⟨by rw [hk]; exact HK6b.uB, fun e => by
              rw [hk] at e
              rcases e with e | e
              · exact HK6b.neB e.symm
              · exact HK6b.neV e⟩
            have HP7 := Lib.hid (show PoAt w7 H 0 q from (show PoAt w6b H 0 q from po_cells ((hb.block _ (Array.getElem?_eq_some_iff.1 HU6.out).1).trans HU6.out)).same (hc7.block H (block_lt (a := ⟨H, 0, none⟩) (HC.out w6b hb).2.2) (fun e => by have := HS6.out; omega)))
            have HHV := Lib.hid (show vl.ownBlock ≠ some H from fun e => by have := (HH.out.r.own.lt _ e).2; have := HS6.out; omega)
            have hG7 : G < w6b.heap.size := block_lt (a := ⟨G, 1, none⟩) HK6b.cel1
            have HC7 := Lib.hid (show w7.cell? ⟨G, 1, none⟩ = some (.map (some B)) from (hc7.cell hG7 HK6b.neB).trans HK6b.cel1)
            have HM7 := Lib.hid hm7
            have HW7 := Lib.hid (fun (w' : World) (L' : List Po) (h : LkA u G B w7 vl w' L') => LkA.after2 (HB6.out.trans (hb.mono HB6.out.size)) hc7 h)
            have HR7 := Lib.hid r7
            have HOK2 := Lib.hid (show LgIn (L ++ [q]) from HH.out.r.ok.add HPO.out HF.out HLL.out)
            clear e3 e5 e10 hb HK6b r7 hm7 hc7 hBH hG7 HC HLN HU6 HK6 HB6 hli hv
            go_wp2_with fail
            have HJ := Lib.hid (JA.start (na := 7) (nb := 6) HR7.out HP7.out)
            generalize w7 = W0 at *
            refine ord.wp_region_ordZ (JA u W0 G L vl q H 0 7 6) 10 [[], [], [1], [2], [3], [], [5], [4, 6], [0], [8]] [(0, 47), (1, 48), (2, 49), (3, 50), (4, 51), (5, 52), (6, 53), (7, 54), (8, 55), (9, 56)] (apR G vl q) (by kernel_rfl) (by kernel_rfl) (by kernel_rfl) (ord.steps_cons ?_ (ord.steps_cons ?_ (ord.steps_cons ?_ (ord.steps_cons ?_ (ord.steps_cons ?_ (ord.steps_cons ?_ (ord.steps_cons ?_ (ord.steps_cons ?_ (ord.steps_cons ?_ (ord.steps_cons ?_ ord.steps_nil)))))))))) HJ.out ?_
            · intro o ho x c w hj hc hG
              obtain rfl := Option.some.inj ho
              clear ho
              refine Or.inl ⟨ord.want0 rfl, ?_⟩
              exact ord.makes_move rfl ⟨hj.keep (by decide) (by decide) _, rfl⟩
            · intro o ho x c w hj hc hG
              obtain rfl := Option.some.inj ho
              clear ho
              refine Or.inl ⟨ord.want0 rfl, ?_⟩
              exact ord.makes_move rfl ⟨hj.keep (by decide) (by decide) _, rfl⟩
            · intro o ho x c w hj hc hG
              obtain rfl := Option.some.inj ho
              clear ho
              have h1 : x 1 = .pointer (some ⟨G, 0, none⟩) := (hG (1, 48) (List.mem_of_getElem? (i := 1) rfl) rfl).2
              refine Or.inl ⟨ord.want0 rfl, ?_⟩
              exact ord.makes_nilCheck rfl h1 ⟨hj.keep (by decide) (by decide) _, rfl⟩
            · intro o ho x c w hj hc hG
              obtain rfl := Option.some.inj ho
              clear ho
              have h2 : x 2 = .pointer (some ⟨G, 0, none⟩) := (hG (2, 49) (List.mem_of_getElem? (i := 2) rfl) rfl).2
              refine Or.inl ⟨ord.want0 rfl, ?_⟩
              exact ord.makes_fieldAddr rfl h2 (run_flC G w) ⟨hj.keep (by decide) (by decide) _, rfl⟩
            · intro o ho x c w hj hc hG
              obtain rfl := Option.some.inj ho
              clear ho
              have h3 : x 3 = .pointer (some ⟨G, 0, none⟩) := (hG (3, 50) (List.mem_of_getElem? (i := 3) rfl) rfl).2
              refine Or.inl ⟨ord.want0 rfl, ?_⟩
              exact ord.makes_ld rfl h3 (run_ldV _ _ w hj.cell) ⟨hj.keep (by decide) (by decide) _, rfl⟩
            · intro o ho x c w hj hc hG
              obtain rfl := Option.some.inj ho
              clear ho
              refine Or.inl ⟨ord.want0 rfl, ?_⟩
              exact ord.makes_ld rfl rfl (run_ldP _ _ _ w hj.box) ⟨hj.keep (by decide) (by decide) _, rfl⟩
            · intro o ho x c w hj hc hG
              obtain rfl := Option.some.inj ho
              clear ho
              have h5 : x 5 = .agg #[.string q.k, .int .i64 q.a, .int .i64 q.s, .string q.t] := (hG (5, 52) (List.mem_of_getElem? (i := 5) rfl) rfl).2
              refine Or.inl ⟨ord.want0 rfl, ?_⟩
              exact ord.makes_build1 rfl h5 (run_lit1 q w) ⟨hj.build (by decide), trivial⟩
            · intro o ho x c w hj hc hG
              obtain rfl := Option.some.inj ho
              clear ho
              have h4 : x 4 = vl := (hG (4, 51) (List.mem_of_getElem? (i := 4) rfl) rfl).2
              have h6 := (hG (6, 53) (List.mem_of_getElem? (i := 6) rfl) rfl).1
              refine Or.inl ⟨ord.want0 rfl, ?_⟩
              obtain ⟨y, w', hr, hj'⟩ := hj.append hc h6 HHV.out
              exact makes_app rfl rfl h4 rfl hr ⟨hj', trivial⟩
            · intro o ho x c w hj hc hG
              obtain rfl := Option.some.inj ho
              clear ho
              have h0 : x 0 = .pointer (some ⟨G, 0, none⟩) := (hG (0, 47) (List.mem_of_getElem? (i := 0) rfl) rfl).2
              refine Or.inl ⟨ord.want0 rfl, ?_⟩
              exact ord.makes_nilCheck rfl h0 ⟨hj.keep (by decide) (by decide) _, rfl⟩
            · intro o ho x c w hj hc hG
              obtain rfl := Option.some.inj ho
              clear ho
              have h8 : x 8 = .pointer (some ⟨G, 0, none⟩) := (hG (8, 55) (List.mem_of_getElem? (i := 8) rfl) rfl).2
              refine Or.inl ⟨ord.want0 rfl, ?_⟩
              exact ord.makes_fieldAddr rfl h8 (run_flC G w) ⟨hj.keep (by decide) (by decide) _, rfl⟩
            · intro x c w5 hj hG
              have g7 := (hG (7, 54) (List.mem_of_getElem? (i := 7) rfl)).1
              have e9 : x 9 = .pointer (some ⟨G, 0, none⟩) := (hG (9, 56) (List.mem_of_getElem? (i := 9) rfl)).2
              clear hG
              simp only [ord.puts, ord.put', List.set_cons_zero, List.set_cons_succ, if_true]
              rw [e9]
              simp only [List.drop_succ_cons, List.drop_zero]
              have hcell := hj.cell
              have hfroz := hj.froz
              obtain ⟨yA, yc, hye, _⟩ := (hj.post _ g7).1.cap_le
              rw [show (L ++ [q]).length = L.length + 1 from List.length_append] at hye
              have HD := Lib.hid (hj.done g7 HUX.out HOK2.out)
              have HE8 := Lib.hid (show LkA u G B W0 vl (w5.setCell ⟨G, 0, none⟩ (x 7)) (L ++ [q]) from
                have hne : vl.ownBlock ≠ some G := fun e => HR7.out.ne G e rfl
                have hG0 : G < W0.heap.size := block_lt (a := ⟨G, 1, none⟩) HC7.out
                LkA.of HH.out.uB HH.out.neB HH.out.neV HM7.out.lt HD.out
                  ((World.cell?_setCell_other w5 ⟨G, 0, none⟩ ⟨G, 1, none⟩ _ (fun e => by have := congrArg Addr.off e; simp only at this; omega)).trans ((hj.chg.cell hG0 hne).trans HC7.out))
                  (HM7.out.block ((Below.heap_setCell w5 ⟨G, 0, none⟩ _ B HH.out.neB.symm).trans (hj.chg.block B HM7.out.lt HH.out.neV))) HTO.out)
              clear hj g7 e9 HJ HD
              rw [hye] at HE8 ⊢
              clear hye
              go_wp2_with fail
              go_ret
              exact ⟨by rw [HZ.out.1]; rfl, by rw [HZ.out.2]; exact HW7.out _ _ HE8.out⟩
      · have hl1 : (24 : Int) ≤ L.length := by omega
        have hl2 : decide ((24 : Int) ≤ L.length) = true := decide_eq_true hl1
        have he : adE L q = 14 := by unfold adE; rw [if_pos HPM.out, HF.out, if_neg (by decide), if_pos (by omega)]
        have hn : adN L q = L := if_neg (by rw [he]; decide)
        have HZ := Lib.hid (And.intro he hn)
        clear he hn hl
        go_wp2_with fail
        go_ret
        exact ⟨by rw [HZ.out.1]; rfl, by rw [HZ.out.2]; exact LkA.same HH.out HB3.out⟩
    · obtain ⟨hk, hkc, hf⟩ := plc_some HH.out.r.ok.apart hpl
      have he : adE L q = 16 := by unfold adE; rw [if_pos HPM.out, hf]; rfl
      have hn : adN L q = L := if_neg (by rw [he]; decide)
      have HZ := Lib.hid (And.intro he hn)
      rw [hpl] at m0
      simp only [Option.getD_some, Option.isSome_some] at m0
      clear he hn hpl hk hkc hf
      go_wp2_with fail
      go_quiet (fail)
      go_wp2_with fail
      go_ret
      exact ⟨by rw [HZ.out.1]; rfl, by rw [HZ.out.2]; exact LkA.same HH.out (below_dn HB2.out _)⟩
end Go.Proofs.Ytlglkfgephilnaa
