/- Layer 17, the code: Total, Ask, Reverse, Close. -/
import Derived.Test.YtlglkfgephilnaaLedB
import Derived.Test.YtlglkfgephilnaaRef17B
namespace Go.Proofs.Ytlglkfgephilnaa
set_option maxRecDepth 100000
open Go.RowKit
set_option maxHeartbeats 1600000 in
theorem ctotal17_any (u : World) (G : Nat) (L : List Po) (v : Value) (w : World) (h : RLg u G w L v) :
    Calls Try.prog 23 #[.pointer (some ⟨G, 0, none⟩)] w fun e w' => e = .returned (.int .i64 (totP L)) ∧ Below w.heap.size w w' := by
  obtain ⟨A, cc, rfl, hl⟩ := h.own.slice
  have HL := Lib.hid hl
  have HOK := Lib.hid h.ok
  have hcell := h.cell
  have hL16 : (L.length : Int) ≤ 24 := by have := h.ok.few; omega
  clear h hl
  go_enter Try.func23, Try.ntmps23
  go_wp2_with fail
  go_loopw [3, 11] (fun n i wr => ∃ k : Nat, k ≤ L.length ∧ n = .int .i64 (totP (L.take k)) ∧ i = .int .i64 k ∧ Below w.heap.size w wr) (fun _ i _ => L.length - (intOf i).toNat)
  case atStart => exact ⟨0, Nat.zero_le _, rfl, rfl, Below.refl _ _⟩
  case round =>
    obtain ⟨k, hk, rfl, rfl, hb⟩ := hrel
    have HB := Lib.hid hb
    clear hb hcell
    by_cases hlt : k < L.length
    · obtain ⟨B, o, rfl, hBl, c0, c1, c2, c3⟩ := po_at (HL.out.keep HB.out) hlt
      have hk1 : (k : Int) < L.length := by omega
      have hp := HOK.out.each _ (List.getElem_mem hlt)
      have ht := tot_take hlt
      rw [← cnt_ok hp] at ht
      have HT := Lib.hid ht
      have h1 := totP_nn (L := L.take k) fun q hq => HOK.out.each q (List.mem_of_mem_take hq)
      have h2 := totP_le (L := L.take k) fun q hq => HOK.out.each q (List.mem_of_mem_take hq)
      have h3 : (L.take k).length ≤ 24 := by rw [List.length_take]; omega
      have hw1 : IntKind.i64.wrap (totP (L.take k) + cntP L[k]) = totP (L.take k) + cntP L[k] := by
        rw [IntKind.wrap_i64]
        have := hp.a0
        have := hp.aB
        have h4 : 0 ≤ cntP L[k] ∧ cntP L[k] ≤ 999999999999 := by unfold cntP; split <;> omega
        omega
      clear h1 h2 h3 hp ht
      generalize L[k] = x at *
      obtain ⟨T, hT⟩ : ∃ T, totP (L.take k) = T := ⟨_, rfl⟩
      rw [hT] at HT hw1 ⊢
      clear hT
      have HCN := Lib.hid (fun W => counted17_any x W)
      have hb2 := alloc_below wr (.cells #[.string x.k, .int .i64 x.a, .int .i64 x.s, .string x.t] 31)
      have HB2 := Lib.hid (HB.out.trans (hb2.mono HB.out.size))
      clear hb2
      generalize cntP x = C at *
      go_wp2_with fail
      refine (HCN.out _).mono ?_
      rintro e w3 ⟨rfl, hb3⟩
      have HB3 := Lib.hid (HB2.out.trans (hb3.mono HB2.out.size))
      clear hb3 HCN HB2
      go_wp2_with fail
      go_roundw
      case rel => exact ⟨k + 1, by omega, by rw [HT.out], by go_num, HB3.out⟩
      case measure => simp [intOf]; omega
    · have hk1 : ¬ (k : Int) < L.length := by omega
      have HE := Lib.hid (show totP (L.take k) = totP L by rw [List.take_of_length_le (by omega)])
      go_wp2_with fail
      go_ret
      exact ⟨by rw [HE.out]; rfl, HB.out⟩
/-- what a call leaves of the code's ledger -/
def LkA (u : World) (G B : Nat) (w : World) (v : Value) (w' : World) (L' : List Po) : Prop :=
  ∃ v', LgA u G B w' L' v' ∧ ChgS (fun k => k = G ∨ k = B ∨ v.ownBlock = some k) w w' ∧ ∀ g, v'.ownBlock = some g → v.ownBlock = some g ∨ w.heap.size ≤ g
theorem LkA.same {u w w' : World} {G B : Nat} {L : List Po} {v : Value} (h : LgA u G B w L v) (hb : Below w.heap.size w w') : LkA u G B w v w' L :=
  ⟨v, h.keep hb, ChgS.of_below hb, fun _ hg => Or.inl hg⟩
theorem LkA.after {u w w1 w' : World} {G B : Nat} {L' : List Po} {v : Value} (hb : Below w.heap.size w w1) (h : LkA u G B w1 v w' L') : LkA u G B w v w' L' := by
  obtain ⟨v', h1, h2, h3⟩ := h
  refine ⟨v', h1, (ChgS.of_below hb).trans h2, fun g hg => ?_⟩
  rcases h3 g hg with h | h
  · exact Or.inl h
  · exact Or.inr (Nat.le_trans hb.size h)
theorem chgS_wide17 {S T : Nat → Prop} {w w' : World} (h : ChgS S w w') (hs : ∀ k, S k → T k) : ChgS T w w' := ⟨h.os, h.tape, h.output, h.size, fun k hk hn => h.block k hk fun h2 => hn (hs k h2)⟩
/-- out of what it leaves of the row -/
theorem LkA.of {u w w' : World} {G B : Nat} {L' : List Po} {v : Value} (uB : u.heap.size ≤ B) (neB : G ≠ B) (neV : v.ownBlock ≠ some B) (lB : B < w.heap.size) (k : LkS u G w v w' L') (cel1 : w'.cell? ⟨G, 1, none⟩ = some (.map (some B))) (mp : MpP w' B L') (tot : totP L' ≤ 5000000000000) : LkA u G B w v w' L' := by
  obtain ⟨v', h1, h2, h3⟩ := k
  refine ⟨v', ⟨h1, uB, cel1, mp, neB, fun e => ?_, tot⟩, chgS_wide17 h2 fun k hk => hk.elim Or.inl fun e => Or.inr (Or.inr e), h3⟩
  rcases h3 B e with e | e
  · exact neV e
  · omega
theorem LgA.mark {u w : World} {G B : Nat} {L : List Po} {g c k : Nat} (h : LgA u G B w L (.slice (some ⟨g, 0, none⟩) L.length c)) (hk : k < L.length) (hs : L[k].s ≠ 2) :
    LkA u G B w (.slice (some ⟨g, 0, none⟩) L.length c) (w.setCell ⟨g, k * 4 + 2, none⟩ (.int .i64 2)) (mrk L L[k].k) := by
  have hgG : g ≠ G := h.r.ne g rfl
  have hgB : g ≠ B := fun e => h.neV (by rw [e]; rfl)
  have hf := fndP_of h.r.ok.apart (List.getElem_mem hk)
  refine LkA.of h.uB h.neB h.neV h.mp.lt (h.r.mark hk) ((World.cell?_setCell_other w ⟨g, k * 4 + 2, none⟩ ⟨G, 1, none⟩ _ (fun e => hgG (congrArg Addr.block e))).trans h.cel1) ((h.mp.block (Below.heap_setCell w ⟨g, k * 4 + 2, none⟩ _ B (Ne.symm hgB))).keys (mrk_keys L _)) (mrk_ok h.ok (rv_iff.2 ⟨_, hf, hs⟩)).tot
/-- the ledger emptied -/
theorem LgA.close {u w w' : World} {G B : Nat} {L : List Po} {v : Value} (h : LgA u G B w L v) (hm : MpP w' B []) (hc : ChgS (fun k => k = B) (w.setCell ⟨G, 0, none⟩ (.slice none 0 0)) w') : LkA u G B w v w' [] := by
  have r1 : RLg u G (w.setCell ⟨G, 0, none⟩ (.slice none 0 0)) [] (.slice none 0 0) := RLg.store h.r.bel h.r.uX h.r.cell h.r.froz (OwL.nil _ _ _) (fun g hg => by cases hg) LgIn.nil
  have hG : G < (w.setCell ⟨G, 0, none⟩ (.slice none 0 0)).heap.size := block_lt (a := ⟨G, 0, none⟩) r1.cell
  have c1 : (w.setCell ⟨G, 0, none⟩ (.slice none 0 0)).cell? ⟨G, 1, none⟩ = some (.map (some B)) := (World.cell?_setCell_other w ⟨G, 0, none⟩ ⟨G, 1, none⟩ _ (fun e => by have := congrArg Addr.off e; simp only at this; omega)).trans h.cel1
  refine ⟨.slice none 0 0, ⟨⟨r1.bel.trans (hc.below r1.bel.size fun k hk => by rw [hk]; exact h.uB), r1.uX, (hc.cell hG h.neB).trans r1.cell, (World.frozen?_of_block (hc.block G hG h.neB)).trans r1.froz, OwL.nil _ _ _, (fun g hg => by cases hg), LgIn.nil⟩, h.uB, (hc.cell hG h.neB).trans c1, hm, h.neB, (fun e => by cases e), by show (0 : Int) ≤ _; decide⟩, ?_, fun g hg => by cases hg⟩
  exact ((ChgS.refl _ w).setCell (a := ⟨G, 0, none⟩) (Or.inl rfl) _).trans (chgS_wide17 hc fun k hk => Or.inr (Or.inl hk))
set_option maxHeartbeats 1600000 in
theorem cclose17_any (u : World) (G B : Nat) (L : List Po) (v : Value) (w : World) (h : LgA u G B w L v) :
    Calls Try.prog 20 #[.pointer (some ⟨G, 0, none⟩)] w fun e w' => e = .returned (.int .i64 (totP L)) ∧ LkA u G B w v w' [] := by
  have HT := Lib.hid (ctotal17_any u G L v w h.r)
  have HH := Lib.hid h
  clear h
  go_enter Try.func20, Try.ntmps20
  go_wp2_with fail
  refine HT.out.mono ?_
  rintro e w2 ⟨rfl, hb⟩
  clear HT
  have h2 := HH.out.keep hb
  have HB := Lib.hid hb
  have hcell := h2.r.cell
  have hfroz := h2.r.froz
  have c1 : (w2.setCell ⟨G, 0, none⟩ (.slice none 0 0)).cell? ⟨G, 1, none⟩ = some (.map (some B)) := (World.cell?_setCell_other w2 ⟨G, 0, none⟩ ⟨G, 1, none⟩ _ (fun e => by have := congrArg Addr.off e; simp only at this; omega)).trans h2.cel1
  obtain ⟨w3, hr, hm, hc⟩ := (h2.mp.block (Below.heap_setCell w2 ⟨G, 0, none⟩ (.slice none 0 0) B (Ne.symm h2.neB))).clear
  have HE := Lib.hid ((h2.close hm hc).after hb)
  clear hm hc h2 hb HB HH
  go_wp2_with (simp only [hr])
  go_ret
  exact ⟨rfl, HE.out⟩
set_option maxHeartbeats 1600000 in
theorem cask17_any (u : World) (G B : Nat) (L : List Po) (v : Value) (c : ByteArray) (w : World) (h : LgA u G B w L v) (hc : c.size ≤ maxLen) :
    Calls Try.prog 18 #[.pointer (some ⟨G, 0, none⟩), .string c] w fun e w' => e = .returned (.tuple #[poV (akP L c), .bool (akB L c)]) ∧ Below w.heap.size w w' := by
  obtain ⟨w1, hw1⟩ : ∃ w1, w1 = w.alloc (.cells #[.string ⟨#[]⟩, .int .i64 0, .int .i64 0, .string ⟨#[]⟩] 31) := ⟨_, rfl⟩
  have hB : w1.heap[w.heap.size]? = some (.cells #[.string ⟨#[]⟩, .int .i64 0, .int .i64 0, .string ⟨#[]⟩] 31) := by
    rw [hw1]; exact heap_alloc_new w (.cells #[.string ⟨#[]⟩, .int .i64 0, .int .i64 0, .string ⟨#[]⟩] 31)
  have hb : Below w.heap.size w w1 := by rw [hw1]; exact alloc_below w _
  have h1 := h.keep hb
  have m0 := h1.mp.look c hc
  have HW1 := Lib.hid hw1
  have HB := Lib.hid hB
  have HBL := Lib.hid hb
  have hb0 := hb
  have hcell := h1.r.cell
  have cel1 := h1.cel1
  have HOK := Lib.hid h1.ok
  obtain ⟨A, cc, hv, hl⟩ := h1.r.own.slice
  have HL := Lib.hid hl
  subst hv
  have hpl : (plc L c = none) ∨ ∃ j, plc L c = some j := by cases plc L c with
    | none => exact Or.inl rfl
    | some j => exact Or.inr ⟨j, rfl⟩
  clear h h1 hw1 hB hb hl hc
  rcases hpl with hpl | ⟨j, hpl⟩
  · have hf := plc_none.1 hpl
    have hz : akP L c = ⟨⟨#[]⟩, 0, 0, ⟨#[]⟩⟩ ∧ akB L c = false := ⟨by unfold akP; rw [hf]; rfl, by unfold akB; rw [hf]; rfl⟩
    have HZ := Lib.hid hz
    rw [hpl] at m0
    simp only [Option.getD_none, Option.isSome_none] at m0
    have HST := Lib.hid (po_cells (z := ⟨⟨#[]⟩, 0, 0, ⟨#[]⟩⟩) HB.out)
    have HSB := Lib.hid hb0
    have hw1 := HW1.out
    subst hw1
    clear hz hf HB HBL HL HOK hpl HW1 hb0
    go_enter Try.func18, Try.ntmps18
    go_wp2_with fail
    obtain ⟨q0, q1, q2, q3⟩ := HST.out
    rw [HZ.out.1, HZ.out.2]
    exact bodyPost_ret (v := .tuple #[poV ⟨⟨#[]⟩, 0, 0, ⟨#[]⟩⟩, .bool false]) (by simp [results, Try.results18, go_sem, q0, q1, q2, q3]) rfl ⟨rfl, HSB.out⟩
  · obtain ⟨hk, hkc, hf⟩ := plc_some HOK.out.apart hpl
    obtain ⟨B0, o, rfl, hBl, c0, c1, c2, c3⟩ := po_at HL.out hk
    have hz : akP L c = L[j] ∧ akB L c = true := ⟨by unfold akP; rw [hf]; rfl, by unfold akB; rw [hf]; rfl⟩
    have HZ := Lib.hid hz
    have hp := HOK.out.each _ (List.getElem_mem hk)
    have HCP := Lib.hid (fun W => copyof17_any L[j] W (Nat.le_trans hp.k40 (by decide)) (Nat.le_trans hp.t (by decide)))
    have hki : (j : Int) < L.length := by omega
    have hki1 : (0 : Int) ≤ j := by omega
    have hL24 : (L.length : Int) ≤ 24 := by have := HOK.out.few; omega
    rw [hpl] at m0
    simp only [Option.getD_some, Option.isSome_some] at m0
    clear hkc
    generalize L[j] = x at *
    have hw1 := HW1.out
    subst hw1
    clear hz hf HL HOK hpl HW1 hp hb0
    go_enter Try.func18, Try.ntmps18
    go_wp2_with fail
    refine (HCP.out _).mono ?_
    rintro e w2 ⟨rfl, hb2⟩
    have HB2 := Lib.hid (HBL.out.trans (hb2.mono HBL.out.size))
    have hU := (hb2.block _ (Array.getElem?_eq_some_iff.1 HB.out).1).trans HB.out
    obtain ⟨⟨k0, f0⟩, ⟨k1, f1⟩, ⟨k2, f2⟩, ⟨k3, f3⟩⟩ := stp_facts (y := ⟨⟨#[]⟩, 0, 0, ⟨#[]⟩⟩) hU (.string x.k) (.int .i64 x.a) (.int .i64 x.s)
    have HST := Lib.hid (po_cells (stp_heap (y := ⟨⟨#[]⟩, 0, 0, ⟨#[]⟩⟩) (z := x) hU))
    have HSB := Lib.hid (stp_below (b := w.heap.size) (z := x) HB2.out (Nat.le_refl _))
    unfold stP at HST HSB
    simp only at k0 k1 k2 k3
    clear hb2 hU HB HBL HB2 HCP m0
    go_wp2_with fail
    obtain ⟨q0, q1, q2, q3⟩ := HST.out
    rw [HZ.out.1, HZ.out.2]
    exact bodyPost_ret (v := .tuple #[poV x, .bool true]) (by simp [results, Try.results18, go_sem, q0, q1, q2, q3]) rfl ⟨rfl, HSB.out⟩
set_option maxHeartbeats 1600000 in
theorem crev17_any (u : World) (G B : Nat) (L : List Po) (v : Value) (c : ByteArray) (w : World) (h : LgA u G B w L v) (hc : c.size ≤ maxLen) :
    Calls Try.prog 16 #[.pointer (some ⟨G, 0, none⟩), .string c] w fun e w' => e = .returned (.tuple #[.int .i64 (rvV L c), .int .i64 (rvE L c)]) ∧ LkA u G B w v w' (rvN L c) := by
  have m0 := h.mp.look c hc
  have HH := Lib.hid h
  have hcell := h.r.cell
  have cel1 := h.cel1
  have hL24 : (L.length : Int) ≤ 24 := by have := h.r.ok.few; omega
  have hpl : (plc L c = none) ∨ ∃ j, plc L c = some j := by cases plc L c with
    | none => exact Or.inl rfl
    | some j => exact Or.inr ⟨j, rfl⟩
  clear h hc
  rcases hpl with hpl | ⟨k, hpl⟩
  · have hf := plc_none.1 hpl
    have he : rvE L c = 15 := by unfold rvE; rw [hf]
    have hv : rvV L c = 0 := by unfold rvV; rw [hf]
    have hn : rvN L c = L := by unfold rvN; rw [he, if_neg (by decide)]
    have HZ := Lib.hid (And.intro he (And.intro hv hn))
    rw [hpl] at m0
    simp only [Option.getD_none, Option.isSome_none] at m0
    clear he hv hn hf hpl
    go_enter Try.func16, Try.ntmps16
    go_wp2_with fail
    go_ret2
    exact ⟨by rw [HZ.out.1, HZ.out.2.1]; rfl, by rw [HZ.out.2.2]; exact LkA.same HH.out (Below.refl _ _)⟩
  · obtain ⟨hk, hkc, hf⟩ := plc_some HH.out.r.ok.apart hpl
    obtain ⟨g, cp, hvv, hgb, hgl, _⟩ := HH.out.r.own.lies (by omega)
    subst hvv
    obtain ⟨_, ⟨c0, c1, c2, c3⟩, cf⟩ := po_own HH.out.r.own hk
    have hki : (k : Int) < L.length := by omega
    have hki0 : decide ((k : Int) < 0) = false := decide_eq_false (by omega)
    have hki1 : (0 : Int) ≤ k := by omega
    rw [hpl] at m0
    simp only [Option.getD_some, Option.isSome_some] at m0
    by_cases hs : L[k].s = 2
    · have he : rvE L c = 20 := by unfold rvE; rw [hf]; exact if_pos hs
      have hv : rvV L c = 0 := by unfold rvV; rw [hf]; exact if_pos hs
      have hn : rvN L c = L := by unfold rvN; rw [he, if_neg (by decide)]
      have HZ := Lib.hid (And.intro he (And.intro hv hn))
      have qs : (L[k].s == 2) = true := by simpa using hs
      generalize L[k] = x at *
      clear he hv hn hf hs hkc hpl
      go_enter Try.func16, Try.ntmps16
      go_wp2_with fail
      go_ret2
      exact ⟨by rw [HZ.out.1, HZ.out.2.1]; rfl, by rw [HZ.out.2.2]; exact LkA.same HH.out (Below.refl _ _)⟩
    · have he : rvE L c = 0 := by unfold rvE; rw [hf]; exact if_neg hs
      have hv : rvV L c = L[k].a := by unfold rvV; rw [hf]; exact if_neg hs
      have hn : rvN L c = mrk L L[k].k := by unfold rvN; rw [he, if_pos rfl, hkc]
      have HM := Lib.hid (HH.out.mark hk hs)
      rw [← hn] at HM
      have HZ := Lib.hid (And.intro he hv)
      have qs : (L[k].s == 2) = false := by simpa using hs
      have hc1 : (w.setCell ⟨g, k * 4 + 2, none⟩ (.int .i64 2)).cell? ⟨g, k * 4 + 1, none⟩ = some (.int .i64 L[k].a) := (World.cell?_setCell_other w ⟨g, k * 4 + 2, none⟩ ⟨g, k * 4 + 1, none⟩ _ (fun e => by have := congrArg Addr.off e; simp only at this; omega)).trans c1
      have hf2 := cf (k * 4 + 2)
      generalize L[k] = x at *
      clear he hv hn hf hs hkc cf HH hpl
      go_enter Try.func16, Try.ntmps16
      go_wp2_with fail
      go_ret2
      exact ⟨by rw [HZ.out.1, HZ.out.2]; rfl, HM.out⟩
end Go.Proofs.Ytlglkfgephilnaa
