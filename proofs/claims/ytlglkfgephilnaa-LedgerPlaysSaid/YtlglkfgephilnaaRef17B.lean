/- The document's ledger (layer 17): New, Ask, Close, Reverse. -/
import Derived.Test.YtlglkfgephilnaaRef17J
import Derived.Test.YtlglkfgephilnaaLedU
import Derived.StillTailTactics
namespace Go.Proofs.Ytlglkfgephilnaa
set_option maxRecDepth 100000
open Go.RowKit
theorem LgIn.nil : LgIn [] := LgOk.nil.inn
theorem rnew17_any (u w : World) (hb : Below u.heap.size u w) : Calls Try.prog 13 #[] w fun e w' => ∃ G, e = .returned (.pointer (some ⟨G, 0, none⟩)) ∧ RLg u G w' [] (.slice none 0 0) ∧ w.heap.size ≤ G ∧ Below w.heap.size w w' := by
  have HB := Lib.hid hb
  clear hb
  go_enter Try.func13, Try.ntmps13
  go_wp2_with fail
  go_ret
  refine ⟨_, rfl, ⟨?_, HB.out.size, ?_, ?_, OwL.nil _ _ _, (fun g hg => by cases hg), LgIn.nil⟩, Nat.le_refl _, alloc_below _ _⟩
  · exact HB.out.trans ((alloc_below w _).mono HB.out.size)
  · exact (World.cell?_alloc_at _ _ _ _ rfl).trans rfl
  · exact World.frozen?_alloc_at _ _ _ _ rfl
theorem rclose17_any (u : World) (X : Nat) (L : List Po) (v : Value) (w : World) (h : RLg u X w L v) :
    Calls Try.prog 21 #[.pointer (some ⟨X, 0, none⟩)] w fun e w' => e = .returned (.int .i64 (totP L)) ∧ LkS u X w v w' [] := by
  have HT := Lib.hid (rtotal17_any u X L v w h)
  have HE := Lib.hid (show LkS u X w v (w.setCell ⟨X, 0, none⟩ (.slice none 0 0)) [] from ⟨_, RLg.store h.bel h.uX h.cell h.froz (OwL.nil _ _ _) (fun g hg => by cases hg) LgIn.nil, (ChgS.refl _ w).setCell (a := ⟨X, 0, none⟩) (Or.inl rfl) _, fun g hg => by cases hg⟩)
  have hcell := h.cell
  have hfroz := h.froz
  clear h
  go_enter Try.func21, Try.ntmps21
  go_wp2_with fail
  refine HT.out.mono ?_
  rintro e w2 ⟨rfl, rfl⟩
  clear HT
  go_wp2_with fail
  go_ret
  exact ⟨rfl, HE.out⟩
theorem rask17_any (u : World) (X : Nat) (L : List Po) (v : Value) (c : ByteArray) (w : World) (h : RLg u X w L v) :
    Calls Try.prog 19 #[.pointer (some ⟨X, 0, none⟩), .string c] w fun e w' => e = .returned (.tuple #[poV (akP L c), .bool (akB L c)]) ∧ Below w.heap.size w w' := by
  obtain ⟨w1, hw1⟩ : ∃ w1, w1 = w.alloc (.cells #[.string ⟨#[]⟩, .int .i64 0, .int .i64 0, .string ⟨#[]⟩] 31) := ⟨_, rfl⟩
  have hB : w1.heap[w.heap.size]? = some (.cells #[.string ⟨#[]⟩, .int .i64 0, .int .i64 0, .string ⟨#[]⟩] 31) := by
    rw [hw1]; exact heap_alloc_new w (.cells #[.string ⟨#[]⟩, .int .i64 0, .int .i64 0, .string ⟨#[]⟩] 31)
  have hb : Below w.heap.size w w1 := by rw [hw1]; exact alloc_below w _
  have h1 := h.keep hb
  have HAT := Lib.hid (rat17_any u X L v c w1 h1)
  have HW1 := Lib.hid hw1
  have HB := Lib.hid hB
  have HBL := Lib.hid hb
  have HH := Lib.hid h1
  have hcell := h1.cell
  have hL16 : (L.length : Int) ≤ 24 := by have := h.ok.few; omega
  obtain ⟨A, cc, hv, hl⟩ := h1.own.slice
  have HL := Lib.hid hl
  subst hv
  clear h h1 hw1 hB hb hl
  go_enter Try.func19, Try.ntmps19
  go_wp2_with fail
  rw [← HW1.out]
  refine HAT.out.mono ?_
  rintro e w2 ⟨q, rfl, hq, rfl⟩
  clear HAT
  rcases hq with ⟨rfl, hf⟩ | ⟨k, hk, rfl, hf⟩
  · have hz : akP L c = ⟨⟨#[]⟩, 0, 0, ⟨#[]⟩⟩ ∧ akB L c = false := ⟨by unfold akP; rw [hf]; rfl, by unfold akB; rw [hf]; rfl⟩
    have HZ := Lib.hid hz
    obtain ⟨⟨k0, f0⟩, ⟨k1, f1⟩, ⟨k2, f2⟩, ⟨k3, f3⟩⟩ := stp_facts (y := ⟨⟨#[]⟩, 0, 0, ⟨#[]⟩⟩) HB.out (.string ⟨#[]⟩) (.int .i64 0) (.int .i64 0)
    have HST := Lib.hid (po_cells (stp_heap (y := ⟨⟨#[]⟩, 0, 0, ⟨#[]⟩⟩) (z := ⟨⟨#[]⟩, 0, 0, ⟨#[]⟩⟩) HB.out))
    have HSB := Lib.hid (stp_below (b := w.heap.size) (z := ⟨⟨#[]⟩, 0, 0, ⟨#[]⟩⟩) HBL.out (Nat.le_refl _))
    unfold stP at HST HSB
    simp only at HST HSB k0 k1 k2 k3
    clear hz hf HW1 HB HBL HL HH
    go_wp2_with fail
    obtain ⟨q0, q1, q2, q3⟩ := HST.out
    rw [HZ.out.1, HZ.out.2]
    exact bodyPost_ret (v := .tuple #[poV ⟨⟨#[]⟩, 0, 0, ⟨#[]⟩⟩, .bool false]) (by simp [results, Try.results19, go_sem, q0, q1, q2, q3]) rfl ⟨rfl, HSB.out⟩
  · obtain ⟨B, o, rfl, hBl, c0, c1, c2, c3⟩ := po_at HL.out hk
    have hki : (k : Int) < L.length := by omega
    have hki0 : decide ((k : Int) < 0) = false := decide_eq_false (by omega)
    have hki1 : (0 : Int) ≤ k := by omega
    have hz : akP L c = L[k] ∧ akB L c = true := ⟨by unfold akP; rw [hf]; rfl, by unfold akB; rw [hf]; rfl⟩
    have HZ := Lib.hid hz
    generalize L[k] = x at *
    obtain ⟨⟨k0, f0⟩, ⟨k1, f1⟩, ⟨k2, f2⟩, ⟨k3, f3⟩⟩ := stp_facts (y := ⟨⟨#[]⟩, 0, 0, ⟨#[]⟩⟩) HB.out (.string x.k) (.int .i64 x.a) (.int .i64 x.s)
    have HST := Lib.hid (po_cells (stp_heap (y := ⟨⟨#[]⟩, 0, 0, ⟨#[]⟩⟩) (z := x) HB.out))
    have HSB := Lib.hid (stp_below (b := w.heap.size) (z := x) HBL.out (Nat.le_refl _))
    unfold stP at HST HSB
    simp only at k0 k1 k2 k3
    clear hz hf HW1 HB HBL HL HH
    go_wp2_with fail
    obtain ⟨q0, q1, q2, q3⟩ := HST.out
    rw [HZ.out.1, HZ.out.2]
    exact bodyPost_ret (v := .tuple #[poV x, .bool true]) (by simp [results, Try.results19, go_sem, q0, q1, q2, q3]) rfl ⟨rfl, HSB.out⟩
end Go.Proofs.Ytlglkfgephilnaa
