/- The document's ledger (layer 17): Reverse. -/
import Derived.Test.YtlglkfgephilnaaRef17B
namespace Go.Proofs.Ytlglkfgephilnaa
set_option maxRecDepth 100000
open Go.RowKit
theorem rrev17_any (u : World) (X : Nat) (L : List Po) (v : Value) (c : ByteArray) (w : World) (h : RLg u X w L v) :
    Calls Try.prog 17 #[.pointer (some ⟨X, 0, none⟩), .string c] w fun e w' => e = .returned (.tuple #[.int .i64 (rvV L c), .int .i64 (rvE L c)]) ∧ LkS u X w v w' (rvN L c) := by
  have HAT := Lib.hid (rat17_any u X L v c w h)
  have HH := Lib.hid h
  have hcell := h.cell
  have hL16 : (L.length : Int) ≤ 24 := by have := h.ok.few; omega
  clear h
  go_enter Try.func17, Try.ntmps17
  go_wp2_with fail
  refine HAT.out.mono ?_
  rintro e w2 ⟨q, rfl, hq, rfl⟩
  clear HAT
  rcases hq with ⟨rfl, hf⟩ | ⟨k, hk, rfl, hf⟩
  · have he : rvE L c = 15 := by unfold rvE; rw [hf]
    have hv : rvV L c = 0 := by unfold rvV; rw [hf]
    have hn : rvN L c = L := by unfold rvN; rw [he, if_neg (by decide)]
    have HZ := Lib.hid (And.intro he (And.intro hv hn))
    clear he hv hn hf
    go_wp2_with fail
    go_ret2
    exact ⟨by rw [HZ.out.1, HZ.out.2.1]; rfl, by rw [HZ.out.2.2]; exact LkS.same HH.out (Below.refl _ _)⟩
  · have hkc : L[k].k = c := (fndP_mem hf).2
    obtain ⟨g, cp, hvv, hgb, hgl⟩ := HH.out.own.lies (by omega)
    subst hvv
    obtain ⟨_, ⟨c0, c1, c2, c3⟩, cf⟩ := po_own HH.out.own hk
    have hki : (k : Int) < L.length := by omega
    have hki0 : decide ((k : Int) < 0) = false := decide_eq_false (by omega)
    have hki1 : (0 : Int) ≤ k := by omega
    have hgX : g ≠ X := HH.out.ne g rfl
    by_cases hs : L[k].s = 2
    · have he : rvE L c = 20 := by unfold rvE; rw [hf]; exact if_pos hs
      have hv : rvV L c = 0 := by unfold rvV; rw [hf]; exact if_pos hs
      have hn : rvN L c = L := by unfold rvN; rw [he, if_neg (by decide)]
      have HZ := Lib.hid (And.intro he (And.intro hv hn))
      have qs : (L[k].s == 2) = true := by simpa using hs
      generalize L[k] = x at *
      clear he hv hn hf hs
      go_wp2_with fail
      go_ret2
      exact ⟨by rw [HZ.out.1, HZ.out.2.1]; rfl, by rw [HZ.out.2.2]; exact LkS.same HH.out (Below.refl _ _)⟩
    · have he : rvE L c = 0 := by unfold rvE; rw [hf]; exact if_neg hs
      have hv : rvV L c = L[k].a := by unfold rvV; rw [hf]; exact if_neg hs
      have hn : rvN L c = mrk L L[k].k := by unfold rvN; rw [he, if_pos rfl, hkc]
      have HM := Lib.hid (HH.out.mark hk)
      rw [← hn] at HM
      have HZ := Lib.hid (And.intro he hv)
      have qs : (L[k].s == 2) = false := by simpa using hs
      have hX2 : (w2.setCell ⟨g, k * 4 + 2, none⟩ (.int .i64 2)).cell? ⟨X, 0, none⟩ = some (.slice (some ⟨g, 0, none⟩) L.length cp) := (World.cell?_setCell_other w2 ⟨g, k * 4 + 2, none⟩ ⟨X, 0, none⟩ _ (fun e => hgX (congrArg Addr.block e))).trans hcell
      have hc1 : (w2.setCell ⟨g, k * 4 + 2, none⟩ (.int .i64 2)).cell? ⟨g, k * 4 + 1, none⟩ = some (.int .i64 L[k].a) := (World.cell?_setCell_other w2 ⟨g, k * 4 + 2, none⟩ ⟨g, k * 4 + 1, none⟩ _ (fun e => by have := congrArg Addr.off e; simp only at this; omega)).trans c1
      have hf2 := cf (k * 4 + 2)
      generalize L[k] = x at *
      clear he hv hn hf hs hkc cf HH
      go_wp2_with fail
      go_ret2
      exact ⟨by rw [HZ.out.1, HZ.out.2]; rfl, HM.out⟩
end Go.Proofs.Ytlglkfgephilnaa
