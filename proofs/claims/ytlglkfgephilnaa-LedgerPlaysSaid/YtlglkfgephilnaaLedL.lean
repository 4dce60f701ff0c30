/- Layer 17, the code: Approve, New, List. -/
import Derived.Test.YtlglkfgephilnaaLedD
namespace Go.Proofs.Ytlglkfgephilnaa
set_option maxRecDepth 100000
open Go.RowKit
theorem capp17_any (u : World) (G B : Nat) (L : List Po) (v : Value) (k : ByteArray) (a : Int) (t : ByteArray) (w : World) (h : LgA u G B w L v) :
    Calls Try.prog 14 #[.pointer (some ⟨G, 0, none⟩), .string k, .int .i64 a, .string t] w fun e w' => e = .returned (.int .i64 (apE L k a t)) ∧ LkA u G B w v w' (apN L k a t) := by
  have hA := cadd17_any u G B L v ⟨k, a, 1, t⟩ w h
  rw [(ad_ap L k a t).1, (ad_ap L k a t).2] at hA
  have HA := Lib.hid hA
  clear hA h
  go_enter Try.func14, Try.ntmps14
  go_wp2_with fail
  refine HA.out.mono ?_
  rintro e w1 ⟨rfl, h1⟩
  have H1 := Lib.hid h1
  clear h1 HA
  go_wp2_with fail
  go_ret
  exact ⟨rfl, H1.out⟩
theorem cnew17_any (u w : World) (hb : Below u.heap.size u w) : Calls Try.prog 12 #[] w fun e w' => ∃ G B, e = .returned (.pointer (some ⟨G, 0, none⟩)) ∧ LgA u G B w' [] (.slice none 0 0) ∧ (w.heap.size ≤ G ∧ w.heap.size ≤ B) ∧ Below w.heap.size w w' := by
  have hmm := @run_makeMap Try.prog
  have HM := Lib.hid (MpP.made w)
  have HB := Lib.hid hb
  clear hb
  go_enter Try.func12, Try.ntmps12
  go_wp2_with fail
  go_ret
  have b1 : Below w.heap.size w (w.alloc (.map #[] 0)) := alloc_below _ _
  have b2 : Below w.heap.size w ((w.alloc (.map #[] 0)).alloc (.cells #[.slice none 0 0, .map (some w.heap.size)] 60)) := b1.alloc b1.size _
  have us := HB.out.size
  refine ⟨w.heap.size + 1, w.heap.size, rfl, ⟨⟨?_, by omega, ?_, ?_, OwL.nil _ _ _, (fun g hg => by cases hg), LgIn.nil⟩, us, ?_, ?_, by omega, (fun e => by cases e), by show (0 : Int) ≤ _; decide⟩, ⟨by omega, Nat.le_refl _⟩, b2⟩
  · exact HB.out.trans (b2.mono us)
  · exact (World.cell?_alloc_at _ _ _ _ (by simp)).trans rfl
  · exact World.frozen?_alloc_at _ _ _ _ (by simp)
  · exact (World.cell?_alloc_at _ _ _ _ (by simp)).trans rfl
  · exact HM.out.block (Below.heap_alloc _ _ _ (by simp))
/-- what make leaves for so many -/
theorem make17 (w : World) (base c : Nat) (hb : base ≤ w.heap.size) (hc : c ≤ 1000) : ∃ w', (Instr.makeSlice 22 (.int .i64 0) (.int .i64 ((c : Nat) : Int))).run Try.prog w = .ok (.slice (some ⟨w.heap.size, 0, none⟩) 0 c) w' ∧ OwL poE 31 w' base (.slice (some ⟨w.heap.size, 0, none⟩) 0 c) [] ∧ w.grownBy w' none := by
  obtain ⟨i, hi, hz, hsz, hbt⟩ := info_parts poTy.info
  exact run_make_own w base 22 31 i _ poE.k poTy.und hi hz hsz .i64 .i64 c (by rw [hbt]; omega) (by unfold maxLen; omega) hb
set_option maxHeartbeats 1600000 in
theorem clist17_any (u : World) (G : Nat) (L : List Po) (v : Value) (w : World) (h : RLg u G w L v) :
    Calls Try.prog 25 #[.pointer (some ⟨G, 0, none⟩)] w fun e w' => ∃ v', e = .returned v' ∧ OwL poE 31 w' w.heap.size v' L ∧ Below w.heap.size w w' := by
  have hlen := h.ok.few
  obtain ⟨w1, hmk, ho1, hg1⟩ := make17 w w.heap.size L.length (Nat.le_refl _) (by omega)
  have B1 : Below w.heap.size w w1 := (Below.refl _ _).grown hg1 (Nat.le_refl _) (fun k hk => by cases hk)
  obtain ⟨A, cp, hv, hl⟩ := h.own.slice
  have c0 := h.cell
  rw [hv] at c0
  have HK1 := Lib.hid (h.keep B1)
  have c1 := HK1.out.cell
  rw [hv] at c1
  have HL := Lib.hid hl
  have HO1 := Lib.hid ho1
  have HB1 := Lib.hid B1
  have HLEN := Lib.hid hlen
  have HOK := Lib.hid h.ok
  clear h hv hl ho1 hg1 B1 hlen
  go_enter Try.func25, Try.ntmps25
  go_wp2_with fail
  go_loopw [3, 17] (fun v3 i wr => ∃ (k : Nat) (A' : Option Addr) (c' : Nat), k ≤ L.length ∧ i = .int .i64 k ∧ v3 = .slice A' k c' ∧ OwL poE 31 wr w.heap.size (.slice A' k c') (L.take k) ∧ Below w.heap.size w wr) (fun _ i _ => L.length - (intOf i).toNat)
  case atStart => exact ⟨0, _, _, Nat.zero_le _, rfl, rfl, HO1.out, HB1.out⟩
  case round =>
    obtain ⟨k, A', c', hk, rfl, rfl, ho, hb⟩ := hrel
    have HO := Lib.hid ho
    have HB := Lib.hid hb
    clear ho hb c0 c1 hmk HK1 HO1
    have hl24 : (L.length : Int) ≤ 24 := by have := HLEN.out; omega
    by_cases hlt : k < L.length
    · obtain ⟨B, o, rfl, hBl, d0, d1, d2, d3⟩ := po_at (HL.out.keep HB.out) hlt
      have hki : (k : Int) < L.length := by omega
      have HTK := Lib.hid (show L.take (k + 1) = L.take k ++ [L[k]] from by rw [List.take_add_one, List.getElem?_eq_getElem hlt]; rfl)
      have HTL := Lib.hid (show (L.take k).length = k by rw [List.length_take]; omega)
      have HX := Lib.hid (HOK.out.each _ (List.getElem_mem hlt))
      generalize L[k] = x at *
      have HCP := Lib.hid (fun W => copyof17_any x W (Nat.le_trans HX.out.k40 (by decide)) (Nat.le_trans HX.out.t (by decide)))
      have hb2 := alloc_below wr (.cells #[.string x.k, .int .i64 x.a, .int .i64 x.s, .string x.t] 31)
      have HB2 := Lib.hid (HB.out.trans (hb2.mono HB.out.size))
      have HO2 := Lib.hid (HO.out.keep hb2)
      clear hb2
      go_wp2_with fail
      refine (HCP.out _).mono ?_
      rintro e w2 ⟨rfl, hb3⟩
      have HB3 := Lib.hid (HB2.out.trans (hb3.mono HB2.out.size))
      have HO3 := Lib.hid (HO2.out.keep hb3)
      have hlen : (L.take k).length + 1 ≤ 25 := by rw [HTL.out]; omega
      have ho3 : OwL poE 31 w2 w.heap.size (.slice A' (L.take k).length c') (L.take k) := by rw [HTL.out]; exact HO3.out
      obtain ⟨A2, c2, w4, hr, ho4, _, _, hb4⟩ := run_appL poTy (w2.alloc (.cells #[.string x.k, .int .i64 x.a, .int .i64 x.s, .string x.t] 31)) w.heap.size _ _ (ho3.alloc _) _ 1 [x] (one_el (E := poE) (T := 31) w2 x) (fun h => by cases h) (by simp only [List.length_singleton]; omega) (by simp only [List.length_singleton]; omega) (by have := HB3.out.size; simp; omega)
      rw [HTL.out, ← HTK.out] at ho4
      rw [HTL.out] at hr
      have HR := Lib.hid hr
      have HO4 := Lib.hid ho4
      have HB4 := Lib.hid ((HB3.out.alloc HB3.out.size (.cells #[.string x.k, .int .i64 x.a, .int .i64 x.s, .string x.t] 31)).trans hb4)
      clear hr ho4 hb4 hb3 ho3 hlen
      go_wp2_with (at_builtin; refine wpList_runL (.tmp 21) (.tmp 24) rfl rfl rfl rfl rfl HR.out ?_)
      go_roundw
      case rel => exact ⟨k + 1, A2, c2, by omega, by go_num, rfl, HO4.out, HB4.out⟩
      case measure => simp [intOf]; omega
    · obtain rfl : k = L.length := by omega
      rw [List.take_length] at HO
      go_wp2_with fail
      go_ret
      exact ⟨_, rfl, HO.out, HB.out⟩
end Go.Proofs.Ytlglkfgephilnaa
