/- The document's Put (layer 15): what may be put. Written by specs/mkref15q.py. -/
import Derived.Test.YtcohkhjfncknpaaRef15P
namespace Go.Proofs.Ytcohkhjfncknpaa
set_option maxRecDepth 100000
open Go.RowKit
set_option maxHeartbeats 6400000 in
theorem rput15_good (u : World) (X : Nat) (L : List Rt) (v : Value) (p : ByteArray) (t : Int) (w : World) (h : RTb u X w L v) (hk : puK p t = true) :
    Calls Try.prog 12 #[.pointer (some ⟨X, 0, none⟩), .string p, .int .i64 t] w fun e w' => e = .returned (.int .i64 (puE L p t)) ∧ RtS u X w v w' (puN L p t) := by
  have hkk := of_decide_eq_true hk
  have HP := Lib.hid (rpack_all p w (by unfold maxLen; omega))
  rw [hkk.1] at HP
  have HK := Lib.hid hk
  have HT := Lib.hid h
  have HC := Lib.hid (show ∀ W, Below w.heap.size w W → W.cell? ⟨X, 0, none⟩ = some v from fun W hb => (h.keep hb).cell)
  have HF := Lib.hid (show ∀ W, Below w.heap.size w W → W.frozen? ⟨X, 0, none⟩ = false from fun W hb => (h.keep hb).froz)
  obtain ⟨A, c, hv, hcl, _, hcn⟩ := h.own.cap_le
  have HCP := Lib.hid (And.intro hcl hcn)
  have HLW := Lib.hid (show LiS rtE w A L from by
    obtain ⟨A', c', e, hl⟩ := h.own.slice
    rw [hv] at e
    injection e with e1 _ _
    rw [e1]; exact hl)
  have HV := Lib.hid hv
  rw [hv] at HC
  have hL24 : (L.length : Int) ≤ 24 := by have := h.ok.few; omega
  have hne : ¬ p.toList = [] := fun e => by
    have := hkk.2.1.1
    rw [ByteArray.toList_eq] at e
    have h3 : p.data.size = 0 := by rw [← Array.length_toList, e]; rfl
    have : p.size = p.data.size := rfl
    omega
  have hne2 : p.toList.isEmpty = false := by cases h : p.toList with | nil => exact absurd h hne | cons => rfl
  have h8 : ¬ (8 : Int) < p.size := by omega
  have h1t : ¬ t < 1 := by omega
  have h9t : ¬ 99 < t := by omega
  clear h hk hkk hv hcl hcn
  go_enter Try.func12, Try.ntmps12
  go_wp2_with fail
  refine HP.out.mono ?_
  rintro e w1 ⟨⟨v1, rfl⟩, hb1⟩
  have HB1 := Lib.hid hb1
  clear hb1
  go_wp2_with fail
  go_loopw [9] (fun i wr => ∃ k : Nat, i = .int .i64 k ∧ wr = w1 ∧ PuAt L p k) (fun i _ => L.length - (intOf i).toNat)
  case atStart => exact ⟨0, rfl, rfl, ⟨Nat.zero_le _, fun j _ hj => absurd hj (Nat.not_lt_zero j)⟩⟩
  case round =>
    obtain ⟨k, rfl, rfl, hpu⟩ := hrel
    have HPU := Lib.hid hpu
    have HLI := Lib.hid (HLW.out.keep HB1.out)
    have hcell := HC.out wr HB1.out
    have hkle : (k : Int) ≤ L.length := by have := hpu.le; omega
    clear hpu
    by_cases hlt : k < L.length
    · obtain ⟨B, o, hAe, hBl, c1, c2⟩ := rt_at HLI.out hlt
      have hk1 : (k : Int) < L.length := by omega
      have HX := Lib.hid (show ∃ x, L[k] = x from ⟨_, rfl⟩)
      subst hAe
      generalize hx : L[k] = x at *
      have HX := Lib.hid hx
      clear hx
      cases hls : Go.Op.bytesLess x.p.toList p.toList with
      | true =>
        have HN := Lib.hid (show PuAt L p (k + 1) from ⟨by omega, fun j hj hjk => by
          rcases Nat.lt_or_ge j k with h1 | h1
          · exact HPU.out.low j hj h1
          · obtain rfl : j = k := by omega
            rw [HX.out]; exact hls⟩)
        go_wp2_with fail
        go_roundw
        case rel => exact ⟨k + 1, by go_num, trivial, HN.out⟩
        case measure => simp [intOf]; omega
      | false =>
        by_cases he : x.p.toList = p.toList
        · have HTH := Lib.hid (pu_there (t := t) HPU.out hlt (by rw [HX.out]; exact toList_inj he))
          have HE := Lib.hid (show puE L p t = 0 by unfold puE; rw [HK.out, if_pos rfl, HTH.out.2, if_pos rfl])
          have HTW := Lib.hid (HT.out.keep HB1.out)
          have HFZ := Lib.hid (show wr.frozen? ⟨B, o + k * 2 + 1, none⟩ = false ∧ B ≠ X ∧ RtS u X w v (wr.setCell ⟨B, o + k * 2 + 1, none⟩ (.int .i64 t)) (putR L p t) from by
            obtain ⟨g, cc, e, hg, hgl, hli⟩ := (HTW.out.own).lies (by omega)
            have e' := e
            rw [HV.out] at e'
            injection e' with e1 _ _
            injection e1 with e1
            injection e1 with e1 e2 _
            subst e1 e2
            have hown : OwL rtE 41 wr u.heap.size (.slice (some ⟨B, 0, none⟩) L.length cc) L := by rw [← e]; exact HTW.out.own
            have hBX : B ≠ X := HTW.out.ne B (by rw [e]; rfl)
            have hj : L[k]? = some x := by rw [List.getElem?_eq_getElem hlt, HX.out]
            obtain ⟨s1, s2⟩ := hown.set1 rfl hj (i := 1) (by decide) (y := ⟨x.p, t⟩) (u := .int .i64 t) rfl
            have hset : L.set k ⟨x.p, t⟩ = putR L p t := by rw [HTH.out.1, show x.p = p from toList_inj he]
            rw [hset] at s1
            have hfz := World.ownsRow.frozenAt hown (k * 2 + 1)
            rw [Nat.zero_add]
            refine ⟨hfz, hBX, v, ⟨?_, HTW.out.uX, ?_, ?_, ?_, HTW.out.ne, puK_ok HTW.out.ok HK.out (Or.inl HTH.out.2)⟩, ?_, fun g hg => Or.inl hg⟩
            · have := (Chg.refl B wr).setCell (a := ⟨B, k * 2 + 1, none⟩) (Or.inl rfl) (.int .i64 t)
              exact HTW.out.bel.trans (this.below HTW.out.bel.size hg)
            · exact (World.cell?_setCell_other wr ⟨B, k * 2 + 1, none⟩ ⟨X, 0, none⟩ _ (fun e => hBX (congrArg Addr.block e))).trans HTW.out.cell
            · rw [World.frozen?_setCell]; exact HTW.out.froz
            · rw [e]; exact s1
            · exact (ChgS.of_below HB1.out).setCell (a := ⟨B, k * 2 + 1, none⟩) (Or.inr (by rw [e]; rfl)) _)
          have hfz := HFZ.out.1
          have hq : (x.p.toList == p.toList) = true := by simpa using he
          clear he
          go_wp2_with fail
          go_ret
          exact ⟨by rw [HE.out]; rfl, by unfold puN; rw [HE.out, if_pos rfl]; exact HFZ.out.2.2⟩
        · have hin := pu_not (t := t) HT.out.ok.rise HPU.out (fun _ => by rw [HX.out]; exact ⟨hls, fun e => he (by rw [e])⟩)
          have hq : (x.p.toList == p.toList) = false := by simpa using he
          clear c2
          have HIN := Lib.hid hin
          clear hin
          by_cases hf : 24 ≤ L.length
          · have hfi : (24 : Int) ≤ L.length := by omega
            have HE := Lib.hid (show puE L p t = 14 by unfold puE; rw [HK.out, if_pos rfl, HIN.out.2, if_neg (by decide), if_pos hf])
            go_wp2_with fail
            go_ret
            exact ⟨by rw [HE.out]; rfl, by unfold puN; rw [HE.out, if_neg (by decide)]; exact RtS.same HT.out HB1.out⟩
          · have hfi : ¬ (24 : Int) ≤ L.length := by omega
            have HE := Lib.hid (show puE L p t = 0 by unfold puE; rw [HK.out, if_pos rfl, HIN.out.2, if_neg (by decide), if_neg hf])
            have e1 : (L.take k).length = k := by rw [List.length_take]; have := HPU.out.le; omega
            have e2 : (L.drop k).length = L.length - k := List.length_drop
            have hkl := HPU.out.le
            obtain ⟨A1, c1, w2, hr1, ho1, _, _, hb1⟩ := run_appL rtTy wr w.heap.size _ _ (OwL.nil _ _ _) _ c (L.take k) (LiS.loR HLI.out c hkl) (fun hA => by unfold loR at hA; split at hA <;> first | (rename_i hc0; rw [e1]; have := HCP.out.1; omega) | cases hA) (by rw [e1]; simp only [List.length_nil]; omega) (by rw [e1]; simp only [List.length_nil]; omega) HB1.out.size
            rw [List.length_nil, Nat.zero_add, e1] at hr1 ho1
            rw [List.nil_append] at ho1
            have ho1' : OwL rtE 41 w2 w.heap.size (.slice A1 (L.take k).length c1) (L.take k) := by rw [e1]; exact ho1
            obtain ⟨A2, c2, w3, hr2, ho2, _, _, hb2⟩ := run_appL rtTy (w2.alloc (.cells #[.string p, .int .i64 t] 41)) w.heap.size _ _ (ho1'.alloc _) _ 1 [⟨p, t⟩] (one_el (E := rtE) (T := 41) w2 ⟨p, t⟩) (fun h => by cases h) (by rw [e1]; simp only [List.length_singleton]; omega) (by rw [e1]; simp only [List.length_singleton]; omega) (by have := HB1.out.size; have := hb1.size; simp; omega)
            have hB2 : Below w.heap.size w w2 := HB1.out.trans hb1
            have hB3 : Below w.heap.size w w3 := (hB2.alloc hB2.size (.cells #[.string p, .int .i64 t] 41)).trans hb2
            rw [e1] at hr2
            have ho2' : OwL rtE 41 w3 w.heap.size (.slice A2 (L.take k ++ [(⟨p, t⟩ : Rt)]).length c2) (L.take k ++ [⟨p, t⟩]) := by rw [List.length_append]; exact ho2
            have e3 : (L.take k ++ [(⟨p, t⟩ : Rt)]).length = k + 1 := by rw [List.length_append, e1]; rfl
            obtain ⟨A3, c3, w4, hr3, ho3, _, _, hb3⟩ := run_appL rtTy w3 w.heap.size _ _ ho2' _ (c - k) (L.drop k) (LiS.hiR (c := c) (HLW.out.keep hB3) hkl HCP.out.1) (fun hA => by unfold hiR at hA; split at hA <;> first | (rename_i hc0; rw [e2]; have := HCP.out.1; omega) | cases hA) (by rw [e2, e3]; omega) (by rw [e2, e3]; omega) hB3.size
            have HB4 := Lib.hid (hB3.trans hb3)
            have HO4 := Lib.hid ho3
            have HR1 := Lib.hid hr1
            have HR2 := Lib.hid hr2
            rw [e2, e3] at hr3
            have HR3 := Lib.hid hr3
            have HB3 := Lib.hid hB3
            have HQ := Lib.hid (And.intro e2 e3)
            have hc3 := HC.out w3 hB3
            have hc4 := HC.out w4 HB4.out
            have hf4 := HF.out w4 HB4.out
            have hlo := fun W => run_loR W (some ⟨B, o, none⟩) L.length c k (Nat.le_trans hkl HCP.out.1)
            have hhi := fun W => run_hiR W (some ⟨B, o, none⟩) L.length c k hkl
            clear hr1 hr2 hr3 ho1 ho2 ho3 ho1' ho2' hb1 hb2 hb3 hB2 hB3 e1 e2 e3
            go_wp2_with (first
              | (at_builtin; refine wpList_runL (.tmp 89) (.tmp 95) rfl rfl rfl rfl rfl HR1.out ?_)
              | (at_builtin; refine wpList_runL (.tmp 97) (.tmp 101) rfl rfl rfl rfl rfl HR2.out ?_)
              | (at_builtin; refine wpList_runL (.tmp 104) (.tmp 110) rfl rfl rfl rfl rfl HR3.out ?_))
            go_ret
            refine ⟨by rw [HE.out]; rfl, ?_⟩
            have hnew := RtS.new HT.out HB4.out HO4.out (by rw [← HIN.out.1]; exact puK_ok HT.out.ok HK.out (Or.inr (by omega)))
            unfold puN
            rw [HE.out, if_pos rfl, HIN.out.1]
            rw [HQ.out.1, HQ.out.2] at hnew
            exact hnew
    · have hk1 : ¬ (k : Int) < L.length := by omega
      have hin := pu_not (t := t) HT.out.ok.rise HPU.out (fun h => absurd h hlt)
      have HIN := Lib.hid hin
      clear hin
      by_cases hf : 24 ≤ L.length
      · have hfi : (24 : Int) ≤ L.length := by omega
        have HE := Lib.hid (show puE L p t = 14 by unfold puE; rw [HK.out, if_pos rfl, HIN.out.2, if_neg (by decide), if_pos hf])
        go_wp2_with fail
        go_ret
        exact ⟨by rw [HE.out]; rfl, by unfold puN; rw [HE.out, if_neg (by decide)]; exact RtS.same HT.out HB1.out⟩
      · have hfi : ¬ (24 : Int) ≤ L.length := by omega
        have HE := Lib.hid (show puE L p t = 0 by unfold puE; rw [HK.out, if_pos rfl, HIN.out.2, if_neg (by decide), if_neg hf])
        have e1 : (L.take k).length = k := by rw [List.length_take]; have := HPU.out.le; omega
        have e2 : (L.drop k).length = L.length - k := List.length_drop
        have hkl := HPU.out.le
        obtain ⟨A1, c1, w2, hr1, ho1, _, _, hb1⟩ := run_appL rtTy wr w.heap.size _ _ (OwL.nil _ _ _) _ c (L.take k) (LiS.loR HLI.out c hkl) (fun hA => by unfold loR at hA; split at hA <;> first | (rename_i hc0; rw [e1]; have := HCP.out.1; omega) | (cases A with | none => (have := HCP.out.2 rfl; rw [e1]; omega) | some _ => cases hA)) (by rw [e1]; simp only [List.length_nil]; omega) (by rw [e1]; simp only [List.length_nil]; omega) HB1.out.size
        rw [List.length_nil, Nat.zero_add, e1] at hr1 ho1
        rw [List.nil_append] at ho1
        have ho1' : OwL rtE 41 w2 w.heap.size (.slice A1 (L.take k).length c1) (L.take k) := by rw [e1]; exact ho1
        obtain ⟨A2, c2, w3, hr2, ho2, _, _, hb2⟩ := run_appL rtTy (w2.alloc (.cells #[.string p, .int .i64 t] 41)) w.heap.size _ _ (ho1'.alloc _) _ 1 [⟨p, t⟩] (one_el (E := rtE) (T := 41) w2 ⟨p, t⟩) (fun h => by cases h) (by rw [e1]; simp only [List.length_singleton]; omega) (by rw [e1]; simp only [List.length_singleton]; omega) (by have := HB1.out.size; have := hb1.size; simp; omega)
        have hB2 : Below w.heap.size w w2 := HB1.out.trans hb1
        have hB3 : Below w.heap.size w w3 := (hB2.alloc hB2.size (.cells #[.string p, .int .i64 t] 41)).trans hb2
        rw [e1] at hr2
        have ho2' : OwL rtE 41 w3 w.heap.size (.slice A2 (L.take k ++ [(⟨p, t⟩ : Rt)]).length c2) (L.take k ++ [⟨p, t⟩]) := by rw [List.length_append]; exact ho2
        have e3 : (L.take k ++ [(⟨p, t⟩ : Rt)]).length = k + 1 := by rw [List.length_append, e1]; rfl
        obtain ⟨A3, c3, w4, hr3, ho3, _, _, hb3⟩ := run_appL rtTy w3 w.heap.size _ _ ho2' _ (c - k) (L.drop k) (LiS.hiR (c := c) (HLW.out.keep hB3) hkl HCP.out.1) (fun hA => by unfold hiR at hA; split at hA <;> first | (rename_i hc0; rw [e2]; have := HCP.out.1; omega) | (cases A with | none => (have := HCP.out.2 rfl; rw [e2]; omega) | some _ => cases hA)) (by rw [e2, e3]; omega) (by rw [e2, e3]; omega) hB3.size
        have HB4 := Lib.hid (hB3.trans hb3)
        have HO4 := Lib.hid ho3
        have HR1 := Lib.hid hr1
        have HR2 := Lib.hid hr2
        rw [e2, e3] at hr3
        have HR3 := Lib.hid hr3
        have HB3 := Lib.hid hB3
        have HQ := Lib.hid (And.intro e2 e3)
        have hc3 := HC.out w3 hB3
        have hc4 := HC.out w4 HB4.out
        have hf4 := HF.out w4 HB4.out
        have hlo := fun W => run_loR W A L.length c k (Nat.le_trans hkl HCP.out.1)
        have hhi := fun W => run_hiR W A L.length c k hkl
        clear hr1 hr2 hr3 ho1 ho2 ho3 ho1' ho2' hb1 hb2 hb3 hB2 hB3 e1 e2 e3
        go_wp2_with (first
          | (at_builtin; refine wpList_runL (.tmp 89) (.tmp 95) rfl rfl rfl rfl rfl HR1.out ?_)
          | (at_builtin; refine wpList_runL (.tmp 97) (.tmp 101) rfl rfl rfl rfl rfl HR2.out ?_)
          | (at_builtin; refine wpList_runL (.tmp 104) (.tmp 110) rfl rfl rfl rfl rfl HR3.out ?_))
        go_ret
        refine ⟨by rw [HE.out]; rfl, ?_⟩
        have hnew := RtS.new HT.out HB4.out HO4.out (by rw [← HIN.out.1]; exact puK_ok HT.out.ok HK.out (Or.inr (by omega)))
        unfold puN
        rw [HE.out, if_pos rfl, HIN.out.1]
        rw [HQ.out.1, HQ.out.2] at hnew
        exact hnew
end Go.Proofs.Ytcohkhjfncknpaa
