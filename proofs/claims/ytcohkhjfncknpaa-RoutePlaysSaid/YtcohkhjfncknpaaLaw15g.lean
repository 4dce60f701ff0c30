/- Layer 15: the code's table beside the document's; same. -/
import Derived.Test.YtcohkhjfncknpaaLaw15d
import Derived.Test.YtcohkhjfncknpaaRef15Q
namespace Go.Proofs.Ytcohkhjfncknpaa
set_option maxRecDepth 100000
open Go.RowKit
theorem RTb.chgO {u w w' : World} {X : Nat} {M : List Rt} {v : Value} {O : Nat → Prop} (h : RTb u X w M v) (hc : ChgS O w w') (hX : ¬ O X) (hv : ∀ g, v.ownBlock = some g → ¬ O g) (hb : Below u.heap.size u w') : RTb u X w' M v where
  bel := hb
  uX := h.uX
  cell := (hc.cell (block_lt (a := ⟨X, 0, none⟩) h.cell) hX).trans h.cell
  froz := (World.frozen?_of_block (hc.block X (block_lt (a := ⟨X, 0, none⟩) h.cell) hX)).trans h.froz
  own := h.own.chgO hc hv
  ne := h.ne
  ok := h.ok
/-- the code's table with the list L, the document's with M, and blocks K that are as they were in w1; all apart -/
def BothK (u : World) (TA : World → List Rt → (Nat → Prop) → Prop) (X : Nat) (K : Nat → Prop) (w1 w : World) (L M : List Rt) : Prop :=
  ∃ O v, TA w L O ∧ RTb u X w M v ∧ ¬ O X ∧ (∀ g, v.ownBlock = some g → ¬ O g ∧ ¬ K g) ∧ ¬ K X ∧ ∀ k, K k → ¬ O k ∧ k < w.heap.size ∧ w.heap[k]? = w1.heap[k]?
section
variable {u w w' w1 w2 : World} {G X : Nat} {TA : World → List Rt → (Nat → Prop) → Prop} {K : Nat → Prop} {L M L1 M1 : List Rt} {f : FuncId} {args : Array Value} {r : Value}
theorem BothK.bel (hK : TKit u G TA) (h : BothK u TA X K w1 w L M) : Below u.heap.size u w := by
  obtain ⟨O, v, h1, _⟩ := h
  exact hK.bel _ _ _ h1
theorem BothK.okL (hK : TKit u G TA) (h : BothK u TA X K w1 w L M) : RtOk L := by
  obtain ⟨O, v, h1, _⟩ := h
  exact hK.ok _ _ _ h1
theorem BothK.okM (h : BothK u TA X K w1 w L M) : RtOk M := by
  obtain ⟨O, v, _, h2, _⟩ := h
  exact h2.ok
theorem BothK.held (h : BothK u TA X K w1 w L M) {k : Nat} (hk : K k) : w.heap[k]? = w1.heap[k]? := by
  obtain ⟨O, v, _, _, _, _, _, h6⟩ := h
  exact (h6 k hk).2.2
theorem BothK.below (hK : TKit u G TA) (h : BothK u TA X K w1 w L M) (hb : Below w.heap.size w w') : BothK u TA X K w1 w' L M := by
  obtain ⟨O, v, h1, h2, h3, h4, h5, h6⟩ := h
  exact ⟨O, v, hK.below h1 hb, h2.keep hb, h3, h4, h5, fun k hk => ⟨(h6 k hk).1, Nat.lt_of_lt_of_le (h6 k hk).2.1 hb.size, (hb.block k (h6 k hk).2.1).trans (h6 k hk).2.2⟩⟩
/-- a call of the code -/
theorem BothK.code (hK : TKit u G TA) (h : BothK u TA X K w1 w L M) (hc : ∀ O, TA w L O → Calls Try.prog f args w fun e w' => e = .returned r ∧ TStep TA w O w' L1) :
    Calls Try.prog f args w fun e w' => e = .returned r ∧ BothK u TA X K w1 w' L1 M := by
  obtain ⟨O, v, h1, h2, h3, h4, h5, h6⟩ := h
  refine (hc O h1).mono ?_
  rintro e w' ⟨he, O1, k1, k2, k3⟩
  have hX := block_lt (a := ⟨X, 0, none⟩) h2.cell
  refine ⟨he, O1, v, k1, h2.chgO k2 h3 (fun g hg => (h4 g hg).1) (hK.bel _ _ _ k1), fun hx => ?_, fun g hg => ⟨fun hx => ?_, (h4 g hg).2⟩, h5, fun k hk => ⟨fun hx => ?_, Nat.lt_of_lt_of_le (h6 k hk).2.1 k2.size, (k2.block k (h6 k hk).2.1 (h6 k hk).1).trans (h6 k hk).2.2⟩⟩
  · rcases k3 X hx with h7 | h7
    · exact h3 h7
    · exact Nat.not_lt.2 h7 hX
  · rcases k3 g hx with h7 | h7
    · exact (h4 g hg).1 h7
    · have := (h2.own.lt g hg).2; omega
  · rcases k3 k hx with h7 | h7
    · exact (h6 k hk).1 h7
    · have := (h6 k hk).2.1; omega
/-- a call of the document's -/
theorem BothK.ref (hK : TKit u G TA) (h : BothK u TA X K w1 w L M) (hc : ∀ v, RTb u X w M v → Calls Try.prog f args w fun e w' => e = .returned r ∧ RtS u X w v w' M1) :
    Calls Try.prog f args w fun e w' => e = .returned r ∧ BothK u TA X K w1 w' L M1 := by
  obtain ⟨O, v, h1, h2, h3, h4, h5, h6⟩ := h
  refine (hc v h2).mono ?_
  rintro e w' ⟨he, v1, k1, k2, k3⟩
  refine ⟨he, O, v1, hK.keep _ _ _ _ _ h1 k2 fun k hk => ?_, k1, h3, fun g hg => ?_, h5, fun k hk => ⟨(h6 k hk).1, Nat.lt_of_lt_of_le (h6 k hk).2.1 k2.size, (k2.block k (h6 k hk).2.1 fun hx => ?_).trans (h6 k hk).2.2⟩⟩
  · rcases hk with rfl | hk
    · exact ⟨h2.uX, h3⟩
    · exact ⟨(h2.own.lt k hk).1, (h4 k hk).1⟩
  · rcases k3 g hg with h7 | h7
    · exact h4 g h7
    · exact ⟨fun hx => by have := (hK.own _ _ _ h1 g hx).2; omega, fun hx => by have := (h6 g hx).2.1; omega⟩
  · rcases hx with rfl | hx
    · exact h5 hk
    · exact (h4 k hx).2 hk
/-- a new block is set apart -/
theorem BothK.mark (hK : TKit u G TA) (h : BothK u TA X (fun _ => False) w1 w L M) (hb : Below w.heap.size w w2) {H : Nat} (h1 : w.heap.size ≤ H) (h2 : H < w2.heap.size) : BothK u TA X (fun k => k = H) w2 w2 L M := by
  have hX : X < w.heap.size := by
    obtain ⟨O, v, _, k2, _⟩ := h
    exact block_lt (a := ⟨X, 0, none⟩) k2.cell
  have hO : ∀ O v, TA w L O → RTb u X w M v → (∀ k, O k → k < w.heap.size) ∧ ∀ g, v.ownBlock = some g → g < w.heap.size := fun O v k1 k2 => ⟨fun k hk => (hK.own _ _ _ k1 k hk).2, fun g hg => (k2.own.lt g hg).2⟩
  obtain ⟨O, v, k1, k2, k3, k4, _, _⟩ := h
  obtain ⟨a1, a2⟩ := hO O v k1 k2
  exact ⟨O, v, hK.below k1 hb, k2.keep hb, k3, fun g hg => ⟨(k4 g hg).1, fun e => by have := a2 g hg; omega⟩, fun e => by omega, fun k e => ⟨fun hk => by have := a1 k hk; omega, by omega, rfl⟩⟩
theorem BothK.free (h : BothK u TA X K w1 w L M) (w2 : World) : BothK u TA X (fun _ => False) w2 w L M := by
  obtain ⟨O, v, h1, h2, h3, h4, h5, h6⟩ := h
  exact ⟨O, v, h1, h2, h3, fun g hg => ⟨(h4 g hg).1, id⟩, id, fun k hk => absurd hk id⟩
end
/-- the document's New -/
theorem rnew15_any (u w : World) (hb : Below u.heap.size u w) : Calls Try.prog 10 #[] w fun e w' => ∃ X, e = .returned (.pointer (some ⟨X, 0, none⟩)) ∧ RTb u X w' [] (.slice none 0 0) ∧ w.heap.size ≤ X ∧ Below w.heap.size w w' := by
  have HB := Lib.hid hb
  clear hb
  go_enter Try.func10, Try.ntmps10
  go_wp2_with fail
  go_ret
  have b1 : Below w.heap.size w (w.alloc (.cells #[.slice none 0 0] 52)) := alloc_below _ _
  refine ⟨w.heap.size, rfl, ⟨HB.out.trans (b1.mono HB.out.size), HB.out.size, World.cell?_alloc_at _ _ _ _ rfl, ?_, OwL.nil _ _ _, (fun g hg => by cases hg), ⟨List.Pairwise.nil, Nat.zero_le _, (fun r hr => by cases hr)⟩⟩, Nat.le_refl _, b1⟩
  have e : (w.alloc (.cells #[.slice none 0 0] 52)).heap[w.heap.size]? = some (.cells #[.slice none 0 0] 52) := by
    show (w.heap.push _)[w.heap.size]? = _
    rw [Array.getElem?_push_size]
  simp only [World.frozen?, e]
  rfl
set_option maxHeartbeats 3200000 in
theorem same15_any {u w : World} {G X : Nat} {TA : World → List Rt → (Nat → Prop) → Prop} {L M : List Rt} (hK : TKit u G TA) (h : BothK u TA X (fun _ => False) u w L M) :
    Calls Try.prog 17 #[.pointer (some ⟨G, 0, none⟩), .pointer (some ⟨X, 0, none⟩)] w fun e w' => e = .returned (.bool (decide (L = M))) ∧ BothK u TA X (fun _ => False) u w' L M := by
  obtain ⟨q, hq⟩ : ∃ q, decide (L = M) = q := ⟨_, rfl⟩
  simp only [hq]
  obtain ⟨O, v, h1, h2, h3, h4, _, _⟩ := h
  have HL := Lib.hid (hK.list w L O h1)
  have HK := Lib.hid hK
  have H1 := Lib.hid h1
  have H2 := Lib.hid h2
  have H3 := Lib.hid h3
  have H4 := Lib.hid fun g hg => (h4 g hg).1
  have hl24 : (L.length : Int) ≤ 24 := by have := (hK.ok _ _ _ h1).few; omega
  have hm24 : (M.length : Int) ≤ 24 := by have := h2.ok.few; omega
  clear hK h1 h2 h3 h4
  go_enter Try.func17, Try.ntmps17
  go_wp2_with fail
  refine HL.out.mono ?_
  rintro e w2 ⟨v2, O2, rfl, ho2, hv2, k1, k2, k3⟩
  have R2 := H2.out.chgO k2 H3.out H4.out (HK.out.bel _ _ _ k1)
  have hX := block_lt (a := ⟨X, 0, none⟩) H2.out.cell
  have A2 := Lib.hid (show ¬ O2 X ∧ ∀ g, v.ownBlock = some g → ¬ O2 g from ⟨fun hx => by
    rcases k3 X hx with h7 | h7
    · exact H3.out h7
    · exact Nat.not_lt.2 h7 hX, fun g hg hx => by
    rcases k3 g hx with h7 | h7
    · exact H4.out g hg h7
    · have := (H2.out.own.lt g hg).2; omega⟩)
  have AV := Lib.hid (show ∀ g, v2.ownBlock = some g → ¬ O2 g ∧ g ≠ X ∧ v.ownBlock ≠ some g ∧ u.heap.size ≤ g from fun g hg => by
    have b1 := (ho2.lt g hg).1
    have b2 := H2.out.bel.size
    refine ⟨hv2 g hg, fun e => ?_, fun e => ?_, by omega⟩
    · rw [e] at b1
      exact Nat.not_lt.2 b1 hX
    · have := (H2.out.own.lt g e).2; omega)
  have HO2 := Lib.hid ho2
  have K1 := Lib.hid k1
  have HR2 := Lib.hid R2
  have c0 := R2.cell
  obtain ⟨A2', c2, rfl, hl2⟩ := ho2.slice
  obtain ⟨AM, cM, rfl, hlM⟩ := R2.own.slice
  have HS := Lib.hid (rsame15_any A2' c2 L AM cM M w2 hl2 hlM (by omega) (by omega))
  simp only [hq] at HS
  clear hq
  clear ho2 hv2 k1 k2 k3 R2 hX hl2 hlM HL H1 H2 H3 H4
  go_wp2_with fail
  refine HS.out.mono ?_
  rintro e w3 ⟨rfl, hb3⟩
  have HB3 := Lib.hid hb3
  have HO3 := Lib.hid (HO2.out.keep hb3)
  clear hb3 c0
  go_wp2_with fail
  go_loopw [7] (fun i wr => ∃ (k : Nat) (F : List Rt), i = .int .i64 k ∧ k ≤ L.length ∧ F.length = L.length ∧ OwL rtE 41 wr w.heap.size (.slice A2' L.length c2) F ∧ ChgS (fun g => (Value.slice A2' L.length c2).ownBlock = some g) w3 wr) (fun i _ => L.length - (intOf i).toNat)
  case atStart => exact ⟨0, L, rfl, Nat.zero_le _, rfl, HO3.out, ChgS.of_below (Below.refl _ _)⟩
  case round =>
    obtain ⟨k, F, rfl, hk, hF, ho, hc⟩ := hrel
    have HO := Lib.hid ho
    have HC := Lib.hid hc
    have HF := Lib.hid hF
    clear ho hc hF
    by_cases hlt : k < L.length
    · have hki : (k : Int) < L.length := by omega
      have hki2 : ¬ (k : Int) < 0 := by omega
      obtain ⟨g, cc, e, hg, hgl, hli⟩ := HO.out.lies (by rw [HF.out]; omega)
      injection e with e1 e2 e3
      subst e1
      have hlF : k < F.length := by rw [HF.out]; exact hlt
      obtain ⟨B, o, hAe, hBl, c1, c2'⟩ := rt_at hli hlF
      injection hAe with hAe
      injection hAe with hB ho' _
      subst hB ho'
      rw [Nat.zero_add] at c1 c2'
      have ho5 := HO.out
      rw [← HF.out] at ho5
      have f1 := World.ownsRow.frozenAt ho5 (k * 2)
      have f2 := World.ownsRow.frozenAt ho5 (k * 2 + 1)
      have HO5 := Lib.hid ho5
      clear ho5
      clear hli e2 e3
      have HN := Lib.hid (show ∃ F' : List Rt, F'.length = L.length ∧ OwL rtE 41 ((wr.setCell ⟨g, k * 2, none⟩ (.string { data := #[] })).setCell ⟨g, k * 2 + 1, none⟩ (.int .i64 (-7))) w.heap.size (.slice (some ⟨g, 0, none⟩) L.length c2) F' from by
        have hj : F[k]? = some F[k] := List.getElem?_eq_getElem hlF
        obtain ⟨s1, _⟩ := HO5.out.set1 rfl hj (i := 0) (by decide) (y := ⟨{ data := #[] }, F[k].t⟩) (u := .string { data := #[] }) rfl
        have hl1 : (F.set k ⟨{ data := #[] }, F[k].t⟩).length = F.length := List.length_set
        have hj2 : (F.set k ⟨{ data := #[] }, F[k].t⟩)[k]? = some ⟨{ data := #[] }, F[k].t⟩ := by
          rw [List.getElem?_set_self hlF]
        obtain ⟨s2, _⟩ := s1.set1 hl1.symm hj2 (i := 1) (by decide) (y := ⟨{ data := #[] }, -7⟩) (u := .int .i64 (-7)) rfl
        refine ⟨(F.set k ⟨{ data := #[] }, F[k].t⟩).set k ⟨{ data := #[] }, -7⟩, by rw [List.length_set, hl1, HF.out], ?_⟩
        have h9 := HF.out
        rw [← h9]
        exact s2)
      have HC2 := Lib.hid ((HC.out.setCell (a := ⟨g, k * 2, none⟩) rfl (.string { data := #[] })).setCell (a := ⟨g, k * 2 + 1, none⟩) rfl (.int .i64 (-7)))
      go_wp2_with fail
      go_roundw
      case rel =>
        obtain ⟨F', hF', ho'⟩ := HN.out
        exact ⟨k + 1, F', by go_num, by omega, hF', ho', HC2.out⟩
      case measure => simp [intOf]; omega
    · have hki : ¬ (k : Int) < L.length := by omega
      go_wp2_with fail
      go_ret
      have hb : Below u.heap.size u wr := (HR2.out.bel.trans (HB3.out.mono HR2.out.bel.size)).trans (HC.out.below (Nat.le_trans HR2.out.bel.size HB3.out.size) fun g hg => (AV.out g hg).2.2.2)
      refine ⟨rfl, O2, _, HK.out.keep w3 wr L O2 _ (HK.out.below K1.out HB3.out) HC.out (fun g hg => ⟨(AV.out g hg).2.2.2, (AV.out g hg).1⟩), (HR2.out.keep HB3.out).chgO HC.out (fun hg => (AV.out X hg).2.1 rfl) (fun g hg hg2 => (AV.out g hg2).2.2.1 hg) hb, A2.out.1, fun g hg => ⟨A2.out.2 g hg, id⟩, id, fun _ hk => absurd hk id⟩
end Go.Proofs.Ytcohkhjfncknpaa
