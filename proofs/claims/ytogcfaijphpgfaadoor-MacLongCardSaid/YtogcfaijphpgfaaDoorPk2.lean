/- 10 texts in one, in their order. -/
import Derived.Test.YtogcfaijphpgfaaDoorPk1
import Derived.Laws.BitsAllLaws
import Derived.Laws.BitsLemmas
/- Contracts of package sha: Write. -/
namespace Go.Proofs.YtogcfaijphpgfaaDoor
open Go.RowKit
/-- a Hash behind n bytes -/
def HM (w : World) (g n : Nat) (f : Nat → Nat) : Prop := ∃ b, RowV w g 66 73 (hv (hs f (n / 64)) b n) ∧ ∀ j, j < n % 64 → b j = f (64 * (n / 64) + j)
namespace HM
variable {w w' : World} {g n : Nat} {f f' : Nat → Nat}
theorem lt (h : HM w g n f) : g < w.heap.size := by obtain ⟨b, h, _⟩ := h; exact h.lt
theorem of_block (h : HM w g n f) (e : w'.heap[g]? = w.heap[g]?) : HM w' g n f := by obtain ⟨b, h, r⟩ := h; exact ⟨b, h.of_block e, r⟩
theorem keep (h : HM w g n f) (hb : Below w.heap.size w w') : HM w' g n f := h.of_block (hb.block g h.lt)
theorem chg {K : Nat} (h : HM w g n f) (hc : Chg K w w') (hK : g ≠ K) : HM w' g n f := h.of_block (hc.block g h.lt hK)
theorem drewN (h : HM w g n f) (k : Nat) : HM (w.drewN k) g n f := h
theorem alloc (h : HM w g n f) (o : Obj) : HM (w.alloc o) g n f := h.keep ((Below.refl _ _).alloc (Nat.le_refl _) o)
theorem congr (h : HM w g n f) (e : ∀ j, j < n → f j = f' j) : HM w g n f' := by
  obtain ⟨b, h, r⟩ := h
  refine ⟨b, ?_, fun j hj => by rw [r j hj, e _ (by omega)]⟩
  rw [← hs_congr (f := f) (g := f') (n / 64) fun j hj => e j (by omega)]
  exact h
theorem count (h : HM w g n f) : w.cell? ⟨g, 72, none⟩ = some (.int .i64 (n : Nat)) := by obtain ⟨b, h, _⟩ := h; exact h.cell (i := 72) (by decide)
end HM
/-- where each part begins -/
def offs (n0 : Nat) (n : Nat → Nat) : Nat → Nat
  | 0 => n0
  | i + 1 => offs n0 n i + n i
theorem offs_le (n0 : Nat) (n : Nat → Nat) (i : Nat) : ∀ d, offs n0 n i ≤ offs n0 n (i + d)
  | 0 => Nat.le_refl _
  | d + 1 => Nat.le_trans (offs_le n0 n i d) (by show _ ≤ offs n0 n (i + d) + n (i + d); omega)
/-- parts: rows of bytes, known by a row of slices -/
structure Parts (w : World) (g k : Nat) (A : Nat → Option Addr) (n c : Nat → Nat) (f : Nat → Nat → Nat) : Prop where
  cells : ∀ j, j < k → w.cell? ⟨g, j, none⟩ = some (.slice (A j) (n j) (c j))
  rows : ∀ j, j < k → SlB w (A j) (n j) (f j)
theorem SlB.chg {w w' : World} {A : Option Addr} {n K : Nat} {bs : Nat → Nat} (h : SlB w A n bs) (hc : Chg K w w') (hK : 0 < n → ∀ B o, A = some ⟨B, o, none⟩ → B ≠ K) : SlB w' A n bs := fun hn => by
  obtain ⟨B, o, hA, hB, h⟩ := h hn
  exact ⟨B, o, hA, Nat.lt_of_lt_of_le hB hc.size, fun j hj => ⟨(h j hj).1, (hc.cell hB (hK hn B o hA)).trans (h j hj).2⟩⟩
theorem Parts.chg {w w' : World} {g k K : Nat} {A : Nat → Option Addr} {n c : Nat → Nat} {f : Nat → Nat → Nat} (h : Parts w g k A n c f) (hc : Chg K w w') (hg : g ≠ K) (hK : ∀ i, i < k → 0 < n i → ∀ B o, A i = some ⟨B, o, none⟩ → B ≠ K) : Parts w' g k A n c f :=
  ⟨fun j hj => (hc.cell (block_lt (a := ⟨g, 0, none⟩) (h.cells 0 (by omega))) hg).trans (h.cells j hj), fun j hj => (h.rows j hj).chg hc (hK j hj)⟩
theorem Parts.drewN {w : World} {g k : Nat} {A : Nat → Option Addr} {n c : Nat → Nat} {f : Nat → Nat → Nat} (h : Parts w g k A n c f) (m : Nat) : Parts (w.drewN m) g k A n c f := ⟨h.cells, h.rows⟩
/-- the block behind a copy -/
def putH (q k : Nat) (f b : Nat → Nat) (j : Nat) : Nat := if q ≤ j ∧ j < q + k then f (j - q) else b j
theorem putV_hv (s : S8) (b f : Nat → Nat) (n q k j : Nat) (hq : q + k ≤ 64) : putV (8 + q) k (fun j => .int .u8 (f j : Nat)) (hv s b n) j = hv s (putH q k f b) n j := by
  unfold putV hv putH
  by_cases h8 : j < 8
  · rw [if_neg (by omega), if_pos h8, if_pos h8]
  · by_cases h72 : j < 72
    · rw [if_neg h8, if_neg h8, if_pos h72, if_pos h72]
      by_cases h : 8 + q ≤ j ∧ j < 8 + q + k
      · rw [if_pos h, if_pos (by omega), show j - (8 + q) = j - 8 - q by omega]
      · rw [if_neg h, if_neg (by omega)]
    · rw [if_neg h8, if_neg h8, if_neg h72, if_neg h72, if_neg (by omega)]
theorem set_hv (s : S8) (b : Nat → Nat) (n m j : Nat) (hj : j < 73) : (if j = 72 then Value.int .i64 (m : Nat) else hv s b n j) = hv s b m j := by
  unfold hv
  by_cases h : j = 72
  · subst h; rfl
  · rw [if_neg h]
    by_cases h8 : j < 8
    · rw [if_pos h8, if_pos h8]
    · rw [if_neg h8, if_neg h8, if_pos (by omega), if_pos (by omega)]
theorem SlB.congr {w : World} {A : Option Addr} {n : Nat} {f f' : Nat → Nat} (h : SlB w A n f) (e : ∀ j, j < n → f j = f' j) : SlB w A n f' := fun hn => by
  obtain ⟨B, o, hA, hB, hc⟩ := h hn
  exact ⟨B, o, hA, hB, fun j hj => by rw [← e j hj]; exact hc j hj⟩
theorem hiA_block {w : World} {A : Option Addr} {n c k : Nat} {f : Nat → Nat} (h : SlB w A n f) (hn : 0 < n) {B o : Nat} (e : hiA A c k = some ⟨B, o, none⟩) : ∃ o', A = some ⟨B, o', none⟩ := by
  obtain ⟨B0, o0, rfl, _, _⟩ := h hn
  unfold hiA at e
  split at e
  · exact ⟨_, e⟩
  · rw [Option.map_some, Go.WideShapes.add_plain] at e
    injection e with e
    injection e with e1 _ _
    exact ⟨o0, by rw [e1]⟩
theorem hB5' {g : Nat} {w w' : World} (h : Chg g w.drew w') : Chg g w w' := ⟨h.os, h.tape, h.output, h.size, h.block⟩
/-- some bytes more, no block is full -/
theorem hm_part {w : World} {g N k : Nat} {F b f : Nat → Nat} (hr : RowV w g 66 73 (hv (hs F (N / 64)) (putH (N % 64) k f b) (N + k))) (hb : ∀ j, j < N % 64 → b j = F (64 * (N / 64) + j)) (hf : ∀ j, j < k → F (N + j) = f j) (hk : N % 64 + k < 64) : HM w g (N + k) F := by
  refine ⟨putH (N % 64) k f b, ?_, fun j hj => ?_⟩
  · rw [show (N + k) / 64 = N / 64 by omega]; exact hr
  · rw [show (N + k) / 64 = N / 64 by omega]
    unfold putH
    by_cases h : N % 64 ≤ j ∧ j < N % 64 + k
    · rw [if_pos h, ← hf _ (by omega), show N + (j - N % 64) = 64 * (N / 64) + j by omega]
    · rw [if_neg h]; exact hb j (by omega)
/-- the block is full: what is in it -/
theorem full_block {N k : Nat} {F b f : Nat → Nat} (hb : ∀ j, j < N % 64 → b j = F (64 * (N / 64) + j)) (hf : ∀ j, j < k → F (N + j) = f j) (hk : N % 64 + k = 64) (j : Nat) (hj : j < 64) : putH (N % 64) k f b j = F (64 * (N / 64) + j) := by
  unfold putH
  by_cases h : N % 64 ≤ j ∧ j < N % 64 + k
  · rw [if_pos h, ← hf _ (by omega), show N + (j - N % 64) = 64 * (N / 64) + j by omega]
  · rw [if_neg h]; exact hb j (by omega)
theorem hm_full {w : World} {g N k : Nat} {F b f : Nat → Nat} (hr : RowV w g 66 73 (hv (comp (hs F (N / 64)) (putH (N % 64) k f b)) (putH (N % 64) k f b) (N + k))) (hb : ∀ j, j < N % 64 → b j = F (64 * (N / 64) + j)) (hf : ∀ j, j < k → F (N + j) = f j) (hk : N % 64 + k = 64) : HM w g (N + k) F := by
  refine ⟨putH (N % 64) k f b, ?_, fun j hj => by omega⟩
  rw [show (N + k) / 64 = N / 64 + 1 by omega, hs, ← comp_congr (full_block hb hf hk)]
  exact hr
set_option maxRecDepth 100000 in
set_option maxHeartbeats 3200000 in
theorem write_any (g n0 gp k cap : Nat) (A : Nat → Option Addr) (n c : Nat → Nat) (f : Nat → Nat → Nat) (F : Nat → Nat) (w : World) (hk : k ≤ 1000) (hN : offs n0 n k ≤ 1000000000000000) (hp : Parts w gp k A n c f) (hcap : ∀ i, i < k → n i ≤ c i)
    (hF : ∀ i, i < k → ∀ j, j < n i → F (offs n0 n i + j) = f i j) (hm : HM w g n0 F) (hY : By (offs n0 n k) F) (ht : GT w) (hg : 1 ≠ g ∧ 0 ≠ g) (hgp : gp ≠ g)
    (hA : ∀ i, i < k → 0 < n i → ∀ B o, A i = some ⟨B, o, none⟩ → B ≠ g) :
    Calls Tryd.prog 24 #[.pointer (some ⟨g, 0, none⟩), .slice (some ⟨gp, 0, none⟩) k cap] w fun e w' => e = .returned (.tuple #[]) ∧ (HM w' g (offs n0 n k) F ∧ Chg g w w') := by
  have HP := Lib.hid hp
  have HF := Lib.hid hF
  have HH := Lib.hid hm
  have HY := Lib.hid hY
  have HT := Lib.hid ht
  have HG := Lib.hid hg
  have HGP := Lib.hid hgp
  have HA := Lib.hid hA
  have HCP := Lib.hid hcap
  have HN := Lib.hid hN
  clear hp hF hm hY ht hg hgp hA hN hcap
  go_enter Tryd.func24, Tryd.ntmps24
  go_wp2_with fail
  go_loopw [9] (fun v wr => ∃ i : Nat, i ≤ k ∧ v = .int .i64 i ∧ HM wr g (offs n0 n i) F ∧ Chg g w wr) (fun v _ => k - (intOf v).toNat)
  case atStart => exact ⟨0, Nat.zero_le _, rfl, HH.out, Chg.refl _ _⟩
  case round =>
    obtain ⟨i, hi, rfl, h1, h2⟩ := hrel
    have H1 := Lib.hid h1
    have H2 := Lib.hid h2
    clear h1 h2 HH
    by_cases hlt : i < k
    · have HPr := Lib.hid (HP.out.chg H2.out HGP.out HA.out)
      have hcell := HPr.out.cells i hlt
      have HS := Lib.hid (HPr.out.rows i hlt)
      have HFi := Lib.hid (HF.out i hlt)
      have HAi := Lib.hid (HA.out i hlt)
      have HCi := Lib.hid (HCP.out i hlt)
      have HO := Lib.hid (show offs n0 n (i + 1) = offs n0 n i + n i from rfl)
      have HNi := Lib.hid (show offs n0 n i + n i ≤ 1000000000000000 by
        have := offs_le n0 n (i + 1) (k - (i + 1))
        rw [show i + 1 + (k - (i + 1)) = k by omega] at this
        have h3 := HN.out
        have h4 := HO.out
        omega)
      have HYi := Lib.hid (show By (offs n0 n i + n i) F from fun j hj => HY.out j (by
        have := offs_le n0 n (i + 1) (k - (i + 1))
        rw [show i + 1 + (k - (i + 1)) = k by omega] at this
        have h4 := HO.out
        omega))
      obtain ⟨N1, hN1⟩ : ∃ N1, offs n0 n (i + 1) = N1 := ⟨_, rfl⟩
      rw [hN1] at HO
      have HN1 := Lib.hid hN1
      clear hN1
      generalize offs n0 n i = N0 at *
      generalize hAA : A i = Ai at *
      generalize hnn : n i = ni at *
      generalize hcc : c i = ci at *
      generalize f i = fi at *
      have hni : ni ≤ 1000000000000000 := by have := HNi.out; omega
      clear hAA hnn hcc
      go_wp2_with fail
      go_loopw [5] (fun v wr => ∃ (d : Nat) (A' : Option Addr) (c' : Nat), d ≤ ni ∧ v = .slice A' (ni - d) c' ∧ SlB wr A' (ni - d) (fun j => fi (d + j)) ∧ ni - d ≤ c' ∧ (0 < ni - d → ∀ B o, A' = some ⟨B, o, none⟩ → B ≠ g) ∧ HM wr g (N0 + d) F ∧ Chg g w wr) (fun v _ => lenOf v)
      case atStart => exact ⟨0, Ai, ci, Nat.zero_le _, rfl, HS.out.congr fun j _ => by rw [Nat.zero_add], HCi.out, HAi.out, H1.out, H2.out⟩
      case round =>
        obtain ⟨d, A', c', hd, rfl, h1, h2, h3, h4, h5⟩ := hrel
        have G1 := Lib.hid h1
        have G2 := Lib.hid h2
        have G3 := Lib.hid h3
        have G4 := Lib.hid h4
        have G5 := Lib.hid h5
        clear h1 h2 h3 h4 h5 H1 H2 HPr hcell HS
        obtain ⟨m, hm⟩ : ∃ m, ni - d = m := ⟨_, rfl⟩
        rw [hm] at G1 G2 G3 ⊢
        by_cases hdl : d < ni
        · have hm0 : (0 : Int) < m := by omega
          have hm1 : (m : Int) ≤ 1000000000000000 := by omega
          obtain ⟨N, hN⟩ : ∃ N, N0 + d = N := ⟨_, rfl⟩
          rw [hN] at G4
          obtain ⟨b, hrow, hbb⟩ := G4.out
          have HR := Lib.hid hrow
          have HB := Lib.hid hbb
          have hN2 : N ≤ 1000000000000000 := by have := HNi.out; omega
          have hNi0 : (0 : Int) ≤ N := by omega
          have hNi1 : (N : Int) ≤ 1000000000000000 := by omega
          have hcnt : wr.cell? ⟨g, 72, none⟩ = some (.int .i64 (N : Nat)) := HR.out.cell (i := 72) (by decide)
          have hq1 := Int.tmod_eq_emod_of_nonneg (b := 64) hNi0
          have hsl := sl_from 40 64 g 8 (N % 64) Tryd.underlying40 (by omega) ((N : Int).tmod 64) (by omega)
          obtain ⟨e, he⟩ : ∃ e, Nat.min m (64 - N % 64) = e := ⟨_, rfl⟩
          have hem : e ≤ m := by rw [← he]; exact Nat.min_le_left _ _
          have heq : e ≤ 64 - N % 64 := by rw [← he]; exact Nat.min_le_right _ _
          have he0 : 0 < e := by
            rw [← he]
            have : N % 64 < 64 := Nat.mod_lt _ (by decide)
            exact Nat.lt_min.2 ⟨by omega, by omega⟩
          have HE := Lib.hid he
          have hei : (e : Int) ≤ m := by omega
          obtain ⟨A2, hA2⟩ : ∃ A2, hiA A' c' e = A2 := ⟨_, rfl⟩
          have hsh := fun w => run_hi w A' m c' e hem
          rw [hA2] at hsh
          obtain ⟨x, hx⟩ : ∃ x, N + e = x := ⟨_, rfl⟩
          have hNe : (N : Int) + (e : Int) = (x : Nat) := by omega
          have hx0 : (0 : Int) ≤ x := by omega
          have hx1 : (x : Int) ≤ 2000000000000000 := by omega
          have HX := Lib.hid hx
          have HA2 := Lib.hid hA2
          clear hrow hbb G4 he hq1 hx hA2
          go_wp2_with fail
          go_region_law ((refine step_copyV rfl (.tmp 24) (.tmp 25) rfl g (8 + N % 64) _ _ A' m c' rfl rfl 66 73 _ (by first | exact HR.out | exact HR.out.drew) _ (by first | exact G1.out | exact G1.out.drewN 1) e HE.out.symm (by omega) ?_); intro w5 hr5 hb5; have HR5 := Lib.hid (hr5.congr fun j _ => putV_hv _ _ _ _ _ _ j (by omega)); have HB5 := Lib.hid hb5; clear hr5 hb5)
          have G6 := Lib.hid (G5.out.trans (hB5' HB5.out))
          have hcnt : w5.cell? ⟨g, 72, none⟩ = some (.int .i64 (N : Nat)) := HR5.out.cell (i := 72) (by decide)
          have hfr : w5.frozen? ⟨g, 72, none⟩ = false := HR5.out.frozen (i := 72) (by decide)
          have HR6 := Lib.hid ((HR5.out.set 72 (.int .i64 (x : Nat))).congr fun j hj => set_hv _ _ _ x j hj)
          have G7 := Lib.hid (G6.out.setCell (a := ⟨g, 72, none⟩) (Or.inl rfl) (.int .i64 (x : Nat)))
          have G8 := Lib.hid (((((G1.out.chg (hB5' HB5.out) G3.out).chg ((Chg.refl g w5).setCell (a := ⟨g, 72, none⟩) (Or.inl rfl) (.int .i64 (x : Nat))) G3.out).hiA (k := e) hem G2.out).congr (f' := fun j => fi ((d + e) + j)) fun j _ => by rw [Nat.add_assoc]))
          rw [HA2.out] at G8
          have G9 := Lib.hid (show 0 < m - e → ∀ B o, A2 = some ⟨B, o, none⟩ → B ≠ g from fun h B o hB => by
            obtain ⟨o', ho⟩ := hiA_block (c := c') (k := e) G1.out (by omega) (by rw [HA2.out]; exact hB)
            exact G3.out (by omega) B o' ho)
          have HFe := Lib.hid (show ∀ j, j < e → F (N + j) = fi (d + j) from fun j hj => by
            rw [← HFi.out (d + j) (by omega), ← hN, Nat.add_assoc])
          have HM1 := Lib.hid (show m - e = ni - (d + e) by omega)
          have HM2 := Lib.hid (show d + e ≤ ni by omega)
          have HM3 := Lib.hid (show x = N0 + (d + e) by have := HX.out; omega)
          have HM4 := Lib.hid (show m - e ≤ c' - e by have := G2.out; omega)
          have HM5 := Lib.hid (show m - e < m by omega)
          clear hsl HB5 G1 HR hN HE hm hm0 hm1
          by_cases hfull : N % 64 + e = 64
          · have hz : ((x : Int) % 64 == 0) = true := by have := HX.out; simp; omega
            have HFU := Lib.hid (full_block HB.out HFe.out hfull)
            have HYF := Lib.hid (show By 64 (putH (N % 64) e (fun j => fi (d + j)) b) from fun j hj => by
              rw [HFU.out j hj]; exact HYi.out _ (by have := HX.out; have := HM3.out; have := HM2.out; omega))
            have HFL := Lib.hid hfull
            clear hfull
            have HTq := Lib.hid (HT.out.chg G7.out HG.out)
            go_wp2_with fail
            refine (add_any g x _ _ _ (hs_ok F (N / 64)) HYF.out HR6.out HTq.out HG.out).mono ?_
            rintro e2 w6 ⟨rfl, h1, h2⟩
            have HM6 := Lib.hid (show HM w6 g x F by
              have := HX.out
              subst this
              exact hm_full h1 HB.out HFe.out HFL.out)
            have G10 := Lib.hid (G7.out.trans h2)
            have G11 := Lib.hid (G8.out.chg h2 G9.out)
            clear h1 h2
            go_wp2_with fail
            exact ⟨⟨d + e, A2, c' - e, HM2.out, by rw [HM1.out], by rw [← HM1.out]; exact G11.out, by rw [← HM1.out]; exact HM4.out, by rw [← HM1.out]; exact G9.out, by rw [← HM3.out]; exact HM6.out, G10.out⟩, HM5.out⟩
          · have hz : ((x : Int) % 64 == 0) = false := by have := HX.out; simp; omega
            have HFL := Lib.hid hfull
            clear hfull
            have HM6 := Lib.hid (show HM (w5.setCell ⟨g, 72, none⟩ (.int .i64 (x : Nat))) g x F by
              have := HX.out
              subst this
              exact hm_part HR6.out HB.out HFe.out (by have := HFL.out; omega))
            go_wp2_with fail
            exact ⟨⟨d + e, A2, c' - e, HM2.out, by rw [HM1.out], by rw [← HM1.out]; exact G8.out, by rw [← HM1.out]; exact HM4.out, by rw [← HM1.out]; exact G9.out, by rw [← HM3.out]; exact HM6.out, G7.out⟩, HM5.out⟩
        · obtain rfl : d = ni := by omega
          obtain rfl : m = 0 := by omega
          have HX := Lib.hid (show N0 + d = N1 from HO.out.symm)
          rw [HX.out] at G4
          go_wp2_with fail
          go_roundw
          case rel => exact ⟨i + 1, by omega, by go_num, by rw [HN1.out]; exact G4.out, G5.out⟩
          case measure => simp [intOf]; omega
    · obtain rfl : i = k := by omega
      go_wp2_with fail
      go_end0
      exact ⟨rfl, H1.out, H2.out⟩
end Go.Proofs.YtogcfaijphpgfaaDoor
/- Contracts of package sha: the padding. -/
namespace Go.Proofs.YtogcfaijphpgfaaDoor
open Go.RowKit
/-- p[:h] of an array of bytes behind a pointer -/
theorem sl_to (t : TypeId) (n g o h : Nat) (hu : Tryd.prog.underlying t = some (.array n 5)) (hh : h ≤ n) (hi : Int) (eh : hi = (h : Nat)) (w : World) :
    (Instr.sliceAt t (.pointer (some ⟨g, o, none⟩)) none (some (.int .i64 hi)) none).run Tryd.prog w = .ok (.slice (some ⟨g, o, none⟩) h n) w := by
  subst eh
  have he : Tryd.prog.elem t = 5 := by simp [Program.elem, hu]
  have hn : Tryd.prog.arrayLen t = n := by simp [Program.arrayLen, hu]
  rw [run_sliceAt_array_h (h0 := by omega) (h2 := by rw [hn]; omega) (ht := by rw [hn, he]; exact hu), he, sizeU8]
  show Result.ok (slicedAt ⟨g, o, none⟩ _ _ _ 1) w = _
  rw [hn, Int.toNat_natCast]
  unfold slicedAt
  split
  · simp
  · rw [Go.WideShapes.add_plain]; simp
/-- p[:] -/
theorem run_parts2 (w : World) (A0 : Option Addr) (n0 c0 : Nat) (A1 : Option Addr) (n1 c1 : Nat) : (Instr.buildSlice 30 2 #[(0, .slice A0 n0 c0), (1, .slice A1 n1 c1)]).run Tryd.prog w = .ok (.slice (some ⟨w.heap.size, 0, none⟩) 2 2) (w.alloc (.cells #[.slice A0 n0 c0, .slice A1 n1 c1] 22)) := by go_simp
theorem sl_all (t : TypeId) (n g o : Nat) (hu : Tryd.prog.underlying t = some (.array n 5)) (w : World) :
    (Instr.sliceAt t (.pointer (some ⟨g, o, none⟩)) none none none).run Tryd.prog w = .ok (.slice (some ⟨g, o, none⟩) n n) w := by
  have he : Tryd.prog.elem t = 5 := by simp [Program.elem, hu]
  have hn : Tryd.prog.arrayLen t = n := by simp [Program.arrayLen, hu]
  rw [run_sliceAt_array_all (ht := by rw [hn, he]; exact hu), he, sizeU8]
  show Result.ok (slicedAt ⟨g, o, none⟩ _ _ _ 1) w = _
  rw [hn]
  unfold slicedAt
  split
  · simp
  · rw [Go.WideShapes.add_plain]; simp
theorem arr_new {W : World} {c : Array Value} {t : TypeId} {n g : Nat} {f : Nat → Nat} (hc : c = (bytesL n f).toArray) (hg : g = W.heap.size) : Arr (W.alloc (.cells c t)) g 0 n f := by
  subst hg; exact arr_made W c t n f hc
/-- 128, and zeros -/
def pd (j : Nat) : Nat := if j = 0 then 128 else 0
theorem pd_lit : (#[.int .u8 128, .int .u8 0, .int .u8 0, .int .u8 0, .int .u8 0, .int .u8 0, .int .u8 0, .int .u8 0, .int .u8 0, .int .u8 0, .int .u8 0, .int .u8 0, .int .u8 0, .int .u8 0, .int .u8 0, .int .u8 0, .int .u8 0, .int .u8 0, .int .u8 0, .int .u8 0, .int .u8 0, .int .u8 0, .int .u8 0, .int .u8 0, .int .u8 0, .int .u8 0, .int .u8 0, .int .u8 0, .int .u8 0, .int .u8 0, .int .u8 0, .int .u8 0, .int .u8 0, .int .u8 0, .int .u8 0, .int .u8 0, .int .u8 0, .int .u8 0, .int .u8 0, .int .u8 0, .int .u8 0, .int .u8 0, .int .u8 0, .int .u8 0, .int .u8 0, .int .u8 0, .int .u8 0, .int .u8 0, .int .u8 0, .int .u8 0, .int .u8 0, .int .u8 0, .int .u8 0, .int .u8 0, .int .u8 0, .int .u8 0, .int .u8 0, .int .u8 0, .int .u8 0, .int .u8 0, .int .u8 0, .int .u8 0, .int .u8 0, .int .u8 0] : Array Value) = (bytesL 64 pd).toArray := rfl
/-- the length's bytes -/
def lnb (x1 x2 : Nat) (j : Nat) : Nat := putw 4 x2 (putw 0 x1 (fun _ => 0)) j
theorem lnb_eq (n j : Nat) (hj : j < 8) : lnb (8 * n / 4294967296) (8 * n % 4294967296) j = 8 * n / 256 ^ (7 - j) % 256 := by
  unfold lnb putw
  have hh : j = 0 ∨ j = 1 ∨ j = 2 ∨ j = 3 ∨ j = 4 ∨ j = 5 ∨ j = 6 ∨ j = 7 := by omega
  rcases hh with rfl | rfl | rfl | rfl | rfl | rfl | rfl | rfl <;> simp <;> omega
/-- the padding's two parts -/
theorem pad_offs (n z : Nat) (hz : (119 - n % 64) % 64 = z) : n + (1 + z) + 8 = padL n := by unfold padL; omega
theorem pad_first (n z : Nat) (f : Nat → Nat) (hz : (119 - n % 64) % 64 = z) (j : Nat) (hj : j < 1 + z) : padf n f (n + j) = pd j := by
  have h := pad_offs n z hz
  unfold padf pd
  rw [if_neg (by omega)]
  by_cases e : j = 0
  · rw [if_pos (by omega), if_pos e]
  · rw [if_neg (by omega), if_pos (by omega), if_neg e]
theorem pad_last (n z : Nat) (f : Nat → Nat) (hz : (119 - n % 64) % 64 = z) (j : Nat) (hj : j < 8) : padf n f (n + (1 + z) + j) = lnb (8 * n / 4294967296) (8 * n % 4294967296) j := by
  have h := pad_offs n z hz
  unfold padf
  rw [if_neg (by omega), if_neg (by omega), if_neg (by omega), lnb_eq n j hj, show padL n - 1 - (n + (1 + z) + j) = 7 - j by omega]
theorem padf_by (n : Nat) (f : Nat → Nat) (m : Nat) (hf : By n f) : By m (padf n f) := fun j _ => by
  unfold padf
  by_cases h : j < n
  · rw [if_pos h]; exact hf j h
  · rw [if_neg h]; split
    · decide
    · split
      · decide
      · exact Nat.mod_lt _ (by decide)
/-- one of two -/
def t2 {α : Type} (x y : α) (j : Nat) : α := if j = 0 then x else y
theorem two_of {j : Nat} (h : j < 2) : j = 0 ∨ j = 1 := by omega
set_option maxRecDepth 100000 in
set_option maxHeartbeats 1600000 in
theorem pad_any (g n : Nat) (f : Nat → Nat) (w : World) (hn : n ≤ 100000000000000) (hm : HM w g n f) (hf : By n f) (ht : GT w) (hg : 1 ≠ g ∧ 0 ≠ g) :
    Calls Tryd.prog 33 #[.pointer (some ⟨g, 0, none⟩)] w fun e w' => e = .returned (.tuple #[]) ∧ (HM w' g (padL n) (padf n f) ∧ Chg g w w') := by
  have HH := Lib.hid hm
  have HY := Lib.hid hf
  have HT := Lib.hid ht
  have HG := Lib.hid hg
  have hcnt := hm.count
  have hni : (n : Int) ≤ 100000000000000 := by omega
  have hn0 : (0 : Int) ≤ n := by omega
  have hgl := HH.out.lt
  obtain ⟨x1, hx1⟩ : ∃ x1, 8 * n / 4294967296 = x1 := ⟨_, rfl⟩
  obtain ⟨x2, hx2⟩ : ∃ x2, 8 * n % 4294967296 = x2 := ⟨_, rfl⟩
  have hy1 : (n : Int) * 8 / 4294967296 = (x1 : Nat) := by omega
  have hy2 : (n : Int) * 8 % 4294967296 = (x2 : Nat) := by omega
  have HX1 := Lib.hid hx1
  have HX2 := Lib.hid hx2
  obtain ⟨z, hz⟩ : ∃ z, (119 - n % 64) % 64 = z := ⟨_, rfl⟩
  have hz1 : (119 - (n : Int) % 64) % 64 = (z : Nat) := by omega
  have hz2 : (z : Int) ≤ 63 := by omega
  have HZ := Lib.hid hz
  have lx1 : x1 < 4294967296 := by omega
  have lx2 : x2 < 4294967296 := by omega
  clear hm hf ht hg hx1 hx2 hz
  go_enter Tryd.func33, Tryd.ntmps33
  go_wp2_with fail
  refine (putWord_any (w.heap.size + 1) 0 0 0 8 8 8 x1 _ lx1 (by decide) (by decide) (fun _ => 0) (arr_new rfl (by simp)) rfl (by decide)).mono ?_
  rintro e w3 ⟨rfl, h1, h2⟩
  have HL := Lib.hid h1
  have HP := Lib.hid (show Arr w3 w.heap.size 0 64 pd from (((arr_new pd_lit rfl).alloc _).chg h2 (Nat.ne_of_lt (Nat.lt_succ_self _))))
  have HC := Lib.hid (show Chg g w w3 from (((Chg.refl g w).alloc _).alloc _).thenNew h2 (Nat.le_succ _))
  have HH3 := Lib.hid (show HM w3 g n f from ((HH.out.alloc _).alloc _).chg h2 (by omega))
  have HT3 := Lib.hid (show GT w3 from ((HT.out.alloc _).alloc _).chg h2 ⟨by have := HT.out.ltk; omega, by have := HT.out.lth; omega⟩)
  clear h1 h2
  go_wp2_with fail
  refine (putWord_any (w.heap.size + 1) 0 4 4 8 4 4 x2 _ lx2 (by decide) (by decide) _ HL.out rfl (by decide)).mono ?_
  rintro e w4 ⟨rfl, h1, h2⟩
  have HL4 := Lib.hid h1
  have HP4 := Lib.hid (HP.out.chg h2 (Nat.ne_of_lt (Nat.lt_succ_self _)))
  have HC4 := Lib.hid (HC.out.thenNew h2 (Nat.le_succ _))
  have HH4 := Lib.hid (HH3.out.chg h2 (by omega))
  have HT4 := Lib.hid (HT3.out.chg h2 ⟨by have := HT.out.ltk; omega, by have := HT.out.lth; omega⟩)
  have HSZ := Lib.hid (show w.heap.size + 1 < w4.heap.size from h1.lt (by decide))
  clear h1 h2 HL HP HC HH3 HT3 hy1 hy2 hcnt
  have hsl := sl_to 40 64 w.heap.size 0 (1 + z) Tryd.underlying40 (by omega) (IntKind.i64.wrap (1 + (z : Int))) (by rw [IntKind.wrap_i64]; omega)
  have hsa := sl_all 60 8 (w.heap.size + 1) 0 Tryd.underlying60
  have hbl := fun w' => run_parts2 w' (some ⟨w.heap.size, 0, none⟩) (1 + z) 64 (some ⟨w.heap.size + 1, 0, none⟩) 8 8
  have HW := Lib.hid (write_any g n w4.heap.size 2 2 (t2 (some ⟨w.heap.size, 0, none⟩) (some ⟨w.heap.size + 1, 0, none⟩)) (t2 (1 + z) 8) (t2 64 8) (t2 pd (lnb x1 x2)) (padf n f)
    (w4.drew.alloc (.cells #[.slice (some ⟨w.heap.size, 0, none⟩) (1 + z) 64, .slice (some ⟨w.heap.size + 1, 0, none⟩) 8 8] 22)) (by decide) (by show n + (1 + z) + 8 ≤ _; omega)
    ⟨fun j hj => by rcases two_of hj with rfl | rfl <;> exact (World.cell?_alloc_at _ _ _ _ rfl).trans rfl, fun j hj => by
      rcases two_of hj with rfl | rfl
      · exact SlB.keep (w := w4.drew) (((HP4.out.drew.sub (a := 0) (m := 1 + z) (o' := 0) (by omega) rfl).slB (fun j _ => by unfold pd; split <;> decide)).congr fun j _ => by rw [Nat.zero_add]; rfl) ((Below.refl _ _).alloc (Nat.le_refl _) _)
      · exact SlB.keep (w := w4.drew) (HL4.out.drew.slB (fun j hj => by
          show lnb x1 x2 j < 256
          rw [← HX1.out, ← HX2.out, lnb_eq n j hj]; exact Nat.mod_lt _ (by decide))) ((Below.refl _ _).alloc (Nat.le_refl _) _)⟩
    (fun i hi => by
      rcases two_of hi with rfl | rfl
      · show 1 + z ≤ 64; omega
      · exact Nat.le_refl 8)
    (fun i hi j hj => by
      rcases two_of hi with rfl | rfl
      · exact pad_first n z f HZ.out j hj
      · show padf n f (n + (1 + z) + j) = lnb x1 x2 j
        rw [← HX1.out, ← HX2.out]; exact pad_last n z f HZ.out j hj)
    (HM.alloc (w := w4.drew) (HH4.out.congr fun j hj => by unfold padf; rw [if_pos hj]) _) (padf_by n f _ HY.out) (GT.alloc (w := w4.drew) (HT4.out.drewN 1) _) HG.out (by have := HH4.out.lt; omega)
    (fun i hi _ B o hB => by
      rcases two_of hi with rfl | rfl
      · have hB : (some ⟨w.heap.size, 0, none⟩ : Option Addr) = some ⟨B, o, none⟩ := hB
        injection hB with hB; injection hB with h1 _ _; omega
      · have hB : (some ⟨w.heap.size + 1, 0, none⟩ : Option Addr) = some ⟨B, o, none⟩ := hB
        injection hB with hB; injection hB with h1 _ _; omega))
  rw [show offs n (t2 (1 + z) 8) 2 = padL n from pad_offs n z HZ.out] at HW
  have HC5 := Lib.hid ((HC4.out.drew).alloc (.cells #[.slice (some ⟨w.heap.size, 0, none⟩) (1 + z) 64, .slice (some ⟨w.heap.size + 1, 0, none⟩) 8 8] 22))
  clear hz1
  go_wp2_with fail
  go_region_with (go_at_call 24; refine HW.out.mono ?_; rintro e w5 ⟨rfl, h1, h2⟩; have HR := Lib.hid h1; have HC6 := Lib.hid h2; clear h1 h2)
  all_goals
    go_end0
    exact ⟨rfl, HR.out, HC5.out.trans HC6.out⟩
end Go.Proofs.YtogcfaijphpgfaaDoor
/- Contracts of package sha: a digest is told. -/
namespace Go.Proofs.YtogcfaijphpgfaaDoor
open Go.RowKit
theorem sizeHash : (Tryd.prog.info? 66).map (·.size) = some 73 := by kernel_rfl
theorem size8w : (Tryd.prog.info? 64).map (·.size) = some 8 := by kernel_rfl
def s80 : S8 := ⟨0, 0, 0, 0, 0, 0, 0, 0⟩
theorem zeroHash : (Tryd.prog.info? 66).map (·.zero) = some (some (.agg (valsL 73 (hv s80 (fun _ => 0) 0)).toArray)) := by kernel_rfl
theorem zero_hash (w : World) : (zeroValue 66).run Tryd.prog w = .ok (.agg (valsL 73 (hv s80 (fun _ => 0) 0)).toArray) w := by
  have h := zeroHash
  cases hq : Tryd.prog.info? 66 with
  | none => rw [hq] at h; cases h
  | some i =>
    rw [hq] at h
    have hs : i.zero = some (.agg (valsL 73 (hv s80 (fun _ => 0) 0)).toArray) := by simpa using h
    simp [zeroValue, typeInfo, hq, hs]
theorem hv_one (s : S8) (b : Nat → Nat) (n j : Nat) : (hv s b n j).oneCell' = true := by
  unfold hv; split
  · rfl
  · split <;> rfl
theorem setCells_shape (g : Nat) (t : TypeId) (fr : Nat × Nat) : ∀ (vs : List Value) (o : Nat) (w : World) (c : Array Value), w.heap[g]? = some (.cells c t fr) → ∃ c', (w.setCells g o vs).heap[g]? = some (.cells c' t fr) ∧ c'.size = c.size
  | [], _, _, c, h => ⟨c, h, rfl⟩
  | v :: r, o, w, c, h => by
    rw [World.setCells]
    obtain ⟨c', h1, h2⟩ := setCells_shape g t fr r (o + 1) (w.setCell ⟨g, o, none⟩ v) (c.setIfInBounds o v) (by simp [World.setCell, Array.getElem?_modify, h])
    exact ⟨c', h1, by rw [h2]; simp⟩
theorem RowV.of_arr {w : World} {g n : Nat} {t : TypeId} {f : Nat → Value} {c : Array Value} (h : w.heap[g]? = some (.cells c t (0, 0))) (hc : c.size = n) (ha : ArrV w g 0 n f) : RowV w g t n f := by
  unfold RowV
  rw [h]
  congr 2
  apply Array.ext'
  apply List.ext_getElem?
  intro j
  rcases Nat.lt_or_ge j n with hj | hj
  · have := (ha j hj).1
    rw [Nat.zero_add] at this
    rw [show (valsL n f).toArray.toList = valsL n f from rfl, valsL_at hj]
    simpa [World.cell?, h] using this
  · rw [List.getElem?_eq_none (by simpa [hc] using hj), List.getElem?_eq_none (by simpa [valsL] using hj)]
theorem RowV.setCells {w : World} {g n : Nat} {t : TypeId} {cur : Nat → Value} (h : RowV w g t n cur) (f : Nat → Value) : RowV (w.setCells g 0 (valsL n f)) g t n f := by
  obtain ⟨c', h1, h2⟩ := setCells_shape g t (0, 0) (valsL n f) 0 w _ h
  exact RowV.of_arr h1 (by rw [h2]; simp [valsL]) (h.arr.setCells f)
/-- the store of a whole block -/
theorem wpList_storeW {ops : Array Oper} {rest : List Oper} {op : Oper} {a : Act} {w : World} {Q : Exit → Act → World → Prop} (hgd : op.guard = none) (ty : TypeId) (x y : Operand) (ho : op.op = .store ty x y)
    (b : Nat) (t : TypeId) (n : Nat) (f cur : Nat → Value) (hx : a.eval x = .pointer (some ⟨b, 0, none⟩)) (hy : a.eval y = .agg (valsL n f).toArray) (hc : RowV w b t n cur) (h1 : ∀ j, j < n → (f j).oneCell' = true) (hi : (Tryd.prog.info? ty).map (·.size) = some n)
    (h : ∀ w', RowV w' b t n f → Chg b w w' → wpList Tryd.prog ops Q rest (a.put op.dst undef) w') : wpList Tryd.prog ops Q (op :: rest) a w := by
  refine wpList_store_mid hgd ty x y ho b 0 (valsL n f).toArray hx hy (hc.arr.there' f) (by rw [List.size_toArray, valsL_length]; exact hi) (all_oneCell_toArray (vals_one h1)) ?_
  rw [List.toList_toArray]
  exact h _ (hc.setCells f) (Chg.setCells b (Or.inl rfl) _ _ w (Chg.refl _ _))
/-- k words of a digest -/
def dg (s : S8) (k j : Nat) : Nat := if j < 4 * k then dig s j else 0
theorem dg_step (s : S8) (k j : Nat) : putw (4 * k) (at8 s k) (dg s k) j = dg s (k + 1) j := by
  unfold putw dg
  by_cases h : 4 * k ≤ j ∧ j < 4 * k + 4
  · rw [if_pos h, if_pos (by omega)]
    unfold dig
    rw [show j / 4 = k by omega, show j % 4 = j - 4 * k by omega]
  · rw [if_neg h]
    by_cases h2 : j < 4 * k
    · rw [if_pos h2, if_pos (by omega)]
    · rw [if_neg h2, if_neg (by omega)]
set_option maxRecDepth 100000 in
set_option maxHeartbeats 3200000 in
theorem hsum_any (g n : Nat) (f : Nat → Nat) (w : World) (hn : n ≤ 100000000000000) (hm : HM w g n f) (hf : By n f) (ht : GT w) :
    Calls Tryd.prog 25 #[.pointer (some ⟨g, 0, none⟩)] w fun e w' => ∃ d, e = .returned (.slice (some ⟨d, 0, none⟩) 32 32) ∧ w.heap.size ≤ d ∧ Arr w' d 0 32 (sha n f) ∧ Below w.heap.size w w' := by
  obtain ⟨b, hr, hb⟩ := hm
  have HR := Lib.hid hr
  have HB := Lib.hid hb
  have HY := Lib.hid hf
  have HT := Lib.hid ht
  have hz := zero_hash
  clear hr hb hf ht
  go_enter Tryd.func25, Tryd.ntmps25
  have HR1 := Lib.hid (rowV_made w _ 66 73 (hv s80 (fun _ => 0) 0) rfl)
  go_wp2_with (first | (refine wpList_load_mid rfl 66 (.tmp 8) rfl g 0 rfl _ _ HR.out.arr.range Tryd.underlying66 rfl (by rw [valsL_length]; exact sizeHash) ?_) |
    (refine wpList_storeW rfl 66 (.tmp 3) (.tmp 9) rfl w.heap.size 66 73 _ _ rfl rfl HR1.out (fun j _ => hv_one _ _ _ j) sizeHash ?_; intro w2 h1 h2; have HR2 := Lib.hid h1; have HC2 := Lib.hid h2; clear h1 h2))
  have hltk := HT.out.ltk
  have hlth := HT.out.lth
  have HT2 := Lib.hid ((HT.out.alloc (.cells (valsL 73 (hv s80 (fun _ => 0) 0)).toArray 66)).chg HC2.out ⟨by omega, by omega⟩)
  have HG := Lib.hid (show 1 ≠ w.heap.size ∧ 0 ≠ w.heap.size from ⟨by omega, by omega⟩)
  have HB2 := Lib.hid (show Below w.heap.size w w2 from ((Below.refl _ _).alloc (Nat.le_refl _) _).trans (HC2.out.below (by simp) (Nat.le_refl _)))
  have HM2 := Lib.hid (show HM w2 w.heap.size n f from ⟨b, HR2.out, HB.out⟩)
  clear HR1 HR2 HC2 hltk hlth
  refine (pad_any w.heap.size n f w2 hn HM2.out HY.out HT2.out HG.out).mono ?_
  rintro e w3 ⟨rfl, ⟨b3, hr3, _⟩, h2⟩
  have HB3 := Lib.hid (HB2.out.trans (h2.below HB2.out.size (Nat.le_refl _)))
  rw [show padL n / 64 = (n + 72) / 64 by unfold padL; omega] at hr3
  have HS := Lib.hid (hs_ok (padf n f) ((n + 72) / 64))
  have HD := Lib.hid (show ∀ j, sha n f j = dig (hs (padf n f) ((n + 72) / 64)) j from fun _ => rfl)
  generalize hs (padf n f) ((n + 72) / 64) = s at *
  have HR3 := Lib.hid hr3
  clear hr3 h2 HM2 HT2 HB2 hz
  have hmk : ∀ W : World, (Instr.makeSlice 22 (.int .i64 32) (.int .i64 32)).run Tryd.prog W = .ok (.slice (some ⟨W.heap.size, 0, none⟩) 32 32) (W.alloc (.cells (madeCells #[.int .u8 0] 32) 5)) := mk8 32 (by decide)
  have HRG := Lib.hid (show (w3.alloc (.cells (madeCells #[.int .u8 0] 32) 5)).rangeAt w.heap.size 0 (valsL 8 fun j => .int .u32 (at8 s j : Nat)) from
    (((HR3.out.arr.sub (a := 0) (m := 8) (o' := 0) (by decide) rfl).congr fun j hj => by rw [Nat.zero_add]; exact hv_state _ _ _ _ hj).alloc _).range)
  have HA4 := Lib.hid (show Arr (w3.alloc (.cells (madeCells #[.int .u8 0] 32) 5)) w3.heap.size 0 32 (dg s 0) from arr_new (by
    apply Array.ext'
    rw [toList_madeCells_one]; rfl) rfl)
  have HB4 := Lib.hid (HB3.out.alloc HB3.out.size (.cells (madeCells #[.int .u8 0] 32) 5))
  have HSZ := Lib.hid HB3.out.size
  go_wp2_with (refine wpList_load_mid rfl 64 (.tmp 12) rfl w.heap.size 0 rfl _ _ HRG.out Tryd.underlying64 rfl (by rw [valsL_length]; exact size8w) ?_)
  generalize w3.heap.size = D at *
  generalize w3.alloc (.cells (madeCells #[.int .u8 0] 32) 5) = w4 at *
  clear hmk HR3 HRG HB3
  go_loopw [14] (fun v wr => ∃ k : Nat, k ≤ 8 ∧ v = .int .i64 k ∧ Arr wr D 0 32 (dg s k) ∧ Below w.heap.size w wr) (fun v _ => 8 - (intOf v).toNat)
  case atStart => exact ⟨0, Nat.zero_le _, rfl, HA4.out, HB4.out⟩
  case round =>
    obtain ⟨k, hk, rfl, h1, h2⟩ := hrel
    have H1 := Lib.hid h1
    have H2 := Lib.hid h2
    clear h1 h2 HA4 HB4
    by_cases hlt : k < 8
    · have hix := index_vals 64 8 (fun j => .int .u32 (at8 s j : Nat)) k Tryd.underlying64 hlt
      have hsh : ∀ W : World, (Instr.sliceAt 22 (.slice (some ⟨D, 0, none⟩) 32 32) (some (.int .i64 ((k : Int) * 4))) none none).run Tryd.prog W = .ok (.slice (some ⟨D, 4 * k, none⟩) (32 - 4 * k) (32 - 4 * k)) W := fun W => by
        have h := run_hi W (some ⟨D, 0, none⟩) 32 32 (4 * k) (by omega)
        rw [show ((4 * k : Nat) : Int) = (k : Int) * 4 by omega] at h
        rw [h]
        unfold hiA
        rw [if_neg (by omega), Option.map_some, Go.WideShapes.add_plain, Nat.zero_add, Nat.mul_one]
      have hki : (k : Int) < 8 := by omega
      go_wp2_with fail
      refine (putWord_any D 0 (4 * k) (4 * k) 32 (32 - 4 * k) (32 - 4 * k) (at8 s k) _ (at8_lt HS.out k) (by omega) (by omega) _ H1.out (Nat.zero_add _).symm (by omega)).mono ?_
      rintro e w5 ⟨rfl, h1, h2⟩
      have K1 := Lib.hid (h1.congr fun j _ => dg_step s k j)
      have K2 := Lib.hid (H2.out.trans (h2.below H2.out.size HSZ.out))
      clear h1 h2
      go_wp2_with fail
      go_roundw
      case rel => exact ⟨k + 1, by omega, by go_num, K1.out, K2.out⟩
      case measure => simp [intOf]; omega
    · obtain rfl : k = 8 := by omega
      go_wp2_with fail
      go_ret
      exact ⟨D, rfl, HSZ.out, H1.out.congr fun j hj => by rw [HD.out]; exact if_pos hj, H2.out⟩
end Go.Proofs.YtogcfaijphpgfaaDoor
/- Contracts of package sha: New, Sum. -/
namespace Go.Proofs.YtogcfaijphpgfaaDoor
open Go.RowKit
theorem st0_lit : valsL 8 (fun j => Value.int .u32 (at8 st0 j : Nat)) = [.int .u32 1779033703, .int .u32 3144134277, .int .u32 1013904242, .int .u32 2773480762, .int .u32 1359893119, .int .u32 2600822924, .int .u32 528734635, .int .u32 1541459225] := rfl
theorem zero_lit : (valsL 73 (hv s80 (fun _ => 0) 0)).toArray = #[Value.int .u32 0, Value.int .u32 0, Value.int .u32 0, Value.int .u32 0, Value.int .u32 0, Value.int .u32 0, Value.int .u32 0, Value.int .u32 0, Value.int .u8 0, Value.int .u8 0, Value.int .u8 0, Value.int .u8 0, Value.int .u8 0, Value.int .u8 0, Value.int .u8 0, Value.int .u8 0, Value.int .u8 0, Value.int .u8 0, Value.int .u8 0, Value.int .u8 0, Value.int .u8 0, Value.int .u8 0, Value.int .u8 0, Value.int .u8 0, Value.int .u8 0, Value.int .u8 0, Value.int .u8 0, Value.int .u8 0, Value.int .u8 0, Value.int .u8 0, Value.int .u8 0, Value.int .u8 0, Value.int .u8 0, Value.int .u8 0, Value.int .u8 0, Value.int .u8 0, Value.int .u8 0, Value.int .u8 0, Value.int .u8 0, Value.int .u8 0, Value.int .u8 0, Value.int .u8 0, Value.int .u8 0, Value.int .u8 0, Value.int .u8 0, Value.int .u8 0, Value.int .u8 0, Value.int .u8 0, Value.int .u8 0, Value.int .u8 0, Value.int .u8 0, Value.int .u8 0, Value.int .u8 0, Value.int .u8 0, Value.int .u8 0, Value.int .u8 0, Value.int .u8 0, Value.int .u8 0, Value.int .u8 0, Value.int .u8 0, Value.int .u8 0, Value.int .u8 0, Value.int .u8 0, Value.int .u8 0, Value.int .u8 0, Value.int .u8 0, Value.int .u8 0, Value.int .u8 0, Value.int .u8 0, Value.int .u8 0, Value.int .u8 0, Value.int .u8 0, Value.int .i64 0] := rfl
theorem new_lit : (#[Value.int .u32 1779033703, Value.int .u32 3144134277, Value.int .u32 1013904242, Value.int .u32 2773480762, Value.int .u32 1359893119, Value.int .u32 2600822924, Value.int .u32 528734635, Value.int .u32 1541459225, Value.int .u8 0, Value.int .u8 0, Value.int .u8 0, Value.int .u8 0, Value.int .u8 0, Value.int .u8 0, Value.int .u8 0, Value.int .u8 0, Value.int .u8 0, Value.int .u8 0, Value.int .u8 0, Value.int .u8 0, Value.int .u8 0, Value.int .u8 0, Value.int .u8 0, Value.int .u8 0, Value.int .u8 0, Value.int .u8 0, Value.int .u8 0, Value.int .u8 0, Value.int .u8 0, Value.int .u8 0, Value.int .u8 0, Value.int .u8 0, Value.int .u8 0, Value.int .u8 0, Value.int .u8 0, Value.int .u8 0, Value.int .u8 0, Value.int .u8 0, Value.int .u8 0, Value.int .u8 0, Value.int .u8 0, Value.int .u8 0, Value.int .u8 0, Value.int .u8 0, Value.int .u8 0, Value.int .u8 0, Value.int .u8 0, Value.int .u8 0, Value.int .u8 0, Value.int .u8 0, Value.int .u8 0, Value.int .u8 0, Value.int .u8 0, Value.int .u8 0, Value.int .u8 0, Value.int .u8 0, Value.int .u8 0, Value.int .u8 0, Value.int .u8 0, Value.int .u8 0, Value.int .u8 0, Value.int .u8 0, Value.int .u8 0, Value.int .u8 0, Value.int .u8 0, Value.int .u8 0, Value.int .u8 0, Value.int .u8 0, Value.int .u8 0, Value.int .u8 0, Value.int .u8 0, Value.int .u8 0, Value.int .i64 0] : Array Value) = (valsL 73 (hv st0 (fun _ => 0) 0)).toArray := rfl
set_option maxRecDepth 100000 in
theorem new_any (f : Nat → Nat) (w : World) (ht : GT w) :
    Calls Tryd.prog 23 #[] w fun e w' => e = .returned (.pointer (some ⟨w.heap.size, 0, none⟩)) ∧ HM w' w.heap.size 0 f ∧ Below w.heap.size w w' := by
  have HRG := Lib.hid (show w.rangeAt 0 0 [.int .u32 1779033703, .int .u32 3144134277, .int .u32 1013904242, .int .u32 2773480762, .int .u32 1359893119, .int .u32 2600822924, .int .u32 528734635, .int .u32 1541459225] from by
    rw [← st0_lit]
    intro j v hv
    obtain ⟨hj, rfl⟩ := valsL_get hv
    rw [Nat.zero_add]; exact ht.h j hj)
  have hz := zero_hash
  rw [zero_lit] at hz
  clear ht
  go_enter Tryd.func23, Tryd.ntmps23
  go_wp2_with (refine wpList_load_mid rfl 64 (.global 0) rfl 0 0 rfl _ _ HRG.out Tryd.underlying64 rfl size8w ?_)
  go_ret
  refine ⟨rfl, ⟨fun _ => 0, ?_, fun j hj => absurd hj (by simp)⟩, (Below.refl _ _).alloc (Nat.le_refl _) _⟩
  exact rowV_new new_lit rfl
theorem Parts.keep {w w' : World} {g k : Nat} {A : Nat → Option Addr} {n c : Nat → Nat} {f : Nat → Nat → Nat} (h : Parts w g k A n c f) (hb : Below w.heap.size w w') : Parts w' g k A n c f :=
  ⟨fun j hj => (hb.cell (p := ⟨g, j, none⟩) (block_lt (a := ⟨g, j, none⟩) (h.cells j hj))).trans (h.cells j hj), fun j hj => (h.rows j hj).keep hb⟩
theorem Parts.apart {w : World} {g k K : Nat} {A : Nat → Option Addr} {n c : Nat → Nat} {f : Nat → Nat → Nat} (h : Parts w g k A n c f) (hK : w.heap.size ≤ K) : ∀ i, i < k → 0 < n i → ∀ B o, A i = some ⟨B, o, none⟩ → B ≠ K := fun i hi hn B o e => by
  obtain ⟨B', o', e', hB, _⟩ := h.rows i hi hn
  rw [e] at e'
  injection e' with e'
  injection e' with e1 _ _
  omega
set_option maxHeartbeats 800000 in
theorem sum_any (gp k cap : Nat) (A : Nat → Option Addr) (n c : Nat → Nat) (f : Nat → Nat → Nat) (F : Nat → Nat) (w : World) (hk0 : 0 < k) (hk : k ≤ 1000) (hN : offs 0 n k ≤ 100000000000000) (hp : Parts w gp k A n c f) (hcap : ∀ i, i < k → n i ≤ c i)
    (hF : ∀ i, i < k → ∀ j, j < n i → F (offs 0 n i + j) = f i j) (hY : By (offs 0 n k) F) (ht : GT w) :
    Calls Tryd.prog 20 #[.slice (some ⟨gp, 0, none⟩) k cap] w fun e w' => ∃ d, e = .returned (.slice (some ⟨d, 0, none⟩) 32 32) ∧ w.heap.size ≤ d ∧ Arr w' d 0 32 (sha (offs 0 n k) F) ∧ Below w.heap.size w w' := by
  have HP := Lib.hid hp
  have HF := Lib.hid hF
  have HY := Lib.hid hY
  have HT := Lib.hid ht
  have HCP := Lib.hid hcap
  have HN := Lib.hid hN
  have HGP := Lib.hid (block_lt (a := ⟨gp, 0, none⟩) (hp.cells 0 hk0))
  clear hp hF hY ht hcap hN
  go_enter Tryd.func20, Tryd.ntmps20
  go_wp2_with fail
  refine (new_any F w HT.out).mono ?_
  rintro e w1 ⟨rfl, h1, h2⟩
  have HM1 := Lib.hid h1
  have HB1 := Lib.hid h2
  have HT1 := Lib.hid (HT.out.keep h2)
  have HP1 := Lib.hid (HP.out.keep h2)
  have HG := Lib.hid (show 1 ≠ w.heap.size ∧ 0 ≠ w.heap.size from ⟨Nat.ne_of_lt HT.out.ltk, Nat.ne_of_lt HT.out.lth⟩)
  clear h1 h2
  go_wp2_with fail
  refine (write_any w.heap.size 0 gp k cap A n c f F w1 hk (by have := HN.out; omega) HP1.out HCP.out HF.out HM1.out HY.out HT1.out HG.out (Nat.ne_of_lt HGP.out) (HP.out.apart (Nat.le_refl _))).mono ?_
  rintro e w2 ⟨rfl, h1, h2⟩
  have HM2 := Lib.hid h1
  have HB2 := Lib.hid (HB1.out.trans (h2.below HB1.out.size (Nat.le_refl _)))
  have HT2 := Lib.hid (HT1.out.chg h2 HG.out)
  clear h1 h2
  go_wp2_with fail
  refine (hsum_any w.heap.size (offs 0 n k) F w2 HN.out HM2.out HY.out HT2.out).mono ?_
  rintro e w3 ⟨d, rfl, h1, h2, h3⟩
  have HD := Lib.hid (Nat.le_trans HB2.out.size h1)
  have HR := Lib.hid h2
  have HB3 := Lib.hid (HB2.out.trans (h3.mono HB2.out.size))
  clear h1 h2 h3
  go_wp2_with fail
  go_ret
  exact ⟨d, rfl, HD.out, HR.out, HB3.out⟩
end Go.Proofs.YtogcfaijphpgfaaDoor
/- Bits of int: nothing here hangs on the program. -/
namespace Go.Proofs.YtogcfaijphpgfaaDoor

theorem i64_and_nat (a b : Nat) (ha : a < 9223372036854775808) (hb : b < 9223372036854775808) : bits .and .i64 (a : Int) (b : Int) = ((a &&& b : Nat) : Int) := by
  have hx : a &&& b < 2 ^ 63 := Nat.and_lt_two_pow _ (by omega)
  show IntKind.i64.wrap ((BitVec.ofInt 64 (a : Int) &&& BitVec.ofInt 64 (b : Int)).toNat : Int) = _
  rw [BitVec.toNat_and, ofInt_u64 a (by omega), ofInt_u64 b (by omega), IntKind.wrap_i64]
  omega
theorem i64_or_nat (a b : Nat) (ha : a < 9223372036854775808) (hb : b < 9223372036854775808) : bits .or .i64 (a : Int) (b : Int) = ((a ||| b : Nat) : Int) := by
  have hx : a ||| b < 2 ^ 63 := Nat.or_lt_two_pow (by omega) (by omega)
  show IntKind.i64.wrap ((BitVec.ofInt 64 (a : Int) ||| BitVec.ofInt 64 (b : Int)).toNat : Int) = _
  rw [BitVec.toNat_or, ofInt_u64 a (by omega), ofInt_u64 b (by omega), IntKind.wrap_i64]
  omega
theorem i64_xor_nat (a b : Nat) (ha : a < 9223372036854775808) (hb : b < 9223372036854775808) : bits .xor .i64 (a : Int) (b : Int) = ((a ^^^ b : Nat) : Int) := by
  have hx : a ^^^ b < 2 ^ 63 := Nat.xor_lt_two_pow (by omega) (by omega)
  show IntKind.i64.wrap ((BitVec.ofInt 64 (a : Int) ^^^ BitVec.ofInt 64 (b : Int)).toNat : Int) = _
  rw [BitVec.toNat_xor, ofInt_u64 a (by omega), ofInt_u64 b (by omega), IntKind.wrap_i64]
  omega
/-- a mask of k bits, of any int -/
theorem i64_mask (k m : Nat) (hk : k ≤ 62) (hm : m = 2 ^ k - 1) (n : Int) : bits .and .i64 n (m : Int) = n % ((2 ^ k : Nat) : Int) := by
  have hp : 2 ^ k ≤ 2 ^ 62 := Nat.pow_le_pow_right (by decide) hk
  have hp0 : 0 < 2 ^ k := Nat.two_pow_pos k
  have key : (BitVec.ofInt 64 n &&& BitVec.ofInt 64 (m : Int)).toNat = (n % ((2 ^ 64 : Nat) : Int)).toNat % 2 ^ k := by
    rw [BitVec.toNat_and, BitVec.toNat_ofInt, ofInt_u64 m (by omega), hm, Nat.and_two_pow_sub_one_eq_mod]
  show IntKind.i64.wrap ((BitVec.ofInt 64 n &&& BitVec.ofInt 64 (m : Int)).toNat : Nat) = _
  rw [key]
  have hd : (n % ((2 ^ 64 : Nat) : Int)).toNat % 2 ^ k = (n % ((2 ^ k : Nat) : Int)).toNat := by
    apply Int.natCast_inj.1
    have h0 : 0 ≤ n % ((2 ^ 64 : Nat) : Int) := Int.emod_nonneg _ (by decide)
    have h1 : 0 ≤ n % ((2 ^ k : Nat) : Int) := Int.emod_nonneg _ (by omega)
    rw [Int.natCast_emod, Int.toNat_of_nonneg h0, Int.toNat_of_nonneg h1]
    refine Int.emod_emod_of_dvd n ?_
    exact Int.natCast_dvd_natCast.2 (Nat.pow_dvd_pow 2 (by omega))
  rw [hd]
  have h1 : 0 ≤ n % ((2 ^ k : Nat) : Int) := Int.emod_nonneg _ (by omega)
  have h2 : n % ((2 ^ k : Nat) : Int) < ((2 ^ k : Nat) : Int) := Int.emod_lt_of_pos _ (by omega)
  rw [Int.toNat_of_nonneg h1, IntKind.wrap_i64]
  omega
end Go.Proofs.YtogcfaijphpgfaaDoor
/- The reference: turned right; the constants. -/
namespace Go.Proofs.YtogcfaijphpgfaaDoor
open Go.RowKit
theorem shl_lt (n x : Nat) (hx : x < 4294967296) (h1 : 1 ≤ n) : x * 2 ^ (32 - n) < 9223372036854775808 := by
  have hp : 2 ^ (32 - n) ≤ 2 ^ 31 := Nat.pow_le_pow_right (by decide) (by omega)
  calc x * 2 ^ (32 - n) ≤ x * 2 ^ 31 := Nat.mul_le_mul_left _ hp
    _ < _ := by omega
theorem rr_i64 (n x : Nat) (hx : x < 4294967296) (h1 : 1 ≤ n) : bits BinOp.or .i64 ((x : Int) / 2 ^ n) ((wrap64 ((x : Int) * 2 ^ (32 - n))).tmod 4294967296) = ((rr n x : Nat) : Int) := by
  have hl := shl_lt n x hx h1
  have e1 : (x : Int) / 2 ^ n = ((x / 2 ^ n : Nat) : Int) := by simp
  have e2 : (x : Int) * 2 ^ (32 - n) = ((x * 2 ^ (32 - n) : Nat) : Int) := by simp
  have e3 : wrap64 ((x * 2 ^ (32 - n) : Nat) : Int) = ((x * 2 ^ (32 - n) : Nat) : Int) := by unfold wrap64; omega
  rw [e1, e2, e3, Int.tmod_eq_emod_of_nonneg (by omega), show ((x * 2 ^ (32 - n) : Nat) : Int) % 4294967296 = ((x * 2 ^ (32 - n) % 4294967296 : Nat) : Int) by omega]
  have hx2 : x / 2 ^ n ≤ x := Nat.div_le_self _ _
  rw [i64_or_nat _ _ (by omega) (by omega)]
  rfl
theorem rright_any (n x : Nat) (w : World) (hx : x < 4294967296) (h1 : 1 ≤ n) (h2 : n ≤ 31) :
    Calls Tryd.prog 45 #[.int .i64 x, .int .i64 n] w fun e w' => e = .returned (.int .i64 (rr n x : Nat)) ∧ ∃ n, w' = w.drewN n := by
  have hn1 : (1 : Int) ≤ n := by omega
  have hn2 : (n : Int) ≤ 31 := by omega
  have HR := Lib.hid (rr_i64 n x hx h1)
  go_enter Tryd.func45, Tryd.ntmps45
  go_wp2_with fail
  go_quiet (fail)
  go_wp2_with fail
  go_ret
  exact ⟨ret_int HR.out, nq, rfl⟩
/-- ints, by number -/
abbrev ints (f : Nat → Nat) (j : Nat) : Value := .int .i64 (f j : Nat)
theorem arrV_new {W : World} {c : Array Value} {t : TypeId} {n g : Nat} {f : Nat → Value} (hc : c = (valsL n f).toArray) (hg : g = W.heap.size) : ArrV (W.alloc (.cells c t)) g 0 n f := by
  subst hg; exact arrV_made W c t n f hc
theorem words_lit : (#[.int .i64 1116352408, .int .i64 1899447441, .int .i64 3049323471, .int .i64 3921009573, .int .i64 961987163, .int .i64 1508970993, .int .i64 2453635748, .int .i64 2870763221, .int .i64 3624381080, .int .i64 310598401, .int .i64 607225278, .int .i64 1426881987, .int .i64 1925078388, .int .i64 2162078206, .int .i64 2614888103, .int .i64 3248222580, .int .i64 3835390401, .int .i64 4022224774, .int .i64 264347078, .int .i64 604807628, .int .i64 770255983, .int .i64 1249150122, .int .i64 1555081692, .int .i64 1996064986, .int .i64 2554220882, .int .i64 2821834349, .int .i64 2952996808, .int .i64 3210313671, .int .i64 3336571891, .int .i64 3584528711, .int .i64 113926993, .int .i64 338241895, .int .i64 666307205, .int .i64 773529912, .int .i64 1294757372, .int .i64 1396182291, .int .i64 1695183700, .int .i64 1986661051, .int .i64 2177026350, .int .i64 2456956037, .int .i64 2730485921, .int .i64 2820302411, .int .i64 3259730800, .int .i64 3345764771, .int .i64 3516065817, .int .i64 3600352804, .int .i64 4094571909, .int .i64 275423344, .int .i64 430227734, .int .i64 506948616, .int .i64 659060556, .int .i64 883997877, .int .i64 958139571, .int .i64 1322822218, .int .i64 1537002063, .int .i64 1747873779, .int .i64 1955562222, .int .i64 2024104815, .int .i64 2227730452, .int .i64 2361852424, .int .i64 2428436474, .int .i64 2756734187, .int .i64 3204031479, .int .i64 3329325298] : Array Value) = (valsL 64 (ints kc)).toArray := by kernel_rfl
theorem first_lit : (#[.int .i64 1779033703, .int .i64 3144134277, .int .i64 1013904242, .int .i64 2773480762, .int .i64 1359893119, .int .i64 2600822924, .int .i64 528734635, .int .i64 1541459225] : Array Value) = (valsL 8 (ints (at8 st0))).toArray := rfl
set_option maxRecDepth 100000 in
theorem words_any (w : World) : Calls Tryd.prog 35 #[] w fun e w' => e = .returned (.slice (some ⟨w.heap.size, 0, none⟩) 64 64) ∧ ArrV w' w.heap.size 0 64 (ints kc) ∧ Below w.heap.size w w' := by
  go_enter Tryd.func35, Tryd.ntmps35
  go_wp2_with fail
  go_ret
  exact ⟨rfl, arrV_new words_lit rfl, (Below.refl _ _).alloc (Nat.le_refl _) _⟩
set_option maxRecDepth 100000 in
theorem first_any (w : World) : Calls Tryd.prog 36 #[] w fun e w' => e = .returned (.slice (some ⟨w.heap.size, 0, none⟩) 8 8) ∧ ArrV w' w.heap.size 0 8 (ints (at8 st0)) ∧ Below w.heap.size w w' := by
  go_enter Tryd.func36, Tryd.ntmps36
  go_wp2_with fail
  go_ret
  exact ⟨rfl, arrV_new first_lit rfl, (Below.refl _ _).alloc (Nat.le_refl _) _⟩
end Go.Proofs.YtogcfaijphpgfaaDoor
/- The reference: rows of ints that grow; the words of a block. -/
namespace Go.Proofs.YtogcfaijphpgfaaDoor
open Go.RowKit
theorem infoI : (Tryd.prog.info? 3).map (fun i => (i.zero, i.size, i.bytes)) = some (some (.int .i64 0), 1, 8) := by kernel_rfl
/-- a row of ints that grows by append -/
def OwnI (w : World) (base : Nat) (v : Value) (n : Nat) (f : Nat → Nat) : Prop := w.ownsRow base 3 1 v n (valsL n (ints f))
namespace OwnI
variable {w w' : World} {base n : Nat} {v : Value} {f f' : Nat → Nat}
theorem nil (w : World) (base : Nat) (f : Nat → Nat) : OwnI w base (.slice none 0 0) 0 f := World.ownsRow_nil w base _ 1
theorem alloc (h : OwnI w base v n f) (o : Obj) : OwnI (w.alloc o) base v n f := World.ownsRow.alloc h o
theorem drewN (h : OwnI w base v n f) (k : Nat) : OwnI (w.drewN k) base v n f := h
theorem drew (h : OwnI w base v n f) : OwnI w.drew base v n f := h
theorem congr (h : OwnI w base v n f) (e : ∀ j, j < n → f j = f' j) : OwnI w base v n f' := by
  have : valsL n (ints f) = valsL n (ints f') := valsL_congr fun j hj => by show Value.int _ _ = Value.int _ _; rw [e j hj]
  unfold OwnI at *; rw [← this]; exact h
theorem keep (h : OwnI w base v n f) (hb : Below w.heap.size w w') : OwnI w' base v n f := by
  rcases h with ⟨h1, h2 | ⟨g, cap, cur, e, hg, hh, r⟩⟩
  · exact ⟨h1, Or.inl h2⟩
  · exact ⟨h1, Or.inr ⟨g, cap, cur, e, hg, (hb.block g (Array.getElem?_eq_some_iff.1 hh).1).trans hh, r⟩⟩
theorem slice (h : OwnI w base v n f) : ∃ A c, v = .slice A n c ∧ n ≤ c ∧ c ≤ maxLen ∧ (0 < n → ∃ g, A = some ⟨g, 0, none⟩ ∧ base ≤ g ∧ ArrV w g 0 n (ints f)) ∧ (A = none → n = 0 ∧ c = 0) := by
  rcases h.2 with ⟨rfl, hn⟩ | ⟨g, cap, cur, rfl, hg, hh, h1, h2, h3, h4⟩
  · subst hn; exact ⟨none, 0, rfl, Nat.le_refl _, by unfold maxLen; omega, fun h => absurd h (Nat.lt_irrefl _), fun _ => ⟨rfl, rfl⟩⟩
  · refine ⟨_, cap, rfl, h1, h2, fun _ => ⟨g, rfl, hg, fun j hj => ?_⟩, fun h => by cases h⟩
    have e := congrArg (fun l => l[j]?) h4
    simp only [Nat.mul_one, List.getElem?_take, if_pos hj] at e
    rw [valsL_at hj] at e
    have e' : cur[j]? = some (ints f j) := by simpa using e
    rw [Nat.zero_add]
    exact ⟨by simp [World.cell?, hh, e'], by simp [World.frozen?, hh]⟩
end OwnI
theorem ints_snoc (n : Nat) (f : Nat → Nat) (x : Nat) (hx : x = f n) : valsL n (ints f) ++ [.int .i64 (x : Nat)] = valsL (n + 1) (ints f) := by
  subst hx
  unfold valsL; rw [List.range_succ, List.map_append]; rfl
/-- append of one int, as one step of a region that draws its order -/
theorem step_app1I {ops : Array Oper} {o : Oper} {a : Act} {w : World} {K : Act → World → Prop} {Q : Exit → Act → World → Prop} {E : Prop} (hgd : o.guard = none) (s x : Operand)
    (ho : o.op = .call { callee := .builtin .append, args := #[s, x], argTypes := #[68, 68] })
    (base : Nat) (v : Value) (n : Nat) (f : Nat → Nat) (hs : a.eval s = v) (hown : OwnI w base v n f)
    (g y : Nat) (hx : a.eval x = .slice (some ⟨g, 0, none⟩) 1 1) (hc : w.cell? ⟨g, 0, none⟩ = some (.int .i64 (y : Nat))) (hn : n ≤ 1000000000000) (hbase : base ≤ w.heap.size) (hy : y = f n)
    (h : ∀ v' w', OwnI w' base v' (n + 1) f → Below base w w' → K (a.put o.dst v') w') :
    if Region.wanted o (yielded ops a.tmps) = true then Oper.wp Tryd.prog o a w K Q else E := by
  have hw : Region.wanted o (yielded ops a.tmps) = true := by simp [Region.wanted, hgd]
  rw [if_pos hw]
  obtain ⟨i, hi, hz, hsz, hb⟩ := info_parts infoI
  refine wp_append_own w s x 68 ho base 3 i (.int .i64 0) 1 8 Tryd.underlying68 hi hz hsz hb rfl (by decide) v n _ hs hown ⟨g, 0, none⟩ 1 1 [.int .i64 (y : Nat)] hx rfl ?_ ?_ (by unfold maxLen; omega) (by omega) hbase ?_
  · intro j u hj
    match j, hj with
    | 0, hj => simp at hj; subst hj; exact hc
  · intro u hu; simp at hu; subst hu; rfl
  · intro v' w' h1 h2 _
    rw [ints_snoc n f y hy] at h1
    exact h v' w' h1 ((Below.refl base w).grown h2 hbase fun k hk => (hown.lt k hk).1)
theorem wn_stable (b : Nat → Nat) (n : Nat) : ∀ d j, j < 16 + n → wn b (n + d) j = wn b n j
  | 0, _, _ => rfl
  | d + 1, j, hj => by
    show wn b ((n + d) + 1) j = _
    rw [wn, if_neg (by omega)]
    exact wn_stable b n d j hj
theorem wn_first (b : Nat → Nat) (j : Nat) (hj : j < 16) : wn b 48 j = be b (4 * j) := by
  rw [show (48 : Nat) = 0 + 48 from rfl, wn_stable b 0 48 j (by omega), wn, if_pos hj]
theorem wn_next (b : Nat → Nat) (t : Nat) (h1 : 16 ≤ t) (h2 : t < 64) : wn b 48 t = (wn b 48 (t - 16) + ls0 (wn b 48 (t - 15)) + wn b 48 (t - 7) + ls1 (wn b 48 (t - 2))) % 4294967296 := by
  obtain ⟨n, rfl⟩ : ∃ n, t = 16 + n := ⟨t - 16, by omega⟩
  have e1 : wn b 48 (16 + n) = wn b (n + 1) (16 + n) := by
    rw [show (48 : Nat) = (n + 1) + (47 - n) by omega]; exact wn_stable b (n + 1) (47 - n) _ (by omega)
  have e2 : ∀ j, j < 16 + n → wn b 48 j = wn b n j := fun j hj => by
    conv => lhs; rw [show (48 : Nat) = n + (48 - n) by omega]
    exact wn_stable b n (48 - n) j hj
  rw [e1, wn, if_pos rfl, e2 (16 + n - 16) (by omega), e2 (16 + n - 15) (by omega), e2 (16 + n - 7) (by omega), e2 (16 + n - 2) (by omega),
    show 16 + n - 16 = n by omega, show 16 + n - 15 = n + 1 by omega, show 16 + n - 7 = n + 9 by omega, show 16 + n - 2 = n + 14 by omega]
end Go.Proofs.YtogcfaijphpgfaaDoor
/- More operations: for regions that draw their order. -/
namespace Go.Proofs.YtogcfaijphpgfaaDoor
open Go.RowKit
namespace ord
section
variable {P : Program} {ops : Array Oper} {o : Oper} {a : Act} {w : World} {N : Value → World → Prop}
theorem makes_indexAddr {t : TypeId} {x i : Operand} {vx vi u : Value} (ho : o.op = .indexAddr t x i) (hx : a.eval x = vx) (hi : a.eval i = vi) (hrun : (Instr.indexAt t vx vi).run P w = .ok u w) (hN : N u w) : makes P o a w N := by
  unfold makes
  have : (execOp a.eval o).run P w = .ok (.value u) w := by
    simp only [execOp, ho, hx, hi, Sem.run_bind]
    rw [hrun]; rfl
  rw [this]; exact hN
theorem makes_load {t : TypeId} {x : Operand} {vx u : Value} (ho : o.op = .load t x) (hx : a.eval x = vx) (hrun : (Instr.loadAt t vx).run P w = .ok u w) (hN : N u w) : makes P o a w N := by
  unfold makes
  have : (execOp a.eval o).run P w = .ok (.value u) w := by
    simp only [execOp, ho, hx, Sem.run_bind]
    rw [hrun]; rfl
  rw [this]; exact hN
end
end ord
theorem run_idx8 (B o n c q : Nat) (hq : q < n) (w : World) : (Instr.indexAt 22 (.slice (some ⟨B, o, none⟩) n c) (.int .i64 (q : Nat))).run Tryd.prog w = .ok (.pointer (some ⟨B, o + q, none⟩)) w := by
  have hq2 : (q : Int) < n := by omega
  go_simp
theorem run_load8 (p : Addr) (x : Nat) (w : World) (h : w.cell? p = some (.int .u8 (x : Nat))) : (Instr.loadAt 5 (.pointer (some p))).run Tryd.prog w = .ok (.int .u8 (x : Nat)) w := by
  go_simp
theorem run_conv8 (x : Nat) (hx : x < 256) (w : World) : (convert 5 3 (.int .u8 (x : Nat))).run Tryd.prog w = .ok (.int .i64 (x : Nat)) w := by
  have h2 : IntKind.i64.wrap (x : Int) = (x : Nat) := IntWalk.i64_in _ (by omega)
  go_simp
end Go.Proofs.YtogcfaijphpgfaaDoor
/- Runs of single operations on ints; append of one int. -/
namespace Go.Proofs.YtogcfaijphpgfaaDoor
open Go.RowKit
theorem run_addI (x y : Operand) (a b : Int) (c : Nat) (h : a + b = (c : Nat)) (hc : c < 9223372036854775808) (w : World) :
    (do eqGuard .add 3 x y (.int .i64 a) (.int .i64 b); binOp .add 3 (.int .i64 a) (.int .i64 b) : Sem Value).run Tryd.prog w = .ok (.int .i64 (c : Nat)) w := by
  have h2 : IntKind.i64.wrap (c : Int) = (c : Nat) := IntWalk.i64_in _ (by omega)
  go_simp
theorem run_mulI (x y : Operand) (a b : Int) (c : Nat) (h : a * b = (c : Nat)) (hc : c < 9223372036854775808) (w : World) :
    (do eqGuard .mul 3 x y (.int .i64 a) (.int .i64 b); binOp .mul 3 (.int .i64 a) (.int .i64 b) : Sem Value).run Tryd.prog w = .ok (.int .i64 (c : Nat)) w := by
  have h2 : IntKind.i64.wrap (c : Int) = (c : Nat) := IntWalk.i64_in _ (by omega)
  go_simp
theorem run_subI (x y : Operand) (a b : Int) (c : Nat) (h : a - b = (c : Nat)) (hc : c < 9223372036854775808) (w : World) :
    (do eqGuard .sub 3 x y (.int .i64 a) (.int .i64 b); binOp .sub 3 (.int .i64 a) (.int .i64 b) : Sem Value).run Tryd.prog w = .ok (.int .i64 (c : Nat)) w := by
  have h2 : IntKind.i64.wrap (c : Int) = (c : Nat) := IntWalk.i64_in _ (by omega)
  go_simp
theorem run_remI (x y : Operand) (a b c : Nat) (h : a % b = c) (hb : 0 < b) (ha : a < 9223372036854775808) (w : World) :
    (do eqGuard .rem 3 x y (.int .i64 (a : Nat)) (.int .i64 (b : Nat)); binOp .rem 3 (.int .i64 (a : Nat)) (.int .i64 (b : Nat)) : Sem Value).run Tryd.prog w = .ok (.int .i64 (c : Nat)) w := by
  have h3 : ¬ b = 0 := by omega
  have h4 : ((a : Int).tmod b) = (c : Nat) := by rw [Int.tmod_eq_emod_of_nonneg (by omega)]; omega
  have h2 : IntKind.i64.wrap (c : Int) = (c : Nat) := IntWalk.i64_in _ (by have := Nat.mod_le a b; omega)
  go_simp
theorem run_quoI (x y : Operand) (a b c : Nat) (h : a / b = c) (hb : 0 < b) (ha : a < 9223372036854775808) (w : World) :
    (do eqGuard .quo 3 x y (.int .i64 (a : Nat)) (.int .i64 (b : Nat)); binOp .quo 3 (.int .i64 (a : Nat)) (.int .i64 (b : Nat)) : Sem Value).run Tryd.prog w = .ok (.int .i64 (c : Nat)) w := by
  have h3 : ¬ b = 0 := by omega
  have h4 : ((a : Int).tdiv b) = (c : Nat) := by rw [Int.tdiv_eq_ediv_of_nonneg (by omega), ← h]; simp
  have h2 : IntKind.i64.wrap (c : Int) = (c : Nat) := IntWalk.i64_in _ (by have := Nat.div_le_self a b; omega)
  go_simp
theorem run_int1 (w : World) (z : Nat) : (Instr.buildSlice 68 1 #[(0, .int .i64 (z : Nat))]).run Tryd.prog w = .ok (.slice (some ⟨w.heap.size, 0, none⟩) 1 1) (w.alloc (.cells #[.int .i64 (z : Nat)] 3)) := by go_simp
/-- append of one int -/
theorem wpList_app1I {ops : Array Oper} {rest : List Oper} {o : Oper} {a : Act} {Q : Exit → Act → World → Prop} {w : World} (hgd : o.guard = none) (s x : Operand)
    (ho : o.op = .call { callee := .builtin .append, args := #[s, x], argTypes := #[68, 68] })
    (base : Nat) (v : Value) (n : Nat) (f : Nat → Nat) (hs : a.eval s = v) (hown : OwnI w base v n f)
    (g y : Nat) (hx : a.eval x = .slice (some ⟨g, 0, none⟩) 1 1) (hc : w.cell? ⟨g, 0, none⟩ = some (.int .i64 (y : Nat))) (hn : n ≤ 1000000000000) (hbase : base ≤ w.heap.size) (hy : y = f n)
    (h : ∀ v' w', OwnI w' base v' (n + 1) f → Below base w w' → wpList Tryd.prog ops Q rest (a.put o.dst v') w') : wpList Tryd.prog ops Q (o :: rest) a w := by
  obtain ⟨i, hi, hz, hsz, hb⟩ := info_parts infoI
  refine wpList_append_own w hgd s x 68 ho base 3 i (.int .i64 0) 1 8 Tryd.underlying68 hi hz hsz hb rfl (by decide) v n _ hs hown ⟨g, 0, none⟩ 1 1 [.int .i64 (y : Nat)] hx rfl ?_ ?_ (by unfold maxLen; omega) (by omega) hbase ?_
  · intro j u hj
    match j, hj with
    | 0, hj => simp at hj; subst hj; exact hc
  · intro u hu; simp at hu; subst hu; rfl
  · intro v' w' h1 h2 _
    rw [ints_snoc n f y hy] at h1
    exact h v' w' h1 ((Below.refl base w).grown h2 hbase fun k hk => (hown.lt k hk).1)
end Go.Proofs.YtogcfaijphpgfaaDoor
/- The reference: the words of a block. -/
namespace Go.Proofs.YtogcfaijphpgfaaDoor
open Go.RowKit
--DEFS blk
def blkG (sv : Value) (B o c k q0 q1 q2 q3 b0 b1 b2 b3 y0 y1 y2 z1 z2 z3 : Nat) : Nat → Value → World → Prop
  | 0, v, _ => v = sv
  | 1, v, _ => v = .slice (some ⟨B, o, none⟩) 64 c
  | 2, v, _ => v = .int .i64 (k : Nat)
  | 3, v, _ => v = .int .i64 (q0 : Nat)
  | 4, v, _ => v = .pointer (some ⟨B, o + q0, none⟩)
  | 5, v, _ => v = .int .u8 (b0 : Nat)
  | 6, v, _ => v = .int .i64 (b0 : Nat)
  | 7, v, _ => v = .int .i64 (y0 : Nat)
  | 8, v, _ => v = .slice (some ⟨B, o, none⟩) 64 c
  | 9, v, _ => v = .int .i64 (k : Nat)
  | 10, v, _ => v = .int .i64 (q0 : Nat)
  | 11, v, _ => v = .int .i64 (q1 : Nat)
  | 12, v, _ => v = .pointer (some ⟨B, o + q1, none⟩)
  | 13, v, _ => v = .int .u8 (b1 : Nat)
  | 14, v, _ => v = .int .i64 (b1 : Nat)
  | 15, v, _ => v = .int .i64 (y1 : Nat)
  | 16, v, _ => v = .int .i64 (z1 : Nat)
  | 17, v, _ => v = .slice (some ⟨B, o, none⟩) 64 c
  | 18, v, _ => v = .int .i64 (k : Nat)
  | 19, v, _ => v = .int .i64 (q0 : Nat)
  | 20, v, _ => v = .int .i64 (q2 : Nat)
  | 21, v, _ => v = .pointer (some ⟨B, o + q2, none⟩)
  | 22, v, _ => v = .int .u8 (b2 : Nat)
  | 23, v, _ => v = .int .i64 (b2 : Nat)
  | 24, v, _ => v = .int .i64 (y2 : Nat)
  | 25, v, _ => v = .int .i64 (z2 : Nat)
  | 26, v, _ => v = .slice (some ⟨B, o, none⟩) 64 c
  | 27, v, _ => v = .int .i64 (k : Nat)
  | 28, v, _ => v = .int .i64 (q0 : Nat)
  | 29, v, _ => v = .int .i64 (q3 : Nat)
  | 30, v, _ => v = .pointer (some ⟨B, o + q3, none⟩)
  | 31, v, _ => v = .int .u8 (b3 : Nat)
  | 32, v, _ => v = .int .i64 (b3 : Nat)
  | 33, v, _ => v = .int .i64 (z3 : Nat)
  | 34, v, w => ∃ g, v = .slice (some ⟨g, 0, none⟩) 1 1 ∧ w.cell? ⟨g, 0, none⟩ = some (.int .i64 (z3 : Nat))
  | _, _, _ => True
theorem blkG_stays (sv : Value) (B o c k q0 q1 q2 q3 b0 b1 b2 b3 y0 y1 y2 z1 z2 z3 : Nat) : ∀ i v w w', blkG sv B o c k q0 q1 q2 q3 b0 b1 b2 b3 y0 y1 y2 z1 z2 z3 i v w → Below w.heap.size w w' → blkG sv B o c k q0 q1 q2 q3 b0 b1 b2 b3 y0 y1 y2 z1 z2 z3 i v w'
  | 0, _, _, _, h, _ => h
  | 1, _, _, _, h, _ => h
  | 2, _, _, _, h, _ => h
  | 3, _, _, _, h, _ => h
  | 4, _, _, _, h, _ => h
  | 5, _, _, _, h, _ => h
  | 6, _, _, _, h, _ => h
  | 7, _, _, _, h, _ => h
  | 8, _, _, _, h, _ => h
  | 9, _, _, _, h, _ => h
  | 10, _, _, _, h, _ => h
  | 11, _, _, _, h, _ => h
  | 12, _, _, _, h, _ => h
  | 13, _, _, _, h, _ => h
  | 14, _, _, _, h, _ => h
  | 15, _, _, _, h, _ => h
  | 16, _, _, _, h, _ => h
  | 17, _, _, _, h, _ => h
  | 18, _, _, _, h, _ => h
  | 19, _, _, _, h, _ => h
  | 20, _, _, _, h, _ => h
  | 21, _, _, _, h, _ => h
  | 22, _, _, _, h, _ => h
  | 23, _, _, _, h, _ => h
  | 24, _, _, _, h, _ => h
  | 25, _, _, _, h, _ => h
  | 26, _, _, _, h, _ => h
  | 27, _, _, _, h, _ => h
  | 28, _, _, _, h, _ => h
  | 29, _, _, _, h, _ => h
  | 30, _, _, _, h, _ => h
  | 31, _, _, _, h, _ => h
  | 32, _, _, _, h, _ => h
  | 33, _, _, _, h, _ => h
  | 34, v, w, w', h_, hb => by
    obtain ⟨g, h1, h2⟩ := h_; exact ⟨g, h1, (hb.cell (p := ⟨g, 0, none⟩) (block_lt h2)).trans h2⟩
  | _ + 35, _, _, _, _, _ => trivial
--END DEFS blk
set_option maxRecDepth 100000 in
set_option maxHeartbeats 3200000 in
theorem block_any (A : Option Addr) (c : Nat) (b : Nat → Nat) (w : World) (hA : SlB w A 64 b) :
    Calls Tryd.prog 38 #[.slice A 64 c] w fun e w' => ∃ v, e = .returned v ∧ OwnI w' w.heap.size v 64 (wn b 48) ∧ Below w.heap.size w w' := by
  have HY := Lib.hid (show ∀ j, j < 64 → b j < 256 from fun j hj => hA.byte hj)
  obtain ⟨B, o, rfl, hB, hc⟩ := hA (by decide)
  have HCL := Lib.hid (show ∀ j, j < 64 → w.cell? ⟨B, o + j, none⟩ = some (.int .u8 (b j : Nat)) from fun j hj => (hc j hj).2)
  have HBL := Lib.hid hB
  clear hc hB hA
  go_enter Tryd.func38, Tryd.ntmps38
  go_wp2_with fail
  go_loopw [3, 4] (fun v t wr => ∃ k : Nat, k ≤ 64 ∧ t = .int .i64 k ∧ OwnI wr w.heap.size v k (wn b 48) ∧ Below w.heap.size w wr) (fun _ t _ => 64 - (intOf t).toNat)
  case atStart => exact ⟨0, Nat.zero_le _, rfl, OwnI.nil _ _ _, Below.refl _ _⟩
  case round =>
    obtain ⟨k, hk, rfl, h1, h2⟩ := hrel
    have H1 := Lib.hid h1
    have H2 := Lib.hid h2
    clear h1 h2
    by_cases hlt : k < 64
    · have hki : (k : Int) < 64 := by omega
      have hsz := H2.out.size
      by_cases h16 : k < 16
      · have hk16 : (k : Int) < 16 := by omega
        obtain ⟨q0, hq0⟩ : ∃ q, q = 4 * k := ⟨_, rfl⟩
        obtain ⟨q1, hq1⟩ : ∃ q, q = q0 + 1 := ⟨_, rfl⟩
        obtain ⟨q2, hq2⟩ : ∃ q, q = q0 + 2 := ⟨_, rfl⟩
        obtain ⟨q3, hq3⟩ : ∃ q, q = q0 + 3 := ⟨_, rfl⟩
        have a0 : (4 : Int) * (k : Nat) = (q0 : Nat) ∧ True := ⟨by omega, trivial⟩
        have a1 : (q0 : Int) + 1 = (q1 : Nat) ∧ True := ⟨by omega, trivial⟩
        have a2 : (q0 : Int) + 2 = (q2 : Nat) ∧ True := ⟨by omega, trivial⟩
        have a3 : (q0 : Int) + 3 = (q3 : Nat) ∧ True := ⟨by omega, trivial⟩
        have m0 : q0 < 64 := by omega
        have m1 : q1 < 64 := by omega
        have m2 : q2 < 64 := by omega
        have m3 : q3 < 64 := by omega
        have cell : ∀ j, j < 64 → wr.cell? ⟨B, o + j, none⟩ = some (.int .u8 (b j : Nat)) := fun j hj => (H2.out.cell (p := ⟨B, o + j, none⟩) HBL.out).trans (HCL.out j hj)
        have c0 := cell q0 (by omega)
        have c1 := cell q1 (by omega)
        have c2 := cell q2 (by omega)
        have c3 := cell q3 (by omega)
        have l0 := HY.out q0 (by omega)
        have l1 := HY.out q1 (by omega)
        have l2 := HY.out q2 (by omega)
        have l3 := HY.out q3 (by omega)
        have CE := Lib.hid (show ∀ w', Below wr.drew.heap.size wr.drew w' → w'.cell? ⟨B, o + q0, none⟩ = some (.int .u8 (b q0 : Nat)) ∧ w'.cell? ⟨B, o + q1, none⟩ = some (.int .u8 (b q1 : Nat)) ∧ w'.cell? ⟨B, o + q2, none⟩ = some (.int .u8 (b q2 : Nat)) ∧ w'.cell? ⟨B, o + q3, none⟩ = some (.int .u8 (b q3 : Nat)) from fun w' hb =>
          ⟨(hb.cell (p := ⟨B, o + q0, none⟩) (Nat.lt_of_lt_of_le HBL.out hsz)).trans c0, (hb.cell (p := ⟨B, o + q1, none⟩) (Nat.lt_of_lt_of_le HBL.out hsz)).trans c1, (hb.cell (p := ⟨B, o + q2, none⟩) (Nat.lt_of_lt_of_le HBL.out hsz)).trans c2, (hb.cell (p := ⟨B, o + q3, none⟩) (Nat.lt_of_lt_of_le HBL.out hsz)).trans c3⟩)
        have HV := Lib.hid (show wn b 48 k = b q0 * 16777216 + b q1 * 65536 + b q2 * 256 + b q3 by rw [wn_first b k h16, hq1, hq2, hq3, hq0]; rfl)
        clear hq0 hq1 hq2 hq3 cell c0 c1 c2 c3
        generalize b q0 = b0 at *
        generalize b q1 = b1 at *
        generalize b q2 = b2 at *
        generalize b q3 = b3 at *
        obtain ⟨y0, hy0⟩ : ∃ y, y = b0 * 16777216 := ⟨_, rfl⟩
        obtain ⟨y1, hy1⟩ : ∃ y, y = b1 * 65536 := ⟨_, rfl⟩
        obtain ⟨y2, hy2⟩ : ∃ y, y = b2 * 256 := ⟨_, rfl⟩
        obtain ⟨z1, hz1⟩ : ∃ z, z = y0 + y1 := ⟨_, rfl⟩
        obtain ⟨z2, hz2⟩ : ∃ z, z = z1 + y2 := ⟨_, rfl⟩
        obtain ⟨z3, hz3⟩ : ∃ z, z = z2 + b3 := ⟨_, rfl⟩
        have d0 : (b0 : Int) * 16777216 = (y0 : Nat) ∧ True := ⟨by omega, trivial⟩
        have d1 : (b1 : Int) * 65536 = (y1 : Nat) ∧ True := ⟨by omega, trivial⟩
        have d2 : (b2 : Int) * 256 = (y2 : Nat) ∧ True := ⟨by omega, trivial⟩
        have d3 : (y0 : Int) + (y1 : Nat) = (z1 : Nat) ∧ True := ⟨by omega, trivial⟩
        have d4 : (z1 : Int) + (y2 : Nat) = (z2 : Nat) ∧ True := ⟨by omega, trivial⟩
        have d5 : (z2 : Int) + (b3 : Nat) = (z3 : Nat) ∧ True := ⟨by omega, trivial⟩
        have lz : y0 < 4294967296 ∧ y1 < 4294967296 ∧ y2 < 4294967296 ∧ z1 < 4294967296 ∧ z2 < 4294967296 ∧ z3 < 4294967296 := by omega
        have HV2 := Lib.hid (show z3 = wn b 48 k by rw [HV.out]; omega)
        clear hy0 hy1 hy2 hz1 hz2 hz3 HV
        go_wp2_with fail
        refine ord.wp_region_ordT 35 [[], [], [], [2], [1, 3], [4], [5], [6], [], [], [9], [10], [8, 11], [12], [13], [14], [7, 15], [], [], [18], [19], [17, 20], [21], [22], [23], [16, 24], [], [], [27], [28], [26, 29], [30], [31], [25, 32], [33]] [(0, 15), (1, 16), (2, 17), (3, 18), (4, 19), (5, 20), (6, 21), (7, 22), (8, 23), (9, 24), (10, 25), (11, 26), (12, 27), (13, 28), (14, 29), (15, 30), (16, 31), (17, 32), (18, 33), (19, 34), (20, 35), (21, 36), (22, 37), (23, 38), (24, 39), (25, 40), (26, 41), (27, 42), (28, 43), (29, 44), (30, 45), (31, 46), (32, 47), (33, 48), (34, 49)] (blkG u3 B o c k q0 q1 q2 q3 b0 b1 b2 b3 y0 y1 y2 z1 z2 z3) (by kernel_rfl) (by kernel_rfl) (by kernel_rfl) (blkG_stays _ _ _ _ _ _ _ _ _ _ _ _ _ _ _ _ _ _ _) ((ord.steps_cons ?_ (ord.steps_cons ?_ (ord.steps_cons ?_ (ord.steps_cons ?_ (ord.steps_cons ?_ (ord.steps_cons ?_ (ord.steps_cons ?_ (ord.steps_cons ?_ (ord.steps_cons ?_ (ord.steps_cons ?_ (ord.steps_cons ?_ (ord.steps_cons ?_ (ord.steps_cons ?_ (ord.steps_cons ?_ (ord.steps_cons ?_ (ord.steps_cons ?_ (ord.steps_cons ?_ (ord.steps_cons ?_ (ord.steps_cons ?_ (ord.steps_cons ?_ (ord.steps_cons ?_ (ord.steps_cons ?_ (ord.steps_cons ?_ (ord.steps_cons ?_ (ord.steps_cons ?_ (ord.steps_cons ?_ (ord.steps_cons ?_ (ord.steps_cons ?_ (ord.steps_cons ?_ (ord.steps_cons ?_ (ord.steps_cons ?_ (ord.steps_cons ?_ (ord.steps_cons ?_ (ord.steps_cons ?_ (ord.steps_cons ?_ ord.steps_nil)))))))))))))))))))))))))))))))))))) ?_
        --STEPS blk
        · intro o ho x w hb hG
          obtain rfl := Option.some.inj ho
          clear ho
          refine Or.inl ⟨ord.want0 rfl, ?_⟩
          exact ord.makes_move rfl ⟨Below.refl _ _, rfl⟩
        · intro o ho x w hb hG
          obtain rfl := Option.some.inj ho
          clear ho
          refine Or.inl ⟨ord.want0 rfl, ?_⟩
          exact ord.makes_move rfl ⟨Below.refl _ _, rfl⟩
        · intro o ho x w hb hG
          obtain rfl := Option.some.inj ho
          clear ho
          refine Or.inl ⟨ord.want0 rfl, ?_⟩
          exact ord.makes_move rfl ⟨Below.refl _ _, rfl⟩
        · intro o ho x w hb hG
          obtain rfl := Option.some.inj ho
          clear ho
          have h17 : x 2 = .int .i64 (k : Nat) := hG (2, 17) (List.mem_of_getElem? (i := 2) rfl) rfl
          refine Or.inl ⟨ord.want0 rfl, ?_⟩
          exact ord.makes_bin rfl rfl h17 (by exact run_mulI _ _ 4 k _ a0.1 (by omega) w) ⟨Below.refl _ _, rfl⟩
        · intro o ho x w hb hG
          obtain rfl := Option.some.inj ho
          clear ho
          have h16 : x 1 = .slice (some ⟨B, o, none⟩) 64 c := hG (1, 16) (List.mem_of_getElem? (i := 1) rfl) rfl
          have h18 : x 3 = .int .i64 (q0 : Nat) := hG (3, 18) (List.mem_of_getElem? (i := 3) rfl) rfl
          refine Or.inl ⟨ord.want0 rfl, ?_⟩
          exact ord.makes_indexAddr rfl h16 h18 (by exact run_idx8 B o 64 c q0 m0 w) ⟨Below.refl _ _, rfl⟩
        · intro o ho x w hb hG
          obtain rfl := Option.some.inj ho
          clear ho
          have h19 : x 4 = .pointer (some ⟨B, o + q0, none⟩) := hG (4, 19) (List.mem_of_getElem? (i := 4) rfl) rfl
          refine Or.inl ⟨ord.want0 rfl, ?_⟩
          exact ord.makes_load rfl h19 (by exact run_load8 _ b0 w (CE.out w hb).1) ⟨Below.refl _ _, rfl⟩
        · intro o ho x w hb hG
          obtain rfl := Option.some.inj ho
          clear ho
          have h20 : x 5 = .int .u8 (b0 : Nat) := hG (5, 20) (List.mem_of_getElem? (i := 5) rfl) rfl
          refine Or.inl ⟨ord.want0 rfl, ?_⟩
          exact ord.makes_conv rfl h20 (by exact run_conv8 b0 l0 w) ⟨Below.refl _ _, rfl⟩
        · intro o ho x w hb hG
          obtain rfl := Option.some.inj ho
          clear ho
          have h21 : x 6 = .int .i64 (b0 : Nat) := hG (6, 21) (List.mem_of_getElem? (i := 6) rfl) rfl
          refine Or.inl ⟨ord.want0 rfl, ?_⟩
          exact ord.makes_bin rfl h21 rfl (by exact run_mulI _ _ b0 16777216 _ d0.1 (by omega) w) ⟨Below.refl _ _, rfl⟩
        · intro o ho x w hb hG
          obtain rfl := Option.some.inj ho
          clear ho
          refine Or.inl ⟨ord.want0 rfl, ?_⟩
          exact ord.makes_move rfl ⟨Below.refl _ _, rfl⟩
        · intro o ho x w hb hG
          obtain rfl := Option.some.inj ho
          clear ho
          refine Or.inl ⟨ord.want0 rfl, ?_⟩
          exact ord.makes_move rfl ⟨Below.refl _ _, rfl⟩
        · intro o ho x w hb hG
          obtain rfl := Option.some.inj ho
          clear ho
          have h24 : x 9 = .int .i64 (k : Nat) := hG (9, 24) (List.mem_of_getElem? (i := 9) rfl) rfl
          refine Or.inl ⟨ord.want0 rfl, ?_⟩
          exact ord.makes_bin rfl rfl h24 (by exact run_mulI _ _ 4 k q0 a0.1 (by omega) w) ⟨Below.refl _ _, rfl⟩
        · intro o ho x w hb hG
          obtain rfl := Option.some.inj ho
          clear ho
          have h25 : x 10 = .int .i64 (q0 : Nat) := hG (10, 25) (List.mem_of_getElem? (i := 10) rfl) rfl
          refine Or.inl ⟨ord.want0 rfl, ?_⟩
          exact ord.makes_bin rfl h25 rfl (by exact run_addI _ _ q0 1 q1 a1.1 (by omega) w) ⟨Below.refl _ _, rfl⟩
        · intro o ho x w hb hG
          obtain rfl := Option.some.inj ho
          clear ho
          have h23 : x 8 = .slice (some ⟨B, o, none⟩) 64 c := hG (8, 23) (List.mem_of_getElem? (i := 8) rfl) rfl
          have h26 : x 11 = .int .i64 (q1 : Nat) := hG (11, 26) (List.mem_of_getElem? (i := 11) rfl) rfl
          refine Or.inl ⟨ord.want0 rfl, ?_⟩
          exact ord.makes_indexAddr rfl h23 h26 (by exact run_idx8 B o 64 c q1 m1 w) ⟨Below.refl _ _, rfl⟩
        · intro o ho x w hb hG
          obtain rfl := Option.some.inj ho
          clear ho
          have h27 : x 12 = .pointer (some ⟨B, o + q1, none⟩) := hG (12, 27) (List.mem_of_getElem? (i := 12) rfl) rfl
          refine Or.inl ⟨ord.want0 rfl, ?_⟩
          exact ord.makes_load rfl h27 (by exact run_load8 _ b1 w (CE.out w hb).2.1) ⟨Below.refl _ _, rfl⟩
        · intro o ho x w hb hG
          obtain rfl := Option.some.inj ho
          clear ho
          have h28 : x 13 = .int .u8 (b1 : Nat) := hG (13, 28) (List.mem_of_getElem? (i := 13) rfl) rfl
          refine Or.inl ⟨ord.want0 rfl, ?_⟩
          exact ord.makes_conv rfl h28 (by exact run_conv8 b1 l1 w) ⟨Below.refl _ _, rfl⟩
        · intro o ho x w hb hG
          obtain rfl := Option.some.inj ho
          clear ho
          have h29 : x 14 = .int .i64 (b1 : Nat) := hG (14, 29) (List.mem_of_getElem? (i := 14) rfl) rfl
          refine Or.inl ⟨ord.want0 rfl, ?_⟩
          exact ord.makes_bin rfl h29 rfl (by exact run_mulI _ _ b1 65536 _ d1.1 (by omega) w) ⟨Below.refl _ _, rfl⟩
        · intro o ho x w hb hG
          obtain rfl := Option.some.inj ho
          clear ho
          have h22 : x 7 = .int .i64 (y0 : Nat) := hG (7, 22) (List.mem_of_getElem? (i := 7) rfl) rfl
          have h30 : x 15 = .int .i64 (y1 : Nat) := hG (15, 30) (List.mem_of_getElem? (i := 15) rfl) rfl
          refine Or.inl ⟨ord.want0 rfl, ?_⟩
          exact ord.makes_bin rfl h22 h30 (by exact run_addI _ _ y0 y1 z1 d3.1 (by omega) w) ⟨Below.refl _ _, rfl⟩
        · intro o ho x w hb hG
          obtain rfl := Option.some.inj ho
          clear ho
          refine Or.inl ⟨ord.want0 rfl, ?_⟩
          exact ord.makes_move rfl ⟨Below.refl _ _, rfl⟩
        · intro o ho x w hb hG
          obtain rfl := Option.some.inj ho
          clear ho
          refine Or.inl ⟨ord.want0 rfl, ?_⟩
          exact ord.makes_move rfl ⟨Below.refl _ _, rfl⟩
        · intro o ho x w hb hG
          obtain rfl := Option.some.inj ho
          clear ho
          have h33 : x 18 = .int .i64 (k : Nat) := hG (18, 33) (List.mem_of_getElem? (i := 18) rfl) rfl
          refine Or.inl ⟨ord.want0 rfl, ?_⟩
          exact ord.makes_bin rfl rfl h33 (by exact run_mulI _ _ 4 k q0 a0.1 (by omega) w) ⟨Below.refl _ _, rfl⟩
        · intro o ho x w hb hG
          obtain rfl := Option.some.inj ho
          clear ho
          have h34 : x 19 = .int .i64 (q0 : Nat) := hG (19, 34) (List.mem_of_getElem? (i := 19) rfl) rfl
          refine Or.inl ⟨ord.want0 rfl, ?_⟩
          exact ord.makes_bin rfl h34 rfl (by exact run_addI _ _ q0 2 q2 a2.1 (by omega) w) ⟨Below.refl _ _, rfl⟩
        · intro o ho x w hb hG
          obtain rfl := Option.some.inj ho
          clear ho
          have h32 : x 17 = .slice (some ⟨B, o, none⟩) 64 c := hG (17, 32) (List.mem_of_getElem? (i := 17) rfl) rfl
          have h35 : x 20 = .int .i64 (q2 : Nat) := hG (20, 35) (List.mem_of_getElem? (i := 20) rfl) rfl
          refine Or.inl ⟨ord.want0 rfl, ?_⟩
          exact ord.makes_indexAddr rfl h32 h35 (by exact run_idx8 B o 64 c q2 m2 w) ⟨Below.refl _ _, rfl⟩
        · intro o ho x w hb hG
          obtain rfl := Option.some.inj ho
          clear ho
          have h36 : x 21 = .pointer (some ⟨B, o + q2, none⟩) := hG (21, 36) (List.mem_of_getElem? (i := 21) rfl) rfl
          refine Or.inl ⟨ord.want0 rfl, ?_⟩
          exact ord.makes_load rfl h36 (by exact run_load8 _ b2 w (CE.out w hb).2.2.1) ⟨Below.refl _ _, rfl⟩
        · intro o ho x w hb hG
          obtain rfl := Option.some.inj ho
          clear ho
          have h37 : x 22 = .int .u8 (b2 : Nat) := hG (22, 37) (List.mem_of_getElem? (i := 22) rfl) rfl
          refine Or.inl ⟨ord.want0 rfl, ?_⟩
          exact ord.makes_conv rfl h37 (by exact run_conv8 b2 l2 w) ⟨Below.refl _ _, rfl⟩
        · intro o ho x w hb hG
          obtain rfl := Option.some.inj ho
          clear ho
          have h38 : x 23 = .int .i64 (b2 : Nat) := hG (23, 38) (List.mem_of_getElem? (i := 23) rfl) rfl
          refine Or.inl ⟨ord.want0 rfl, ?_⟩
          exact ord.makes_bin rfl h38 rfl (by exact run_mulI _ _ b2 256 _ d2.1 (by omega) w) ⟨Below.refl _ _, rfl⟩
        · intro o ho x w hb hG
          obtain rfl := Option.some.inj ho
          clear ho
          have h31 : x 16 = .int .i64 (z1 : Nat) := hG (16, 31) (List.mem_of_getElem? (i := 16) rfl) rfl
          have h39 : x 24 = .int .i64 (y2 : Nat) := hG (24, 39) (List.mem_of_getElem? (i := 24) rfl) rfl
          refine Or.inl ⟨ord.want0 rfl, ?_⟩
          exact ord.makes_bin rfl h31 h39 (by exact run_addI _ _ z1 y2 z2 d4.1 (by omega) w) ⟨Below.refl _ _, rfl⟩
        · intro o ho x w hb hG
          obtain rfl := Option.some.inj ho
          clear ho
          refine Or.inl ⟨ord.want0 rfl, ?_⟩
          exact ord.makes_move rfl ⟨Below.refl _ _, rfl⟩
        · intro o ho x w hb hG
          obtain rfl := Option.some.inj ho
          clear ho
          refine Or.inl ⟨ord.want0 rfl, ?_⟩
          exact ord.makes_move rfl ⟨Below.refl _ _, rfl⟩
        · intro o ho x w hb hG
          obtain rfl := Option.some.inj ho
          clear ho
          have h42 : x 27 = .int .i64 (k : Nat) := hG (27, 42) (List.mem_of_getElem? (i := 27) rfl) rfl
          refine Or.inl ⟨ord.want0 rfl, ?_⟩
          exact ord.makes_bin rfl rfl h42 (by exact run_mulI _ _ 4 k q0 a0.1 (by omega) w) ⟨Below.refl _ _, rfl⟩
        · intro o ho x w hb hG
          obtain rfl := Option.some.inj ho
          clear ho
          have h43 : x 28 = .int .i64 (q0 : Nat) := hG (28, 43) (List.mem_of_getElem? (i := 28) rfl) rfl
          refine Or.inl ⟨ord.want0 rfl, ?_⟩
          exact ord.makes_bin rfl h43 rfl (by exact run_addI _ _ q0 3 q3 a3.1 (by omega) w) ⟨Below.refl _ _, rfl⟩
        · intro o ho x w hb hG
          obtain rfl := Option.some.inj ho
          clear ho
          have h41 : x 26 = .slice (some ⟨B, o, none⟩) 64 c := hG (26, 41) (List.mem_of_getElem? (i := 26) rfl) rfl
          have h44 : x 29 = .int .i64 (q3 : Nat) := hG (29, 44) (List.mem_of_getElem? (i := 29) rfl) rfl
          refine Or.inl ⟨ord.want0 rfl, ?_⟩
          exact ord.makes_indexAddr rfl h41 h44 (by exact run_idx8 B o 64 c q3 m3 w) ⟨Below.refl _ _, rfl⟩
        · intro o ho x w hb hG
          obtain rfl := Option.some.inj ho
          clear ho
          have h45 : x 30 = .pointer (some ⟨B, o + q3, none⟩) := hG (30, 45) (List.mem_of_getElem? (i := 30) rfl) rfl
          refine Or.inl ⟨ord.want0 rfl, ?_⟩
          exact ord.makes_load rfl h45 (by exact run_load8 _ b3 w (CE.out w hb).2.2.2) ⟨Below.refl _ _, rfl⟩
        · intro o ho x w hb hG
          obtain rfl := Option.some.inj ho
          clear ho
          have h46 : x 31 = .int .u8 (b3 : Nat) := hG (31, 46) (List.mem_of_getElem? (i := 31) rfl) rfl
          refine Or.inl ⟨ord.want0 rfl, ?_⟩
          exact ord.makes_conv rfl h46 (by exact run_conv8 b3 l3 w) ⟨Below.refl _ _, rfl⟩
        · intro o ho x w hb hG
          obtain rfl := Option.some.inj ho
          clear ho
          have h40 : x 25 = .int .i64 (z2 : Nat) := hG (25, 40) (List.mem_of_getElem? (i := 25) rfl) rfl
          have h47 : x 32 = .int .i64 (b3 : Nat) := hG (32, 47) (List.mem_of_getElem? (i := 32) rfl) rfl
          refine Or.inl ⟨ord.want0 rfl, ?_⟩
          exact ord.makes_bin rfl h40 h47 (by exact run_addI _ _ z2 b3 z3 d5.1 (by omega) w) ⟨Below.refl _ _, rfl⟩
        · intro o ho x w hb hG
          obtain rfl := Option.some.inj ho
          clear ho
          have h48 : x 33 = .int .i64 (z3 : Nat) := hG (33, 48) (List.mem_of_getElem? (i := 33) rfl) rfl
          refine Or.inl ⟨ord.want0 rfl, ?_⟩
          exact ord.makes_build1 rfl h48 (run_int1 w z3) ⟨(Below.refl _ _).alloc (Nat.le_refl _) _, _, rfl, (World.cell?_alloc_at _ _ _ _ rfl).trans rfl⟩
        --END STEPS blk
        · intro x w5 hb hG
          have e0 : x 0 = u3 := hG (0, 15) (List.mem_of_getElem? (i := 0) rfl)
          obtain ⟨g, e34, hc34⟩ : ∃ g, x 34 = .slice (some ⟨g, 0, none⟩) 1 1 ∧ w5.cell? ⟨g, 0, none⟩ = some (.int .i64 (z3 : Nat)) := hG (34, 49) (List.mem_of_getElem? (i := 34) rfl)
          clear hG
          simp only [ord.puts, ord.put', List.set_cons_zero, List.set_cons_succ, if_true]
          rw [e0, e34]
          simp only [List.drop_succ_cons, List.drop_zero]
          have hsz5 : w.heap.size ≤ w5.heap.size := Nat.le_trans hsz hb.size
          have HO := Lib.hid (H1.out.keep hb)
          have HB5 := Lib.hid (H2.out.trans (hb.mono hsz))
          have HC5 := Lib.hid hc34
          clear hb hc34
          go_wp2_with (refine wpList_app1I rfl (.tmp 15) (.tmp 49) rfl w.heap.size _ k _ rfl HO.out g z3 rfl HC5.out (by omega) hsz5 HV2.out ?_; intro v' w' h1 h2; have HO6 := Lib.hid h1; have HB6 := Lib.hid (HB5.out.trans h2); clear h1 h2)
          go_roundw
          case rel => exact ⟨k + 1, by omega, by go_num, HO6.out, HB6.out⟩
          case measure => simp [intOf]; omega
      · have hk16 : (16 : Int) ≤ k := by omega
        have h16n : 16 ≤ k := by omega
        obtain ⟨A3, c3, rfl, hc3, hc3m, hrow, hnil⟩ := H1.out.slice
        obtain ⟨g3, rfl, hg3, hrow⟩ := hrow (by omega)
        have HR := Lib.hid hrow
        have c2 : wr.cell? ⟨g3, k - 2, none⟩ = some (.int .i64 (wn b 48 (k - 2) : Nat)) := hrow.cell (by omega) (Nat.zero_add _).symm
        have c15 : wr.cell? ⟨g3, k - 15, none⟩ = some (.int .i64 (wn b 48 (k - 15) : Nat)) := hrow.cell (by omega) (Nat.zero_add _).symm
        have l2 := wn_lt HY.out 48 (k - 2)
        have l15 := wn_lt HY.out 48 (k - 15)
        have HV := Lib.hid (wn_next b k h16n hlt)
        obtain ⟨x2, hx2⟩ : ∃ x, wn b 48 (k - 2) = x := ⟨_, rfl⟩
        obtain ⟨x15, hx15⟩ : ∃ x, wn b 48 (k - 15) = x := ⟨_, rfl⟩
        rw [hx2] at c2 l2 HV
        rw [hx15] at c15 l15 HV
        clear hrow hx2 hx15
        go_wp2_with fail
        refine (rright_any 7 x15 _ l15 (by decide) (by decide)).mono ?_
        rintro e wa ⟨rfl, na, rfl⟩
        go_wp2_with fail
        refine (rright_any 18 x15 _ l15 (by decide) (by decide)).mono ?_
        rintro e wb ⟨rfl, nb, rfl⟩
        have HOa := Lib.hid ((H1.out.drewN na).drewN nb)
        have HBa := Lib.hid (drawn (drawn H2.out na) nb)
        have HRa := Lib.hid ((HR.out.drewN na).drewN nb)
        have c2 : ((wr.drewN na).drewN nb).cell? ⟨g3, k - 2, none⟩ = some (.int .i64 (x2 : Nat)) := c2
        clear H1 H2 HR c15
        generalize (wr.drewN na).drewN nb = wb at *
        have a7 := rr_lt (n := 7) l15
        have a18 := rr_lt (n := 18) l15
        have hxa := i64_xor_nat (rr 7 x15) (rr 18 x15) (by omega) (by omega)
        have hxb : bits BinOp.xor .i64 ((rr 7 x15 ^^^ rr 18 x15 : Nat) : Int) ((x15 : Int) / 8) = ((ls0 x15 : Nat) : Int) := i64_xor_nat _ (x15 / 8) (by have := xor32 a7 a18; omega) (by omega)
        have hl0 := ls0_lt l15
        generalize rr 7 x15 ^^^ rr 18 x15 = b1 at *
        generalize rr 7 x15 = b2 at *
        generalize rr 18 x15 = b3 at *
        generalize ls0 x15 = s0 at *
        go_wp2_with fail
        refine (rright_any 17 x2 _ l2 (by decide) (by decide)).mono ?_
        rintro e wc ⟨rfl, na, rfl⟩
        go_wp2_with fail
        refine (rright_any 19 x2 _ l2 (by decide) (by decide)).mono ?_
        rintro e wd ⟨rfl, nb, rfl⟩
        have HOb := Lib.hid ((HOa.out.drewN na).drewN nb)
        have HBb := Lib.hid (drawn (drawn HBa.out na) nb)
        have HRb := Lib.hid ((HRa.out.drewN na).drewN nb)
        clear HOa HBa HRa c2
        generalize (wb.drewN na).drewN nb = wd at *
        have a17 := rr_lt (n := 17) l2
        have a19 := rr_lt (n := 19) l2
        have hxc := i64_xor_nat (rr 17 x2) (rr 19 x2) (by omega) (by omega)
        have hxd : bits BinOp.xor .i64 ((rr 17 x2 ^^^ rr 19 x2 : Nat) : Int) ((x2 : Int) / 1024) = ((ls1 x2 : Nat) : Int) := i64_xor_nat _ (x2 / 1024) (by have := xor32 a17 a19; omega) (by omega)
        have hl1 := ls1_lt l2
        generalize rr 17 x2 ^^^ rr 19 x2 = b4 at *
        generalize rr 17 x2 = b5 at *
        generalize rr 19 x2 = b6 at *
        generalize ls1 x2 = s1 at *
        have c16 : wd.cell? ⟨g3, k - 16, none⟩ = some (.int .i64 (wn b 48 (k - 16) : Nat)) := HRb.out.cell (by omega) (Nat.zero_add _).symm
        have c7 : wd.cell? ⟨g3, k - 7, none⟩ = some (.int .i64 (wn b 48 (k - 7) : Nat)) := HRb.out.cell (by omega) (Nat.zero_add _).symm
        have l16 := wn_lt HY.out 48 (k - 16)
        have l7 := wn_lt HY.out 48 (k - 7)
        obtain ⟨x16, hx16⟩ : ∃ x, wn b 48 (k - 16) = x := ⟨_, rfl⟩
        obtain ⟨x7, hx7⟩ : ∃ x, wn b 48 (k - 7) = x := ⟨_, rfl⟩
        obtain ⟨i16, hi16⟩ : ∃ i, k - 16 = i := ⟨_, rfl⟩
        obtain ⟨i7, hi7⟩ : ∃ i, k - 7 = i := ⟨_, rfl⟩
        have j16 : (k : Int) - 16 = i16 := by omega
        have j7 : (k : Int) - 7 = i7 := by omega
        have j16w : IntKind.i64.wrap (i16 : Int) = i16 := IntWalk.i64_in _ (by omega)
        have j7w : IntKind.i64.wrap (i7 : Int) = i7 := IntWalk.i64_in _ (by omega)
        have j16k : (i16 : Int) < k := by omega
        have j7k : (i7 : Int) < k := by omega
        rw [hx16] at c16 l16 HV
        rw [hi16] at c16
        rw [hx7] at c7 l7 HV
        rw [hi7] at c7
        obtain ⟨z, hz⟩ : ∃ z, (x16 + s0 + x7 + s1) % 4294967296 = z := ⟨_, rfl⟩
        rw [hz] at HV
        clear hx16 hx7 hi16 hi7
        obtain ⟨v1, hv1⟩ : ∃ v, v = x16 + s0 := ⟨_, rfl⟩
        obtain ⟨v2, hv2⟩ : ∃ v, v = v1 + x7 := ⟨_, rfl⟩
        obtain ⟨v3, hv3⟩ : ∃ v, v = v2 + s1 := ⟨_, rfl⟩
        have e1 : (x16 : Int) + s0 = v1 := by omega
        have e2 : (v1 : Int) + x7 = v2 := by omega
        have e3 : (v2 : Int) + s1 = v3 := by omega
        have f1 : IntKind.i64.wrap (v1 : Int) = v1 := IntWalk.i64_in _ (by omega)
        have f2 : IntKind.i64.wrap (v2 : Int) = v2 := IntWalk.i64_in _ (by omega)
        have f3 : IntKind.i64.wrap (v3 : Int) = v3 := IntWalk.i64_in _ (by omega)
        have e4 : (v3 : Int).tmod 4294967296 = z := by rw [Int.tmod_eq_emod_of_nonneg (by omega)]; omega
        have hsz5 := HBb.out.size
        have HZ := Lib.hid HV.out.symm
        clear hz hv1 hv2 hv3 HV hsz
        have hk64 : k ≤ 1000000000000 := by omega
        have hcell : ((wd.alloc (.cells #[.int .i64 z] 3)).drew).cell? ⟨wd.heap.size, 0, none⟩ = some (.int .i64 z) := World.cell?_alloc_at _ _ _ _ rfl
        have hsz2 : w.heap.size ≤ ((wd.alloc (.cells #[.int .i64 z] 3)).drew).heap.size := by show _ ≤ (wd.heap.push _).size; simp; omega
        go_wp2_with fail
        go_region_law (refine step_app1I rfl (.tmp 77) (.tmp 94) rfl w.heap.size _ k _ rfl ((HOb.out.alloc _).drew) wd.heap.size z rfl hcell hk64 hsz2 HZ.out ?_; intro v' w' hown' hb')
        all_goals
          have HO6 := Lib.hid hown'
          have HB6 := Lib.hid (((HBb.out.alloc HBb.out.size _).drew).trans hb')
          clear hown' hb' hcell hsz2
          go_wp2_with fail
          go_roundw
          case rel => exact ⟨k + 1, by omega, by go_num, HO6.out, HB6.out⟩
          case measure => simp [intOf]; omega
    · obtain rfl : k = 64 := by omega
      go_wp2_with fail
      go_ret
      exact ⟨_, rfl, H1.out, H2.out⟩
end Go.Proofs.YtogcfaijphpgfaaDoor
