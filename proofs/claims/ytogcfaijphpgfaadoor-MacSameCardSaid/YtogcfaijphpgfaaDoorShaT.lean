/- Contracts of package sha: Write. -/
import Derived.Test.YtogcfaijphpgfaaDoorShaR
namespace Go.Proofs.YtogcfaijphpgfaaDoor
open Go.RowKit
/-- a Hash behind n bytes -/
def HM (w : World) (g n : Nat) (f : Nat → Nat) : Prop := ∃ b, RowV w g 66 73 (hv (hs f (n / 64)) b n) ∧ ∀ j, j < n % 64 → b j = f (64 * (n / 64) + j)
namespace HM
variable {w w' : World} {g n : Nat} {f f' : Nat → Nat}
theorem lt (h : HM w g n f) : g < w.heap.size := by obtain ⟨b, h, _⟩ := h; exact h.lt
theorem of_block (h : HM w g n f) (e : w'.heap[g]? = w.heap[g]?) : HM w' g n f := by obtain ⟨b, h, r⟩ := h; exact ⟨b, h.of_block e, r⟩
theorem keep (h : HM w g n f) (hb : Below w.heap.size w w') : HM w' g n f := h.of_block (hb.block g h.lt)
theorem chg {K : Nat} (h : HM w g n f) (hc : Chg K w w') (hK : g ≠ K) : HM w' g n f := h.of_block (hc.block g h.lt hK)
theorem drewN (h : HM w g n f) (k : Nat) : HM (w.drewN k) g n f := h
theorem alloc (h : HM w g n f) (o : Obj) : HM (w.alloc o) g n f := h.keep ((Below.refl _ _).alloc (Nat.le_refl _) o)
theorem congr (h : HM w g n f) (e : ∀ j, j < n → f j = f' j) : HM w g n f' := by
  obtain ⟨b, h, r⟩ := h
  refine ⟨b, ?_, fun j hj => by rw [r j hj, e _ (by omega)]⟩
  rw [← hs_congr (f := f) (g := f') (n / 64) fun j hj => e j (by omega)]
  exact h
theorem count (h : HM w g n f) : w.cell? ⟨g, 72, none⟩ = some (.int .i64 (n : Nat)) := by obtain ⟨b, h, _⟩ := h; exact h.cell (i := 72) (by decide)
end HM
/-- where each part begins -/
def offs (n0 : Nat) (n : Nat → Nat) : Nat → Nat
  | 0 => n0
  | i + 1 => offs n0 n i + n i
theorem offs_le (n0 : Nat) (n : Nat → Nat) (i : Nat) : ∀ d, offs n0 n i ≤ offs n0 n (i + d)
  | 0 => Nat.le_refl _
  | d + 1 => Nat.le_trans (offs_le n0 n i d) (by show _ ≤ offs n0 n (i + d) + n (i + d); omega)
/-- parts: rows of bytes, known by a row of slices -/
structure Parts (w : World) (g k : Nat) (A : Nat → Option Addr) (n c : Nat → Nat) (f : Nat → Nat → Nat) : Prop where
  cells : ∀ j, j < k → w.cell? ⟨g, j, none⟩ = some (.slice (A j) (n j) (c j))
  rows : ∀ j, j < k → SlB w (A j) (n j) (f j)
theorem SlB.chg {w w' : World} {A : Option Addr} {n K : Nat} {bs : Nat → Nat} (h : SlB w A n bs) (hc : Chg K w w') (hK : 0 < n → ∀ B o, A = some ⟨B, o, none⟩ → B ≠ K) : SlB w' A n bs := fun hn => by
  obtain ⟨B, o, hA, hB, h⟩ := h hn
  exact ⟨B, o, hA, Nat.lt_of_lt_of_le hB hc.size, fun j hj => ⟨(h j hj).1, (hc.cell hB (hK hn B o hA)).trans (h j hj).2⟩⟩
theorem Parts.chg {w w' : World} {g k K : Nat} {A : Nat → Option Addr} {n c : Nat → Nat} {f : Nat → Nat → Nat} (h : Parts w g k A n c f) (hc : Chg K w w') (hg : g ≠ K) (hK : ∀ i, i < k → 0 < n i → ∀ B o, A i = some ⟨B, o, none⟩ → B ≠ K) : Parts w' g k A n c f :=
  ⟨fun j hj => (hc.cell (block_lt (a := ⟨g, 0, none⟩) (h.cells 0 (by omega))) hg).trans (h.cells j hj), fun j hj => (h.rows j hj).chg hc (hK j hj)⟩
theorem Parts.drewN {w : World} {g k : Nat} {A : Nat → Option Addr} {n c : Nat → Nat} {f : Nat → Nat → Nat} (h : Parts w g k A n c f) (m : Nat) : Parts (w.drewN m) g k A n c f := ⟨h.cells, h.rows⟩
/-- the block behind a copy -/
def putH (q k : Nat) (f b : Nat → Nat) (j : Nat) : Nat := if q ≤ j ∧ j < q + k then f (j - q) else b j
theorem putV_hv (s : S8) (b f : Nat → Nat) (n q k j : Nat) (hq : q + k ≤ 64) : putV (8 + q) k (fun j => .int .u8 (f j : Nat)) (hv s b n) j = hv s (putH q k f b) n j := by
  unfold putV hv putH
  by_cases h8 : j < 8
  · rw [if_neg (by omega), if_pos h8, if_pos h8]
  · by_cases h72 : j < 72
    · rw [if_neg h8, if_neg h8, if_pos h72, if_pos h72]
      by_cases h : 8 + q ≤ j ∧ j < 8 + q + k
      · rw [if_pos h, if_pos (by omega), show j - (8 + q) = j - 8 - q by omega]
      · rw [if_neg h, if_neg (by omega)]
    · rw [if_neg h8, if_neg h8, if_neg h72, if_neg h72, if_neg (by omega)]
theorem set_hv (s : S8) (b : Nat → Nat) (n m j : Nat) (hj : j < 73) : (if j = 72 then Value.int .i64 (m : Nat) else hv s b n j) = hv s b m j := by
  unfold hv
  by_cases h : j = 72
  · subst h; rfl
  · rw [if_neg h]
    by_cases h8 : j < 8
    · rw [if_pos h8, if_pos h8]
    · rw [if_neg h8, if_neg h8, if_pos (by omega), if_pos (by omega)]
theorem SlB.congr {w : World} {A : Option Addr} {n : Nat} {f f' : Nat → Nat} (h : SlB w A n f) (e : ∀ j, j < n → f j = f' j) : SlB w A n f' := fun hn => by
  obtain ⟨B, o, hA, hB, hc⟩ := h hn
  exact ⟨B, o, hA, hB, fun j hj => by rw [← e j hj]; exact hc j hj⟩
theorem hiA_block {w : World} {A : Option Addr} {n c k : Nat} {f : Nat → Nat} (h : SlB w A n f) (hn : 0 < n) {B o : Nat} (e : hiA A c k = some ⟨B, o, none⟩) : ∃ o', A = some ⟨B, o', none⟩ := by
  obtain ⟨B0, o0, rfl, _, _⟩ := h hn
  unfold hiA at e
  split at e
  · exact ⟨_, e⟩
  · rw [Option.map_some, Go.WideShapes.add_plain] at e
    injection e with e
    injection e with e1 _ _
    exact ⟨o0, by rw [e1]⟩
theorem hB5' {g : Nat} {w w' : World} (h : Chg g w.drew w') : Chg g w w' := ⟨h.os, h.tape, h.output, h.size, h.block⟩
/-- some bytes more, no block is full -/
theorem hm_part {w : World} {g N k : Nat} {F b f : Nat → Nat} (hr : RowV w g 66 73 (hv (hs F (N / 64)) (putH (N % 64) k f b) (N + k))) (hb : ∀ j, j < N % 64 → b j = F (64 * (N / 64) + j)) (hf : ∀ j, j < k → F (N + j) = f j) (hk : N % 64 + k < 64) : HM w g (N + k) F := by
  refine ⟨putH (N % 64) k f b, ?_, fun j hj => ?_⟩
  · rw [show (N + k) / 64 = N / 64 by omega]; exact hr
  · rw [show (N + k) / 64 = N / 64 by omega]
    unfold putH
    by_cases h : N % 64 ≤ j ∧ j < N % 64 + k
    · rw [if_pos h, ← hf _ (by omega), show N + (j - N % 64) = 64 * (N / 64) + j by omega]
    · rw [if_neg h]; exact hb j (by omega)
/-- the block is full: what is in it -/
theorem full_block {N k : Nat} {F b f : Nat → Nat} (hb : ∀ j, j < N % 64 → b j = F (64 * (N / 64) + j)) (hf : ∀ j, j < k → F (N + j) = f j) (hk : N % 64 + k = 64) (j : Nat) (hj : j < 64) : putH (N % 64) k f b j = F (64 * (N / 64) + j) := by
  unfold putH
  by_cases h : N % 64 ≤ j ∧ j < N % 64 + k
  · rw [if_pos h, ← hf _ (by omega), show N + (j - N % 64) = 64 * (N / 64) + j by omega]
  · rw [if_neg h]; exact hb j (by omega)
theorem hm_full {w : World} {g N k : Nat} {F b f : Nat → Nat} (hr : RowV w g 66 73 (hv (comp (hs F (N / 64)) (putH (N % 64) k f b)) (putH (N % 64) k f b) (N + k))) (hb : ∀ j, j < N % 64 → b j = F (64 * (N / 64) + j)) (hf : ∀ j, j < k → F (N + j) = f j) (hk : N % 64 + k = 64) : HM w g (N + k) F := by
  refine ⟨putH (N % 64) k f b, ?_, fun j hj => by omega⟩
  rw [show (N + k) / 64 = N / 64 + 1 by omega, hs, ← comp_congr (full_block hb hf hk)]
  exact hr
set_option maxRecDepth 100000 in
set_option maxHeartbeats 3200000 in
theorem write_any (g n0 gp k cap : Nat) (A : Nat → Option Addr) (n c : Nat → Nat) (f : Nat → Nat → Nat) (F : Nat → Nat) (w : World) (hk : k ≤ 1000) (hN : offs n0 n k ≤ 1000000000000000) (hp : Parts w gp k A n c f) (hcap : ∀ i, i < k → n i ≤ c i)
    (hF : ∀ i, i < k → ∀ j, j < n i → F (offs n0 n i + j) = f i j) (hm : HM w g n0 F) (hY : By (offs n0 n k) F) (ht : GT w) (hg : 1 ≠ g ∧ 0 ≠ g) (hgp : gp ≠ g)
    (hA : ∀ i, i < k → 0 < n i → ∀ B o, A i = some ⟨B, o, none⟩ → B ≠ g) :
    Calls Tryd.prog 24 #[.pointer (some ⟨g, 0, none⟩), .slice (some ⟨gp, 0, none⟩) k cap] w fun e w' => e = .returned (.tuple #[]) ∧ (HM w' g (offs n0 n k) F ∧ Chg g w w') := by
  have HP := Lib.hid hp
  have HF := Lib.hid hF
  have HH := Lib.hid hm
  have HY := Lib.hid hY
  have HT := Lib.hid ht
  have HG := Lib.hid hg
  have HGP := Lib.hid hgp
  have HA := Lib.hid hA
  have HCP := Lib.hid hcap
  have HN := Lib.hid hN
  clear hp hF hm hY ht hg hgp hA hN hcap
  go_enter Tryd.func24, Tryd.ntmps24
  go_wp2_with fail
  go_loopw [9] (fun v wr => ∃ i : Nat, i ≤ k ∧ v = .int .i64 i ∧ HM wr g (offs n0 n i) F ∧ Chg g w wr) (fun v _ => k - (intOf v).toNat)
  case atStart => exact ⟨0, Nat.zero_le _, rfl, HH.out, Chg.refl _ _⟩
  case round =>
    obtain ⟨i, hi, rfl, h1, h2⟩ := hrel
    have H1 := Lib.hid h1
    have H2 := Lib.hid h2
    clear h1 h2 HH
    by_cases hlt : i < k
    · have HPr := Lib.hid (HP.out.chg H2.out HGP.out HA.out)
      have hcell := HPr.out.cells i hlt
      have HS := Lib.hid (HPr.out.rows i hlt)
      have HFi := Lib.hid (HF.out i hlt)
      have HAi := Lib.hid (HA.out i hlt)
      have HCi := Lib.hid (HCP.out i hlt)
      have HO := Lib.hid (show offs n0 n (i + 1) = offs n0 n i + n i from rfl)
      have HNi := Lib.hid (show offs n0 n i + n i ≤ 1000000000000000 by
        have := offs_le n0 n (i + 1) (k - (i + 1))
        rw [show i + 1 + (k - (i + 1)) = k by omega] at this
        have h3 := HN.out
        have h4 := HO.out
        omega)
      have HYi := Lib.hid (show By (offs n0 n i + n i) F from fun j hj => HY.out j (by
        have := offs_le n0 n (i + 1) (k - (i + 1))
        rw [show i + 1 + (k - (i + 1)) = k by omega] at this
        have h4 := HO.out
        omega))
      obtain ⟨N1, hN1⟩ : ∃ N1, offs n0 n (i + 1) = N1 := ⟨_, rfl⟩
      rw [hN1] at HO
      have HN1 := Lib.hid hN1
      clear hN1
      generalize offs n0 n i = N0 at *
      generalize hAA : A i = Ai at *
      generalize hnn : n i = ni at *
      generalize hcc : c i = ci at *
      generalize f i = fi at *
      have hni : ni ≤ 1000000000000000 := by have := HNi.out; omega
      clear hAA hnn hcc
      go_wp2_with fail
      go_loopw [5] (fun v wr => ∃ (d : Nat) (A' : Option Addr) (c' : Nat), d ≤ ni ∧ v = .slice A' (ni - d) c' ∧ SlB wr A' (ni - d) (fun j => fi (d + j)) ∧ ni - d ≤ c' ∧ (0 < ni - d → ∀ B o, A' = some ⟨B, o, none⟩ → B ≠ g) ∧ HM wr g (N0 + d) F ∧ Chg g w wr) (fun v _ => lenOf v)
      case atStart => exact ⟨0, Ai, ci, Nat.zero_le _, rfl, HS.out.congr fun j _ => by rw [Nat.zero_add], HCi.out, HAi.out, H1.out, H2.out⟩
      case round =>
        obtain ⟨d, A', c', hd, rfl, h1, h2, h3, h4, h5⟩ := hrel
        have G1 := Lib.hid h1
        have G2 := Lib.hid h2
        have G3 := Lib.hid h3
        have G4 := Lib.hid h4
        have G5 := Lib.hid h5
        clear h1 h2 h3 h4 h5 H1 H2 HPr hcell HS
        obtain ⟨m, hm⟩ : ∃ m, ni - d = m := ⟨_, rfl⟩
        rw [hm] at G1 G2 G3 ⊢
        by_cases hdl : d < ni
        · have hm0 : (0 : Int) < m := by omega
          have hm1 : (m : Int) ≤ 1000000000000000 := by omega
          obtain ⟨N, hN⟩ : ∃ N, N0 + d = N := ⟨_, rfl⟩
          rw [hN] at G4
          obtain ⟨b, hrow, hbb⟩ := G4.out
          have HR := Lib.hid hrow
          have HB := Lib.hid hbb
          have hN2 : N ≤ 1000000000000000 := by have := HNi.out; omega
          have hNi0 : (0 : Int) ≤ N := by omega
          have hNi1 : (N : Int) ≤ 1000000000000000 := by omega
          have hcnt : wr.cell? ⟨g, 72, none⟩ = some (.int .i64 (N : Nat)) := HR.out.cell (i := 72) (by decide)
          have hq1 := Int.tmod_eq_emod_of_nonneg (b := 64) hNi0
          have hsl := sl_from 40 64 g 8 (N % 64) Tryd.underlying40 (by omega) ((N : Int).tmod 64) (by omega)
          obtain ⟨e, he⟩ : ∃ e, Nat.min m (64 - N % 64) = e := ⟨_, rfl⟩
          have hem : e ≤ m := by rw [← he]; exact Nat.min_le_left _ _
          have heq : e ≤ 64 - N % 64 := by rw [← he]; exact Nat.min_le_right _ _
          have he0 : 0 < e := by
            rw [← he]
            have : N % 64 < 64 := Nat.mod_lt _ (by decide)
            exact Nat.lt_min.2 ⟨by omega, by omega⟩
          have HE := Lib.hid he
          have hei : (e : Int) ≤ m := by omega
          obtain ⟨A2, hA2⟩ : ∃ A2, hiA A' c' e = A2 := ⟨_, rfl⟩
          have hsh := fun w => run_hi w A' m c' e hem
          rw [hA2] at hsh
          obtain ⟨x, hx⟩ : ∃ x, N + e = x := ⟨_, rfl⟩
          have hNe : (N : Int) + (e : Int) = (x : Nat) := by omega
          have hx0 : (0 : Int) ≤ x := by omega
          have hx1 : (x : Int) ≤ 2000000000000000 := by omega
          have HX := Lib.hid hx
          have HA2 := Lib.hid hA2
          clear hrow hbb G4 he hq1 hx hA2
          go_wp2_with fail
          go_region_law ((refine step_copyV rfl (.tmp 24) (.tmp 25) rfl g (8 + N % 64) _ _ A' m c' rfl rfl 66 73 _ (by first | exact HR.out | exact HR.out.drew) _ (by first | exact G1.out | exact G1.out.drewN 1) e HE.out.symm (by omega) ?_); intro w5 hr5 hb5; have HR5 := Lib.hid (hr5.congr fun j _ => putV_hv _ _ _ _ _ _ j (by omega)); have HB5 := Lib.hid hb5; clear hr5 hb5)
          have G6 := Lib.hid (G5.out.trans (hB5' HB5.out))
          have hcnt : w5.cell? ⟨g, 72, none⟩ = some (.int .i64 (N : Nat)) := HR5.out.cell (i := 72) (by decide)
          have hfr : w5.frozen? ⟨g, 72, none⟩ = false := HR5.out.frozen (i := 72) (by decide)
          have HR6 := Lib.hid ((HR5.out.set 72 (.int .i64 (x : Nat))).congr fun j hj => set_hv _ _ _ x j hj)
          have G7 := Lib.hid (G6.out.setCell (a := ⟨g, 72, none⟩) (Or.inl rfl) (.int .i64 (x : Nat)))
          have G8 := Lib.hid (((((G1.out.chg (hB5' HB5.out) G3.out).chg ((Chg.refl g w5).setCell (a := ⟨g, 72, none⟩) (Or.inl rfl) (.int .i64 (x : Nat))) G3.out).hiA (k := e) hem G2.out).congr (f' := fun j => fi ((d + e) + j)) fun j _ => by rw [Nat.add_assoc]))
          rw [HA2.out] at G8
          have G9 := Lib.hid (show 0 < m - e → ∀ B o, A2 = some ⟨B, o, none⟩ → B ≠ g from fun h B o hB => by
            obtain ⟨o', ho⟩ := hiA_block (c := c') (k := e) G1.out (by omega) (by rw [HA2.out]; exact hB)
            exact G3.out (by omega) B o' ho)
          have HFe := Lib.hid (show ∀ j, j < e → F (N + j) = fi (d + j) from fun j hj => by
            rw [← HFi.out (d + j) (by omega), ← hN, Nat.add_assoc])
          have HM1 := Lib.hid (show m - e = ni - (d + e) by omega)
          have HM2 := Lib.hid (show d + e ≤ ni by omega)
          have HM3 := Lib.hid (show x = N0 + (d + e) by have := HX.out; omega)
          have HM4 := Lib.hid (show m - e ≤ c' - e by have := G2.out; omega)
          have HM5 := Lib.hid (show m - e < m by omega)
          clear hsl HB5 G1 HR hN HE hm hm0 hm1
          by_cases hfull : N % 64 + e = 64
          · have hz : ((x : Int) % 64 == 0) = true := by have := HX.out; simp; omega
            have HFU := Lib.hid (full_block HB.out HFe.out hfull)
            have HYF := Lib.hid (show By 64 (putH (N % 64) e (fun j => fi (d + j)) b) from fun j hj => by
              rw [HFU.out j hj]; exact HYi.out _ (by have := HX.out; have := HM3.out; have := HM2.out; omega))
            have HFL := Lib.hid hfull
            clear hfull
            have HTq := Lib.hid (HT.out.chg G7.out HG.out)
            go_wp2_with fail
            refine (add_any g x _ _ _ (hs_ok F (N / 64)) HYF.out HR6.out HTq.out HG.out).mono ?_
            rintro e2 w6 ⟨rfl, h1, h2⟩
            have HM6 := Lib.hid (show HM w6 g x F by
              have := HX.out
              subst this
              exact hm_full h1 HB.out HFe.out HFL.out)
            have G10 := Lib.hid (G7.out.trans h2)
            have G11 := Lib.hid (G8.out.chg h2 G9.out)
            clear h1 h2
            go_wp2_with fail
            exact ⟨⟨d + e, A2, c' - e, HM2.out, by rw [HM1.out], by rw [← HM1.out]; exact G11.out, by rw [← HM1.out]; exact HM4.out, by rw [← HM1.out]; exact G9.out, by rw [← HM3.out]; exact HM6.out, G10.out⟩, HM5.out⟩
          · have hz : ((x : Int) % 64 == 0) = false := by have := HX.out; simp; omega
            have HFL := Lib.hid hfull
            clear hfull
            have HM6 := Lib.hid (show HM (w5.setCell ⟨g, 72, none⟩ (.int .i64 (x : Nat))) g x F by
              have := HX.out
              subst this
              exact hm_part HR6.out HB.out HFe.out (by have := HFL.out; omega))
            go_wp2_with fail
            exact ⟨⟨d + e, A2, c' - e, HM2.out, by rw [HM1.out], by rw [← HM1.out]; exact G8.out, by rw [← HM1.out]; exact HM4.out, by rw [← HM1.out]; exact G9.out, by rw [← HM3.out]; exact HM6.out, G7.out⟩, HM5.out⟩
        · obtain rfl : d = ni := by omega
          obtain rfl : m = 0 := by omega
          have HX := Lib.hid (show N0 + d = N1 from HO.out.symm)
          rw [HX.out] at G4
          go_wp2_with fail
          go_roundw
          case rel => exact ⟨i + 1, by omega, by go_num, by rw [HN1.out]; exact G4.out, G5.out⟩
          case measure => simp [intOf]; omega
    · obtain rfl : i = k := by omega
      go_wp2_with fail
      go_end0
      exact ⟨rfl, H1.out, H2.out⟩
end Go.Proofs.YtogcfaijphpgfaaDoor
