/- AesRounds. -/
import Derived.Test.YtdlkhfcfjgjooaaLaw04d
namespace Go.Proofs.Ytdlkhfcfjgjooaa
open Go.RowKit

/-- a row of m rows of sixteen bytes -/
structure Want (w : World) (L m : Nat) (G C : Nat → Nat) (S : Nat → Nat) : Prop where
  lt : L < w.heap.size
  cells : ∀ j, j < m → w.cell? ⟨L, j, none⟩ = some (.slice (some ⟨G j, 0, none⟩) 16 (C j))
  rows : ∀ j, j < m → RowX w (G j) 5 16 (fun t => .int .u8 (S (16 * j + t) : Nat))
namespace Want
variable {w w' : World} {L m : Nat} {G C S : Nat → Nat}
theorem drewN (h : Want w L m G C S) (k : Nat) : Want (w.drewN k) L m G C S := ⟨h.lt, h.cells, fun j hj => (h.rows j hj).drewN k⟩
theorem of_blocks (h : Want w L m G C S) (hs : w.heap.size ≤ w'.heap.size) (e1 : w'.heap[L]? = w.heap[L]?) (e2 : ∀ j, j < m → w'.heap[G j]? = w.heap[G j]?) : Want w' L m G C S :=
  ⟨Nat.lt_of_lt_of_le h.lt hs, fun j hj => (World.cell?_of_block e1).trans (h.cells j hj), fun j hj => (h.rows j hj).of_block (e2 j hj)⟩
theorem keep (h : Want w L m G C S) (hb : Below w.heap.size w w') : Want w' L m G C S := h.of_blocks hb.size (hb.block L h.lt) fun j hj => hb.block _ (h.rows j hj).lt
theorem chg {K : Nat} (h : Want w L m G C S) (hc : Chg K w w') (n1 : L ≠ K) (n2 : ∀ j, j < m → G j ≠ K) : Want w' L m G C S := h.of_blocks hc.size (hc.block L h.lt n1) fun j hj => hc.block _ (h.rows j hj).lt (n2 j hj)
theorem chgS {T : Nat → Prop} (h : Want w L m G C S) (hc : ChgS T w w') (n1 : ¬ T L) (n2 : ∀ j, j < m → ¬ T (G j)) : Want w' L m G C S := h.of_blocks hc.size (hc.block L h.lt n1) fun j hj => hc.block _ (h.rows j hj).lt (n2 j hj)
theorem conv (h : Want w L m G C S) (hS : By (16 * m) S) {j : Nat} (hj : j < m) : (convert 22 9 (.slice (some ⟨G j, 0, none⟩) 16 (C j))).run Try.prog w = .ok (.string (strOf 16 (fun t => S (16 * j + t)))) w :=
  convSl (SlB.of_rowX (h.rows j hj) fun t ht => ⟨hS _ (by omega), rfl⟩) (Nat.le_refl 16)
end Want
theorem Rounds.want {w0 w : World} {L m : Nat} {G S : Nat → Nat} (h : Rounds w0 w L m m G S) : Want w L m G (fun _ => 16) S :=
  ⟨h.list.lt, fun j hj => by rw [h.list.cell hj, if_pos hj], fun j hj => (h.rows j hj).rowX⟩
theorem rounds_m (g n m : Nat) (key : Nat → Nat) (w : World) (hm : n + 7 = m) (hn : n = 4 ∨ n = 8) (hkey : By (4 * n) key) (hk : KeyAt w g n key) :
    Calls Try.prog 14 #[.pointer (some ⟨g, 0, none⟩)] w fun e w' => ∃ L G, e = .returned (.slice (some ⟨L, 0, none⟩) m m) ∧ Rounds w w' L m m G (ks n key) ∧ KeyReady w' g n key ∧ Chg g w w' := by
  subst hm
  exact rounds_any g n key w hn hkey hk
theorem rof_m (g L n m cap : Nat) (w : World) (hm : n + 7 = m) (h : w.cell? ⟨g, 0, none⟩ = some (.slice (some ⟨L, 0, none⟩) (n + 7) cap)) :
    Calls Try.prog 15 #[.pointer (some ⟨g, 0, none⟩)] w fun e w' => e = .returned (.slice (some ⟨L, 0, none⟩) m cap) ∧ w = w' := by
  subst hm
  exact rroundsOf_any g L (n + 7) cap w h
theorem KeyAt.ne {w : World} {g n B : Nat} {key : Nat → Nat} {v : Value} (h : KeyAt w g n key) (hB : w.cell? ⟨B, 0, none⟩ = some v) (hv : ∀ z, v ≠ .int .i64 z) : B ≠ g := fun e => by
  subst e
  rw [h.words] at hB
  exact hv _ (Option.some.inj hB).symm
theorem owned_rounds (L m : Nat) (G S : Nat → Nat) (W : World) (hm : m ≤ 15) (h : Want W L m G (fun _ => 16) S) (hL : ∀ j, j < m → L ≠ G j) (hG : ∀ i j, i < j → j < m → G i < G j) :
    Calls Try.prog 12 #[.slice (some ⟨L, 0, none⟩) m m] W fun e w' => e = .returned (.bool true) ∧ ChgS (InR m (fun _ => 16) G) W w' :=
  owned_arr (R := m) (A := fun j => some ⟨G j, 0, none⟩) (n := fun _ => 16) (c := fun _ => 16) (g := G) (f := fun j t => S (16 * j + t)) m W (by omega)
    ⟨h.cells, fun j hj _ => (RowX.arr (h.rows j hj)).congr fun t _ => (ov_none (fun j t => S (16 * j + t)) j t).symm⟩ (fun _ _ _ => rfl)
    (fun i j hi hj hij _ _ => by rcases Nat.lt_or_gt_of_ne hij with h1 | h1
                                 · have := hG i j h1 hj; omega
                                 · have := hG j i h1 hi; omega) (fun j hj _ => hL j hj) (fun _ _ => by decide)
set_option maxRecDepth 100000 in
set_option maxHeartbeats 1600000 in
theorem rounds_key (A : Option Addr) (len c : Nat) (key : Nat → Nat) (w : World) (h1 : len ≠ 16) (h2 : len ≠ 32) (hl3 : len ≤ 140737488351232) (hA : SlB w A len key) :
    Calls Try.prog 3 #[.slice A len c] w fun e w' => e = .returned (.bool true) ∧ Below w.heap.size w w' := by
  have HA := Lib.hid hA
  have HN16 := Lib.hid h1
  have HN32 := Lib.hid h2
  clear hA h1 h2
  go_enter Try.func3, Try.ntmps3
  go_wp2_with fail
  refine (small_any _).mono ?_
  rintro e w1 ⟨rfl, h1⟩
  have H1 := Lib.hid h1
  clear h1
  go_wp2_with fail
  refine (lent_any A len c key w1 hl3 (HA.out.keep H1.out)).mono ?_
  rintro e w2 ⟨gL, rfl, h1, h2, h3⟩
  have HGL := Lib.hid (Nat.le_trans H1.out.size h1)
  have HL2 := Lib.hid h2
  have HB2 := Lib.hid (H1.out.trans (h3.mono H1.out.size))
  clear h1 h2 h3
  go_wp2_with fail
  refine (new_short (some ⟨gL, 0, none⟩) len (len + 1) w2 HN16.out HN32.out hl3).mono ?_
  rintro e w3 ⟨rfl, rfl⟩
  go_wp2_with fail
  refine (kept_any gL A len c key w2 hl3 (HA.out.keep HB2.out) HL2.out).mono ?_
  rintro e w4 ⟨rfl, rfl⟩
  go_wp2_with fail
  refine (owned_one w2 gL len (len + 1) _ (lent_arr HL2.out) (by omega) (by omega)).mono ?_
  rintro e w4 ⟨rfl, h1⟩
  have HC4 := Lib.hid h1
  have HB4 := Lib.hid (HB2.out.trans (h1.below HB2.out.size HGL.out))
  clear h1
  go_wp2_with fail
  refine (rnew_short A len c w4 HN16.out HN32.out hl3).mono ?_
  rintro e w5 ⟨rfl, rfl⟩
  go_wp2_with fail
  go_ret
  exact ⟨rfl, HB4.out⟩
set_option maxRecDepth 100000 in
set_option maxHeartbeats 3200000 in
theorem rounds_ok (A : Option Addr) (len c n m : Nat) (key : Nat → Nat) (w : World) (hn : n = 4 ∨ n = 8) (hl : 4 * n = len) (hm : n + 7 = m) (hc : len ≤ c) (hl3 : len ≤ 140737488351232) (hA : SlB w A len key) :
    Calls Try.prog 3 #[.slice A len c] w fun e w' => e = .returned (.bool true) ∧ Below w.heap.size w w' := by
  have HN := Lib.hid hn
  have HL := Lib.hid hl
  have HM := Lib.hid hm
  have HCC := Lib.hid hc
  have HA := Lib.hid hA
  have HYl := Lib.hid (show By len key from fun j hj => HA.out.byte hj)
  have HY := Lib.hid (show By (4 * n) key from fun j hj => HA.out.byte (by omega))
  have HSB := Lib.hid (show By (16 * m) (ks n key) from fun j _ => ks_by (by omega) HY.out j)
  have hm15 : m ≤ 15 := by omega
  clear hn hl hm hc hA
  go_enter Try.func3, Try.ntmps3
  go_wp2_with fail
  refine (small_any _).mono ?_
  rintro e w1 ⟨rfl, h1⟩
  have H1 := Lib.hid h1
  clear h1
  go_wp2_with fail
  refine (lent_any A len c key w1 hl3 (HA.out.keep H1.out)).mono ?_
  rintro e w2 ⟨gL, rfl, h1, h2, h3⟩
  have HGL := Lib.hid (Nat.le_trans H1.out.size h1)
  have HL2 := Lib.hid h2
  have HB2 := Lib.hid (H1.out.trans (h3.mono H1.out.size))
  clear h1 h2 h3
  go_wp2_with fail
  refine (new_at (some ⟨gL, 0, none⟩) len n (len + 1) key w2 HL.out HN.out (lent_slB HL2.out HYl.out)).mono ?_
  rintro e w3 ⟨g, rfl, h1, h2, h3⟩
  have HG := Lib.hid (Nat.le_trans HB2.out.size h1)
  have HNL := Lib.hid (show g ≠ gL by have := HL2.out.lt; omega)
  have HK3 := Lib.hid h2
  have HL3 := Lib.hid (HL2.out.of_block (h3.block gL HL2.out.lt))
  have HB3 := Lib.hid (HB2.out.trans (h3.mono HB2.out.size))
  clear h1 h2 h3
  go_wp2_with fail
  refine (kept_any gL A len c key w3 hl3 (HA.out.keep HB3.out) HL3.out).mono ?_
  rintro e w4 ⟨rfl, rfl⟩
  go_wp2_with fail
  refine (owned_one w3 gL len (len + 1) _ (lent_arr HL3.out) (by omega) (by omega)).mono ?_
  rintro e w4 ⟨rfl, h1⟩
  have HC4 := Lib.hid h1
  have HB4 := Lib.hid (HB3.out.trans (h1.below HB3.out.size HGL.out))
  clear h1
  go_wp2_with fail
  have HK4 := Lib.hid (HK3.out.chg HC4.out HNL.out)
  refine (rnew_at A len n c key w4 HL.out HN.out HCC.out (HA.out.keep HB4.out)).mono ?_
  rintro e w5 ⟨gx, rfl, _, h2, h3⟩
  have HK5 := Lib.hid (HK4.out.keep h3)
  have HB5 := Lib.hid (HB4.out.trans (h3.mono HB4.out.size))
  obtain ⟨⟨Lx, capx, Gx, Cx, x1, x2, x3⟩, _, _⟩ := h2
  have HX5 := Lib.hid (show Want w5 Lx m Gx Cx (ks n key) from ⟨x2, fun j hj => (x3 j (by have := HM.out; omega)).1, fun j hj => (x3 j (by have := HM.out; omega)).2⟩)
  have HE5 := Lib.hid x1
  clear h3 x1 x2 x3
  have HNx := Lib.hid (HK5.out.ne HE5.out (fun z h => by cases h))
  have HNLx := Lib.hid (HK5.out.ne (HX5.out.cells 0 (by have := HM.out; omega)) (fun z h => by cases h))
  have HNGx := Lib.hid (fun j (hj : j < m) => HK5.out.ne ((HX5.out.rows j hj).cell (i := 0) (by decide)) (fun z h => by cases h))
  go_wp2_with fail
  refine (rounds_m g n m key w5 HM.out HN.out HY.out HK5.out).mono ?_
  rintro e w6 ⟨L1, G1, rfl, h1, h2, h3⟩
  have HR6 := Lib.hid h1
  have HW6 := Lib.hid h1.want
  have HN1 := Lib.hid (show g < w5.heap.size from HK5.out.lt)
  have HK6 := Lib.hid (show KeyAt w6 g n key from Or.inr h2)
  have HX6 := Lib.hid (HX5.out.chg h3 HNLx.out HNGx.out)
  have HE6 := Lib.hid ((h3.cell (o := 0) (block_lt HE5.out) HNx.out).trans HE5.out)
  have HC6 := Lib.hid h3
  have HB6 := Lib.hid (HB5.out.trans (h3.below HB5.out.size HG.out))
  clear h1 h2 h3
  go_wp2_with fail
  refine (rounds_m g n m key w6 HM.out HN.out HY.out HK6.out).mono ?_
  rintro e w7 ⟨L2, G2, rfl, h1, h2, h3⟩
  have HR7 := Lib.hid h1
  have HV7 := Lib.hid h1.want
  have HW7 := Lib.hid (HW6.out.chg h3 (by have := HR6.out.first; have := HN1.out; omega) (fun j hj => by have := (HR6.out.new j hj).1; have := HR6.out.first; have := HN1.out; omega))
  have HX7 := Lib.hid (HX6.out.chg h3 HNLx.out HNGx.out)
  have HE7 := Lib.hid ((h3.cell (o := 0) (block_lt HE6.out) HNx.out).trans HE6.out)
  have HB7 := Lib.hid (HB6.out.trans (h3.below HB6.out.size HG.out))
  clear h1 h2 h3
  go_wp2_with fail
  refine (rof_m gx Lx n m capx w7 HM.out HE7.out).mono ?_
  rintro e w8 ⟨rfl, rfl⟩
  go_wp2_with fail
  go_loopw [13] (fun v wr => ∃ k d : Nat, k ≤ m ∧ v = .int .i64 (k : Nat) ∧ wr = w7.drewN d) (fun v _ => m - (intOf v).toNat)
  case atStart => exact ⟨0, 0, Nat.zero_le _, rfl, rfl⟩
  case round =>
    obtain ⟨k, d, hk, rfl, hw⟩ := hrel
    have HD7 := Lib.hid hw
    have HWA := Lib.hid (show Want wr L1 m G1 (fun _ => 16) (ks n key) by rw [hw]; exact HW7.out.drewN d)
    have HWX := Lib.hid (show Want wr Lx m Gx Cx (ks n key) by rw [hw]; exact HX7.out.drewN d)
    clear hw
    by_cases hlt : k < m
    · have hki : (k : Int) < (m : Nat) := by omega
      have hk0 : (0 : Int) ≤ (k : Nat) := by omega
      have hc1 := HWA.out.cells k hlt
      have hc2 := HWX.out.cells k hlt
      have hcv1 := fun nq => (HWA.out.drewN nq).conv HSB.out hlt
      have hcv2 := fun nq => (HWX.out.drewN nq).conv HSB.out hlt
      generalize strOf 16 (fun t => ks n key (16 * k + t)) = y at *
      go_wp2_with fail
      go_quiet (fail)
      go_wp2_with fail
      go_roundw
      case rel => exact ⟨k + 1, d + nq, by omega, by go_num, by rw [HD7.out, World.drewN_drewN]⟩
      case measure => simp [intOf]; omega
    · obtain rfl : m = k := by omega
      go_wp2_with fail
      refine (owned_rounds L1 m G1 (ks n key) wr hm15 HWA.out (fun j hj => Nat.ne_of_lt (HR6.out.new j hj).1) HR6.out.apart).mono ?_
      rintro e w8 ⟨rfl, h1⟩
      have HS := Lib.hid (fun z (hz : InR m (fun _ => 16) G1 z) => show w5.heap.size < z ∧ z < w6.heap.size by
        obtain ⟨j, hj, _, rfl⟩ := hz
        have := HR6.out.new j hj
        have := HR6.out.first
        omega)
      have HV8 := Lib.hid (show Want w8 L2 m G2 (fun _ => 16) (ks n key) by
        refine Want.chgS (show Want wr L2 m G2 (fun _ => 16) (ks n key) by rw [HD7.out]; exact HV7.out.drewN d) h1 (fun hz => ?_) (fun j hj hz => ?_)
        · have := HS.out _ hz; have := HR7.out.first; omega
        · have := HS.out _ hz; have := HR7.out.first; have := (HR7.out.new j hj).1; omega)
      have HX8 := Lib.hid (HWX.out.chgS h1 (fun hz => by have := HS.out _ hz; have := HX5.out.lt; omega) (fun j hj hz => by have := HS.out _ hz; have := (HX5.out.rows j hj).lt; omega))
      have HB8 := Lib.hid (show Below w.heap.size w w8 from (show Below w.heap.size w wr by rw [HD7.out]; exact drawn HB7.out d).trans (h1.below (by rw [HD7.out]; exact HB7.out.size) (fun z hz => by have := HS.out z hz; have := HB5.out.size; omega)))
      clear h1 HWA HWX HD7
      go_wp2_with fail
      go_loopw [15] (fun v wr => ∃ k d : Nat, k ≤ m ∧ v = .int .i64 (k : Nat) ∧ wr = w8.drewN d) (fun v _ => m - (intOf v).toNat)
      case atStart => exact ⟨0, 0, Nat.zero_le _, rfl, rfl⟩
      case round =>
        obtain ⟨k, d, hk, rfl, hw⟩ := hrel
        have HD8 := Lib.hid hw
        have HWA := Lib.hid (show Want wr L2 m G2 (fun _ => 16) (ks n key) by rw [hw]; exact HV8.out.drewN d)
        have HWX := Lib.hid (show Want wr Lx m Gx Cx (ks n key) by rw [hw]; exact HX8.out.drewN d)
        clear hw
        by_cases hlt : k < m
        · have hki : (k : Int) < (m : Nat) := by omega
          have hk0 : (0 : Int) ≤ (k : Nat) := by omega
          have hc1 := HWA.out.cells k hlt
          have hc2 := HWX.out.cells k hlt
          have hcv1 := fun nq => (HWA.out.drewN nq).conv HSB.out hlt
          have hcv2 := fun nq => (HWX.out.drewN nq).conv HSB.out hlt
          generalize strOf 16 (fun t => ks n key (16 * k + t)) = y at *
          go_wp2_with fail
          go_quiet (fail)
          go_wp2_with fail
          go_roundw
          case rel => exact ⟨k + 1, d + nq, by omega, by go_num, by rw [HD8.out, World.drewN_drewN]⟩
          case measure => simp [intOf]; omega
        · obtain rfl : m = k := by omega
          go_wp2_with fail
          go_ret
          exact ⟨rfl, by rw [HD8.out]; exact drawn HB8.out d⟩
theorem rounds_law (A : Option Addr) (len c : Nat) (key : Nat → Nat) (w : World) (hc : len ≤ c) (h3 : len ≤ 140737488351232) (hA : SlB w A len key) :
    Calls Try.prog 3 #[.slice A len c] w fun e w' => e = .returned (.bool true) ∧ Below w.heap.size w w' := by
  by_cases hk : len ≠ 16 ∧ len ≠ 32
  · exact rounds_key A len c key w hk.1 hk.2 h3 hA
  · by_cases h : len = 16
    · exact rounds_ok A len c 4 11 key w (Or.inl rfl) (by omega) rfl hc h3 hA
    · exact rounds_ok A len c 8 15 key w (Or.inr rfl) (by omega) rfl hc h3 hA
end Go.Proofs.Ytdlkhfcfjgjooaa
