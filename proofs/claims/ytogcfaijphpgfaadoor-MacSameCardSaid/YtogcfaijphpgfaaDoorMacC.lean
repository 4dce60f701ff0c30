/- Contracts of package mac: a Maker's tags. -/
import Derived.Test.YtogcfaijphpgfaaDoorMacB
import Derived.Test.YtogcfaijphpgfaaDoorOrdF
namespace Go.Proofs.YtogcfaijphpgfaaDoor
open Go.RowKit
theorem offs_add (a : Nat) (n : Nat → Nat) : ∀ i, offs a n i = a + offs 0 n i
  | 0 => rfl
  | i + 1 => by show offs a n i + n i = a + (offs 0 n i + n i); rw [offs_add a n i]; omega
theorem run_build2 (w : World) (A0 A1 : Option Addr) (n0 n1 c0 c1 : Nat) : (Instr.buildSlice 30 2 #[(0, .slice A0 n0 c0), (1, .slice A1 n1 c1)]).run Tryd.prog w = .ok (.slice (some ⟨w.heap.size, 0, none⟩) 2 2) (w.alloc (.cells #[.slice A0 n0 c0, .slice A1 n1 c1] 22)) := by go_simp
theorem run_outer (g : Nat) (w : World) : (Instr.fieldAt 54 (.pointer (some ⟨g, 0, none⟩)) 3).run Tryd.prog w = .ok (.pointer (some ⟨g, 131, none⟩)) w := by go_simp
theorem sum2_parts (W : World) (gp cap : Nat) (A0 A1 : Option Addr) (n0 n1 c0 c1 : Nat) (f0 f1 F : Nat → Nat) (hn : n0 + n1 ≤ 100000000000000) (hc0 : n0 ≤ c0) (hc1 : n1 ≤ c1) (hp : Parts W gp 2 (t2 A0 A1) (t2 n0 n1) (t2 c0 c1) (t2 f0 f1)) (hY : By (n0 + n1) F)
    (hF0 : ∀ j, j < n0 → F j = f0 j) (hF1 : ∀ j, j < n1 → F (n0 + j) = f1 j) (ht : GT W) :
    Calls Tryd.prog 20 #[.slice (some ⟨gp, 0, none⟩) 2 cap] W (Dig W (n0 + n1) F) := by
  refine (sum_any gp 2 cap _ _ _ _ F _ (by decide) (by decide) (by show 0 + n0 + n1 ≤ _; omega) hp (fun i hi => ?_) (fun i hi j hj => ?_) (fun j hj => ?_) ht).mono fun e w' h => (Dig.of h (Below.refl _ _)).as (by show 0 + n0 + n1 = _; omega) fun _ _ => rfl
  · rcases two_of hi with rfl | rfl
    · exact hc0
    · exact hc1
  · rcases two_of hi with rfl | rfl
    · show F (0 + j) = f0 j
      rw [Nat.zero_add]; exact hF0 j hj
    · show F (0 + n0 + j) = f1 j
      rw [Nat.zero_add]; exact hF1 j hj
  · have hj : j < 0 + n0 + n1 := hj
    exact hY j (by omega)
--DEFS mm
def mmG (g h n : Nat) (key : Nat → Nat) (m : Nat) (F : Nat → Nat) (w0 : World) : Nat → Value → World → Prop
  | 0, v, _ => v = .pointer (some ⟨g, 0, none⟩)
  | 1, v, _ => v = .pointer (some ⟨g, 0, none⟩)
  | 2, v, _ => v = .pointer (some ⟨g, 131, none⟩)
  | 3, v, _ => v = .slice (some ⟨g, 131, none⟩) 64 64
  | 4, v, _ => v = .pointer (some ⟨h, 0, none⟩)
  | 5, v, w => ∃ d, v = .slice (some ⟨d, 0, none⟩) 32 32 ∧ Arr w d 0 32 (sha (64 + m) (catB 64 (xf 54 n key) F))
  | 6, v, w => ∃ p d, v = .slice (some ⟨p, 0, none⟩) 2 2 ∧ Parts w p 2 (t2 (some ⟨g, 131, none⟩) (some ⟨d, 0, none⟩)) (t2 64 32) (t2 64 32) (t2 (xf 92 n key) (sha (64 + m) (catB 64 (xf 54 n key) F)))
  | 7, v, w => ∃ d, v = .slice (some ⟨d, 0, none⟩) 32 32 ∧ w0.heap.size ≤ d ∧ Arr w d 0 32 (tag n key m F)
  | _, _, _ => True
theorem mmG_stays (g h n : Nat) (key : Nat → Nat) (m : Nat) (F : Nat → Nat) (w0 : World) : ∀ i v w w', mmG g h n key m F w0 i v w → Below w.heap.size w w' → mmG g h n key m F w0 i v w'
  | 0, _, _, _, h, _ => h
  | 1, _, _, _, h, _ => h
  | 2, _, _, _, h, _ => h
  | 3, _, _, _, h, _ => h
  | 4, _, _, _, h, _ => h
  | 5, v, w, w', h_, hb => by
    obtain ⟨d, h1, h2⟩ := h_; exact ⟨d, h1, h2.keep hb⟩
  | 6, v, w, w', h_, hb => by
    obtain ⟨p, d, h1, h2⟩ := h_; exact ⟨p, d, h1, h2.keep hb⟩
  | 7, v, w, w', h_, hb => by
    obtain ⟨d, h1, h2, h3⟩ := h_; exact ⟨d, h1, h2, h3.keep hb⟩
  | _ + 8, _, _, _, _, _ => trivial
--END DEFS mm
/-- what a tag's call leaves -/
def TagP (g n : Nat) (key : Nat → Nat) (m : Nat) (F : Nat → Nat) (w : World) (e : Ending) (w' : World) : Prop :=
  ∃ d, e = .returned (.slice (some ⟨d, 0, none⟩) 32 32) ∧ w.heap.size ≤ d ∧ Arr w' d 0 32 (tag n key m F) ∧ MakReady w' g n key ∧ Chg g w w'
set_option maxRecDepth 100000 in
set_option maxHeartbeats 1600000 in
theorem mmac_any (g n gp k cap : Nat) (key : Nat → Nat) (A : Nat → Option Addr) (l c : Nat → Nat) (f : Nat → Nat → Nat) (F : Nat → Nat) (m : Nat) (w0 : World) (hkey : By n key) (hk : MakAt w0 g n key) (hk0 : 0 < k) (hk2 : k ≤ 1000) (hm : offs 0 l k = m) (hN : m ≤ 10000000000000)
    (hp : Parts w0 gp k A l c f) (hcap : ∀ i, i < k → l i ≤ c i) (hF : ∀ i, i < k → ∀ j, j < l i → F (offs 0 l i + j) = f i j) (hY : By m F) (ht : GT w0) (hG : 1 ≠ g ∧ 0 ≠ g) (hgp : gp ≠ g)
    (hA : ∀ i, i < k → 0 < l i → ∀ B o, A i = some ⟨B, o, none⟩ → B ≠ g) :
    Calls Tryd.prog 15 #[.pointer (some ⟨g, 0, none⟩), .slice (some ⟨gp, 0, none⟩) k cap] w0 (TagP g n key m F w0) := by
  have HO := Lib.hid (once_mac g n key w0 hkey hk)
  have HKY := Lib.hid hkey
  have HGL := Lib.hid hk.lt
  have HGP := Lib.hid (block_lt (a := ⟨gp, 0, none⟩) (hp.cells 0 hk0))
  have HP := Lib.hid hp
  have HCP := Lib.hid hcap
  have HF := Lib.hid (show ∀ i, i < k → ∀ j, j < l i → catB 64 (xf 54 n key) F (offs 64 l i + j) = f i j from fun i hi j hj => by
    rw [offs_add, ← hF i hi j hj]
    unfold catB
    rw [if_neg (by omega), Nat.add_assoc, Nat.add_sub_cancel_left])
  have HM := Lib.hid (show offs 64 l k = 64 + m by rw [offs_add, hm])
  have HN := Lib.hid hN
  have HT := Lib.hid ht
  have HG := Lib.hid hG
  have HGQ := Lib.hid hgp
  have HA := Lib.hid hA
  have HFY := Lib.hid (show By (64 + m) (catB 64 (xf 54 n key) F) from fun j hj => catB_lt (xf_by (by decide) hkey) hY j hj)
  have hfi : ∀ W : World, (Instr.sliceAt 40 (.pointer (some ⟨g, 67, none⟩)) none none none).run Tryd.prog W = .ok (.slice (some ⟨g, 67, none⟩) 64 64) W := all_arr 40 64 g 67 Tryd.underlying40 (by decide)
  have HSA := Lib.hid (all_arr 40 64 g 131 Tryd.underlying40 (by decide))
  clear hkey hk hm hN hp hcap hF hY ht hG hgp hA
  go_enter Tryd.func15, Tryd.ntmps15
  go_wp2_with fail
  refine HO.out.mono ?_
  rintro e w1 ⟨rfl, h1, h2⟩
  have HR1 := Lib.hid h1
  have HC1 := Lib.hid h2
  have HT1 := Lib.hid (HT.out.chg h2 HG.out)
  have HP1 := Lib.hid (HP.out.chg h2 HGQ.out HA.out)
  have HL1 := Lib.hid h1.lt
  clear h1 h2
  go_wp2_with fail
  refine (new_any (catB 64 (xf 54 n key) F) w1 HT1.out).mono ?_
  rintro e w2 ⟨rfl, h1, h2⟩
  obtain ⟨h, hh⟩ : ∃ h, w1.heap.size = h := ⟨_, rfl⟩
  rw [hh] at h1 ⊢
  have HH := Lib.hid (show w0.heap.size ≤ h by rw [← hh]; exact HC1.out.size)
  have HGH := Lib.hid (show g < h by rw [← hh]; exact HL1.out)
  have HHM := Lib.hid h1
  have HR2 := Lib.hid (HR1.out.keep h2)
  have HC2 := Lib.hid (HC1.out.thenBelow h2)
  have HT2 := Lib.hid (HT1.out.keep h2)
  have HP2 := Lib.hid (HP1.out.keep h2)
  have HGW := Lib.hid (show 1 ≠ h ∧ 0 ≠ h from by rw [← hh]; exact ⟨Nat.ne_of_lt HT1.out.ltk, Nat.ne_of_lt HT1.out.lth⟩)
  clear h1 h2 hh
  go_wp2_with fail
  refine (write1_any w2 h 0 (some ⟨g, 67, none⟩) 64 64 (xf 54 n key) (catB 64 (xf 54 n key) F) (by decide) (Nat.le_refl _) (HR2.out.inner.slB (xf_by (by decide) HKY.out)) (fun j hj => by rw [Nat.zero_add]; unfold catB; rw [if_pos hj]) HHM.out (fun j hj => HFY.out j (by omega)) HT2.out HGW.out (fun _ B o e => by cases e; exact Nat.ne_of_lt HGH.out)).mono ?_
  rintro e w3 ⟨rfl, h1, h2⟩
  have HHM3 := Lib.hid h1
  have HR3 := Lib.hid (HR2.out.chg h2 (Nat.ne_of_lt HGH.out))
  have HC3 := Lib.hid (HC2.out.thenNew h2 HH.out)
  have HT3 := Lib.hid (HT2.out.chg h2 HGW.out)
  have HQ := Lib.hid (show gp ≠ h from Nat.ne_of_lt (Nat.lt_of_lt_of_le HGP.out HH.out))
  have HP3 := Lib.hid (HP2.out.chg h2 HQ.out (HP.out.apart HH.out))
  clear h1 h2
  go_wp2_with fail
  refine (write_any h 64 gp k cap A l c f (catB 64 (xf 54 n key) F) w3 hk2 (by rw [HM.out]; have := HN.out; omega) HP3.out HCP.out HF.out HHM3.out (by rw [HM.out]; exact HFY.out) HT3.out HGW.out HQ.out (HP.out.apart HH.out)).mono ?_
  rintro e w4 ⟨rfl, h1, h2⟩
  rw [HM.out] at h1
  have HHM4 := Lib.hid h1
  have HR4 := Lib.hid (HR3.out.chg h2 (Nat.ne_of_lt HGH.out))
  have HC4 := Lib.hid (HC3.out.thenNew h2 HH.out)
  have HT4 := Lib.hid (HT3.out.chg h2 HGW.out)
  clear h1 h2 hfi HHM3 HR3 HC3 HT3 HP3 HHM HR2 HC2 HT2 HP2
  have HHS := Lib.hid (show ∀ w', Below w4.heap.size w4 w' → Calls Tryd.prog 25 #[.pointer (some ⟨h, 0, none⟩)] w' fun e w'' => ∃ d, e = .returned (.slice (some ⟨d, 0, none⟩) 32 32) ∧ w'.heap.size ≤ d ∧ Arr w'' d 0 32 (sha (64 + m) (catB 64 (xf 54 n key) F)) ∧ Below w'.heap.size w' w'' from fun w' hb =>
    hsum_any h (64 + m) (catB 64 (xf 54 n key) F) w' (by have := HN.out; omega) (HHM4.out.keep hb) HFY.out (HT4.out.keep hb))
  have HOU := Lib.hid (show ∀ w', Below w4.heap.size w4 w' → SlB w' (some ⟨g, 131, none⟩) 64 (xf 92 n key) from fun w' hb => (HR4.out.keep hb).outer.slB (xf_by (by decide) HKY.out))
  have HTG := Lib.hid (show ∀ w', Below w4.heap.size w4 w' → GT w' from fun w' hb => HT4.out.keep hb)
  have HFA := Lib.hid (run_outer g)
  have HBP := Lib.hid (fun (w : World) (d : Nat) => run_build2 w (some ⟨g, 131, none⟩) (some ⟨d, 0, none⟩) 64 32 64 32)
  have hz4 := HC4.out.size
  go_wp2_with fail
  refine ord.wp_region_ordT 8 [[], [0], [1], [2], [], [4], [3, 5], [6]] [(0, 23), (1, 24), (2, 25), (3, 26), (4, 27), (5, 28), (6, 29), (7, 30)] (mmG g h n key m F w0) (by kernel_rfl) (by kernel_rfl) (by kernel_rfl) (mmG_stays _ _ _ _ _ _ _) ((ord.steps_cons ?_ (ord.steps_cons ?_ (ord.steps_cons ?_ (ord.steps_cons ?_ (ord.steps_cons ?_ (ord.steps_cons ?_ (ord.steps_cons ?_ (ord.steps_cons ?_ ord.steps_nil))))))))) ?_
  --STEPS mm
  · intro o ho x w hb hG
    obtain rfl := Option.some.inj ho
    clear ho
    refine Or.inl ⟨ord.want0 rfl, ?_⟩
    exact ord.makes_move rfl ⟨Below.refl _ _, rfl⟩
  · intro o ho x w hb hG
    obtain rfl := Option.some.inj ho
    clear ho
    have h23 : x 0 = .pointer (some ⟨g, 0, none⟩) := hG (0, 23) (List.mem_of_getElem? (i := 0) rfl) rfl
    refine Or.inl ⟨ord.want0 rfl, ?_⟩
    exact ord.makes_nilCheck rfl h23 ⟨Below.refl _ _, rfl⟩
  · intro o ho x w hb hG
    obtain rfl := Option.some.inj ho
    clear ho
    have h24 : x 1 = .pointer (some ⟨g, 0, none⟩) := hG (1, 24) (List.mem_of_getElem? (i := 1) rfl) rfl
    refine Or.inl ⟨ord.want0 rfl, ?_⟩
    exact ord.makes_fieldAddr rfl h24 (HFA.out w) ⟨Below.refl _ _, rfl⟩
  · intro o ho x w hb hG
    obtain rfl := Option.some.inj ho
    clear ho
    have h25 : x 2 = .pointer (some ⟨g, 131, none⟩) := hG (2, 25) (List.mem_of_getElem? (i := 2) rfl) rfl
    refine Or.inl ⟨ord.want0 rfl, ?_⟩
    exact ord.makes_slice rfl h25 rfl rfl rfl (HSA.out w) ⟨Below.refl _ _, rfl⟩
  · intro o ho x w hb hG
    obtain rfl := Option.some.inj ho
    clear ho
    refine Or.inl ⟨ord.want0 rfl, ?_⟩
    exact ord.makes_move rfl ⟨Below.refl _ _, rfl⟩
  · intro o ho x w hb hG
    obtain rfl := Option.some.inj ho
    clear ho
    have h27 : x 4 = .pointer (some ⟨h, 0, none⟩) := hG (4, 27) (List.mem_of_getElem? (i := 4) rfl) rfl
    refine Or.inl ⟨ord.want0 rfl, ?_⟩
    exact ord.makes_call1 Tryd.func25 (by kernel_rfl) (by kernel_rfl) rfl h27 (HHS.out w (of_drew hb)) (fun e w' h => by obtain ⟨d, he, _, h2, h4⟩ := h; exact ⟨_, he, h4, d, rfl, h2⟩)
  · intro o ho x w hb hG
    obtain rfl := Option.some.inj ho
    clear ho
    have h26 : x 3 = .slice (some ⟨g, 131, none⟩) 64 64 := hG (3, 26) (List.mem_of_getElem? (i := 3) rfl) rfl
    have h28 : mmG g h n key m F w0 5 (x 5) w := hG (5, 28) (List.mem_of_getElem? (i := 5) rfl) rfl
    refine Or.inl ⟨ord.want0 rfl, ?_⟩
    obtain ⟨d, hv, ha⟩ := h28
    exact ord.makes_build2 rfl h26 hv (HBP.out w d) ⟨(Below.refl _ _).alloc (Nat.le_refl _) _, _, d, rfl, parts2 _ _ _ _ _ _ _ _ (HOU.out w (of_drew hb)) (ha.slB fun j _ => sha_lt _ _ j)⟩
  · intro o ho x w hb hG
    obtain rfl := Option.some.inj ho
    clear ho
    have h29 : mmG g h n key m F w0 6 (x 6) w := hG (6, 29) (List.mem_of_getElem? (i := 6) rfl) rfl
    refine Or.inl ⟨ord.want0 rfl, ?_⟩
    obtain ⟨p, d, hv, hp⟩ := h29
    exact ord.makes_call1 Tryd.func20 (by kernel_rfl) (by kernel_rfl) rfl hv (sum2_parts w p 2 _ _ 64 32 64 32 _ _ (catB 64 (xf 92 n key) (sha (64 + m) (catB 64 (xf 54 n key) F))) (by decide) (Nat.le_refl _) (Nat.le_refl _) hp (fun j hj => catB_lt (xf_by (by decide) HKY.out) (fun j _ => sha_lt _ _ j) j hj) (fun j hj => by unfold catB; rw [if_pos hj]) (fun j _ => by unfold catB; rw [if_neg (by omega), Nat.add_sub_cancel_left]) (HTG.out w (of_drew hb))) (fun e w' h => by obtain ⟨d, he, h1, h2, h4⟩ := h; exact ⟨_, he, h4, d, rfl, Nat.le_trans hz4 (Nat.le_trans (of_drew hb).size h1), h2⟩)
  --END STEPS mm
  · intro x w5 hb hG
    have e30 : mmG g h n key m F w0 7 (x 7) w5 := hG (7, 30) (List.mem_of_getElem? (i := 7) rfl)
    clear hG
    obtain ⟨d, hx, hd, ha⟩ := e30
    have HD := Lib.hid hd
    have HAD := Lib.hid ha
    have HR5 := Lib.hid (HR4.out.keep hb)
    have HC5 := Lib.hid (HC4.out.thenBelow hb)
    clear hb hd ha hz4
    simp only [ord.puts, ord.put', List.set_cons_zero, List.set_cons_succ, if_true]
    rw [hx]
    simp only [List.drop_succ_cons, List.drop_zero]
    go_wp2_with fail
    go_ret
    exact ⟨d, rfl, HD.out, HAD.out, HR5.out, HC5.out⟩
end Go.Proofs.YtogcfaijphpgfaaDoor
