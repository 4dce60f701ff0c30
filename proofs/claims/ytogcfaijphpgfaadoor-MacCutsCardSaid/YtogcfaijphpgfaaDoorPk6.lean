/- 6 texts in one, in their order. -/
import Derived.Test.YtogcfaijphpgfaaDoorPk5
import Derived.Maps.AppendAt
import Derived.Lib.AppendStr
/- Law MacPairs (layer 6): the walk. -/
namespace Go.Proofs.YtogcfaijphpgfaaDoor
open Go.RowKit
theorem run_idxR (B o n c q : Nat) (hq : q < n) (w : World) : (Instr.indexAt 30 (.slice (some ⟨B, o, none⟩) n c) (.int .i64 (q : Nat))).run Tryd.prog w = .ok (.pointer (some ⟨B, o + q, none⟩)) w := by
  have hq2 : (q : Int) < n := by omega
  go_simp
theorem run_loadR (p : Addr) (R : Option Addr) (l c : Nat) (w : World) (h : w.cell? p = some (.slice R l c)) : (Instr.loadAt 22 (.pointer (some p))).run Tryd.prog w = .ok (.slice R l c) w := by
  go_simp
def S2 (g h k : Nat) : Prop := k = g ∨ k = h
def I2 (g h n : Nat) (f : Nat → Nat) (n2 : Nat) (f2 : Nat → Nat) (w : World) : Prop := MakAt w g n f ∧ MakAt w h n2 f2
theorem I2.keep {g h n n2 : Nat} {f f2 : Nat → Nat} (w w' : World) (hi : I2 g h n f n2 f2 w) (hb : Below w.heap.size w w') : I2 g h n f n2 f2 w' := ⟨hi.1.keep hb, hi.2.keep hb⟩
theorem mmac1_cell (W : World) (g n p cap : Nat) (A : Option Addr) (l c : Nat) (key f : Nat → Nat) (hkey : By n key) (hk : MakAt W g n key) (hl : l ≤ 10000000000000) (hc : l ≤ c) (hA : SlB W A l f) (hp : W.cell? ⟨p, 0, none⟩ = some (.slice A l c)) (ht : GT W) (hG : 1 ≠ g ∧ 0 ≠ g) (hO : Off A l g) :
    Calls Tryd.prog 15 #[.pointer (some ⟨g, 0, none⟩), .slice (some ⟨p, 0, none⟩) 1 cap] W (TagP g n key l f W) := by
  refine mmac_any g n p 1 cap key (fun _ => A) (fun _ => l) (fun _ => c) (fun _ => f) f l _ hkey hk (by decide) (by decide) (Nat.zero_add l) hl (parts_one hp hA) (fun _ _ => hc) (fun i hi j hj => ?_) (fun j hj => hA.byte hj) ht hG (fun e => ?_) (fun _ _ => hO)
  · obtain rfl : i = 0 := by omega
    show f (0 + j) = f j
    rw [Nat.zero_add]
  · subst e
    obtain ⟨h3, _⟩ | ⟨h3, _⟩ := hk
    all_goals
      have := (h3.cell (j := 0) (k := 0) (by decide) rfl).symm.trans hp
      cases this
/-- a Maker's call, where a row of one part is known -/
def TagI (R : World → World → Prop) (n : Nat) (key : Nat → Nat) (m : Nat) (F : Nat → Nat) (w : World) (e : Ending) (w' : World) : Prop :=
  ∃ d, e = .returned (.slice (some ⟨d, 0, none⟩) 32 32) ∧ w.heap.size ≤ d ∧ Arr w' d 0 32 (tag n key m F) ∧ R w w'
--DEFS pa
def paG (h BB o nb cb k : Nat) (R : Option Addr) (l cr : Nat) : Nat → Value → World → Prop
  | 0, v, _ => v = .pointer (some ⟨h, 0, none⟩)
  | 1, v, _ => v = .slice (some ⟨BB, o, none⟩) nb cb
  | 2, v, _ => v = .int .i64 (k : Nat)
  | 3, v, _ => v = .pointer (some ⟨BB, o + k, none⟩)
  | 4, v, _ => v = .slice R l cr
  | 5, v, _ => v = .slice (some ⟨BB, o, none⟩) nb cb
  | 6, v, _ => v = .int .i64 (k : Nat)
  | 7, v, _ => v = .pointer (some ⟨BB, o + k, none⟩)
  | 8, v, _ => v = .slice R l cr
  | 9, v, w => ∃ p, v = .slice (some ⟨p, 0, none⟩) 2 2 ∧ w.cell? ⟨p, 0, none⟩ = some (.slice R l cr) ∧ w.cell? ⟨p, 1, none⟩ = some (.slice R l cr)
  | _, _, _ => True
theorem paG_stays (h BB o nb cb k : Nat) (R : Option Addr) (l cr : Nat) : ∀ i v w w', paG h BB o nb cb k R l cr i v w → Below w.heap.size w w' → paG h BB o nb cb k R l cr i v w'
  | 0, _, _, _, h, _ => h
  | 1, _, _, _, h, _ => h
  | 2, _, _, _, h, _ => h
  | 3, _, _, _, h, _ => h
  | 4, _, _, _, h, _ => h
  | 5, _, _, _, h, _ => h
  | 6, _, _, _, h, _ => h
  | 7, _, _, _, h, _ => h
  | 8, _, _, _, h, _ => h
  | 9, v, w, w', h_, hb => by
    obtain ⟨p, h1, h2, h3⟩ := h_; exact ⟨p, h1, (hb.cell (p := ⟨p, 0, none⟩) (block_lt (a := ⟨p, 0, none⟩) h2)).trans h2, (hb.cell (p := ⟨p, 1, none⟩) (block_lt (a := ⟨p, 1, none⟩) h3)).trans h3⟩
  | _ + 10, _, _, _, _, _ => trivial
--END DEFS pa
--DEFS pb
def pbG (g h : Nat) (A : Option Addr) (n c : Nat) (f : Nat → Nat) (A2 : Option Addr) (n2 c2 : Nat) (f2 : Nat → Nat) (B : Option Addr) (m c3 : Nat) (b : Nat → Nat) : Nat → Value → World → Prop
  | 0, v, _ => v = .pointer (some ⟨g, 0, none⟩)
  | 1, v, _ => v = .slice B m c3
  | 2, v, w => ∃ p, v = .slice (some ⟨p, 0, none⟩) 1 1 ∧ w.cell? ⟨p, 0, none⟩ = some (.slice B m c3) ∧ ¬ S2 g h p
  | 3, v, w => ∃ d, v = .slice (some ⟨d, 0, none⟩) 32 32 ∧ Arr w d 0 32 (tag n f m b) ∧ ¬ S2 g h d
  | 4, v, _ => v = .string (strOf 32 (tag n f m b))
  | 5, v, _ => v = .slice A n c
  | 6, v, _ => v = .slice B m c3
  | 7, v, w => ∃ p, v = .slice (some ⟨p, 0, none⟩) 1 1 ∧ w.cell? ⟨p, 0, none⟩ = some (.slice B m c3) ∧ ¬ S2 g h p
  | 8, v, w => ∃ d, v = .slice (some ⟨d, 0, none⟩) 32 32 ∧ Arr w d 0 32 (tag n f m b) ∧ ¬ S2 g h d
  | 9, v, _ => v = .string (strOf 32 (tag n f m b))
  | 10, v, _ => v = .bool true
  | 11, v, _ => v = .bool true
  | 12, v, _ => v = .pointer (some ⟨h, 0, none⟩)
  | 13, v, _ => v = .slice B m c3
  | 14, v, w => ∃ p, v = .slice (some ⟨p, 0, none⟩) 1 1 ∧ w.cell? ⟨p, 0, none⟩ = some (.slice B m c3) ∧ ¬ S2 g h p
  | 15, v, w => ∃ d, v = .slice (some ⟨d, 0, none⟩) 32 32 ∧ Arr w d 0 32 (tag n2 f2 m b) ∧ ¬ S2 g h d
  | 16, v, _ => v = .string (strOf 32 (tag n2 f2 m b))
  | 17, v, _ => v = .slice A2 n2 c2
  | 18, v, _ => v = .slice B m c3
  | 19, v, w => ∃ p, v = .slice (some ⟨p, 0, none⟩) 1 1 ∧ w.cell? ⟨p, 0, none⟩ = some (.slice B m c3) ∧ ¬ S2 g h p
  | 20, v, w => ∃ d, v = .slice (some ⟨d, 0, none⟩) 32 32 ∧ Arr w d 0 32 (tag n2 f2 m b) ∧ ¬ S2 g h d
  | 21, v, _ => v = .string (strOf 32 (tag n2 f2 m b))
  | 22, v, _ => v = .bool true
  | 23, v, _ => v = .bool true
  | _, _, _ => True
theorem pbG_stays (g h : Nat) (A : Option Addr) (n c : Nat) (f : Nat → Nat) (A2 : Option Addr) (n2 c2 : Nat) (f2 : Nat → Nat) (B : Option Addr) (m c3 : Nat) (b : Nat → Nat) : ∀ i v w w', pbG g h A n c f A2 n2 c2 f2 B m c3 b i v w → RelI (S2 g h) (I2 g h n f n2 f2) w w' → pbG g h A n c f A2 n2 c2 f2 B m c3 b i v w'
  | 0, _, _, _, h, _ => h
  | 1, _, _, _, h, _ => h
  | 2, v, w, w', h_, hb => by
    obtain ⟨p, h1, h2, h3⟩ := h_; exact ⟨p, h1, (hb.1.cell (block_lt (a := ⟨p, 0, none⟩) h2) h3).trans h2, h3⟩
  | 3, v, w, w', h_, hb => by
    obtain ⟨d, h1, h2, h3⟩ := h_; exact ⟨d, h1, h2.chgS hb.1 h3, h3⟩
  | 4, _, _, _, h, _ => h
  | 5, _, _, _, h, _ => h
  | 6, _, _, _, h, _ => h
  | 7, v, w, w', h_, hb => by
    obtain ⟨p, h1, h2, h3⟩ := h_; exact ⟨p, h1, (hb.1.cell (block_lt (a := ⟨p, 0, none⟩) h2) h3).trans h2, h3⟩
  | 8, v, w, w', h_, hb => by
    obtain ⟨d, h1, h2, h3⟩ := h_; exact ⟨d, h1, h2.chgS hb.1 h3, h3⟩
  | 9, _, _, _, h, _ => h
  | 10, _, _, _, h, _ => h
  | 11, _, _, _, h, _ => h
  | 12, _, _, _, h, _ => h
  | 13, _, _, _, h, _ => h
  | 14, v, w, w', h_, hb => by
    obtain ⟨p, h1, h2, h3⟩ := h_; exact ⟨p, h1, (hb.1.cell (block_lt (a := ⟨p, 0, none⟩) h2) h3).trans h2, h3⟩
  | 15, v, w, w', h_, hb => by
    obtain ⟨d, h1, h2, h3⟩ := h_; exact ⟨d, h1, h2.chgS hb.1 h3, h3⟩
  | 16, _, _, _, h, _ => h
  | 17, _, _, _, h, _ => h
  | 18, _, _, _, h, _ => h
  | 19, v, w, w', h_, hb => by
    obtain ⟨p, h1, h2, h3⟩ := h_; exact ⟨p, h1, (hb.1.cell (block_lt (a := ⟨p, 0, none⟩) h2) h3).trans h2, h3⟩
  | 20, v, w, w', h_, hb => by
    obtain ⟨d, h1, h2, h3⟩ := h_; exact ⟨d, h1, h2.chgS hb.1 h3, h3⟩
  | 21, _, _, _, h, _ => h
  | 22, _, _, _, h, _ => h
  | 23, _, _, _, h, _ => h
  | _ + 24, _, _, _, _, _ => trivial
--END DEFS pb
set_option maxRecDepth 100000 in
set_option maxHeartbeats 3200000 in
theorem pairs_any (A : Option Addr) (n c : Nat) (f : Nat → Nat) (A2 : Option Addr) (n2 c2 : Nat) (f2 : Nat → Nat) (AB : Option Addr) (nb cb : Nat) (B : Option Addr) (m c3 : Nat) (b : Nat → Nat) (w0 : World) (hn : n ≤ 4096) (hn2 : n2 ≤ 4096) (hm : m ≤ 4096) (hnb : nb ≤ 140737488351232) (hc : n ≤ c) (hc2 : n2 ≤ c2) (hc3 : m ≤ c3)
    (hA : SlB w0 A n f) (hA2 : SlB w0 A2 n2 f2) (hB : SlB w0 B m b) (hAB : RowsIn w0 AB nb) (ht : GT w0) :
    Calls Tryd.prog 8 #[.slice A n c, .slice A2 n2 c2, .slice AB nb cb, .slice B m c3] w0 fun e w' => e = .returned (.bool true) ∧ Below w0.heap.size w0 w' := by
  have HA := Lib.hid hA
  have HA2 := Lib.hid hA2
  have HB := Lib.hid hB
  have HT := Lib.hid ht
  have HAB := Lib.hid hAB
  have HF := Lib.hid (show By n f from fun j hj => hA.byte hj)
  have HF2 := Lib.hid (show By n2 f2 from fun j hj => hA2.byte hj)
  have HC := Lib.hid hc
  have HC2 := Lib.hid hc2
  have HC3 := Lib.hid hc3
  have hd1 : decide (4096 < (n : Int)) = false := by simp; omega
  have hd2 : decide (4096 < (n2 : Int)) = false := by simp; omega
  have hd3 : decide (4096 < (m : Int)) = false := by simp; omega
  clear hA hA2 hB ht hAB hc hc2 hc3
  go_enter Tryd.func8, Tryd.ntmps8
  go_wp2_with fail
  refine (small6_any w0 HT.out).mono ?_
  rintro e w1 ⟨rfl, hb⟩
  have HB1 := Lib.hid hb
  clear hb
  go_wp2_with fail
  refine (mnew_any A n c f w1 (by omega) HC.out (HA.out.keep HB1.out) (HT.out.keep HB1.out)).mono ?_
  rintro e w2 ⟨g, rfl, hg, h1, h2⟩
  have HB2 := Lib.hid (HB1.out.trans (h2.mono HB1.out.size))
  have HG := Lib.hid (Nat.le_trans HB1.out.size hg)
  have HM1 := Lib.hid h1
  clear hg h1 h2
  go_wp2_with fail
  refine (mnew_any A2 n2 c2 f2 w2 (by omega) HC2.out (HA2.out.keep HB2.out) (HT.out.keep HB2.out)).mono ?_
  rintro e w3 ⟨h, rfl, hg, h1, h2⟩
  have HB3 := Lib.hid (HB2.out.trans (h2.mono HB2.out.size))
  have HH := Lib.hid (Nat.le_trans HB2.out.size hg)
  have HGH := Lib.hid (show g < h from Nat.lt_of_lt_of_le HM1.out.lt hg)
  have HI := Lib.hid (show I2 g h n f n2 f2 w3 from ⟨HM1.out.keep h2, h1⟩)
  have HW1 := Lib.hid (show 1 ≠ g ∧ 0 ≠ g from ⟨Nat.ne_of_lt (Nat.lt_of_lt_of_le HT.out.ltk HG.out), Nat.ne_of_lt (Nat.lt_of_lt_of_le HT.out.lth HG.out)⟩)
  have HW2 := Lib.hid (show 1 ≠ h ∧ 0 ≠ h from ⟨Nat.ne_of_lt (Nat.lt_of_lt_of_le HT.out.ltk HH.out), Nat.ne_of_lt (Nat.lt_of_lt_of_le HT.out.lth HH.out)⟩)
  clear hg h1 h2 HM1 HB1 HB2
  go_wp2_with fail
  go_loopw [12] (fun v wr => ∃ k : Nat, k ≤ 6 ∧ v = .int .i64 k ∧ I2 g h n f n2 f2 wr ∧ Below w0.heap.size w0 wr) (fun v _ => 6 - (intOf v).toNat)
  case atStart => exact ⟨0, by decide, rfl, HI.out, HB3.out⟩
  case round =>
    obtain ⟨k, hk, rfl, h1, h2⟩ := hrel
    have G1 := Lib.hid h1
    have G2 := Lib.hid h2
    clear h1 h2 HI HB3
    by_cases hall : k < nb ∧ k < 6
    · · obtain ⟨hlt, hk6⟩ := hall
        obtain ⟨BB, o, rfl, hBB, hrows⟩ := HAB.out (by omega)
        obtain ⟨R, l, cr, fr, hcel, hR, hlc, hnR⟩ := hrows k hlt
        have HCE := Lib.hid (show ∀ w', Below w0.heap.size w0 w' → w'.cell? ⟨BB, o + k, none⟩ = some (.slice R l cr) from fun w' hb => (hb.cell (p := ⟨BB, o + k, none⟩) hBB).trans hcel)
        have HR := Lib.hid hR
        have HLC := Lib.hid hlc
        have hcell := HCE.out wr G2.out
        have hki : (k : Int) < nb := by omega
        have hk6i : (k : Int) < 6 := by omega
        have hk5 : k < nb := hlt
        have HO1 := Lib.hid (hR.off HG.out)
        have HO2 := Lib.hid (hR.off HH.out)
        clear hBB hrows hcel hR hlc hnR
        by_cases hl : l < 4096
        · have hli : decide ((l : Int) < 4096) = true := by simp; omega
          go_wp2_with fail
          refine (mmac1_any wr g n R l cr f fr HF.out G1.out.1 (by omega) HLC.out (HR.out.keep G2.out) (HT.out.keep G2.out) HW1.out HO1.out).mono ?_
          rintro e w4 ⟨d, rfl, _, _, h1, h2⟩
          have K1 := Lib.hid (show I2 g h n f n2 f2 w4 from ⟨Or.inr h1, G1.out.2.chg h2 (Nat.ne_of_gt HGH.out)⟩)
          have K2 := Lib.hid (G2.out.trans (h2.below G2.out.size HG.out))
          clear h1 h2 hcell
          have HCE4 := Lib.hid (show ∀ w', Below w4.heap.size w4 w' → w'.cell? ⟨BB, o + k, none⟩ = some (.slice R l cr) from fun w' hb => HCE.out w' (K2.out.trans (hb.mono K2.out.size)))
          go_wp2_with fail
          refine ord.wp_region_ordT 10 [[], [], [], [1, 2], [3], [], [], [5, 6], [7], [4, 8]] [(0, 65), (1, 66), (2, 67), (3, 68), (4, 69), (5, 70), (6, 71), (7, 72), (8, 73), (9, 74)] (paG h BB o nb cb k R l cr) (by kernel_rfl) (by kernel_rfl) (by kernel_rfl) (paG_stays _ _ _ _ _ _ _ _ _) ((ord.steps_cons ?_ (ord.steps_cons ?_ (ord.steps_cons ?_ (ord.steps_cons ?_ (ord.steps_cons ?_ (ord.steps_cons ?_ (ord.steps_cons ?_ (ord.steps_cons ?_ (ord.steps_cons ?_ (ord.steps_cons ?_ ord.steps_nil))))))))))) ?_
          --STEPS pa
          · intro o ho x w hb hG
            obtain rfl := Option.some.inj ho
            clear ho
            refine Or.inl ⟨ord.want0 rfl, ?_⟩
            exact ord.makes_move rfl ⟨Below.refl _ _, rfl⟩
          · intro o ho x w hb hG
            obtain rfl := Option.some.inj ho
            clear ho
            refine Or.inl ⟨ord.want0 rfl, ?_⟩
            exact ord.makes_move rfl ⟨Below.refl _ _, rfl⟩
          · intro o ho x w hb hG
            obtain rfl := Option.some.inj ho
            clear ho
            refine Or.inl ⟨ord.want0 rfl, ?_⟩
            exact ord.makes_move rfl ⟨Below.refl _ _, rfl⟩
          · intro o ho x w hb hG
            obtain rfl := Option.some.inj ho
            clear ho
            have h66 : x 1 = .slice (some ⟨BB, o, none⟩) nb cb := hG (1, 66) (List.mem_of_getElem? (i := 1) rfl) rfl
            have h67 : x 2 = .int .i64 (k : Nat) := hG (2, 67) (List.mem_of_getElem? (i := 2) rfl) rfl
            refine Or.inl ⟨ord.want0 rfl, ?_⟩
            exact ord.makes_indexAddr rfl h66 h67 (run_idxR BB o nb cb k hk5 w) ⟨Below.refl _ _, rfl⟩
          · intro o ho x w hb hG
            obtain rfl := Option.some.inj ho
            clear ho
            have h68 : x 3 = .pointer (some ⟨BB, o + k, none⟩) := hG (3, 68) (List.mem_of_getElem? (i := 3) rfl) rfl
            refine Or.inl ⟨ord.want0 rfl, ?_⟩
            exact ord.makes_load rfl h68 (run_loadR _ _ _ _ w (HCE4.out w (of_drew hb))) ⟨Below.refl _ _, rfl⟩
          · intro o ho x w hb hG
            obtain rfl := Option.some.inj ho
            clear ho
            refine Or.inl ⟨ord.want0 rfl, ?_⟩
            exact ord.makes_move rfl ⟨Below.refl _ _, rfl⟩
          · intro o ho x w hb hG
            obtain rfl := Option.some.inj ho
            clear ho
            refine Or.inl ⟨ord.want0 rfl, ?_⟩
            exact ord.makes_move rfl ⟨Below.refl _ _, rfl⟩
          · intro o ho x w hb hG
            obtain rfl := Option.some.inj ho
            clear ho
            have h70 : x 5 = .slice (some ⟨BB, o, none⟩) nb cb := hG (5, 70) (List.mem_of_getElem? (i := 5) rfl) rfl
            have h71 : x 6 = .int .i64 (k : Nat) := hG (6, 71) (List.mem_of_getElem? (i := 6) rfl) rfl
            refine Or.inl ⟨ord.want0 rfl, ?_⟩
            exact ord.makes_indexAddr rfl h70 h71 (run_idxR BB o nb cb k hk5 w) ⟨Below.refl _ _, rfl⟩
          · intro o ho x w hb hG
            obtain rfl := Option.some.inj ho
            clear ho
            have h72 : x 7 = .pointer (some ⟨BB, o + k, none⟩) := hG (7, 72) (List.mem_of_getElem? (i := 7) rfl) rfl
            refine Or.inl ⟨ord.want0 rfl, ?_⟩
            exact ord.makes_load rfl h72 (run_loadR _ _ _ _ w (HCE4.out w (of_drew hb))) ⟨Below.refl _ _, rfl⟩
          · intro o ho x w hb hG
            obtain rfl := Option.some.inj ho
            clear ho
            have h69 : x 4 = .slice R l cr := hG (4, 69) (List.mem_of_getElem? (i := 4) rfl) rfl
            have h73 : x 8 = .slice R l cr := hG (8, 73) (List.mem_of_getElem? (i := 8) rfl) rfl
            refine Or.inl ⟨ord.want0 rfl, ?_⟩
            exact ord.makes_build2 rfl h69 h73 (run_build2 w _ _ _ _ _ _) ⟨alloc_below w _, _, rfl, cell_built w _ _ 0 rfl, cell_built w _ _ 1 rfl⟩
          --END STEPS pa
          · intro x w5 hb hG
            have e65 : x 0 = .pointer (some ⟨h, 0, none⟩) := hG (0, 65) (List.mem_of_getElem? (i := 0) rfl)
            have e74 : paG h BB o nb cb k R l cr 9 (x 9) w5 := hG (9, 74) (List.mem_of_getElem? (i := 9) rfl)
            clear hG
            obtain ⟨p, hx, hp0, hp1⟩ := e74
            have HI5 := Lib.hid (I2.keep _ _ K1.out hb)
            have HB5 := Lib.hid (K2.out.trans (hb.mono K2.out.size))
            have HP := Lib.hid (parts_two hp0 hp1 (HR.out.keep HB5.out) (HR.out.keep HB5.out))
            have HPL := Lib.hid (show p ≠ h from fun e => by
              subst e
              obtain ⟨h3, _⟩ | ⟨h3, _⟩ := HI5.out.2
              all_goals
                have := (h3.cell (j := 0) (k := 0) (by decide) rfl).symm.trans hp0
                cases this)
            have HFR := Lib.hid (hF_two (F := catB l fr fr) (HR.out.keep HB5.out) (HR.out.keep HB5.out) (fun j hj => by unfold catB; rw [if_pos hj]) (fun j _ => by unfold catB; rw [if_neg (by omega), Nat.add_sub_cancel_left]))
            clear hb hp0 hp1
            simp only [ord.puts, ord.put', List.set_cons_zero, List.set_cons_succ, if_true]
            rw [e65, hx]
            simp only [List.drop_succ_cons, List.drop_zero]
            go_wp2_with fail
            refine (mmac_any h n2 p 2 2 f2 _ _ _ _ (catB l fr fr) (l + l) w5 HF2.out HI5.out.2 (by decide) (by decide) (offs_two l l) (by omega) HP.out (cap_two HLC.out HLC.out) HFR.out.1 HFR.out.2 (HT.out.keep HB5.out) HW2.out HPL.out (fun i hi => by rcases two_of hi with rfl | rfl <;> exact HO2.out)).mono ?_
            rintro e w6 ⟨d2, rfl, _, _, h1, h2⟩
            have HI6 := Lib.hid (show I2 g h n f n2 f2 w6 from ⟨HI5.out.1.chg h2 (Nat.ne_of_lt HGH.out), Or.inr h1⟩)
            have HB6 := Lib.hid (HB5.out.trans (h2.below HB5.out.size HH.out))
            clear h1 h2
            go_wp2_with fail
            go_roundw
            case rel => exact ⟨k + 1, by omega, by go_num, HI6.out, HB6.out⟩
            case measure => simp [intOf]; omega
        · have hli : decide ((l : Int) < 4096) = false := by simp; omega
          go_wp2_with fail
          go_roundw
          case rel => exact ⟨k + 1, by omega, by go_num, G1.out, G2.out⟩
          case measure => simp [intOf]; omega
    · have hex : (¬ (k : Int) < nb) ∨ ((k : Int) < nb ∧ ¬ (k : Int) < 6) := by omega
      have HRR := Lib.hid (RelI.pre (S2 g h) (I2 g h n f n2 f2))
      have HBL := Lib.hid (show ∀ w w', Below w.heap.size w w' → RelI (S2 g h) (I2 g h n f n2 f2) w w' from fun w w' hb => RelI.of_below I2.keep hb)
      have HNS := Lib.hid (show ∀ w, RelI (S2 g h) (I2 g h n f n2 f2) wr.drew w → ∀ p, w.heap.size ≤ p → ¬ S2 g h p from fun w hb p hp hS => by
        have h1 := hb.1.size
        have h2 := G1.out.1.lt
        have h3 := G1.out.2.lt
        have h4 : wr.drew.heap.size = wr.heap.size := rfl
        rcases hS with e | e <;> omega)
      have HTW := Lib.hid (show ∀ w, RelI (S2 g h) (I2 g h n f n2 f2) wr.drew w → Below w0.heap.size w0 w ∧ I2 g h n f n2 f2 w from fun w hb => ⟨⟨hb.1.os.trans G2.out.os, hb.1.tape.trans G2.out.tape, hb.1.output.trans G2.out.output, Nat.le_trans G2.out.size hb.1.size, fun k hk => by
        have h1 := HG.out
        have h2 := HH.out
        exact (hb.1.block k (Nat.lt_of_lt_of_le hk G2.out.size) (fun hS => by rcases hS with e | e <;> omega)).trans (G2.out.block k hk)⟩, hb.2 ⟨G1.out.1.of_block rfl, G1.out.2.of_block rfl⟩⟩)
      have HM1 := Lib.hid (show ∀ w, RelI (S2 g h) (I2 g h n f n2 f2) wr.drew w → ∀ p, w.cell? ⟨p, 0, none⟩ = some (.slice B m c3) → Calls Tryd.prog 15 #[.pointer (some ⟨g, 0, none⟩), .slice (some ⟨p, 0, none⟩) 1 1] w (TagI (RelI (S2 g h) (I2 g h n f n2 f2)) n f m b w) from fun w hb p hp => by
        obtain ⟨h1, h2⟩ := HTW.out w hb
        refine (mmac1_cell w g n p 1 B m c3 f b HF.out h2.1 (by omega) HC3.out (HB.out.keep h1) hp (HT.out.keep h1) HW1.out (HB.out.off HG.out)).mono ?_
        rintro e w' ⟨d, he, hd, ha, hr, hc⟩
        exact ⟨d, he, hd, ha, ChgS.of_chg hc (Or.inl rfl), fun hi => ⟨Or.inr hr, hi.2.chg hc (Nat.ne_of_gt HGH.out)⟩⟩)
      have HM2 := Lib.hid (show ∀ w, RelI (S2 g h) (I2 g h n f n2 f2) wr.drew w → ∀ p, w.cell? ⟨p, 0, none⟩ = some (.slice B m c3) → Calls Tryd.prog 15 #[.pointer (some ⟨h, 0, none⟩), .slice (some ⟨p, 0, none⟩) 1 1] w (TagI (RelI (S2 g h) (I2 g h n f n2 f2)) n2 f2 m b w) from fun w hb p hp => by
        obtain ⟨h1, h2⟩ := HTW.out w hb
        refine (mmac1_cell w h n2 p 1 B m c3 f2 b HF2.out h2.2 (by omega) HC3.out (HB.out.keep h1) hp (HT.out.keep h1) HW2.out (HB.out.off HH.out)).mono ?_
        rintro e w' ⟨d, he, hd, ha, hr, hc⟩
        exact ⟨d, he, hd, ha, ChgS.of_chg hc (Or.inr rfl), fun hi => ⟨hi.1.chg hc (Nat.ne_of_lt HGH.out), Or.inr hr⟩⟩)
      have HC1 := Lib.hid (show ∀ w, RelI (S2 g h) (I2 g h n f n2 f2) wr.drew w → ∀ p, w.cell? ⟨p, 0, none⟩ = some (.slice B m c3) → Calls Tryd.prog 12 #[.slice A n c, .slice (some ⟨p, 0, none⟩) 1 1] w (TagD n f m b w) from fun w hb p hp => by
        obtain ⟨h1, _⟩ := HTW.out w hb
        exact mac1_parts w p 1 A B n c m c3 f b (by omega) (by omega) HC.out HC3.out (HA.out.keep h1) HF.out (parts_one hp (HB.out.keep h1)) (HT.out.keep h1))
      have HC9 := Lib.hid (show ∀ w, RelI (S2 g h) (I2 g h n f n2 f2) wr.drew w → ∀ p, w.cell? ⟨p, 0, none⟩ = some (.slice B m c3) → Calls Tryd.prog 12 #[.slice A2 n2 c2, .slice (some ⟨p, 0, none⟩) 1 1] w (TagD n2 f2 m b w) from fun w hb p hp => by
        obtain ⟨h1, _⟩ := HTW.out w hb
        exact mac1_parts w p 1 A2 B n2 c2 m c3 f2 b (by omega) (by omega) HC2.out HC3.out (HA2.out.keep h1) HF2.out (parts_one hp (HB.out.keep h1)) (HT.out.keep h1))
      rcases hex with hki | ⟨hki, hk6i⟩
      all_goals
        go_wp2_with fail
        refine ord.wp_region_ordR (RelI (S2 g h) (I2 g h n f n2 f2)) 24 [[], [], [1], [0, 2], [3], [], [], [6], [5, 7], [8], [4, 9], [10], [11], [11], [13, 11], [12, 14, 11], [15, 11], [11], [11], [18, 11], [17, 19, 11], [20, 11], [16, 21, 11], [11, 22]] [(0, 76), (1, 77), (2, 78), (3, 79), (4, 80), (5, 81), (6, 82), (7, 83), (8, 84), (9, 85), (10, 86), (11, 87), (12, 88), (13, 89), (14, 90), (15, 91), (16, 92), (17, 93), (18, 94), (19, 95), (20, 96), (21, 97), (22, 98), (23, 99)] (pbG g h A n c f A2 n2 c2 f2 B m c3 b) (by kernel_rfl) (by kernel_rfl) (by kernel_rfl) HRR.out (pbG_stays _ _ _ _ _ _ _ _ _ _ _ _ _ _) ((ord.steps_cons ?_ (ord.steps_cons ?_ (ord.steps_cons ?_ (ord.steps_cons ?_ (ord.steps_cons ?_ (ord.steps_cons ?_ (ord.steps_cons ?_ (ord.steps_cons ?_ (ord.steps_cons ?_ (ord.steps_cons ?_ (ord.steps_cons ?_ (ord.steps_cons ?_ (ord.steps_cons ?_ (ord.steps_cons ?_ (ord.steps_cons ?_ (ord.steps_cons ?_ (ord.steps_cons ?_ (ord.steps_cons ?_ (ord.steps_cons ?_ (ord.steps_cons ?_ (ord.steps_cons ?_ (ord.steps_cons ?_ (ord.steps_cons ?_ (ord.steps_cons ?_ ord.steps_nil))))))))))))))))))))))))) (fun w' hb => RelI.of_drew (fun w hi => ⟨hi.1.of_block rfl, hi.2.of_block rfl⟩) hb) ?_
        --STEPS pb
        · intro o ho x w hb hG
          obtain rfl := Option.some.inj ho
          clear ho
          refine Or.inl ⟨ord.want0 rfl, ?_⟩
          exact ord.makes_move rfl ⟨HRR.out.refl _, rfl⟩
        · intro o ho x w hb hG
          obtain rfl := Option.some.inj ho
          clear ho
          refine Or.inl ⟨ord.want0 rfl, ?_⟩
          exact ord.makes_move rfl ⟨HRR.out.refl _, rfl⟩
        · intro o ho x w hb hG
          obtain rfl := Option.some.inj ho
          clear ho
          have h77 : x 1 = .slice B m c3 := hG (1, 77) (List.mem_of_getElem? (i := 1) rfl) rfl
          refine Or.inl ⟨ord.want0 rfl, ?_⟩
          exact ord.makes_build1 rfl h77 (run_build1 w _ _ _) ⟨HBL.out _ _ (alloc_below w _), _, rfl, cell_built w _ _ 0 rfl, HNS.out w hb _ (Nat.le_refl _)⟩
        · intro o ho x w hb hG
          obtain rfl := Option.some.inj ho
          clear ho
          have h76 : x 0 = .pointer (some ⟨g, 0, none⟩) := hG (0, 76) (List.mem_of_getElem? (i := 0) rfl) rfl
          have h78 : pbG g h A n c f A2 n2 c2 f2 B m c3 b 2 (x 2) w := hG (2, 78) (List.mem_of_getElem? (i := 2) rfl) rfl
          refine Or.inl ⟨ord.want0 rfl, ?_⟩
          obtain ⟨p, hv, hp, _⟩ := h78
          exact ord.makes_call2 Tryd.func15 (by kernel_rfl) (by kernel_rfl) rfl h76 hv (HM1.out w hb p hp) (fun e w' h => by obtain ⟨d, he, h1, h2, h3⟩ := h; exact ⟨_, he, h3, d, rfl, h2, HNS.out w hb d h1⟩)
        · intro o ho x w hb hG
          obtain rfl := Option.some.inj ho
          clear ho
          have h79 : pbG g h A n c f A2 n2 c2 f2 B m c3 b 3 (x 3) w := hG (3, 79) (List.mem_of_getElem? (i := 3) rfl) rfl
          refine Or.inl ⟨ord.want0 rfl, ?_⟩
          obtain ⟨d, hv, ha, _⟩ := h79
          exact ord.makes_conv rfl hv (convSl (ha.slB fun j _ => tag_lt _ _ _ _ j) (Nat.le_refl 32)) ⟨HRR.out.refl _, rfl⟩
        · intro o ho x w hb hG
          obtain rfl := Option.some.inj ho
          clear ho
          refine Or.inl ⟨ord.want0 rfl, ?_⟩
          exact ord.makes_move rfl ⟨HRR.out.refl _, rfl⟩
        · intro o ho x w hb hG
          obtain rfl := Option.some.inj ho
          clear ho
          refine Or.inl ⟨ord.want0 rfl, ?_⟩
          exact ord.makes_move rfl ⟨HRR.out.refl _, rfl⟩
        · intro o ho x w hb hG
          obtain rfl := Option.some.inj ho
          clear ho
          have h82 : x 6 = .slice B m c3 := hG (6, 82) (List.mem_of_getElem? (i := 6) rfl) rfl
          refine Or.inl ⟨ord.want0 rfl, ?_⟩
          exact ord.makes_build1 rfl h82 (run_build1 w _ _ _) ⟨HBL.out _ _ (alloc_below w _), _, rfl, cell_built w _ _ 0 rfl, HNS.out w hb _ (Nat.le_refl _)⟩
        · intro o ho x w hb hG
          obtain rfl := Option.some.inj ho
          clear ho
          have h81 : x 5 = .slice A n c := hG (5, 81) (List.mem_of_getElem? (i := 5) rfl) rfl
          have h83 : pbG g h A n c f A2 n2 c2 f2 B m c3 b 7 (x 7) w := hG (7, 83) (List.mem_of_getElem? (i := 7) rfl) rfl
          refine Or.inl ⟨ord.want0 rfl, ?_⟩
          obtain ⟨p, hv, hp, _⟩ := h83
          exact ord.makes_call2 Tryd.func12 (by kernel_rfl) (by kernel_rfl) rfl h81 hv (HC1.out w hb p hp) (fun e w' h => by obtain ⟨d, he, h1, h2, h4⟩ := h; exact ⟨_, he, HBL.out _ _ h4, d, rfl, h2, HNS.out w hb d h1⟩)
        · intro o ho x w hb hG
          obtain rfl := Option.some.inj ho
          clear ho
          have h84 : pbG g h A n c f A2 n2 c2 f2 B m c3 b 8 (x 8) w := hG (8, 84) (List.mem_of_getElem? (i := 8) rfl) rfl
          refine Or.inl ⟨ord.want0 rfl, ?_⟩
          obtain ⟨d, hv, ha, _⟩ := h84
          exact ord.makes_conv rfl hv (convSl (ha.slB fun j _ => tag_lt _ _ _ _ j) (Nat.le_refl 32)) ⟨HRR.out.refl _, rfl⟩
        · intro o ho x w hb hG
          obtain rfl := Option.some.inj ho
          clear ho
          have h80 : x 4 = .string (strOf 32 (tag n f m b)) := hG (4, 80) (List.mem_of_getElem? (i := 4) rfl) rfl
          have h85 : x 9 = .string (strOf 32 (tag n f m b)) := hG (9, 85) (List.mem_of_getElem? (i := 9) rfl) rfl
          refine Or.inl ⟨ord.want0 rfl, ?_⟩
          exact ord.makes_bin rfl h80 h85 (by exact str_same2 _ _ _ _) ⟨HRR.out.refl _, rfl⟩
        · intro o ho x w hb hG
          obtain rfl := Option.some.inj ho
          clear ho
          have h86 : x 10 = .bool true := hG (10, 86) (List.mem_of_getElem? (i := 10) rfl) rfl
          refine Or.inl ⟨ord.want0 rfl, ?_⟩
          exact ord.makes_move rfl ⟨HRR.out.refl _, h86⟩
        · intro o ho x w hb hG
          obtain rfl := Option.some.inj ho
          clear ho
          have h87 : x 11 = .bool true := hG (11, 87) (List.mem_of_getElem? (i := 11) rfl) rfl
          refine Or.inl ⟨ord.wantG rfl rfl h87, ?_⟩
          exact ord.makes_move rfl ⟨HRR.out.refl _, rfl⟩
        · intro o ho x w hb hG
          obtain rfl := Option.some.inj ho
          clear ho
          have h87 : x 11 = .bool true := hG (11, 87) (List.mem_of_getElem? (i := 11) rfl) rfl
          refine Or.inl ⟨ord.wantG rfl rfl h87, ?_⟩
          exact ord.makes_move rfl ⟨HRR.out.refl _, rfl⟩
        · intro o ho x w hb hG
          obtain rfl := Option.some.inj ho
          clear ho
          have h89 : x 13 = .slice B m c3 := hG (13, 89) (List.mem_of_getElem? (i := 13) rfl) rfl
          have h87 : x 11 = .bool true := hG (11, 87) (List.mem_of_getElem? (i := 11) rfl) rfl
          refine Or.inl ⟨ord.wantG rfl rfl h87, ?_⟩
          exact ord.makes_build1 rfl h89 (run_build1 w _ _ _) ⟨HBL.out _ _ (alloc_below w _), _, rfl, cell_built w _ _ 0 rfl, HNS.out w hb _ (Nat.le_refl _)⟩
        · intro o ho x w hb hG
          obtain rfl := Option.some.inj ho
          clear ho
          have h88 : x 12 = .pointer (some ⟨h, 0, none⟩) := hG (12, 88) (List.mem_of_getElem? (i := 12) rfl) rfl
          have h90 : pbG g h A n c f A2 n2 c2 f2 B m c3 b 14 (x 14) w := hG (14, 90) (List.mem_of_getElem? (i := 14) rfl) rfl
          have h87 : x 11 = .bool true := hG (11, 87) (List.mem_of_getElem? (i := 11) rfl) rfl
          refine Or.inl ⟨ord.wantG rfl rfl h87, ?_⟩
          obtain ⟨p, hv, hp, _⟩ := h90
          exact ord.makes_call2 Tryd.func15 (by kernel_rfl) (by kernel_rfl) rfl h88 hv (HM2.out w hb p hp) (fun e w' h => by obtain ⟨d, he, h1, h2, h3⟩ := h; exact ⟨_, he, h3, d, rfl, h2, HNS.out w hb d h1⟩)
        · intro o ho x w hb hG
          obtain rfl := Option.some.inj ho
          clear ho
          have h91 : pbG g h A n c f A2 n2 c2 f2 B m c3 b 15 (x 15) w := hG (15, 91) (List.mem_of_getElem? (i := 15) rfl) rfl
          have h87 : x 11 = .bool true := hG (11, 87) (List.mem_of_getElem? (i := 11) rfl) rfl
          refine Or.inl ⟨ord.wantG rfl rfl h87, ?_⟩
          obtain ⟨d, hv, ha, _⟩ := h91
          exact ord.makes_conv rfl hv (convSl (ha.slB fun j _ => tag_lt _ _ _ _ j) (Nat.le_refl 32)) ⟨HRR.out.refl _, rfl⟩
        · intro o ho x w hb hG
          obtain rfl := Option.some.inj ho
          clear ho
          have h87 : x 11 = .bool true := hG (11, 87) (List.mem_of_getElem? (i := 11) rfl) rfl
          refine Or.inl ⟨ord.wantG rfl rfl h87, ?_⟩
          exact ord.makes_move rfl ⟨HRR.out.refl _, rfl⟩
        · intro o ho x w hb hG
          obtain rfl := Option.some.inj ho
          clear ho
          have h87 : x 11 = .bool true := hG (11, 87) (List.mem_of_getElem? (i := 11) rfl) rfl
          refine Or.inl ⟨ord.wantG rfl rfl h87, ?_⟩
          exact ord.makes_move rfl ⟨HRR.out.refl _, rfl⟩
        · intro o ho x w hb hG
          obtain rfl := Option.some.inj ho
          clear ho
          have h94 : x 18 = .slice B m c3 := hG (18, 94) (List.mem_of_getElem? (i := 18) rfl) rfl
          have h87 : x 11 = .bool true := hG (11, 87) (List.mem_of_getElem? (i := 11) rfl) rfl
          refine Or.inl ⟨ord.wantG rfl rfl h87, ?_⟩
          exact ord.makes_build1 rfl h94 (run_build1 w _ _ _) ⟨HBL.out _ _ (alloc_below w _), _, rfl, cell_built w _ _ 0 rfl, HNS.out w hb _ (Nat.le_refl _)⟩
        · intro o ho x w hb hG
          obtain rfl := Option.some.inj ho
          clear ho
          have h93 : x 17 = .slice A2 n2 c2 := hG (17, 93) (List.mem_of_getElem? (i := 17) rfl) rfl
          have h95 : pbG g h A n c f A2 n2 c2 f2 B m c3 b 19 (x 19) w := hG (19, 95) (List.mem_of_getElem? (i := 19) rfl) rfl
          have h87 : x 11 = .bool true := hG (11, 87) (List.mem_of_getElem? (i := 11) rfl) rfl
          refine Or.inl ⟨ord.wantG rfl rfl h87, ?_⟩
          obtain ⟨p, hv, hp, _⟩ := h95
          exact ord.makes_call2 Tryd.func12 (by kernel_rfl) (by kernel_rfl) rfl h93 hv (HC9.out w hb p hp) (fun e w' h => by obtain ⟨d, he, h1, h2, h4⟩ := h; exact ⟨_, he, HBL.out _ _ h4, d, rfl, h2, HNS.out w hb d h1⟩)
        · intro o ho x w hb hG
          obtain rfl := Option.some.inj ho
          clear ho
          have h96 : pbG g h A n c f A2 n2 c2 f2 B m c3 b 20 (x 20) w := hG (20, 96) (List.mem_of_getElem? (i := 20) rfl) rfl
          have h87 : x 11 = .bool true := hG (11, 87) (List.mem_of_getElem? (i := 11) rfl) rfl
          refine Or.inl ⟨ord.wantG rfl rfl h87, ?_⟩
          obtain ⟨d, hv, ha, _⟩ := h96
          exact ord.makes_conv rfl hv (convSl (ha.slB fun j _ => tag_lt _ _ _ _ j) (Nat.le_refl 32)) ⟨HRR.out.refl _, rfl⟩
        · intro o ho x w hb hG
          obtain rfl := Option.some.inj ho
          clear ho
          have h92 : x 16 = .string (strOf 32 (tag n2 f2 m b)) := hG (16, 92) (List.mem_of_getElem? (i := 16) rfl) rfl
          have h97 : x 21 = .string (strOf 32 (tag n2 f2 m b)) := hG (21, 97) (List.mem_of_getElem? (i := 21) rfl) rfl
          have h87 : x 11 = .bool true := hG (11, 87) (List.mem_of_getElem? (i := 11) rfl) rfl
          refine Or.inl ⟨ord.wantG rfl rfl h87, ?_⟩
          exact ord.makes_bin rfl h92 h97 (by exact str_same2 _ _ _ _) ⟨HRR.out.refl _, rfl⟩
        · intro o ho x w hb hG
          obtain rfl := Option.some.inj ho
          clear ho
          have h87 : x 11 = .bool true := hG (11, 87) (List.mem_of_getElem? (i := 11) rfl) rfl
          have h98 : x 22 = .bool true := hG (22, 98) (List.mem_of_getElem? (i := 22) rfl) rfl
          refine Or.inl ⟨ord.want0 rfl, ?_⟩
          exact ord.makes_pick rfl h87 ⟨HRR.out.refl _, h98⟩
        --END STEPS pb
        · intro x w5 hb hG
          have e99 : x 23 = .bool true := hG (23, 99) (List.mem_of_getElem? (i := 23) rfl)
          clear hG
          have HB5 := Lib.hid (HTW.out w5 ⟨⟨hb.1.os, hb.1.tape, hb.1.output, hb.1.size, hb.1.block⟩, fun hi => hb.2 ⟨hi.1.of_block rfl, hi.2.of_block rfl⟩⟩).1
          clear hb
          simp only [ord.puts, ord.put', List.set_cons_zero, List.set_cons_succ, if_true]
          rw [e99]
          simp only [List.drop_succ_cons, List.drop_zero]
          go_wp2_with fail
          go_ret
          exact ⟨rfl, HB5.out⟩
end Go.Proofs.YtogcfaijphpgfaaDoor
/- Law MacPairs (layer 6): every way. -/
namespace Go.Proofs.YtogcfaijphpgfaaDoor
open Go.RowKit
theorem pairs_all (A : Option Addr) (n c : Nat) (f : Nat → Nat) (A2 : Option Addr) (n2 c2 : Nat) (f2 : Nat → Nat) (AB : Option Addr) (nb cb : Nat) (B : Option Addr) (m c3 : Nat) (b : Nat → Nat) (w0 : World) (hn : n ≤ 140737488351232) (hn2 : n2 ≤ 140737488351232) (hm : m ≤ 140737488351232) (hnb : nb ≤ 140737488351232) (hc : n ≤ c) (hc2 : n2 ≤ c2) (hc3 : m ≤ c3)
    (hA : SlB w0 A n f) (hA2 : SlB w0 A2 n2 f2) (hB : SlB w0 B m b) (hAB : RowsIn w0 AB nb) (ht : GT w0) :
    Calls Tryd.prog 8 #[.slice A n c, .slice A2 n2 c2, .slice AB nb cb, .slice B m c3] w0 fun e w' => e = .returned (.bool true) ∧ Below w0.heap.size w0 w' := by
  by_cases h1 : 4096 < n
  · have hd1 : decide (4096 < (n : Int)) = true := by simp; omega
    have HT := Lib.hid ht
    clear hA hA2 hB hAB ht
    go_enter Tryd.func8, Tryd.ntmps8
    go_wp2_with fail
    refine (small6_any w0 HT.out).mono ?_
    rintro e w1 ⟨rfl, hb⟩
    have HB1 := Lib.hid hb
    clear hb
    go_wp2_with fail
    go_ret
    exact ⟨rfl, HB1.out⟩
  · have hd1 : decide (4096 < (n : Int)) = false := by simp; omega
    by_cases h2 : 4096 < n2
    · have hd2 : decide (4096 < (n2 : Int)) = true := by simp; omega
      have HT := Lib.hid ht
      clear hA hA2 hB hAB ht
      go_enter Tryd.func8, Tryd.ntmps8
      go_wp2_with fail
      refine (small6_any w0 HT.out).mono ?_
      rintro e w1 ⟨rfl, hb⟩
      have HB1 := Lib.hid hb
      clear hb
      go_wp2_with fail
      go_ret
      exact ⟨rfl, HB1.out⟩
    · have hd2 : decide (4096 < (n2 : Int)) = false := by simp; omega
      by_cases h3 : 4096 < m
      · have hd3 : decide (4096 < (m : Int)) = true := by simp; omega
        have HT := Lib.hid ht
        clear hA hA2 hB hAB ht
        go_enter Tryd.func8, Tryd.ntmps8
        go_wp2_with fail
        refine (small6_any w0 HT.out).mono ?_
        rintro e w1 ⟨rfl, hb⟩
        have HB1 := Lib.hid hb
        clear hb
        go_wp2_with fail
        go_ret
        exact ⟨rfl, HB1.out⟩
      · have hd3 : decide (4096 < (m : Int)) = false := by simp; omega
        exact pairs_any A n c f A2 n2 c2 f2 AB nb cb B m c3 b w0 (by omega) (by omega) (by omega) hnb hc hc2 hc3 hA hA2 hB hAB ht
end Go.Proofs.YtogcfaijphpgfaaDoor
/- Two rows of bytes that grow in turn (layer 5). -/
namespace Go.Proofs.YtogcfaijphpgfaaDoor
open Go.RowKit
/-- two rows do not share a block -/
def Apart (v1 v2 : Value) : Prop := ∀ g, v1.ownBlock = some g → v2.ownBlock ≠ some g
theorem Apart.symm {v1 v2 : Value} (h : Apart v1 v2) : Apart v2 v1 := fun g h2 h1 => h g h1 h2
theorem Apart.nil (v : Value) : Apart (.slice none 0 0) v := fun g h => by simp [Value.ownBlock] at h
theorem OwnB.grown {w w' : World} {base n : Nat} {v v1 : Value} {f : Nat → Nat} (h : OwnB w base v n f) (hg : w.grownBy w' v1.ownBlock) (ha : Apart v1 v) : OwnB w' base v n f := by
  refine World.ownsRow.kept h hg ?_
  cases e : v.ownBlock with
  | none => exact Or.inl rfl
  | some g => exact Or.inr fun e1 => ha g e1.symm e
/-- append, where another row grows too -/
theorem wpList_appW {ops : Array Oper} {rest : List Oper} {o : Oper} {a : Act} {Q : Exit → Act → World → Prop} {w : World} (hgd : o.guard = none) (s x : Operand)
    (ho : o.op = .call { callee := .builtin .append, args := #[s, x], argTypes := #[22, 22] })
    (base : Nat) (v : Value) (n : Nat) (f : Nat → Nat) (hs : a.eval s = v) (hown : OwnB w base v n f)
    (A : Option Addr) (m cap : Nat) (g : Nat → Nat) (hx : a.eval x = .slice A m cap) (hA : SlB w A m g) (hnil : A = none → m = 0 ∧ cap = 0) (hn : n + m ≤ 100000000000000) (hbase : base ≤ w.heap.size)
    (v2 : Value) (n2 : Nat) (f2 : Nat → Nat) (h2 : OwnB w base v2 n2 f2) (hap : Apart v v2)
    (h : ∀ v' w', OwnB w' base v' (n + m) (catB n f g) → OwnB w' base v2 n2 f2 → Apart v' v2 → Below base w w' → wpList Tryd.prog ops Q rest (a.put o.dst v') w') : wpList Tryd.prog ops Q (o :: rest) a w := by
  obtain ⟨i, hi, hz, hsz, hb⟩ := info_parts info8
  cases A with
  | none =>
    obtain ⟨rfl, rfl⟩ := hnil rfl
    refine wpList_append_own_none hgd s x 22 ho base 5 i 1 Tryd.underlying22 hi v n _ hs hown hx ?_
    refine h v w ?_ h2 hap (Below.refl _ _)
    exact OwnB.congr hown fun j hj => by unfold catB; rw [if_pos (show j < n from hj)]
  | some ad =>
    refine wpList_append_own_at w hgd s x 22 ho base 5 i (.int .u8 0) 1 1 Tryd.underlying22 hi hz hsz hb rfl (by decide) v n _ hs hown ad m cap (bytesL m g) hx (by simp [bytesL]) ?_ (bytes_one m g) (by unfold maxLen; omega) (by omega) hbase ?_
    · intro j u hj
      obtain ⟨hjm, rfl⟩ := bytesL_get m g j u hj
      obtain ⟨B, off, e, _, hc⟩ := hA (by omega)
      obtain rfl : ad = ⟨B, off, none⟩ := Option.some.inj e
      rw [Go.WideShapes.add_plain]
      exact (hc j hjm).2
    · intro v' w' h1 hg _ hat
      rw [bytesL_cat] at h1
      refine h v' w' h1 (h2.grown hg hap) ?_ ((Below.refl base w).grown hg hbase fun k hk => (hown.lt k hk).1)
      rcases hat with e | e
      · intro b hb'
        rw [e] at hb'
        exact hap b hb'
      · intro b hb' hb2
        rw [e] at hb'
        injection hb' with hb'
        have := (World.ownsRow.lt h2 b hb2).2
        omega
end Go.Proofs.YtogcfaijphpgfaaDoor
/- The reference of layer 6: Eight, Mac. -/
namespace Go.Proofs.YtogcfaijphpgfaaDoor
open Go.RowKit
set_option maxRecDepth 100000 in
set_option maxHeartbeats 800000 in
theorem eight_any (x : Nat) (w : World) (hx : x ≤ 140737488351232) :
    Calls Tryd.prog 29 #[.int .i64 (x : Nat)] w fun e w' => ∃ A c, e = .returned (.slice A 8 c) ∧ OwnB w' w.heap.size (.slice A 8 c) 8 (len8 x) ∧ Below w.heap.size w w' := by
  have hxi : (x : Int) ≤ 140737488351232 := by omega
  go_enter Tryd.func29, Tryd.ntmps29
  go_wp2_with fail
  go_loopw [3, 4] (fun v t wr => ∃ (j : Nat) (A c : _), j ≤ 8 ∧ t = .int .i64 (7 - (j : Int)) ∧ v = .slice A j c ∧ OwnB wr w.heap.size (.slice A j c) j (len8 x) ∧ Below w.heap.size w wr) (fun _ t _ => (intOf t + 1).toNat)
  case atStart => exact ⟨0, none, 0, Nat.zero_le _, rfl, rfl, OwnB.nil _ _ _, Below.refl _ _⟩
  case round =>
    obtain ⟨j, A5, c5, hj, rfl, rfl, h1, h2⟩ := hrel
    have G1 := Lib.hid h1
    have G2 := Lib.hid h2
    clear h1 h2
    by_cases hj8 : j < 8
    · obtain ⟨q, hq⟩ : ∃ q, q = 7 - j := ⟨_, rfl⟩
      obtain ⟨q8, hq8⟩ : ∃ q8, q8 = 8 * q := ⟨_, rfl⟩
      have eq : (7 : Int) - j = q := by omega
      have eq8 : (8 : Int) * q = q8 := by omega
      have hqi : (q : Int) ≤ 7 := by omega
      have hq8i : (q8 : Int) ≤ 56 := by omega
      obtain ⟨y, hy⟩ : ∃ y, y = x / 2 ^ q8 := ⟨_, rfl⟩
      have hyx : y ≤ x := by rw [hy]; exact Nat.div_le_self _ _
      have ey : (x : Int) / 2 ^ q8 = y := by rw [hy]; simp
      obtain ⟨z, hz⟩ : ∃ z, z = y % 256 := ⟨_, rfl⟩
      have ez : (y : Int) % 256 = z := by omega
      have lz : z < 256 := by omega
      have HZP := Lib.hid (show z = len8 x j by unfold len8; rw [hz, hy, hq8, hq])
      have HZ1 := Lib.hid fun W => one_sl W z lz
      have hyi : (y : Int) ≤ 140737488351232 := by omega
      have HEQ := Lib.hid eq
      clear hq hq8 hy hz
      rw [eq]
      have HO3 := Lib.hid (G1.out.alloc (.cells #[.int .u8 (z : Nat)] 5))
      have HB3 := Lib.hid (G2.out.alloc G2.out.size (.cells #[.int .u8 (z : Nat)] 5))
      go_wp2_with (refine wpList_appO rfl (.tmp 9) (.tmp 15) rfl w.heap.size _ j (len8 x) rfl HO3.out (some ⟨_, 0, none⟩) 1 1 (fun _ => z) rfl (HZ1.out _) (fun h => by cases h) (by omega) HB3.out.size (fun i _ => len8_lt x i) (fun _ _ => lz) ?_; intro A4 c4 w4 h1 h2 h3 h4; have HO4 := Lib.hid (OwnB.congr (g := len8 x) h1 fun i hi => by unfold catB; by_cases e : i < j; rw [if_pos e]; rw [if_neg e, HZP.out, show i = j by omega]); have HB4 := Lib.hid (HB3.out.trans h4); clear h1 h2 h3 h4)
      exact ⟨⟨j + 1, A4, c4, by omega, congrArg _ (by have := HEQ.out; omega), rfl, HO4.out, HB4.out⟩, by simp [intOf]⟩
    · obtain rfl : j = 8 := by omega
      have et : (7 : Int) - ((8 : Nat) : Int) = -1 := by omega
      rw [et]
      clear et
      go_wp2_with fail
      go_ret
      exact ⟨A5, c5, rfl, G1.out, G2.out⟩
/-- the two halves grow, and become the tag -/
theorem kf_at {n : Nat} (key : Nat → Nat) (h : n ≤ 64) {j : Nat} (hj : j < n) : kf n key j = key j := by unfold kf; rw [if_pos h, if_pos hj]
theorem kf_past {n : Nat} (key : Nat → Nat) (h : n ≤ 64) {j : Nat} (hj : n ≤ j) : kf n key j = 0 := by unfold kf; rw [if_pos h, if_neg (by omega)]
theorem kf_long {n : Nat} (key : Nat → Nat) (h : 64 < n) {j : Nat} (hj : j < 32) : kf n key j = sha n key j := by unfold kf; rw [if_neg (by omega), if_pos hj]
theorem kf_longpast {n : Nat} (key : Nat → Nat) (h : 64 < n) {j : Nat} (hj : 32 ≤ j) : kf n key j = 0 := by unfold kf; rw [if_neg (by omega), if_neg (by omega)]
set_option maxRecDepth 100000 in
set_option maxHeartbeats 1600000 in
theorem rmac_any (A B : Option Addr) (n c m c2 : Nat) (key b : Nat → Nat) (w : World) (hn : n ≤ 1000000000000) (hm : m ≤ 1000000000000) (hA : SlB w A n key) (hnA : A = none → n = 0 ∧ c = 0) (hB : SlB w B m b) (hnB : B = none → m = 0 ∧ c2 = 0) :
    Calls Tryd.prog 16 #[.slice A n c, .slice B m c2] w fun e w' => (∃ A' c', e = .returned (.slice A' 32 c') ∧ SlB w' A' 32 (tag n key m b) ∧ OwnB w' w.heap.size (.slice A' 32 c') 32 (tag n key m b)) ∧ Below w.heap.size w w' := by
  have HA := Lib.hid (hA.keep (alloc_below w (.cells #[] 5)))
  have HB := Lib.hid hB
  have HNA := Lib.hid hnA
  have HNB := Lib.hid hnB
  have HFA := Lib.hid (show By n key from fun j hj => hA.byte hj)
  have HFB := Lib.hid (show By m b from fun j hj => hB.byte hj)
  have HN := Lib.hid hn
  have HM := Lib.hid hm
  have HE := Lib.hid (OwnB.empty w w.heap.size key (Nat.le_refl _))
  have HB0 := Lib.hid (alloc_below w (.cells #[] 5))
  clear hA hB hnA hnB hn hm
  by_cases hl : 64 < n
  · have hd : decide (64 < (n : Int)) = true := by simp; omega
    have HL := Lib.hid hl
    clear hl
    go_enter Tryd.func16, Tryd.ntmps16
    go_wp2_with (refine wpList_appO rfl (.tmp 9) (.tmp 10) rfl w.heap.size _ 0 key rfl HE.out A n c key rfl HA.out HNA.out (by have := HN.out; omega) HB0.out.size (fun j hj => absurd hj (Nat.not_lt_zero j)) HFA.out ?_; intro A1 c1 w1 h1 h2 h3 h4; rw [Nat.zero_add] at h1 h2 h3 ⊢; have HO1 := Lib.hid (OwnB.congr (g := key) h1 fun j _ => rfl); have HS1 := Lib.hid (SlB.congr (f' := key) h2 fun j _ => rfl); have HN1 := Lib.hid h3.2.2; have HB1 := Lib.hid (HB0.out.trans h4); clear h1 h2 h3 h4)
    refine (rsum_own A1 n c1 key w1 (by have := HN.out; omega) HS1.out HN1.out).mono ?_
    rintro e w3 ⟨A3, c3, rfl, ⟨_, h2⟩, h3⟩
    have HO3 := Lib.hid (OwnB.congr (g := kf n key) (h2.less HB1.out.size) fun j hj => (kf_long key HL.out hj).symm)
    have HB3 := Lib.hid (HB1.out.trans (h3.mono HB1.out.size))
    have HZ := Lib.hid (fun j (hj : 32 ≤ j) => kf_longpast key HL.out hj)
    clear h2 h3 hd HO1 HS1 HN1 HB1
    go_wp2_with fail
    go_loopw [5] (fun v wr => ∃ (l : Nat) (A4 : Option Addr) (c4 : Nat), 32 ≤ l ∧ l ≤ 64 ∧ v = .slice A4 l c4 ∧ OwnB wr w.heap.size (.slice A4 l c4) l (kf n key) ∧ Below w.heap.size w wr) (fun v _ => 64 - lenOf v)
    case atStart => exact ⟨32, A3, c3, Nat.le_refl _, by omega, rfl, HO3.out, HB3.out⟩
    case round =>
      obtain ⟨l, A4, c4, hl1, hl2, rfl, h1, h2⟩ := hrel
      have G1 := Lib.hid h1
      have G2 := Lib.hid h2
      have HKB := Lib.hid (kf_by HFA.out)
      have HZ1 := Lib.hid fun W => one_sl W 0 (by decide)
      clear h1 h2
      by_cases hlt : l < 64
      · have hli : (l : Int) < 64 := by omega
        have HO4 := Lib.hid (G1.out.alloc (.cells #[.int .u8 ((0 : Nat) : Int)] 5))
        have HB4 := Lib.hid (G2.out.alloc G2.out.size (.cells #[.int .u8 ((0 : Nat) : Int)] 5))
        have HZL := Lib.hid (HZ.out l hl1)
        have HMS := Lib.hid (show 64 - (l + 1) < 64 - l by omega)
        go_wp2_with (refine wpList_appO rfl (.tmp 20) (.tmp 21) rfl w.heap.size _ l (kf n key) rfl HO4.out (some ⟨_, 0, none⟩) 1 1 (fun _ => 0) rfl (HZ1.out _) (fun h => by cases h) (by omega) HB4.out.size (fun j hj => HKB.out j (by omega)) (fun _ _ => by decide) ?_; intro A5 c5 w5 h1 h2 h3 h4; have HO5 := Lib.hid (OwnB.congr (g := kf n key) h1 fun j hj => by unfold catB; by_cases e : j < l; rw [if_pos e]; rw [if_neg e, show j = l by omega, HZL.out]); have HB5 := Lib.hid (HB4.out.trans h4); clear h1 h2 h3 h4)
        go_roundw
        case rel => exact ⟨l + 1, A5, c5, by omega, by omega, rfl, HO5.out, HB5.out⟩
        case measure => exact HMS.out
      · obtain rfl : l = 64 := by omega
        obtain ⟨A6, c6, e6, hsl6⟩ := OwnB.slice G1.out (fun j hj => HKB.out j hj)
        cases e6
        have HK6 := Lib.hid hsl6
        have hA6 : ∃ B6 o6, A4 = some ⟨B6, o6, none⟩ := by
          obtain ⟨B6, o6, e, _⟩ := hsl6 (by decide)
          exact ⟨B6, o6, e⟩
        obtain ⟨B6, o6, rfl⟩ := hA6
        clear hsl6 hl1 hl2 hlt HO3 HB3 HZ
        go_wp2_with fail
        obtain ⟨w4, hw4⟩ : ∃ w4, w4 = wr := ⟨_, rfl⟩
        subst hw4
        go_loopw [6, 7, 8] (fun v6 v7 t wx => ∃ k : Nat, k ≤ 64 ∧ t = .int .i64 k ∧ OwnB wx w4.heap.size v6 k (xf 54 n key) ∧ OwnB wx w4.heap.size v7 k (xf 92 n key) ∧ Apart v6 v7 ∧ Below w4.heap.size w4 wx) (fun _ _ t _ => 64 - (intOf t).toNat)
        case atStart => exact ⟨0, Nat.zero_le _, rfl, OwnB.nil _ _ _, OwnB.nil _ _ _, Apart.nil _, Below.refl _ _⟩
        case round =>
          obtain ⟨k, hk, rfl, h1, h2, h3, h4⟩ := hrel
          have K1 := Lib.hid h1
          have K2 := Lib.hid h2
          have K3 := Lib.hid h3
          have K4 := Lib.hid h4
          clear h1 h2 h3 h4
          by_cases hlt : k < 64
          · have hki : (k : Int) < 64 := by omega
            obtain ⟨B7, o7, e7, hB7, hc7⟩ := HK6.out (by decide)
            cases e7
            have hcell := (K4.out.cell (p := ⟨B6, o6 + k, none⟩) hB7).trans (hc7 k hlt).2
            have HC7 := Lib.hid (fun (W : World) (h : Below w4.heap.size w4 W) => (h.cell (p := ⟨B6, o6 + k, none⟩) hB7).trans (hc7 k hlt).2)
            obtain ⟨x, hx⟩ : ∃ x, kf n key k = x := ⟨_, rfl⟩
            have hxl : x < 256 := by rw [← hx]; exact HKB.out k hlt
            have b1 : bits BinOp.xor .u8 (x : Int) 54 = ((x ^^^ 54 : Nat) : Int) := u8_xor_nat x 54 hxl (by decide)
            have b2 : bits BinOp.xor .u8 (x : Int) 92 = ((x ^^^ 92 : Nat) : Int) := u8_xor_nat x 92 hxl (by decide)
            have HX1 := Lib.hid (show xf 54 n key k = x ^^^ 54 by unfold xf; rw [hx])
            have HX2 := Lib.hid (show xf 92 n key k = x ^^^ 92 by unfold xf; rw [hx])
            have HL1 := Lib.hid (xor_lt8 hxl (show 54 < 256 by decide))
            have HL2 := Lib.hid (xor_lt8 hxl (show 92 < 256 by decide))
            have HY1 := Lib.hid fun W => one_sl W (x ^^^ 54) HL1.out
            have HY2 := Lib.hid fun W => one_sl W (x ^^^ 92) HL2.out
            rw [hx] at hcell HC7
            clear hx hc7 hB7
            generalize x ^^^ 54 = y1 at *
            generalize x ^^^ 92 = y2 at *
            have HP1 := Lib.hid (K1.out.alloc (.cells #[.int .u8 (y1 : Nat)] 5))
            have HP2 := Lib.hid (K2.out.alloc (.cells #[.int .u8 (y1 : Nat)] 5))
            have HPB := Lib.hid (K4.out.alloc K4.out.size (.cells #[.int .u8 (y1 : Nat)] 5))
            have HXB := Lib.hid (fun (c : Nat) (hc : c < 256) => xf_by (c := c) hc HFA.out)
            go_wp2_with (first | (refine wpList_appW rfl (.tmp 27) (.tmp 33) rfl w4.heap.size _ k (xf 54 n key) rfl HP1.out (some ⟨_, 0, none⟩) 1 1 (fun _ => y1) rfl (HY1.out _) (fun h => by cases h) (by omega) HPB.out.size _ k (xf 92 n key) HP2.out K3.out ?_; intro v8 w8 h1 h2 h3 h4; have HQ1 := Lib.hid (OwnB.congr (g := xf 54 n key) h1 fun j hj => by unfold catB; by_cases e : j < k; rw [if_pos e]; rw [if_neg e, show j = k by omega, HX1.out]); have HQ2 := Lib.hid h2; have HQ3 := Lib.hid h3; have HQB := Lib.hid (HPB.out.trans h4); clear h1 h2 h3 h4 hcell; have hcell := HC7.out w8 HQB.out; have HR1 := Lib.hid (HQ1.out.alloc (.cells #[.int .u8 (y2 : Nat)] 5)); have HR2 := Lib.hid (HQ2.out.alloc (.cells #[.int .u8 (y2 : Nat)] 5)); have HRB := Lib.hid (HQB.out.alloc HQB.out.size (.cells #[.int .u8 (y2 : Nat)] 5))) | (refine wpList_appW rfl (.tmp 35) (.tmp 41) rfl w4.heap.size _ k (xf 92 n key) rfl HR2.out (some ⟨_, 0, none⟩) 1 1 (fun _ => y2) rfl (HY2.out _) (fun h => by cases h) (by omega) HRB.out.size _ (k + 1) (xf 54 n key) HR1.out HQ3.out.symm ?_; intro v9 w9 h1 h2 h3 h4; have HS1 := Lib.hid (OwnB.congr (g := xf 92 n key) h1 fun j hj => by unfold catB; by_cases e : j < k; rw [if_pos e]; rw [if_neg e, show j = k by omega, HX2.out]); have HS2 := Lib.hid h2; have HS3 := Lib.hid h3.symm; have HSB := Lib.hid (HRB.out.trans h4); clear h1 h2 h3 h4))
            go_roundw
            case rel => exact ⟨k + 1, by omega, by go_num, HS2.out, HS1.out, HS3.out, HSB.out⟩
            case measure => simp [intOf]; omega
          · obtain rfl : k = 64 := by omega
            have HXB := Lib.hid (fun (c : Nat) (hc : c < 256) => xf_by (c := c) hc HFA.out)
            have HBW := Lib.hid (HB.out.keep (G2.out.trans (K4.out.mono G2.out.size)))
            go_wp2_with (refine wpList_appW rfl (.tmp 44) (.tmp 45) rfl w4.heap.size _ 64 (xf 54 n key) rfl K1.out B m c2 b rfl HBW.out HNB.out (by have := HM.out; omega) K4.out.size _ 64 (xf 92 n key) K2.out K3.out ?_; intro v8 w8 h1 h2 _ h4; have HQ2 := Lib.hid h2; have HQB := Lib.hid (K4.out.trans h4); obtain ⟨A8, c8, e8, hs8⟩ := OwnB.slice h1 (catB_lt (HXB.out 54 (by decide)) HFB.out); obtain ⟨A8', c8', e8', _, _, hn8⟩ := OwnB.cap_le h1; rw [e8] at e8'; cases e8'; subst e8; have HS8 := Lib.hid hs8; have HN8 := Lib.hid hn8; clear h1 h2 h4 hs8 hn8)
            refine (rsum_any A8 (64 + m) c8 (catB 64 (xf 54 n key) b) w8 (by have := HM.out; omega) HS8.out HN8.out).mono ?_
            rintro e w9 ⟨A9, c9, rfl, h1, h2⟩
            have HS9 := Lib.hid h1
            have HY9 := Lib.hid (HQ2.out.keep h2)
            have HB9 := Lib.hid (HQB.out.trans (h2.mono HQB.out.size))
            have hA9 : ∃ B9 o9, A9 = some ⟨B9, o9, none⟩ := by
              obtain ⟨B9, o9, e, _⟩ := h1 (by decide)
              exact ⟨B9, o9, e⟩
            obtain ⟨B9, o9, rfl⟩ := hA9
            clear h1 h2 HQ2 HQB HS8 HN8
            go_wp2_with (refine wpList_appO rfl (.tmp 43) (.tmp 47) rfl w4.heap.size _ 64 (xf 92 n key) rfl HY9.out (some ⟨B9, o9, none⟩) 32 c9 (sha (64 + m) (catB 64 (xf 54 n key) b)) rfl HS9.out (fun h => by cases h) (by decide) HB9.out.size (HXB.out 92 (by decide)) (fun j _ => sha_lt _ _ j) ?_; intro A10 c10 w10 h1 h2 h3 h4; have HS10 := Lib.hid h2; have HN10 := Lib.hid h3.2.2; have HB10 := Lib.hid (HB9.out.trans h4); clear h1 h2 h3 h4)
            refine (rsum_own A10 (64 + 32) c10 (catB 64 (xf 92 n key) (sha (64 + m) (catB 64 (xf 54 n key) b))) w10 (by decide) HS10.out HN10.out).mono ?_
            rintro e w11 ⟨A11, c11, rfl, ⟨h1, h2⟩, h3⟩
            have HW10 := Lib.hid (G2.out.trans (HB10.out.mono G2.out.size))
            have HS11 := Lib.hid h1
            have HO11 := Lib.hid (h2.less HW10.out.size)
            have HB11 := Lib.hid (HW10.out.trans (h3.mono HW10.out.size))
            clear h1 h2 h3
            go_wp2_with fail
            go_ret
            exact ⟨⟨A11, c11, rfl, HS11.out, HO11.out⟩, HB11.out⟩
  · have hd : decide (64 < (n : Int)) = false := by simp; omega
    have HL := Lib.hid (show n ≤ 64 by omega)
    clear hl
    go_enter Tryd.func16, Tryd.ntmps16
    go_wp2_with (refine wpList_appO rfl (.tmp 9) (.tmp 10) rfl w.heap.size _ 0 key rfl HE.out A n c key rfl HA.out HNA.out (by have := HN.out; omega) HB0.out.size (fun j hj => absurd hj (Nat.not_lt_zero j)) HFA.out ?_; intro A1 c1 w1 h1 h2 h3 h4; rw [Nat.zero_add] at h1 h2 h3 ⊢; have HO1 := Lib.hid (OwnB.congr (g := key) h1 fun j _ => rfl); have HS1 := Lib.hid (SlB.congr (f' := key) h2 fun j _ => rfl); have HN1 := Lib.hid h3.2.2; have HB1 := Lib.hid (HB0.out.trans h4); clear h1 h2 h3 h4)
    obtain ⟨w3, hw3⟩ : ∃ w3, w3 = w1 := ⟨_, rfl⟩
    subst hw3
    have HO3 := Lib.hid (OwnB.congr (g := kf n key) HO1.out fun j hj => (kf_at key HL.out hj).symm)
    have HB3 := Lib.hid HB1.out
    have HZ := Lib.hid (fun j (hj : n ≤ j) => kf_past key HL.out hj)
    have hnl := HL.out
    clear hd HO1 HS1 HN1 HB1
    go_wp2_with fail
    go_loopw [5] (fun v wr => ∃ (l : Nat) (A4 : Option Addr) (c4 : Nat), n ≤ l ∧ l ≤ 64 ∧ v = .slice A4 l c4 ∧ OwnB wr w.heap.size (.slice A4 l c4) l (kf n key) ∧ Below w.heap.size w wr) (fun v _ => 64 - lenOf v)
    case atStart => exact ⟨n, A1, c1, Nat.le_refl _, by omega, rfl, HO3.out, HB3.out⟩
    case round =>
      obtain ⟨l, A4, c4, hl1, hl2, rfl, h1, h2⟩ := hrel
      have G1 := Lib.hid h1
      have G2 := Lib.hid h2
      have HKB := Lib.hid (kf_by HFA.out)
      have HZ1 := Lib.hid fun W => one_sl W 0 (by decide)
      clear h1 h2
      by_cases hlt : l < 64
      · have hli : (l : Int) < 64 := by omega
        have HO4 := Lib.hid (G1.out.alloc (.cells #[.int .u8 ((0 : Nat) : Int)] 5))
        have HB4 := Lib.hid (G2.out.alloc G2.out.size (.cells #[.int .u8 ((0 : Nat) : Int)] 5))
        have HZL := Lib.hid (HZ.out l hl1)
        have HMS := Lib.hid (show 64 - (l + 1) < 64 - l by omega)
        go_wp2_with (refine wpList_appO rfl (.tmp 20) (.tmp 21) rfl w.heap.size _ l (kf n key) rfl HO4.out (some ⟨_, 0, none⟩) 1 1 (fun _ => 0) rfl (HZ1.out _) (fun h => by cases h) (by omega) HB4.out.size (fun j hj => HKB.out j (by omega)) (fun _ _ => by decide) ?_; intro A5 c5 w5 h1 h2 h3 h4; have HO5 := Lib.hid (OwnB.congr (g := kf n key) h1 fun j hj => by unfold catB; by_cases e : j < l; rw [if_pos e]; rw [if_neg e, show j = l by omega, HZL.out]); have HB5 := Lib.hid (HB4.out.trans h4); clear h1 h2 h3 h4)
        go_roundw
        case rel => exact ⟨l + 1, A5, c5, by omega, by omega, rfl, HO5.out, HB5.out⟩
        case measure => exact HMS.out
      · obtain rfl : l = 64 := by omega
        obtain ⟨A6, c6, e6, hsl6⟩ := OwnB.slice G1.out (fun j hj => HKB.out j hj)
        cases e6
        have HK6 := Lib.hid hsl6
        have hA6 : ∃ B6 o6, A4 = some ⟨B6, o6, none⟩ := by
          obtain ⟨B6, o6, e, _⟩ := hsl6 (by decide)
          exact ⟨B6, o6, e⟩
        obtain ⟨B6, o6, rfl⟩ := hA6
        clear hsl6 hl1 hl2 hlt HO3 HB3 HZ
        go_wp2_with fail
        obtain ⟨w4, hw4⟩ : ∃ w4, w4 = wr := ⟨_, rfl⟩
        subst hw4
        go_loopw [6, 7, 8] (fun v6 v7 t wx => ∃ k : Nat, k ≤ 64 ∧ t = .int .i64 k ∧ OwnB wx w4.heap.size v6 k (xf 54 n key) ∧ OwnB wx w4.heap.size v7 k (xf 92 n key) ∧ Apart v6 v7 ∧ Below w4.heap.size w4 wx) (fun _ _ t _ => 64 - (intOf t).toNat)
        case atStart => exact ⟨0, Nat.zero_le _, rfl, OwnB.nil _ _ _, OwnB.nil _ _ _, Apart.nil _, Below.refl _ _⟩
        case round =>
          obtain ⟨k, hk, rfl, h1, h2, h3, h4⟩ := hrel
          have K1 := Lib.hid h1
          have K2 := Lib.hid h2
          have K3 := Lib.hid h3
          have K4 := Lib.hid h4
          clear h1 h2 h3 h4
          by_cases hlt : k < 64
          · have hki : (k : Int) < 64 := by omega
            obtain ⟨B7, o7, e7, hB7, hc7⟩ := HK6.out (by decide)
            cases e7
            have hcell := (K4.out.cell (p := ⟨B6, o6 + k, none⟩) hB7).trans (hc7 k hlt).2
            have HC7 := Lib.hid (fun (W : World) (h : Below w4.heap.size w4 W) => (h.cell (p := ⟨B6, o6 + k, none⟩) hB7).trans (hc7 k hlt).2)
            obtain ⟨x, hx⟩ : ∃ x, kf n key k = x := ⟨_, rfl⟩
            have hxl : x < 256 := by rw [← hx]; exact HKB.out k hlt
            have b1 : bits BinOp.xor .u8 (x : Int) 54 = ((x ^^^ 54 : Nat) : Int) := u8_xor_nat x 54 hxl (by decide)
            have b2 : bits BinOp.xor .u8 (x : Int) 92 = ((x ^^^ 92 : Nat) : Int) := u8_xor_nat x 92 hxl (by decide)
            have HX1 := Lib.hid (show xf 54 n key k = x ^^^ 54 by unfold xf; rw [hx])
            have HX2 := Lib.hid (show xf 92 n key k = x ^^^ 92 by unfold xf; rw [hx])
            have HL1 := Lib.hid (xor_lt8 hxl (show 54 < 256 by decide))
            have HL2 := Lib.hid (xor_lt8 hxl (show 92 < 256 by decide))
            have HY1 := Lib.hid fun W => one_sl W (x ^^^ 54) HL1.out
            have HY2 := Lib.hid fun W => one_sl W (x ^^^ 92) HL2.out
            rw [hx] at hcell HC7
            clear hx hc7 hB7
            generalize x ^^^ 54 = y1 at *
            generalize x ^^^ 92 = y2 at *
            have HP1 := Lib.hid (K1.out.alloc (.cells #[.int .u8 (y1 : Nat)] 5))
            have HP2 := Lib.hid (K2.out.alloc (.cells #[.int .u8 (y1 : Nat)] 5))
            have HPB := Lib.hid (K4.out.alloc K4.out.size (.cells #[.int .u8 (y1 : Nat)] 5))
            have HXB := Lib.hid (fun (c : Nat) (hc : c < 256) => xf_by (c := c) hc HFA.out)
            go_wp2_with (first | (refine wpList_appW rfl (.tmp 27) (.tmp 33) rfl w4.heap.size _ k (xf 54 n key) rfl HP1.out (some ⟨_, 0, none⟩) 1 1 (fun _ => y1) rfl (HY1.out _) (fun h => by cases h) (by omega) HPB.out.size _ k (xf 92 n key) HP2.out K3.out ?_; intro v8 w8 h1 h2 h3 h4; have HQ1 := Lib.hid (OwnB.congr (g := xf 54 n key) h1 fun j hj => by unfold catB; by_cases e : j < k; rw [if_pos e]; rw [if_neg e, show j = k by omega, HX1.out]); have HQ2 := Lib.hid h2; have HQ3 := Lib.hid h3; have HQB := Lib.hid (HPB.out.trans h4); clear h1 h2 h3 h4 hcell; have hcell := HC7.out w8 HQB.out; have HR1 := Lib.hid (HQ1.out.alloc (.cells #[.int .u8 (y2 : Nat)] 5)); have HR2 := Lib.hid (HQ2.out.alloc (.cells #[.int .u8 (y2 : Nat)] 5)); have HRB := Lib.hid (HQB.out.alloc HQB.out.size (.cells #[.int .u8 (y2 : Nat)] 5))) | (refine wpList_appW rfl (.tmp 35) (.tmp 41) rfl w4.heap.size _ k (xf 92 n key) rfl HR2.out (some ⟨_, 0, none⟩) 1 1 (fun _ => y2) rfl (HY2.out _) (fun h => by cases h) (by omega) HRB.out.size _ (k + 1) (xf 54 n key) HR1.out HQ3.out.symm ?_; intro v9 w9 h1 h2 h3 h4; have HS1 := Lib.hid (OwnB.congr (g := xf 92 n key) h1 fun j hj => by unfold catB; by_cases e : j < k; rw [if_pos e]; rw [if_neg e, show j = k by omega, HX2.out]); have HS2 := Lib.hid h2; have HS3 := Lib.hid h3.symm; have HSB := Lib.hid (HRB.out.trans h4); clear h1 h2 h3 h4))
            go_roundw
            case rel => exact ⟨k + 1, by omega, by go_num, HS2.out, HS1.out, HS3.out, HSB.out⟩
            case measure => simp [intOf]; omega
          · obtain rfl : k = 64 := by omega
            have HXB := Lib.hid (fun (c : Nat) (hc : c < 256) => xf_by (c := c) hc HFA.out)
            have HBW := Lib.hid (HB.out.keep (G2.out.trans (K4.out.mono G2.out.size)))
            go_wp2_with (refine wpList_appW rfl (.tmp 44) (.tmp 45) rfl w4.heap.size _ 64 (xf 54 n key) rfl K1.out B m c2 b rfl HBW.out HNB.out (by have := HM.out; omega) K4.out.size _ 64 (xf 92 n key) K2.out K3.out ?_; intro v8 w8 h1 h2 _ h4; have HQ2 := Lib.hid h2; have HQB := Lib.hid (K4.out.trans h4); obtain ⟨A8, c8, e8, hs8⟩ := OwnB.slice h1 (catB_lt (HXB.out 54 (by decide)) HFB.out); obtain ⟨A8', c8', e8', _, _, hn8⟩ := OwnB.cap_le h1; rw [e8] at e8'; cases e8'; subst e8; have HS8 := Lib.hid hs8; have HN8 := Lib.hid hn8; clear h1 h2 h4 hs8 hn8)
            refine (rsum_any A8 (64 + m) c8 (catB 64 (xf 54 n key) b) w8 (by have := HM.out; omega) HS8.out HN8.out).mono ?_
            rintro e w9 ⟨A9, c9, rfl, h1, h2⟩
            have HS9 := Lib.hid h1
            have HY9 := Lib.hid (HQ2.out.keep h2)
            have HB9 := Lib.hid (HQB.out.trans (h2.mono HQB.out.size))
            have hA9 : ∃ B9 o9, A9 = some ⟨B9, o9, none⟩ := by
              obtain ⟨B9, o9, e, _⟩ := h1 (by decide)
              exact ⟨B9, o9, e⟩
            obtain ⟨B9, o9, rfl⟩ := hA9
            clear h1 h2 HQ2 HQB HS8 HN8
            go_wp2_with (refine wpList_appO rfl (.tmp 43) (.tmp 47) rfl w4.heap.size _ 64 (xf 92 n key) rfl HY9.out (some ⟨B9, o9, none⟩) 32 c9 (sha (64 + m) (catB 64 (xf 54 n key) b)) rfl HS9.out (fun h => by cases h) (by decide) HB9.out.size (HXB.out 92 (by decide)) (fun j _ => sha_lt _ _ j) ?_; intro A10 c10 w10 h1 h2 h3 h4; have HS10 := Lib.hid h2; have HN10 := Lib.hid h3.2.2; have HB10 := Lib.hid (HB9.out.trans h4); clear h1 h2 h3 h4)
            refine (rsum_own A10 (64 + 32) c10 (catB 64 (xf 92 n key) (sha (64 + m) (catB 64 (xf 54 n key) b))) w10 (by decide) HS10.out HN10.out).mono ?_
            rintro e w11 ⟨A11, c11, rfl, ⟨h1, h2⟩, h3⟩
            have HW10 := Lib.hid (G2.out.trans (HB10.out.mono G2.out.size))
            have HS11 := Lib.hid h1
            have HO11 := Lib.hid (h2.less HW10.out.size)
            have HB11 := Lib.hid (HW10.out.trans (h3.mono HW10.out.size))
            clear h1 h2 h3
            go_wp2_with fail
            go_ret
            exact ⟨⟨A11, c11, rfl, HS11.out, HO11.out⟩, HB11.out⟩
end Go.Proofs.YtogcfaijphpgfaaDoor
/- As OrdM, but the facts of some operations (kp) are kept to the region's end: those behind all that may write. Written by specs/mkordk.py out of OrdM. Nothing here hangs on the program. -/
namespace Go.Proofs.YtogcfaijphpgfaaDoor.ord
open Go Go.RowKit

/-- nothing that is looked at later hangs on what p may write -/
def okMuK (ops : Array Oper) (D : List (List Nat)) (L : List (Nat × Nat)) (mu st kp : Nat → Bool) : Bool :=
  L.all fun p => !mu p.1 || L.all fun q => q.1 == p.1 || st q.1 || behind ops ops.size q.1 p.1 || (!kp q.1 && L.all fun r => !dep D r.1 q.1 || r.1 == p.1 || match ops[p.1]? with
    | none => false
    | some o => waits o r.1)

section
variable {P : Program} {ops : Array Oper} {Q : Exit → Act → World → Prop} {D : List (List Nat)} {L : List (Nat × Nat)} {G : Nat → Value → World → Prop} {a0 : Act} {w0 : World} {listed0 : Array Bool} {mu st kp : Nat → Bool}
/-- is it looked at again, or steady? -/
def liveK (D : List (List Nat)) (L : List (Nat × Nat)) (st kp : Nat → Bool) (listed : Array Bool) (q : Nat) : Prop := st q = true ∨ kp q = true ∨ ∃ r ∈ L, dep D r.1 q = true ∧ listed.getD r.1 false = false

structure InvK (N : Nat) (ops : Array Oper) (D : List (List Nat)) (st kp : Nat → Bool) (L : List (Nat × Nat)) (G : Nat → Value → World → Prop) (a0 : Act) (w0 : World) (listed0 listed : Array Bool) (a : Act) (w : World) : Prop where
  grow : Below w0.heap.size w0 w
  defers : a.defers = a0.defers
  size : a.tmps.size = a0.tmps.size
  lsize : listed.size = listed0.size
  old : ∀ s, (∀ q ∈ L, q.2 = s → listed.getD q.1 false = false) → a.tmps[s]? = a0.tmps[s]?
  new : ∀ q ∈ L, listed.getD q.1 false = true → ∃ v, a.tmps[q.2]? = some v ∧ (liveK D L st kp listed q.1 → G q.1 v w)
  closed : ∀ q ∈ L, listed.getD q.1 false = true → ∀ o, ops[q.1]? = some o → ∀ j, waits o j = true → listed.getD j false = true
  tail : ∀ t, N ≤ t → t < ops.size → listed.getD t true = false

theorem step_invK {N : Nat} (hok : okT N ops listed0 a0.tmps.size D L = true) (hmu : okMuK ops D L mu st kp = true) (hst : ∀ i v w w', G i v w → Below w.heap.size w w' → G i v w') (hst2 : ∀ i v w w', st i = true → G i v w → Below w0.heap.size w w' → G i v w') (hstep : ∀ p ∈ L, StepM P ops D L G mu a0 w0 p)
    {listed : Array Bool} {a : Act} {w : World} (I : InvK N ops D st kp L G a0 w0 listed0 listed a w) {i : Nat} (hi : i ∈ Region.ready .any ops listed) (hiN : i < N) :
    wpOp P ops Q i (fun a' w' => InvK N ops D st kp L G a0 w0 listed0 (listed.setIfInBounds i true) a' w') a w := by
  obtain ⟨hun, o, ho, hdeps⟩ := mem_ready.1 hi
  have hdeps' : ∀ j, waits o j = true → listed.getD j false = true := fun j hj => by
    obtain ⟨e, he, hb, rfl⟩ := waits_iff.1 hj; exact hdeps e he hb
  unfold okT at hok
  simp only [Bool.and_eq_true, decide_eq_true_eq, List.all_eq_true] at hok
  obtain ⟨p, hp, rfl⟩ : ∃ p ∈ L, p.1 = i := by
    obtain ⟨q, hq, e⟩ := List.any_eq_true.1 (hok.1.1.2 i (List.mem_range.2 hiN))
    exact ⟨q, hq, by simpa using e⟩
  have hls0 : listed0.size = ops.size := by simpa using hok.1.1.1
  have hany0 := hok.1.1.2
  obtain ⟨⟨⟨_, _⟩, hn1, hn2⟩, hall⟩ := hok
  have hp0 := hall p hp
  obtain ⟨hpN, ⟨⟨hsz, hls⟩, _⟩, hpo⟩ := hp0
  rw [ho] at hpo
  simp only [Bool.and_eq_true, List.all_eq_true, beq_iff_eq, Bool.or_eq_true, Bool.not_eq_true', beq_eq_false_iff_ne] at hpo
  obtain ⟨⟨⟨_, hDw, hdst⟩, hsel⟩, hlooks⟩ := hpo
  have hD : ∀ j, dep D p.1 j = true → waits o j = true := fun j hj => by
    unfold dep at hj
    obtain ⟨k, hk, e⟩ := List.any_eq_true.1 hj
    have := Nat.eq_of_beq_eq_true e
    subst this
    exact hDw _ hk
  have hsel' : ∀ cs b, o.op ≠ .select cs b := fun cs b e => by rw [e] at hsel; cases hsel
  have hli : p.1 < listed.size := by rw [I.lsize]; exact hls
  have hunF : listed.getD p.1 false = false := by
    simp only [Array.getD_eq_getD_getElem?, Array.getElem?_eq_getElem hli, Option.getD_some] at hun ⊢; exact hun
  have HCL : ∀ j oj, ops[j]? = some oj → listed.getD j false = true → ∀ e ∈ oj.after, Region.binds .any e = true → listed.getD e.on false = true := fun j oj hj hl e he hb => by
    have hlt : j < ops.size := (Array.getElem?_eq_some_iff.1 hj).1
    rcases Nat.lt_or_ge j N with h | h
    · obtain ⟨q, hq, eq⟩ := List.any_eq_true.1 (hany0 j (List.mem_range.2 h))
      have eq' : q.1 = j := by simpa using eq
      subst eq'
      exact I.closed q hq hl oj hj e.on (waits_iff.2 ⟨e, he, hb, rfl⟩)
    · have h1 := I.tail j h hlt
      have hlt2 : j < listed.size := by rw [I.lsize, hls0]; exact hlt
      simp only [Array.getD_eq_getD_getElem?, Array.getElem?_eq_getElem hlt2, Option.getD_some] at h1 hl
      rw [h1] at hl; cases hl
  have hx : ∃ x : Nat → Value, ∀ q ∈ L, listed.getD q.1 false = true → a.tmps[q.2]? = some (x q.1) ∧ (liveK D L st kp listed q.1 → G q.1 (x q.1) w) := by
    refine ⟨fun j => match L.find? (fun q => q.1 == j) with | some q => a.tmps.getD q.2 undef | none => undef, fun q hq hl => ?_⟩
    obtain ⟨v, hv, hg⟩ := I.new q hq hl
    have hf : L.find? (fun r => r.1 == q.1) = some q := by
      cases hfd : L.find? (fun r => r.1 == q.1) with
      | none => have := List.find?_eq_none.1 hfd q hq; simp at this
      | some r =>
        have h1 := List.find?_some hfd
        have h2 := List.mem_of_find?_eq_some hfd
        have e : r.1 = q.1 := by simpa using h1
        have : r = q := by
          exact nodup_inj (f := (·.1)) hn1 h2 hq e
        rw [this]
    simp only [hf, Array.getD_eq_getD_getElem?, hv, Option.getD_some]
    exact ⟨trivial, hg⟩
  obtain ⟨x, hx⟩ := hx
  have hsame : ∀ t ∈ o.looksAt ops, a.tmps[t]? = (puts x (dep D p.1) L a0).tmps[t]? := fun t ht => by
    rcases Classical.em (∃ q ∈ L, q.2 = t ∧ dep D p.1 q.1 = true) with ⟨q, hq, rfl, hw⟩ | hno
    · have hsq : q.2 < a0.tmps.size := (hall q hq).2.1.1.1
      rw [puts_at x (dep D p.1) L a0 q hn2 hq hw hsq]
      exact (hx q hq (hdeps' _ (hD _ hw))).1
    · rw [puts_not x (dep D p.1) L a0 t fun q hq e => by
        cases hw : dep D p.1 q.1
        · rfl
        · exact absurd ⟨q, hq, e, hw⟩ hno]
      refine I.old t fun q hq e => ?_
      rcases hlooks t ht q hq with (h | h) | h
      · exact absurd e h
      · exact absurd ⟨q, hq, e, h⟩ hno
      · cases hl : listed.getD q.1 false
        · rfl
        · cases hoq : ops[q.1]? with
          | none => rw [hoq] at h; cases h
          | some o' =>
            rw [hoq] at h
            have := I.closed q hq hl o' hoq p.1 h
            rw [hunF] at this; cases this
  have hS := hstep p hp o ho x w I.grow fun q hq hw => (hx q hq (hdeps' _ (hD _ hw))).2 (Or.inr (Or.inr ⟨p, hp, hw, hunF⟩))
  rw [← wanted_of hsame] at hS
  have keep : ∀ v w', Below (if mu p.1 then w0.heap.size else w.heap.size) w w' → G p.1 v w' → InvK N ops D st kp L G a0 w0 listed0 (listed.setIfInBounds p.1 true) (a.put o.dst v) w' := fun v w' hb hg => by
    have hput : ∀ s, s ≠ p.2 → (a.put o.dst v).tmps[s]? = a.tmps[s]? := fun s hs => by
      rw [hdst]; simp [Act.put, Array.getElem?_setIfInBounds_ne (Ne.symm hs)]
    have hputp : (a.put o.dst v).tmps[p.2]? = some v := by
      rw [hdst]; simp [Act.put, I.size, hsz]
    have hset : ∀ j, j ≠ p.1 → (listed.setIfInBounds p.1 true).getD j false = listed.getD j false := fun j hj => getD_set_ne false (Ne.symm hj)
    have hsetp : (listed.setIfInBounds p.1 true).getD p.1 false = true := by simp [hli]
    have uniq : ∀ q ∈ L, q.2 = p.2 → q = p := fun q hq e => by
      exact nodup_inj (f := (·.2)) hn2 hq hp e
    have uniq1 : ∀ q ∈ L, q.1 = p.1 → q = p := fun q hq e => by
      exact nodup_inj (f := (·.1)) hn1 hq hp e
    have hb0 : Below w0.heap.size w w' := hb.mono (by split; exact Nat.le_refl _; exact I.grow.size)
    refine ⟨I.grow.trans hb0, ?_, ?_, ?_, fun s hs => ?_, fun q hq hl => ?_, fun q hq hl o' ho' j hj => ?_, fun s hs ht => ?_⟩
    · rw [hdst]; exact I.defers
    · rw [hdst]; simp [Act.put, I.size]
    · simp [I.lsize]
    · have hsp : s ≠ p.2 := fun e => by
        have := hs p hp e.symm
        rw [hsetp] at this; cases this
      rw [hput s hsp]
      refine I.old s fun q hq e => ?_
      have := hs q hq e
      have hqp : q.1 ≠ p.1 := fun e2 => hsp (by rw [← e, uniq1 q hq e2])
      rwa [hset _ hqp] at this
    · by_cases e : q.1 = p.1
      · obtain rfl := uniq1 q hq e
        exact ⟨v, hputp, fun _ => hg⟩
      · rw [hset _ e] at hl
        obtain ⟨u, hu, hgu⟩ := I.new q hq hl
        have : q.2 ≠ p.2 := fun e2 => e (by rw [uniq q hq e2])
        refine ⟨u, by rw [hput _ this]; exact hu, fun hlv => ?_⟩
        have hlv0 : liveK D L st kp listed q.1 := by
          rcases hlv with h | h | ⟨r, hr, h1, h2⟩
          · exact Or.inl h
          · exact Or.inr (Or.inl h)
          · refine Or.inr (Or.inr ⟨r, hr, h1, ?_⟩)
            by_cases e3 : r.1 = p.1
            · rw [e3]; exact hunF
            · rw [hset _ e3] at h2; exact h2
        by_cases hm : mu p.1 = true
        · unfold okMuK at hmu
          have h3 := List.all_eq_true.1 hmu p hp
          rw [hm] at h3
          have h4 := List.all_eq_true.1 (show (L.all fun q => q.1 == p.1 || st q.1 || behind ops ops.size q.1 p.1 || (!kp q.1 && L.all fun r => !dep D r.1 q.1 || r.1 == p.1 || match ops[p.1]? with | none => false | some o => waits o r.1)) = true by simpa using h3) q hq
          by_cases hsq : st q.1 = true
          · exact hst2 _ _ _ _ hsq (hgu hlv0) hb0
          by_cases hbe : behind ops ops.size q.1 p.1 = true
          · exfalso
            have := behind_listed HCL _ _ _ hbe hl
            rw [hunF] at this; cases this
          have h4' : (!kp q.1 && L.all fun r => !dep D r.1 q.1 || r.1 == p.1 || match ops[p.1]? with | none => false | some o => waits o r.1) = true := by simpa [e, hsq, hbe] using h4
          rw [Bool.and_eq_true] at h4'
          rcases hlv with h | h | ⟨r, hr, h1, h2⟩
          · exact absurd h hsq
          · rw [h] at h4'; cases h4'.1
          · · exfalso
              have h5 := List.all_eq_true.1 h4'.2 r hr
              rw [h1, ho] at h5
              by_cases e3 : r.1 = p.1
              · rw [e3, hsetp] at h2; cases h2
              · have h6 : waits o r.1 = true := by simpa [e3] using h5
                have h7 := hdeps' _ h6
                rw [hset _ e3, h7] at h2; cases h2
        · rw [if_neg hm] at hb
          exact hst _ _ _ _ (hgu hlv0) hb
    · by_cases e : q.1 = p.1
      · obtain rfl := uniq1 q hq e
        rw [ho] at ho'
        cases ho'
        have := hdeps' j hj
        exact getD_set_true this
      · rw [hset _ e] at hl
        exact getD_set_true (I.closed q hq hl o' ho' j hj)
    · rw [getD_set_ne true (show p.1 ≠ s by omega)]
      exact I.tail s hs ht
  unfold wpOp
  rw [ho]
  show if Region.wanted o (yielded ops a.tmps) = true then _ else _
  rcases hS with ⟨hw, hm⟩ | ⟨hw, hg⟩
  · rw [if_pos hw]
    refine Or.inl (wp_of_makes (N := fun v w' => Below (if mu p.1 then w0.heap.size else w.heap.size) w w' ∧ G p.1 v w') ?_ fun v w' h => keep v w' h.1 h.2)
    unfold makes at hm ⊢
    rw [exec_of hsel' hsame]
    exact hm
  · rw [hw, if_neg (by decide)]
    exact keep _ _ (Below.refl _ _) hg
theorem done_eqK {N : Nat} (hn2 : (L.map (·.2)).Nodup) (hsz : ∀ q ∈ L, q.2 < a0.tmps.size) {listed : Array Bool} {a : Act} {w : World} (I : InvK N ops D st kp L G a0 w0 listed0 listed a w) (hl : ∀ q ∈ L, listed.getD q.1 false = true) (hn1 : (L.map (·.1)).Nodup) :
    ∃ x : Nat → Value, (∀ q ∈ L, (st q.1 = true ∨ kp q.1 = true) → G q.1 (x q.1) w) ∧ a = puts x (fun _ => true) L a0 := by
  have hx : ∃ x : Nat → Value, ∀ q ∈ L, a.tmps[q.2]? = some (x q.1) ∧ ((st q.1 = true ∨ kp q.1 = true) → G q.1 (x q.1) w) := by
    refine ⟨fun j => match L.find? (fun q => q.1 == j) with | some q => a.tmps.getD q.2 undef | none => undef, fun q hq => ?_⟩
    obtain ⟨v, hv, hg⟩ := I.new q hq (hl q hq)
    have hf : L.find? (fun r => r.1 == q.1) = some q := by
      cases hfd : L.find? (fun r => r.1 == q.1) with
      | none => have := List.find?_eq_none.1 hfd q hq; simp at this
      | some r =>
        have h1 := List.find?_some hfd
        have h2 := List.mem_of_find?_eq_some hfd
        have e : r.1 = q.1 := by simpa using h1
        have : r = q := by
          exact nodup_inj (f := (·.1)) hn1 h2 hq e
        rw [this]
    simp only [hf, Array.getD_eq_getD_getElem?, hv, Option.getD_some]
    exact ⟨trivial, fun h => hg (h.elim Or.inl fun h => Or.inr (Or.inl h))⟩
  obtain ⟨x, hx⟩ := hx
  refine ⟨x, fun q hq => (hx q hq).2, ?_⟩
  have ht : a.tmps = (puts x (fun _ => true) L a0).tmps := by
    apply Array.ext_getElem?
    intro s
    rcases Classical.em (∃ q ∈ L, q.2 = s) with ⟨q, hq, rfl⟩ | hno
    · rw [puts_at x _ L a0 q hn2 hq rfl (hsz q hq), (hx q hq).1]
    · rw [puts_not x _ L a0 s fun q hq e => absurd ⟨q, hq, e⟩ hno]
      exact I.old s fun q hq e => absurd ⟨q, hq, e⟩ hno
  have hd : a.defers = (puts x (fun _ => true) L a0).defers := by rw [puts_defers, I.defers]
  cases a
  simp only at ht hd
  rw [ht, hd]
theorem head_ofK {N : Nat} {listed : Array Bool} {a : Act} {w : World} (hls : listed0.size = ops.size) (hany : ∀ i, i < N → ∃ q ∈ L, q.1 = i) (I : InvK N ops D st kp L G a0 w0 listed0 listed a w) : HeadInv .any ops N listed := by
  refine ⟨by rw [I.lsize, hls], fun j oj hj hl e he hb => ?_, I.tail⟩
  have hlt : j < ops.size := (Array.getElem?_eq_some_iff.1 hj).1
  rcases Nat.lt_or_ge j N with h | h
  · obtain ⟨q, hq, rfl⟩ := hany j h
    exact I.closed q hq hl oj hj e.on (waits_iff.2 ⟨e, he, hb, rfl⟩)
  · have h1 := I.tail j h hlt
    have hs : listed.size = ops.size := by rw [I.lsize, hls]
    have hlt2 : j < listed.size := by omega
    simp only [Array.getD_eq_getD_getElem?, Array.getElem?_eq_getElem hlt2, Option.getD_some] at h1 hl
    rw [h1] at hl; cases hl
theorem wpAny_K {N g : Nat} (hok : okT N ops listed0 a0.tmps.size D L = true) (hmu : okMuK ops D L mu st kp = true) (hN : N < ops.size) (hs : Region.sinkB .any ops N = true) (hc : Region.chainB .any ops N = true)
    (hst : ∀ i v w w', G i v w → Below w.heap.size w w' → G i v w') (hst2 : ∀ i v w w', st i = true → G i v w → Below w0.heap.size w w' → G i v w') (hstep : ∀ p ∈ L, StepM P ops D L G mu a0 w0 p)
    (hdone : ∀ (listed : Array Bool) (a : Act) (w : World), InvK N ops D st kp L G a0 w0 listed0 listed a w → (∀ i, i < N → listed.getD i true = true) → wpAny P .any ops Q g listed a w) :
    ∀ (m : Nat) (listed : Array Bool) (a : Act) (w : World), todo listed N = m → InvK N ops D st kp L G a0 w0 listed0 listed a w → wpAny P .any ops Q (m + g) listed a w
  | 0, listed, a, w, hm, I => by
    rw [Nat.zero_add]
    exact hdone _ _ _ I (todo_zero listed N hm)
  | m + 1, listed, a, w, hm, I => by
    have hok' := hok
    unfold okT at hok'
    simp only [Bool.and_eq_true, decide_eq_true_eq, List.all_eq_true, beq_iff_eq] at hok'
    obtain ⟨⟨⟨hls, hany⟩, _, _⟩, _⟩ := hok'
    have hany' : ∀ i, i < N → ∃ q ∈ L, q.1 = i := fun i hi => by
      obtain ⟨q, hq, e⟩ := List.any_eq_true.1 (hany i (List.mem_range.2 hi))
      exact ⟨q, hq, by simpa using e⟩
    have HI := head_ofK hls hany' I
    obtain ⟨i0, hi0, hu0⟩ := todo_pos listed N (by omega)
    rw [show m + 1 + g = (m + g) + 1 by omega]
    refine ⟨fun h0 => ?_, fun i hi => ?_⟩
    · exfalso
      obtain ⟨q, hq, rfl⟩ := hany' i0 hi0
      have := all_listedT hok I.lsize h0 q hq
      have hlt : q.1 < listed.size := by rw [I.lsize, hls]; omega
      simp only [Array.getD_eq_getD_getElem?, Array.getElem?_eq_getElem hlt, Option.getD_some] at this hu0
      rw [this] at hu0; cases hu0
    · have hiN : i < N := by
        rcases Nat.lt_or_ge i N with h | h
        · exact h
        · exact absurd hi (tail_waits hs hc hN HI _ i0 rfl hi0 hu0 i h)
      refine wpOp_mono (fun a' w' I' => wpAny_K hok hmu hN hs hc hst hst2 hstep hdone m _ a' w' ?_ I') (step_invK hok hmu hst hst2 hstep I hi hiN)
      have := todo_set listed i (mem_ready.1 hi).1 N
      rw [if_pos hiN] at this
      omega
end
/-- such a region, from its begin on -/
theorem wp_region_ordK {P : Program} {l : List Oper} {Q : Exit → Act → World → Prop} {a0 : Act} {w : World} {id : Nat} (N : Nat) (D : List (List Nat)) (L : List (Nat × Nat)) (G : Nat → Value → World → Prop) (mu st kp : Nat → Bool) (hm : P.follows .mixedOrders = true)
    (hok : okT N l.toArray (Array.replicate l.toArray.size false) a0.tmps.size D L = true) (hB : (decide (N < l.toArray.size) && Region.sinkB .any l.toArray N && Region.chainB .any l.toArray N && Region.seqB .any l.toArray (l.toArray.size - N) N (Array.replicate N true ++ Array.replicate (l.toArray.size - N) false)) = true)
    (hmu : okMuK l.toArray D L mu st kp = true)
    (hst : ∀ i v w w', G i v w → Below w.heap.size w w' → G i v w') (hst2 : ∀ i v w0 w', st i = true → G i v w0 → Below w.heap.size w0 w' → G i v w') (hstep : ∀ p ∈ L, StepM P l.toArray D L G mu a0 w.drew p)
    (hdone : ∀ (x : Nat → Value) (w' : World), Below w.heap.size w w' → (∀ q ∈ L, (st q.1 = true ∨ kp q.1 = true) → G q.1 (x q.1) w') → wpList P l.toArray Q (l.drop N) (puts x (fun _ => true) L a0) w') :
    (Code.region id l.toArray true).wp P Q a0 w := by
  simp only [Bool.and_eq_true, decide_eq_true_eq] at hB
  obtain ⟨⟨⟨hN, hs⟩, hc⟩, hseq⟩ := hB
  have hok' := hok
  unfold okT at hok'
  simp only [Bool.and_eq_true, decide_eq_true_eq, List.all_eq_true, beq_iff_eq] at hok'
  obtain ⟨⟨_, hn1, hn2⟩, hall⟩ := hok'
  refine wp_region_any hm ?_
  have hF : ∀ i, (Array.replicate l.toArray.size false).getD i false = false := fun i => getD_replicate_false _ _
  have key := wpAny_K (P := P) (Q := Q) (w0 := w.drew) (g := l.toArray.size - N) hok hmu hN hs hc hst hst2 hstep (fun listed a w1 I hl => by
    have hall' : ∀ q ∈ L, listed.getD q.1 false = true := fun q hq => by
      have h1 := hl q.1 (hall q hq).1
      have hlt : q.1 < listed.size := by rw [I.lsize]; simp; have := (hall q hq).1; simp at hN; omega
      simp only [Array.getD_eq_getD_getElem?, Array.getElem?_eq_getElem hlt, Option.getD_some] at h1 ⊢
      exact h1
    obtain ⟨x, hx, rfl⟩ := done_eqK hn2 (fun q hq => (hall q hq).2.1.1.1) I hall' hn1
    have hls : listed.size = l.toArray.size := by rw [I.lsize]; simp
    have hle : listed = Array.replicate N true ++ Array.replicate (l.toArray.size - N) false := by
      apply Array.ext
      · simp at hls hN ⊢; omega
      · intro i h1 h2
        rcases Nat.lt_or_ge i N with h | h
        · have h3 := hl i h
          simp only [Array.getD_eq_getD_getElem?, Array.getElem?_eq_getElem h1, Option.getD_some] at h3
          rw [h3, Array.getElem_append_left (by simpa using h)]; simp
        · have h3 := I.tail i h (by omega)
          simp only [Array.getD_eq_getD_getElem?, Array.getElem?_eq_getElem h1, Option.getD_some] at h3
          rw [h3, Array.getElem_append_right (by simpa using h)]; simp
    have hdl : (l.drop N).length = l.toArray.size - N := by simp
    have := wpAny_of_seq (P := P) (md := .any) (Q' := Q) (ops := l.toArray) (l.drop N) N listed (puts x (fun _ => true) L a0) w1 (fun j => by simp [List.getElem?_drop]) (by rw [hdl, hle]; exact hseq) (hdone x w1 ⟨I.grow.os, I.grow.tape, I.grow.output, I.grow.size, I.grow.block⟩ hx)
    rwa [hdl] at this) N (Array.replicate l.toArray.size false) a0 w.drew (todo_none _ _ (Nat.le_of_lt hN)) ⟨Below.refl _ _, rfl, rfl, rfl, fun _ _ => rfl, (fun q hq hl => absurd hl (by rw [hF]; decide)), (fun q hq hl => absurd hl (by rw [hF]; decide)), (fun t _ ht => getD_in (by simpa using ht) (hF t))⟩
  rw [show N + (l.toArray.size - N) = l.toArray.size by omega] at key
  exact key
end Go.Proofs.YtogcfaijphpgfaaDoor.ord
/- The reference of layer 6: Fold. -/
namespace Go.Proofs.YtogcfaijphpgfaaDoor
open Go.RowKit
theorem strCells_bytes (s : ByteArray) : Lib.strCells s = bytesL s.size (by_ s) := by
  unfold Lib.strCells bytesL
  apply List.ext_getElem?
  intro j
  by_cases hj : j < s.size
  · have hj' : j < s.data.toList.length := by rw [Array.length_toList]; exact hj
    rw [List.getElem?_map, List.getElem?_map, List.getElem?_range hj, List.getElem?_eq_getElem hj']
    show some (Value.int .u8 ((s.data.toList[j]).toNat : Nat)) = some (Value.int .u8 ((by_ s j : Nat) : Int))
    unfold by_
    rw [List.getD_eq_getElem?_getD, List.getElem?_eq_getElem hj']
    rfl
  · rw [List.getElem?_eq_none (by rw [List.length_map, Array.length_toList]; exact Nat.le_of_not_lt hj), List.getElem?_eq_none (by rw [List.length_map, List.length_range]; exact Nat.le_of_not_lt hj)]
theorem run_appS (w : World) (base : Nat) (v : Value) (n : Nat) (f : Nat → Nat) (hown : OwnB w base v n f) (s : ByteArray) (hn : n + s.size ≤ 100000000000000) (hbase : base ≤ w.heap.size) (hf : ∀ j, j < n → f j < 256) :
    ∃ A' c' w', (Builtin.append_ #[22, 9] 22 #[v, .string s]).run Tryd.prog w = .ok (.slice A' (n + s.size) c') w' ∧ SlB w' A' (n + s.size) (catB n f (by_ s)) ∧ (A' = none → n + s.size = 0 ∧ c' = 0) ∧ Below base w w' := by
  obtain ⟨i, hi, hz, hsz, hb⟩ := info_parts info8
  obtain ⟨v', w', hr, h1, h2, _⟩ := Lib.run_append_own_string (P := Tryd.prog) w base 22 9 22 5 i Tryd.underlying22 Tryd.underlying9 hi hz hsz hb v n _ hown s (by unfold maxLen; omega) (by omega) hbase
  rw [strCells_bytes, bytesL_cat] at h1
  obtain ⟨A', c', rfl, hsl⟩ := OwnB.slice (f := catB n f (by_ s)) h1 (catB_lt hf fun j _ => by_lt s j)
  obtain ⟨A2, c2, e, _, _, h4⟩ := OwnB.cap_le (f := catB n f (by_ s)) h1
  cases e
  exact ⟨A', c', w', hr, hsl, h4, (Below.refl base w).grown h2 hbase fun k hk => (hown.lt k hk).1⟩
namespace ord
theorem makes_append2 {P : Program} {o : Oper} {a : Act} {w : World} {N : Value → World → Prop} {s x : Operand} {t u : TypeId} {vs vx v : Value} {w' : World} (ho : o.op = .call { callee := .builtin .append, args := #[s, x], argTypes := #[t, u] }) (ht : o.type = t) (hs : a.eval s = vs) (hx : a.eval x = vx)
    (hrun : (Builtin.append_ #[t, u] t #[vs, vx]).run P w = .ok v w') (hN : N v w') : makes P o a w N := by
  unfold makes
  have : (execOp a.eval o).run P w = .ok (.value v) w' := by
    simp [execOp, ho, ht, resolve, invoke, builtin, hs, hx, hrun, Result.andThen]
  rw [this]; exact hN
end ord
theorem run_idxS (B o n c q : Nat) (hq : q < n) (w : World) : (Instr.indexAt 34 (.slice (some ⟨B, o, none⟩) n c) (.int .i64 (q : Nat))).run Tryd.prog w = .ok (.pointer (some ⟨B, o + q, none⟩)) w := by
  have hq2 : (q : Int) < n := by omega
  go_simp
theorem run_loadS (p : Addr) (x : ByteArray) (w : World) (h : w.cell? p = some (.string x)) : (Instr.loadAt 9 (.pointer (some p))).run Tryd.prog w = .ok (.string x) w := by
  go_simp
theorem run_lenS (s : ByteArray) (w : World) : (Builtin.len_ #[9] 3 #[.string s]).run Tryd.prog w = .ok (.int .i64 (s.size : Int)) w := by go_simp
--DEFS rf
def rfG (B o L cL k m : Nat) (A2 : Option Addr) (c2 : Nat) (F : Nat → Nat) (s : ByteArray) (base : Nat) : Nat → Value → World → Prop
  | 0, v, _ => v = .slice A2 m c2
  | 1, v, _ => v = .slice (some ⟨B, o, none⟩) L cL
  | 2, v, _ => v = .int .i64 (k : Nat)
  | 3, v, _ => v = .pointer (some ⟨B, o + k, none⟩)
  | 4, v, _ => v = .string s
  | 5, v, _ => v = .int .i64 (s.size : Nat)
  | 6, v, w => (∃ A c, v = .slice A 8 c) ∧ OwnB w base v 8 (len8 s.size) ∧ base ≤ w.heap.size
  | 7, v, _ => v = .slice (some ⟨B, o, none⟩) L cL
  | 8, v, _ => v = .int .i64 (k : Nat)
  | 9, v, _ => v = .pointer (some ⟨B, o + k, none⟩)
  | 10, v, _ => v = .string s
  | 11, v, w => ∃ A c, v = .slice A (8 + s.size) c ∧ SlB w A (8 + s.size) (catB 8 (len8 s.size) (by_ s)) ∧ (A = none → 8 + s.size = 0 ∧ c = 0)
  | 12, v, w => ∃ A c, v = .slice A 32 c ∧ SlB w A 32 (tag m F (8 + s.size) (catB 8 (len8 s.size) (by_ s)))
  | _, _, _ => True
theorem rfG_stays (B o L cL k m : Nat) (A2 : Option Addr) (c2 : Nat) (F : Nat → Nat) (s : ByteArray) (base : Nat) : ∀ i v w w', rfG B o L cL k m A2 c2 F s base i v w → Below w.heap.size w w' → rfG B o L cL k m A2 c2 F s base i v w'
  | 0, _, _, _, h, _ => h
  | 1, _, _, _, h, _ => h
  | 2, _, _, _, h, _ => h
  | 3, _, _, _, h, _ => h
  | 4, _, _, _, h, _ => h
  | 5, _, _, _, h, _ => h
  | 6, v, w, w', h_, hb => by
    exact ⟨h_.1, h_.2.1.keep hb, Nat.le_trans h_.2.2 hb.size⟩
  | 7, _, _, _, h, _ => h
  | 8, _, _, _, h, _ => h
  | 9, _, _, _, h, _ => h
  | 10, _, _, _, h, _ => h
  | 11, v, w, w', h_, hb => by
    obtain ⟨A, c, h1, h2, h3⟩ := h_; exact ⟨A, c, h1, h2.keep hb, h3⟩
  | 12, v, w, w', h_, hb => by
    obtain ⟨A, c, h1, h2⟩ := h_; exact ⟨A, c, h1, h2.keep hb⟩
  | _ + 13, _, _, _, _, _ => trivial
def rfG_mu (i : Nat) : Bool := i == 11
def rfG_st (i : Nat) : Bool := !(i == 6 || i == 11 || i == 12)
theorem rfG_steady (B o L cL k m : Nat) (A2 : Option Addr) (c2 : Nat) (F : Nat → Nat) (s : ByteArray) (base : Nat) : ∀ i v w w', rfG_st i = true → rfG B o L cL k m A2 c2 F s base i v w → rfG B o L cL k m A2 c2 F s base i v w'
  | 0, _, _, _, _, h => h
  | 1, _, _, _, _, h => h
  | 2, _, _, _, _, h => h
  | 3, _, _, _, _, h => h
  | 4, _, _, _, _, h => h
  | 5, _, _, _, _, h => h
  | 6, _, _, _, h, _ => absurd h (by decide)
  | 7, _, _, _, _, h => h
  | 8, _, _, _, _, h => h
  | 9, _, _, _, _, h => h
  | 10, _, _, _, _, h => h
  | 11, _, _, _, h, _ => absurd h (by decide)
  | 12, _, _, _, h, _ => absurd h (by decide)
  | _ + 13, _, _, _, _, _ => trivial
--END DEFS rf
def rfG_kp (i : Nat) : Bool := i == 12
set_option maxRecDepth 100000 in
set_option maxHeartbeats 1600000 in
theorem rfold_any (A : Option Addr) (n c : Nat) (key : Nat → Nat) (AL : Option Addr) (L cL : Nat) (s : Nat → ByteArray) (w0 : World) (hn : n ≤ 1000000000000) (hA : SlB w0 A n key) (hnil : A = none → n = 0 ∧ c = 0) (hL : L ≤ 1000000) (hS : SlS w0 AL L s) (hsz : ∀ j, j < L → (s j).size ≤ 900000000000) :
    Calls Tryd.prog 19 #[.slice A n c, .slice AL L cL] w0 fun e w' => (∃ A' c', e = .returned (.slice A' (fkN n L) c') ∧ SlB w' A' (fkN n L) (fkF n key s L)) ∧ Below w0.heap.size w0 w' := by
  have HA := Lib.hid (hA.keep (alloc_below w0 (.cells #[] 5)))
  have HKB := Lib.hid (show By n key from fun j hj => hA.byte hj)
  have HNI := Lib.hid hnil
  have HN := Lib.hid hn
  have HS := Lib.hid hS
  have HSZ := Lib.hid hsz
  have HE := Lib.hid (OwnB.empty w0 w0.heap.size key (Nat.le_refl _))
  have HB0 := Lib.hid (alloc_below w0 (.cells #[] 5))
  clear hn hA hnil hS hsz
  go_enter Tryd.func19, Tryd.ntmps19
  go_wp2_with (refine wpList_appO rfl (.tmp 7) (.tmp 8) rfl w0.heap.size _ 0 key rfl HE.out A n c key rfl HA.out HNI.out (by have := HN.out; omega) HB0.out.size (fun j hj => absurd hj (Nat.not_lt_zero j)) HKB.out ?_; intro A1 c1 w1 h1 h2 h3 h4; rw [Nat.zero_add] at h1 h2 h3 ⊢; have HS1 := Lib.hid (SlB.congr (f' := key) h2 fun j _ => rfl); have HN1 := Lib.hid h3.2.2; have HB1 := Lib.hid (HB0.out.trans h4); clear h1 h2 h3 h4)
  go_loopw [5, 6] (fun v i wr => ∃ (k : Nat) (A2 : Option Addr) (c2 : Nat), k ≤ L ∧ i = .int .i64 k ∧ v = .slice A2 (fkN n k) c2 ∧ SlB wr A2 (fkN n k) (fkF n key s k) ∧ (A2 = none → fkN n k = 0 ∧ c2 = 0) ∧ Below w0.heap.size w0 wr) (fun _ i _ => L - (intOf i).toNat)
  case atStart => exact ⟨0, A1, c1, Nat.zero_le _, rfl, rfl, HS1.out, HN1.out, HB1.out⟩
  case round =>
    obtain ⟨k, A2, c2, hk, rfl, rfl, h1, h2, h3⟩ := hrel
    have G1 := Lib.hid h1
    have HNA := Lib.hid h2
    have G3 := Lib.hid h3
    have HMM := Lib.hid (fkN_le (n := n) HN.out (by decide) k)
    clear h1 h2 h3
    by_cases hlt : k < L
    · obtain ⟨B, o, rfl, hB, hsa⟩ := HS.out (by omega)
      have HCE := Lib.hid (show ∀ w', Below wr.heap.size wr w' → w'.cell? ⟨B, o + k, none⟩ = some (.string (s k)) from fun w' hb => (hsa.keep (G3.out.trans (hb.mono G3.out.size))) k hlt)
      have HAK := Lib.hid (show ∀ w', Below wr.heap.size wr w' → SlB w' A2 (fkN n k) (fkF n key s k) from fun w' hb => G1.out.keep hb)
      have HSS2 := Lib.hid (HSZ.out k hlt)
      have HSS := Lib.hid (Nat.le_trans HSS2.out (show 900000000000 ≤ 140737488351232 by decide))
      have HNX := Lib.hid (show fkF n key s (k + 1) = tag (fkN n k) (fkF n key s k) (8 + (s k).size) (catB 8 (len8 (s k).size) (by_ (s k))) from rfl)
      have HN1 := Lib.hid (show fkN n (k + 1) = 32 from rfl)
      have hlti : (k : Int) < L := by omega
      have hk5 : k < L := hlt
      clear hsa hB
      obtain ⟨x, hx⟩ : ∃ x, s k = x := ⟨_, rfl⟩
      obtain ⟨m, hm⟩ : ∃ m, fkN n k = m := ⟨_, rfl⟩
      obtain ⟨F, hF⟩ : ∃ F, fkF n key s k = F := ⟨_, rfl⟩
      rw [hx, hm, hF] at HNX
      rw [hx] at HCE HSS HSS2
      rw [hm] at HMM HNA
      rw [hm, hF] at HAK
      rw [hm]
      clear G1 hx hm hF
      go_wp2_with fail
      refine ord.wp_region_ordK 13 [[], [], [], [1, 2], [3], [4], [5], [], [], [7, 8], [9], [6, 10], [0, 11]] [(0, 16), (1, 17), (2, 18), (3, 19), (4, 20), (5, 21), (6, 22), (7, 23), (8, 24), (9, 25), (10, 26), (11, 27), (12, 28)] (rfG B o L cL k m A2 c2 F x wr.heap.size) rfG_mu rfG_st rfG_kp (by kernel_rfl) (by kernel_rfl) (by kernel_rfl) (by kernel_rfl) (rfG_stays _ _ _ _ _ _ _ _ _ _ _) (fun i v w0 w' h1 h2 _ => rfG_steady _ _ _ _ _ _ _ _ _ _ _ i v w0 w' h1 h2) ((ord.steps_cons ?_ (ord.steps_cons ?_ (ord.steps_cons ?_ (ord.steps_cons ?_ (ord.steps_cons ?_ (ord.steps_cons ?_ (ord.steps_cons ?_ (ord.steps_cons ?_ (ord.steps_cons ?_ (ord.steps_cons ?_ (ord.steps_cons ?_ (ord.steps_cons ?_ (ord.steps_cons ?_ ord.steps_nil)))))))))))))) ?_
      --STEPS rf
      · intro oo ho y w hb hG
        obtain rfl := Option.some.inj ho
        clear ho
        refine Or.inl ⟨ord.want0 rfl, ?_⟩
        exact ord.makes_move rfl ⟨Below.refl _ _, rfl⟩
      · intro oo ho y w hb hG
        obtain rfl := Option.some.inj ho
        clear ho
        refine Or.inl ⟨ord.want0 rfl, ?_⟩
        exact ord.makes_move rfl ⟨Below.refl _ _, rfl⟩
      · intro oo ho y w hb hG
        obtain rfl := Option.some.inj ho
        clear ho
        refine Or.inl ⟨ord.want0 rfl, ?_⟩
        exact ord.makes_move rfl ⟨Below.refl _ _, rfl⟩
      · intro oo ho y w hb hG
        obtain rfl := Option.some.inj ho
        clear ho
        have h17 : y 1 = .slice (some ⟨B, o, none⟩) L cL := hG (1, 17) (List.mem_of_getElem? (i := 1) rfl) rfl
        have h18 : y 2 = .int .i64 (k : Nat) := hG (2, 18) (List.mem_of_getElem? (i := 2) rfl) rfl
        refine Or.inl ⟨ord.want0 rfl, ?_⟩
        exact ord.makes_indexAddr rfl h17 h18 (run_idxS B o L cL k hk5 w) ⟨Below.refl _ _, rfl⟩
      · intro oo ho y w hb hG
        obtain rfl := Option.some.inj ho
        clear ho
        have h19 : y 3 = .pointer (some ⟨B, o + k, none⟩) := hG (3, 19) (List.mem_of_getElem? (i := 3) rfl) rfl
        refine Or.inl ⟨ord.want0 rfl, ?_⟩
        exact ord.makes_load rfl h19 (run_loadS _ _ w (HCE.out w (of_drew hb))) ⟨Below.refl _ _, rfl⟩
      · intro oo ho y w hb hG
        obtain rfl := Option.some.inj ho
        clear ho
        have h20 : y 4 = .string x := hG (4, 20) (List.mem_of_getElem? (i := 4) rfl) rfl
        refine Or.inl ⟨ord.want0 rfl, ?_⟩
        exact ord.makes_len rfl rfl h20 (run_lenS x w) ⟨Below.refl _ _, rfl⟩
      · intro oo ho y w hb hG
        obtain rfl := Option.some.inj ho
        clear ho
        have h21 : y 5 = .int .i64 (x.size : Nat) := hG (5, 21) (List.mem_of_getElem? (i := 5) rfl) rfl
        refine Or.inl ⟨ord.want0 rfl, ?_⟩
        exact ord.makes_call1 Tryd.func29 (by kernel_rfl) (by kernel_rfl) rfl h21 (eight_any x.size w HSS.out) (fun e w' h => by obtain ⟨A, c, he, h2, h4⟩ := h; exact ⟨_, he, h4, ⟨A, c, rfl⟩, h2.less (of_drew hb).size, Nat.le_trans (of_drew hb).size h4.size⟩)
      · intro oo ho y w hb hG
        obtain rfl := Option.some.inj ho
        clear ho
        refine Or.inl ⟨ord.want0 rfl, ?_⟩
        exact ord.makes_move rfl ⟨Below.refl _ _, rfl⟩
      · intro oo ho y w hb hG
        obtain rfl := Option.some.inj ho
        clear ho
        refine Or.inl ⟨ord.want0 rfl, ?_⟩
        exact ord.makes_move rfl ⟨Below.refl _ _, rfl⟩
      · intro oo ho y w hb hG
        obtain rfl := Option.some.inj ho
        clear ho
        have h23 : y 7 = .slice (some ⟨B, o, none⟩) L cL := hG (7, 23) (List.mem_of_getElem? (i := 7) rfl) rfl
        have h24 : y 8 = .int .i64 (k : Nat) := hG (8, 24) (List.mem_of_getElem? (i := 8) rfl) rfl
        refine Or.inl ⟨ord.want0 rfl, ?_⟩
        exact ord.makes_indexAddr rfl h23 h24 (run_idxS B o L cL k hk5 w) ⟨Below.refl _ _, rfl⟩
      · intro oo ho y w hb hG
        obtain rfl := Option.some.inj ho
        clear ho
        have h25 : y 9 = .pointer (some ⟨B, o + k, none⟩) := hG (9, 25) (List.mem_of_getElem? (i := 9) rfl) rfl
        refine Or.inl ⟨ord.want0 rfl, ?_⟩
        exact ord.makes_load rfl h25 (run_loadS _ _ w (HCE.out w (of_drew hb))) ⟨Below.refl _ _, rfl⟩
      · intro oo ho y w hb hG
        obtain rfl := Option.some.inj ho
        clear ho
        have h22 : rfG B o L cL k m A2 c2 F x wr.heap.size 6 (y 6) w := hG (6, 22) (List.mem_of_getElem? (i := 6) rfl) rfl
        have h26 : y 10 = .string x := hG (10, 26) (List.mem_of_getElem? (i := 10) rfl) rfl
        refine Or.inl ⟨ord.want0 rfl, ?_⟩
        obtain ⟨⟨A0, c0, hv⟩, ho, hbs⟩ := h22
        obtain ⟨A1, c1, w1, hr, h1, h2, h3⟩ := run_appS w wr.heap.size _ 8 (len8 x.size) ho x (by have := HSS2.out; omega) hbs (fun j _ => len8_lt _ j)
        exact ord.makes_append2 rfl rfl rfl h26 hr ⟨h3, A1, c1, rfl, h1, h2⟩
      · intro oo ho y w hb hG
        obtain rfl := Option.some.inj ho
        clear ho
        have h16 : y 0 = .slice A2 m c2 := hG (0, 16) (List.mem_of_getElem? (i := 0) rfl) rfl
        have h27 : rfG B o L cL k m A2 c2 F x wr.heap.size 11 (y 11) w := hG (11, 27) (List.mem_of_getElem? (i := 11) rfl) rfl
        refine Or.inl ⟨ord.want0 rfl, ?_⟩
        obtain ⟨A1, c1, hv, hs, hn1⟩ := h27
        exact ord.makes_call2 Tryd.func16 (by kernel_rfl) (by kernel_rfl) rfl h16 hv (rmac_any A2 A1 m c2 (8 + x.size) c1 F _ w HMM.out (by have := HSS2.out; omega) (HAK.out w (of_drew hb)) HNA.out hs hn1) (fun e w' h => by obtain ⟨⟨A3, c3, he, h2, _⟩, h4⟩ := h; exact ⟨_, he, h4, A3, c3, rfl, h2⟩)
      --END STEPS rf
      · intro y w5 hb hG
        have e28 : rfG B o L cL k m A2 c2 F x wr.heap.size 12 (y 12) w5 := hG (12, 28) (List.mem_of_getElem? (i := 12) rfl) (Or.inr rfl)
        clear hG
        obtain ⟨A5, c5, hy, hs5⟩ := e28
        have HS5 := Lib.hid hs5
        have HB5 := Lib.hid (G3.out.trans (hb.mono G3.out.size))
        have HNE := Lib.hid (show A5 = none → 32 = 0 ∧ c5 = 0 from fun e => by
          obtain ⟨B9, o9, e9, _⟩ := hs5 (by decide)
          rw [e] at e9; cases e9)
        clear hb hs5
        simp only [ord.puts, ord.put', List.set_cons_zero, List.set_cons_succ, if_true]
        rw [hy]
        simp only [List.drop_succ_cons, List.drop_zero]
        go_wp2_with fail
        go_roundw
        case rel => exact ⟨k + 1, A5, c5, by omega, by go_num, by rw [HN1.out], by rw [HN1.out, HNX.out]; exact HS5.out, by rw [HN1.out]; exact HNE.out, HB5.out⟩
        case measure => simp [intOf]; omega
    · obtain rfl : k = L := by omega
      go_wp2_with fail
      go_ret
      exact ⟨⟨A2, c2, rfl, G1.out⟩, G3.out⟩
end Go.Proofs.YtogcfaijphpgfaaDoor
