/- 6 texts in one, in their order. -/
import Derived.Test.YtogcfaijphpgfaaDoorPk6
import Derived.SliceStrings
/- Law MacFolds (layer 6): the walk. -/
namespace Go.Proofs.YtogcfaijphpgfaaDoor
open Go.RowKit
--DEFS fo
def foG (A AL A5 : Option Addr) (n c L cL m c5 : Nat) (F : Nat → Nat) : Nat → Value → World → Prop
  | 0, v, _ => v = .slice A5 m c5
  | 1, v, _ => v = .string (strOf m F)
  | 2, v, _ => v = .slice A n c
  | 3, v, _ => v = .slice AL L cL
  | 4, v, w => ∃ A c, v = .slice A m c ∧ SlB w A m F
  | 5, v, _ => v = .string (strOf m F)
  | 6, v, _ => v = .bool true
  | _, _, _ => True
theorem foG_stays (A AL A5 : Option Addr) (n c L cL m c5 : Nat) (F : Nat → Nat) : ∀ i v w w', foG A AL A5 n c L cL m c5 F i v w → Below w.heap.size w w' → foG A AL A5 n c L cL m c5 F i v w'
  | 0, _, _, _, h, _ => h
  | 1, _, _, _, h, _ => h
  | 2, _, _, _, h, _ => h
  | 3, _, _, _, h, _ => h
  | 4, v, w, w', h_, hb => by
    obtain ⟨A, c, h1, h2⟩ := h_; exact ⟨A, c, h1, h2.keep hb⟩
  | 5, _, _, _, h, _ => h
  | 6, _, _, _, h, _ => h
  | _ + 7, _, _, _, _, _ => trivial
--END DEFS fo
set_option maxRecDepth 100000 in
set_option maxHeartbeats 3200000 in
theorem folds_any (A : Option Addr) (n c : Nat) (key : Nat → Nat) (AL : Option Addr) (L cL : Nat) (s : Nat → ByteArray) (w0 : World) (hn : n ≤ 4096) (hL : L ≤ 8) (hA : SlB w0 A n key) (hnA : A = none → n = 0 ∧ c = 0) (hS : SlS w0 AL L s) (ht : GT w0) :
    Calls Tryd.prog 5 #[.slice A n c, .slice AL L cL] w0 fun e w' => e = .returned (.bool true) ∧ Below w0.heap.size w0 w' := by
  have HA := Lib.hid hA
  have HS := Lib.hid hS
  have HT := Lib.hid ht
  have HNA := Lib.hid hnA
  have HF := Lib.hid (show By n key from fun j hj => hA.byte hj)
  have hd1 : decide (4096 < (n : Int)) = false := by simp; omega
  have hd2 : decide (8 < (L : Int)) = false := by simp; omega
  clear hA hS ht hnA
  go_enter Tryd.func5, Tryd.ntmps5
  go_wp2_with fail
  refine (small6_any w0 HT.out).mono ?_
  rintro e w1 ⟨rfl, hb⟩
  have HB1 := Lib.hid hb
  clear hb
  go_wp2_with fail
  go_loop [6] (fun v => ∃ k : Nat, k ≤ L ∧ v = .int .i64 k ∧ ∀ j, j < k → (s j).size ≤ 4096) (fun v => L - (intOf v).toNat)
  case atStart => exact ⟨0, Nat.zero_le _, rfl, fun j hj => absurd hj (Nat.not_lt_zero j)⟩
  case round =>
    obtain ⟨k, hk, rfl, hsz⟩ := hrel
    have HZ := Lib.hid hsz
    clear hsz
    by_cases hlt : k < L
    · have hki : (k : Int) < L := by omega
      obtain ⟨B, o, rfl, hB, hsa⟩ := HS.out (by omega)
      have hcell := (hsa.keep HB1.out) k hlt
      have HZ1 := Lib.hid (fun (h : (s k).size ≤ 4096) => show ∀ j, j < k + 1 → (s j).size ≤ 4096 from fun j hj => by
        rcases Nat.lt_or_ge j k with h1 | h1
        · exact HZ.out j h1
        · obtain rfl : j = k := by omega
          exact h)
      clear hsa hB
      obtain ⟨x, hx⟩ : ∃ x, s k = x := ⟨_, rfl⟩
      rw [hx] at hcell HZ1
      clear hx
      by_cases hxs : 4096 < x.size
      · have hd3 : decide (4096 < (x.size : Int)) = true := by simp; omega
        go_wp2_with fail
        go_ret
        exact ⟨rfl, HB1.out⟩
      · have hd3 : decide (4096 < (x.size : Int)) = false := by simp; omega
        have HZ2 := Lib.hid (HZ1.out (by omega))
        go_wp2_with fail
        go_round
        case rel => exact ⟨k + 1, by omega, by go_num, HZ2.out⟩
        case measure => simp [intOf]; omega
    · obtain rfl : k = L := by omega
      go_wp2_with fail
      refine (lent_any A n c key w1 (by omega) (HA.out.keep HB1.out)).mono ?_
      rintro e w2 ⟨gL, rfl, hgL, hrow, hb2⟩
      have HR2 := Lib.hid hrow
      have HGL := Lib.hid (Nat.le_trans HB1.out.size hgL)
      have HB2 := Lib.hid (HB1.out.trans (hb2.mono HB1.out.size))
      clear hrow hgL hb2
      go_wp2_with fail
      refine (fold_any (some ⟨gL, 0, none⟩) n (n + 1) key AL k cL s w2 (by omega) (lent_slB HR2.out HF.out) (fun h => by cases h) (by omega) (HS.out.keep HB2.out) (fun j hj => Nat.le_trans (HZ.out j hj) (by decide)) (HT.out.keep HB2.out)).mono ?_
      rintro e w3 ⟨⟨v, A5, c5, g5, rfl, hmine⟩, hb3⟩
      obtain rfl := hmine.val
      have HMI := Lib.hid hmine
      have HR3 := Lib.hid (HR2.out.of_block (hb3.block gL HR2.out.lt))
      have HB3 := Lib.hid (HB2.out.trans (hb3.mono HB2.out.size))
      have HGN := Lib.hid (show 0 < c5 → gL < g5 from fun h => Nat.lt_of_lt_of_le HR2.out.lt (hmine.from_ h))
      clear hmine hb3 HR2
      go_wp2_with fail
      refine (kept_any gL A n c key w3 (by omega) (HA.out.keep HB3.out) HR3.out).mono ?_
      rintro e w4 ⟨rfl, rfl⟩
      have HCV := Lib.hid (show ∀ w', Below w3.heap.size w3 w' → (convert 22 9 (.slice A5 (fkN n k) c5)).run Tryd.prog w' = .ok (.string (strOf (fkN n k) (fkF n key s k))) w' from fun w' hb => convSl (HMI.out.row.keep hb) (Nat.le_refl _))
      have HRF := Lib.hid (show ∀ w', Below w3.heap.size w3 w' → Calls Tryd.prog 19 #[.slice A n c, .slice AL k cL] w' fun e w'' => (∃ A' c', e = .returned (.slice A' (fkN n k) c') ∧ SlB w'' A' (fkN n k) (fkF n key s k)) ∧ Below w'.heap.size w' w'' from fun w' hb =>
        rfold_any A n c key AL k cL s w' (by omega) (HA.out.keep (HB3.out.trans (hb.mono HB3.out.size))) HNA.out (by omega) (HS.out.keep (HB3.out.trans (hb.mono HB3.out.size))) (fun j hj => Nat.le_trans (HZ.out j hj) (by decide)))
      have HMM := Lib.hid (show c5 ≤ 9223372036854775807 from Nat.le_trans HMI.out.max (by unfold maxLen; decide))
      have HGB := Lib.hid (show 0 < c5 → w0.heap.size ≤ g5 from fun h => Nat.le_trans HB2.out.size (HMI.out.from_ h))
      clear HZ
      obtain ⟨m, hm⟩ : ∃ m, fkN n k = m := ⟨_, rfl⟩
      obtain ⟨F, hF⟩ : ∃ F, fkF n key s k = F := ⟨_, rfl⟩
      rw [hm, hF] at HCV HRF HMI
      rw [hm]
      clear hm hF
      go_wp2_with fail
      refine ord.wp_region_ordT 7 [[], [0], [], [], [2, 3], [4], [1, 5]] [(0, 43), (1, 44), (2, 45), (3, 46), (4, 47), (5, 48), (6, 49)] (foG A AL A5 n c k cL m c5 F) (by kernel_rfl) (by kernel_rfl) (by kernel_rfl) (foG_stays _ _ _ _ _ _ _ _ _ _) ((ord.steps_cons ?_ (ord.steps_cons ?_ (ord.steps_cons ?_ (ord.steps_cons ?_ (ord.steps_cons ?_ (ord.steps_cons ?_ (ord.steps_cons ?_ ord.steps_nil)))))))) ?_
      --STEPS fo
      · intro o ho x w hb hG
        obtain rfl := Option.some.inj ho
        clear ho
        refine Or.inl ⟨ord.want0 rfl, ?_⟩
        exact ord.makes_move rfl ⟨Below.refl _ _, rfl⟩
      · intro o ho x w hb hG
        obtain rfl := Option.some.inj ho
        clear ho
        have h43 : x 0 = .slice A5 m c5 := hG (0, 43) (List.mem_of_getElem? (i := 0) rfl) rfl
        refine Or.inl ⟨ord.want0 rfl, ?_⟩
        exact ord.makes_conv rfl h43 (HCV.out w (of_drew hb)) ⟨Below.refl _ _, rfl⟩
      · intro o ho x w hb hG
        obtain rfl := Option.some.inj ho
        clear ho
        refine Or.inl ⟨ord.want0 rfl, ?_⟩
        exact ord.makes_move rfl ⟨Below.refl _ _, rfl⟩
      · intro o ho x w hb hG
        obtain rfl := Option.some.inj ho
        clear ho
        refine Or.inl ⟨ord.want0 rfl, ?_⟩
        exact ord.makes_move rfl ⟨Below.refl _ _, rfl⟩
      · intro o ho x w hb hG
        obtain rfl := Option.some.inj ho
        clear ho
        have h45 : x 2 = .slice A n c := hG (2, 45) (List.mem_of_getElem? (i := 2) rfl) rfl
        have h46 : x 3 = .slice AL k cL := hG (3, 46) (List.mem_of_getElem? (i := 3) rfl) rfl
        refine Or.inl ⟨ord.want0 rfl, ?_⟩
        exact ord.makes_call2 Tryd.func19 (by kernel_rfl) (by kernel_rfl) rfl h45 h46 (HRF.out w (of_drew hb)) (fun e w' h => by obtain ⟨⟨A', c', he, h2⟩, h4⟩ := h; exact ⟨_, he, h4, A', c', rfl, h2⟩)
      · intro o ho x w hb hG
        obtain rfl := Option.some.inj ho
        clear ho
        have h47 : foG A AL A5 n c k cL m c5 F 4 (x 4) w := hG (4, 47) (List.mem_of_getElem? (i := 4) rfl) rfl
        refine Or.inl ⟨ord.want0 rfl, ?_⟩
        obtain ⟨A', c', hv, hs⟩ := h47
        exact ord.makes_conv rfl hv (convSl hs (Nat.le_refl _)) ⟨Below.refl _ _, rfl⟩
      · intro o ho x w hb hG
        obtain rfl := Option.some.inj ho
        clear ho
        have h44 : x 1 = .string (strOf m F) := hG (1, 44) (List.mem_of_getElem? (i := 1) rfl) rfl
        have h48 : x 5 = .string (strOf m F) := hG (5, 48) (List.mem_of_getElem? (i := 5) rfl) rfl
        refine Or.inl ⟨ord.want0 rfl, ?_⟩
        exact ord.makes_bin rfl h44 h48 (by exact str_same2 _ _ _ _) ⟨Below.refl _ _, rfl⟩
      --END STEPS fo
      · intro x w5 hb hG
        have e49 : x 6 = .bool true := hG (6, 49) (List.mem_of_getElem? (i := 6) rfl)
        clear hG
        have HB5 := Lib.hid (HB3.out.trans (hb.mono HB3.out.size))
        have HO5 := Lib.hid (HMI.out.own.keep hb)
        have HR5 := Lib.hid (HR3.out.of_block (hb.block gL HR3.out.lt))
        clear hb
        simp only [ord.puts, ord.put', List.set_cons_zero, List.set_cons_succ, if_true]
        rw [e49]
        simp only [List.drop_succ_cons, List.drop_zero]
        go_wp2_with fail
        refine (owned_rows 2 w5 #[.slice A5 m c5, .slice (some ⟨gL, 0, none⟩) n (n + 1)] (t2 A5 (some ⟨gL, 0, none⟩)) (t2 m n) (t2 c5 (n + 1)) (t2 g5 gL) (by decide) (fun j hj => by rcases two_of hj with rfl | rfl <;> rfl) (fun j hj => ?_) (fun i j hij hj ci cj => ?_) (fun j hj => ?_)).mono ?_
        · rcases two_of hj with rfl | rfl
          · exact HO5.out
          · exact OwnR.arr (RowX.of_rowIs HR5.out).arr
        · obtain rfl : j = 1 := by omega
          obtain rfl : i = 0 := by omega
          exact Nat.ne_of_gt (HGN.out ci)
        · rcases two_of hj with rfl | rfl
          · exact HMM.out
          · show n + 1 ≤ _; omega
        rintro e w6 ⟨rfl, h6⟩
        have HB6 := Lib.hid (HB5.out.trans (h6.below HB5.out.size fun q hq => by
          obtain ⟨j, hj, hc, rfl⟩ := hq
          rcases two_of hj with rfl | rfl
          · exact HGB.out hc
          · exact HGL.out))
        clear h6
        go_wp2_with fail
        go_ret
        exact ⟨rfl, HB6.out⟩
end Go.Proofs.YtogcfaijphpgfaaDoor
/- Law MacFolds (layer 6): every way. -/
namespace Go.Proofs.YtogcfaijphpgfaaDoor
open Go.RowKit
theorem folds_all (A : Option Addr) (n c : Nat) (key : Nat → Nat) (AL : Option Addr) (L cL : Nat) (s : Nat → ByteArray) (w0 : World) (hn : n ≤ 140737488351232) (hL : L ≤ 140737488351232) (hA : SlB w0 A n key) (hnA : A = none → n = 0 ∧ c = 0) (hS : SlS w0 AL L s) (ht : GT w0) :
    Calls Tryd.prog 5 #[.slice A n c, .slice AL L cL] w0 fun e w' => e = .returned (.bool true) ∧ Below w0.heap.size w0 w' := by
  by_cases h1 : 4096 < n
  · have hd1 : decide (4096 < (n : Int)) = true := decide_eq_true (by omega)
    have HT := Lib.hid ht
    clear hA hS hnA ht
    go_enter Tryd.func5, Tryd.ntmps5
    go_wp2_with fail
    refine (small6_any w0 HT.out).mono ?_
    rintro e w1 ⟨rfl, hb⟩
    have HB1 := Lib.hid hb
    clear hb
    go_wp2_with fail
    go_ret
    exact ⟨rfl, HB1.out⟩
  · have hd1 : decide (4096 < (n : Int)) = false := decide_eq_false (by omega)
    by_cases h2 : 8 < L
    · have hd2 : decide (8 < (L : Int)) = true := decide_eq_true (by omega)
      have HT := Lib.hid ht
      clear hA hS hnA ht
      go_enter Tryd.func5, Tryd.ntmps5
      go_wp2_with fail
      refine (small6_any w0 HT.out).mono ?_
      rintro e w1 ⟨rfl, hb⟩
      have HB1 := Lib.hid hb
      clear hb
      go_wp2_with fail
      go_ret
      exact ⟨rfl, HB1.out⟩
    · have hd2 : decide (8 < (L : Int)) = false := decide_eq_false (by omega)
      exact folds_any A n c key AL L cL s w0 (by omega) (by omega) hA hnA hS ht
end Go.Proofs.YtogcfaijphpgfaaDoor
/- A []string parameter, opened. -/
namespace Go.Proofs.YtogcfaijphpgfaaDoor
open Go.RowKit
open Go.ChangeShapes Go.WideShapes Go.ChangeAt in
theorem open_strs {H : Type} {enc : TypeId × Value → H} {W : World} {base : Nat} {v : Value} {d : DataW H} {p : List MemPlace}
    (hval : Value.okWide Tryd.prog W .any base 34 v) (h : DataW.Trod enc Tryd.prog W 0 (fun _ => true) true 34 v d p) :
    ∃ A n c s, v = .slice A n c ∧ SlS W A n s ∧ (n ≤ c ∧ (A = none → n = 0 ∧ c = 0) ∧ ∃ els sp, (d = .slice els sp ∧ els.length + sp.length = c) ∨ (d = .nil ∧ c = 0)) := by
  obtain ⟨a0, len, cap, rfl⟩ := okWide_slice Tryd.underlying34 hval
  obtain ⟨fuel, hf⟩ := h
  rcases Go.ChangeShapes.open_strings Tryd.underlying34 Tryd.underlying9 (show Tryd.prog.cellsOf 9 = 1 by kernel_rfl) hf with ⟨hcs, hx⟩ | ⟨a, len', cap', ss, hcs, _, hl, hm, hz, hx, hcell, _⟩
  · simp only [Value.cells] at hcs
    injection hcs with hcs
    injection hcs with h1 h2 h3
    subst h1 h2 h3
    injection hx with hd _
    exact ⟨none, 0, 0, fun _ => ByteArray.empty, rfl, fun h => absurd h (Nat.lt_irrefl 0), Nat.le_refl _, fun _ => ⟨rfl, rfl⟩, [], [], Or.inr ⟨hd, rfl⟩⟩
  · simp only [Value.cells] at hcs
    injection hcs with hcs
    injection hcs with h1 h2 h3
    subst h1 h2 h3
    injection hx with hd _
    have hz' : ss.length = cap := by simpa using hz
    refine ⟨some a, len, cap, fun j => ss.getD j ByteArray.empty, rfl, fun hn => ?_, hl, (fun h => by cases h), strs (ss.take len), strs (ss.drop len), Or.inl ⟨hd, by simp [strs]; omega⟩⟩
    obtain ⟨b, off, spot⟩ := a
    have hspot : spot = none := by simpa [Addr.add] using World.cell?_spot (hcell 0 (by omega))
    subst hspot
    refine ⟨b, off, rfl, block_lt (hcell 0 (by omega)), fun j hj => ?_⟩
    have := hcell j (by omega)
    by_cases h0 : j = 0
    · subst h0; simpa [Addr.add] using this
    · simpa [Addr.add, h0] using this
open Go.ChangeShapes Go.WideShapes Go.ChangeAt in
theorem strs_len {H : Type} {ts : List TypeId} {ds : List (DataW H)} (h : (DataW.weightsEach Tryd.prog ts ds).all (· ≤ reachBytes) = true) {j : Nat} {d : DataW H} (ht : ts[j]? = some 34) (hd : ds[j]? = some d)
    {n c : Nat} {X : Prop} (z : n ≤ c ∧ X ∧ ∃ els sp, (d = .slice els sp ∧ els.length + sp.length = c) ∨ (d = .nil ∧ c = 0)) : n ≤ 140737488351232 := by
  obtain ⟨h1, _, els, sp, h2⟩ := z
  rcases h2 with ⟨rfl, h2⟩ | ⟨_, h2⟩
  · have h3 := sized_slice h ht hd Tryd.underlying34
    rw [show Tryd.prog.bytesOf 9 = 16 by kernel_rfl] at h3
    have : reachBytes = 140737488351232 := rfl
    omega
  · omega
end Go.Proofs.YtogcfaijphpgfaaDoor
/- Law MacTags (layer 6): the walk. -/
namespace Go.Proofs.YtogcfaijphpgfaaDoor
open Go.RowKit
theorem OwnB.offK {w : World} {base n c K : Nat} {A : Option Addr} {f : Nat → Nat} (h : OwnB w base (.slice A n c) n f) (hK : K < base) : Off A n K := fun hn B o e => by
  rcases h.2 with ⟨h1, h2⟩ | ⟨g, cap, cur, h1, hg, _⟩
  · omega
  · cases h1
    cases e
    omega
theorem OwnB.offS {w : World} {base n c : Nat} {A : Option Addr} {f : Nat → Nat} (h : OwnB w base (.slice A n c) n f) {S : Nat → Prop} (hS : ∀ k, S k → k < base) : OffS S A n := fun hn B o e => by
  rcases h.2 with ⟨h1, h2⟩ | ⟨g, cap, cur, h1, hg, _⟩
  · omega
  · cases h1
    cases e
    intro hk
    have := hS _ hk
    omega
--DEFS ta
def taG (g n : Nat) (key : Nat → Nat) (A : Option Addr) (na ca : Nat) (B : Option Addr) (nb cb : Nat) (G : Nat → Nat) (A9 : Option Addr) (c9 : Nat) : Nat → Value → World → Prop
  | 0, v, _ => v = .bool true
  | 1, v, _ => v = .bool true
  | 2, v, _ => v = .bool true
  | 3, v, _ => v = .bool true
  | 4, v, _ => v = .bool true
  | 5, v, _ => v = .bool true
  | 6, v, _ => v = .bool true
  | 7, v, _ => v = .bool true
  | 8, v, _ => v = .pointer (some ⟨g, 0, none⟩)
  | 9, v, _ => v = .slice A na ca
  | 10, v, _ => v = .slice B nb cb
  | 11, v, w => ∃ p, v = .slice (some ⟨p, 0, none⟩) 2 2 ∧ w.cell? ⟨p, 0, none⟩ = some (.slice A na ca) ∧ w.cell? ⟨p, 1, none⟩ = some (.slice B nb cb) ∧ ¬ p = g
  | 12, v, w => ∃ d, v = .slice (some ⟨d, 0, none⟩) 32 32 ∧ Arr w d 0 32 (tag n key (na + nb) G) ∧ ¬ d = g
  | 13, v, _ => v = .string (strOf 32 (tag n key (na + nb) G))
  | 14, v, _ => v = .slice A9 32 c9
  | 15, v, _ => v = .string (strOf 32 (tag n key (na + nb) G))
  | 16, v, _ => v = .bool true
  | 17, v, _ => v = .bool true
  | _, _, _ => True
theorem taG_stays (g n : Nat) (key : Nat → Nat) (A : Option Addr) (na ca : Nat) (B : Option Addr) (nb cb : Nat) (G : Nat → Nat) (A9 : Option Addr) (c9 : Nat) : ∀ i v w w', taG g n key A na ca B nb cb G A9 c9 i v w → RelI (fun k => k = g) (fun w => MakAt w g n key) w w' → taG g n key A na ca B nb cb G A9 c9 i v w'
  | 0, _, _, _, h, _ => h
  | 1, _, _, _, h, _ => h
  | 2, _, _, _, h, _ => h
  | 3, _, _, _, h, _ => h
  | 4, _, _, _, h, _ => h
  | 5, _, _, _, h, _ => h
  | 6, _, _, _, h, _ => h
  | 7, _, _, _, h, _ => h
  | 8, _, _, _, h, _ => h
  | 9, _, _, _, h, _ => h
  | 10, _, _, _, h, _ => h
  | 11, v, w, w', h_, hb => by
    obtain ⟨p, h1, h2, h3, h4⟩ := h_; exact ⟨p, h1, (hb.1.cell (block_lt (a := ⟨p, 0, none⟩) h2) h4).trans h2, (hb.1.cell (block_lt (a := ⟨p, 0, none⟩) h2) h4).trans h3, h4⟩
  | 12, v, w, w', h_, hb => by
    obtain ⟨d, h1, h2, h3⟩ := h_; exact ⟨d, h1, h2.chgS hb.1 h3, h3⟩
  | 13, _, _, _, h, _ => h
  | 14, _, _, _, h, _ => h
  | 15, _, _, _, h, _ => h
  | 16, _, _, _, h, _ => h
  | 17, _, _, _, h, _ => h
  | _ + 18, _, _, _, _, _ => trivial
--END DEFS ta
set_option maxRecDepth 100000 in
set_option maxHeartbeats 3200000 in
theorem tags_any (KA : Option Addr) (n c : Nat) (key : Nat → Nat) (A : Option Addr) (na ca : Nat) (fa : Nat → Nat) (B : Option Addr) (nb cb : Nat) (fb : Nat → Nat) (w0 : World) (hn : n ≤ 4096) (hna : na ≤ 4096) (hnb : nb ≤ 4096) (hca : na ≤ ca) (hcb : nb ≤ cb)
    (hK : SlB w0 KA n key) (hA : SlB w0 A na fa) (hB : SlB w0 B nb fb) (nK : KA = none → n = 0 ∧ c = 0) (nA : A = none → na = 0 ∧ ca = 0) (nB : B = none → nb = 0 ∧ cb = 0) (ht : GT w0) :
    Calls Tryd.prog 3 #[.slice KA n c, .slice A na ca, .slice B nb cb] w0 fun e w' => e = .returned (.bool true) ∧ Below w0.heap.size w0 w' := by
  have HK := Lib.hid hK
  have HA := Lib.hid hA
  have HB := Lib.hid hB
  have HNK := Lib.hid nK
  have HNA := Lib.hid nA
  have HNB := Lib.hid nB
  have HT := Lib.hid ht
  have HF := Lib.hid (show By n key from fun j hj => hK.byte hj)
  have HFA := Lib.hid (show By na fa from fun j hj => hA.byte hj)
  have HFB := Lib.hid (show By nb fb from fun j hj => hB.byte hj)
  have HCA := Lib.hid hca
  have HCB := Lib.hid hcb
  obtain ⟨G, hG⟩ : ∃ G, catB na fa fb = G := ⟨_, rfl⟩
  have HGE := Lib.hid hG
  have HG0 := Lib.hid (show ∀ j, j < na → G j = fa j from fun j hj => by rw [← hG]; unfold catB; rw [if_pos hj])
  have HG1 := Lib.hid (show ∀ j, j < nb → G (na + j) = fb j from fun j _ => by rw [← hG]; unfold catB; rw [if_neg (by omega), Nat.add_sub_cancel_left])
  have HGB := Lib.hid (show By (na + nb) G from by rw [← hG]; exact fun j hj => catB_lt HFA.out HFB.out j hj)
  have hd1 : decide (4096 < (n : Int)) = false := by simp; omega
  have hd2 : decide (4096 < (na : Int)) = false := by simp; omega
  have hd3 : decide (4096 < (nb : Int)) = false := by simp; omega
  clear hK hA hB nK nA nB ht hca hcb hG
  go_enter Tryd.func3, Tryd.ntmps3
  go_wp2_with fail
  refine (small6_any w0 HT.out).mono ?_
  rintro e w1 ⟨rfl, hb⟩
  have HB1 := Lib.hid hb
  clear hb
  go_wp2_with fail
  refine (lent_any KA n c key w1 (by omega) (HK.out.keep HB1.out)).mono ?_
  rintro e w2 ⟨gk, rfl, hg, hrow, hb⟩
  have HRK := Lib.hid hrow
  have HGK := Lib.hid (Nat.le_trans HB1.out.size hg)
  have HB2 := Lib.hid (HB1.out.trans (hb.mono HB1.out.size))
  clear hg hrow hb
  go_wp2_with fail
  refine (lent_any A na ca fa w2 (by omega) (HA.out.keep HB2.out)).mono ?_
  rintro e w3 ⟨ga, rfl, hg, hrow, hb⟩
  have HRA := Lib.hid hrow
  have HGA := Lib.hid (Nat.le_trans HB2.out.size hg)
  have HKA := Lib.hid (show gk < ga from Nat.lt_of_lt_of_le HRK.out.lt hg)
  have HRK3 := Lib.hid (HRK.out.of_block (hb.block gk HRK.out.lt))
  have HB3 := Lib.hid (HB2.out.trans (hb.mono HB2.out.size))
  clear hg hrow hb HRK
  go_wp2_with fail
  refine (mnew_any (some ⟨gk, 0, none⟩) n (n + 1) key w3 (by omega) (Nat.le_succ n) (lent_slB HRK3.out HF.out) (HT.out.keep HB3.out)).mono ?_
  rintro e w4 ⟨g, rfl, hg, h1, hb⟩
  have HM4 := Lib.hid h1
  have HG := Lib.hid (Nat.le_trans HB3.out.size hg)
  have HAG := Lib.hid (show ga < g from Nat.lt_of_lt_of_le HRA.out.lt hg)
  have HRK4 := Lib.hid (HRK3.out.of_block (hb.block gk HRK3.out.lt))
  have HRA4 := Lib.hid (HRA.out.of_block (hb.block ga HRA.out.lt))
  have HB4 := Lib.hid (HB3.out.trans (hb.mono HB3.out.size))
  have HW := Lib.hid (show 1 ≠ g ∧ 0 ≠ g from ⟨Nat.ne_of_lt (Nat.lt_of_lt_of_le HT.out.ltk HG.out), Nat.ne_of_lt (Nat.lt_of_lt_of_le HT.out.lth HG.out)⟩)
  clear hg h1 hb HRK3 HRA
  go_wp2_with fail
  refine (mac2_any w4 (some ⟨gk, 0, none⟩) (some ⟨ga, 0, none⟩) B n (n + 1) na nb (na + 1) cb key fa fb G (by omega) (by omega) (Nat.le_succ n) (Nat.le_succ na) HCB.out (lent_slB HRK4.out HF.out) HF.out (lent_slB HRA4.out HFA.out) (HB.out.keep HB4.out) HG0.out HG1.out (HT.out.keep HB4.out)).mono ?_
  rintro e w5 ⟨dx, rfl, hd, ha, hb⟩
  have HDX := Lib.hid ha
  have HGX := Lib.hid (show g < dx from Nat.lt_of_lt_of_le HM4.out.lt hd)
  have HM5 := Lib.hid (HM4.out.keep hb)
  have HRK5 := Lib.hid (HRK4.out.of_block (hb.block gk HRK4.out.lt))
  have HRA5 := Lib.hid (HRA4.out.of_block (hb.block ga HRA4.out.lt))
  have HB5 := Lib.hid (HB4.out.trans (hb.mono HB4.out.size))
  have HK1 := Lib.hid (kept_any gk KA n c key w5 (by omega) (HK.out.keep HB5.out) HRK5.out)
  have HK2 := Lib.hid (kept_any ga A na ca fa w5 (by omega) (HA.out.keep HB5.out) HRA5.out)
  clear hd ha hb HRK4 HRA4 HM4
  go_wp2_with fail
  refine HK1.out.mono ?_
  rintro e w6 ⟨rfl, rfl⟩
  go_wp2_with fail
  refine HK2.out.mono ?_
  rintro e w6 ⟨rfl, rfl⟩
  go_wp2_with fail
  refine (owned_one w5 gk n (n + 1) _ (RowX.of_rowIs HRK5.out).arr (by omega)).mono ?_
  rintro e w6 ⟨rfl, hc⟩
  have hka := HKA.out
  have hag := HAG.out
  have hgx := HGX.out
  have HM6 := Lib.hid (HM5.out.chg hc (by omega))
  have HDX6 := Lib.hid (HDX.out.chg hc (by omega))
  have HRA6 := Lib.hid (HRA5.out.of_block (hc.block ga HRA5.out.lt (by omega)))
  have HB6 := Lib.hid (HB5.out.trans (hc.below HB5.out.size HGK.out))
  clear hc HK1 HK2 HRK5 HRA5 HM5 HDX
  go_wp2_with fail
  refine (mmac2_any w6 g n (some ⟨ga, 0, none⟩) B na nb (na + 1) cb key fa fb G HF.out HM6.out (by omega) (Nat.le_succ na) HCB.out (lent_slB HRA6.out HFA.out) (HB.out.keep HB6.out) HG0.out HG1.out (HT.out.keep HB6.out) HW.out (fun _ B' o e => by cases e; omega) (HB.out.off HG.out)).mono ?_
  rintro e w7 ⟨dy, rfl, hd, ha, hr, hc⟩
  have HDY := Lib.hid ha
  have HXY := Lib.hid (show dx < dy from Nat.lt_of_lt_of_le (HDX6.out.lt (by decide)) hd)
  have HM7 := Lib.hid hr
  have HDX7 := Lib.hid (HDX6.out.chg hc (by omega))
  have HRA7 := Lib.hid (HRA6.out.of_block (hc.block ga HRA6.out.lt (by omega)))
  have HB7 := Lib.hid (HB6.out.trans (hc.below HB6.out.size HG.out))
  clear hd ha hr hc HM6 HDX6 HRA6
  have HE := Lib.hid (OwnB.empty w7 w7.heap.size fa (Nat.le_refl _))
  have HBE := Lib.hid (alloc_below w7 (.cells #[] 5))
  have HAk := Lib.hid (show ∀ w', Below w7.heap.size w7 w' → SlB w' A na fa from fun w' h => (HA.out.keep HB7.out).keep h)
  have HBk := Lib.hid (show ∀ w', Below w7.heap.size w7 w' → SlB w' B nb fb from fun w' h => (HB.out.keep HB7.out).keep h)
  go_wp2_with (first | (refine wpList_appO rfl (.tmp 67) (.tmp 68) rfl w7.heap.size _ 0 fa rfl HE.out A na ca fa rfl (HAk.out _ HBE.out) HNA.out (by omega) HBE.out.size (fun j hj => absurd hj (Nat.not_lt_zero j)) HFA.out ?_; intro A1 c1 w8 h1 h2 h3 h4; rw [Nat.zero_add] at h1 h2 h3 ⊢; have HO1 := Lib.hid (OwnB.congr (g := fa) h1 fun j _ => rfl); have HBF := Lib.hid (HBE.out.trans h4); clear h1 h2 h3 h4) | (refine wpList_appO rfl (.tmp 69) (.tmp 70) rfl w7.heap.size _ na fa rfl HO1.out B nb cb fb rfl (HBk.out _ HBF.out) HNB.out (by omega) HBF.out.size HFA.out HFB.out ?_; intro A2 c2 w9 h1 h2 h3 h4; rw [HGE.out] at h1 h2; have HO2 := Lib.hid h1; have HS2 := Lib.hid h2; have HC2 := Lib.hid h3.1; have HBG := Lib.hid (HBF.out.trans h4); clear h1 h2 h3 h4))
  have HB9 := Lib.hid (HB7.out.trans (HBG.out.mono HB7.out.size))
  refine (mmac1_any w9 g n A2 (na + nb) c2 key G HF.out (Or.inr (HM7.out.keep HBG.out)) (by omega) HC2.out HS2.out (HT.out.keep HB9.out) HW.out (HO2.out.offK HM7.out.lt)).mono ?_
  rintro e w10 ⟨dz, rfl, hd, ha, hr, hc⟩
  have HDZ := Lib.hid ha
  have HYZ := Lib.hid (show dy < dz from Nat.lt_of_lt_of_le (Nat.lt_of_lt_of_le (HDY.out.lt (by decide)) HBG.out.size) hd)
  have hxy := HXY.out
  have HM10 := Lib.hid hr
  have HDX10 := Lib.hid ((HDX7.out.keep HBG.out).chg hc (by omega))
  have HDY10 := Lib.hid ((HDY.out.keep HBG.out).chg hc (by omega))
  have HRA10 := Lib.hid (HRA7.out.of_block ((hc.block ga (Nat.lt_of_lt_of_le HRA7.out.lt HBG.out.size) (by omega)).trans (HBG.out.block ga HRA7.out.lt)))
  have HB10 := Lib.hid (HB9.out.trans (hc.below HB9.out.size HG.out))
  clear hd ha hr hc HM7 HDX7 HDY HRA7 HO1 HO2 HS2 HC2 HBF HBG HE HBE HAk HBk HB9
  have HE := Lib.hid (OwnB.empty w10 w10.heap.size fa (Nat.le_refl _))
  have HBE := Lib.hid (alloc_below w10 (.cells #[] 5))
  have HAk := Lib.hid (show ∀ w', Below w10.heap.size w10 w' → SlB w' A na fa from fun w' h => (HA.out.keep HB10.out).keep h)
  have HBk := Lib.hid (show ∀ w', Below w10.heap.size w10 w' → SlB w' B nb fb from fun w' h => (HB.out.keep HB10.out).keep h)
  go_wp2_with (first | (refine wpList_appO rfl (.tmp 75) (.tmp 76) rfl w10.heap.size _ 0 fa rfl HE.out A na ca fa rfl (HAk.out _ HBE.out) HNA.out (by omega) HBE.out.size (fun j hj => absurd hj (Nat.not_lt_zero j)) HFA.out ?_; intro A3 c3 w11 h1 h2 h3 h4; rw [Nat.zero_add] at h1 h2 h3 ⊢; have HO1 := Lib.hid (OwnB.congr (g := fa) h1 fun j _ => rfl); have HBF := Lib.hid (HBE.out.trans h4); clear h1 h2 h3 h4) | (refine wpList_appO rfl (.tmp 77) (.tmp 78) rfl w10.heap.size _ na fa rfl HO1.out B nb cb fb rfl (HBk.out _ HBF.out) HNB.out (by omega) HBF.out.size HFA.out HFB.out ?_; intro A4 c4 w12 h1 h2 h3 h4; rw [HGE.out] at h1 h2; have HS2 := Lib.hid h2; have HC2 := Lib.hid h3.2.2; have HBG := Lib.hid (HBF.out.trans h4); clear h1 h2 h3 h4))
  have HB12 := Lib.hid (HB10.out.trans (HBG.out.mono HB10.out.size))
  refine (rmac_any KA A4 n c (na + nb) c4 key G w12 (by omega) (by omega) (HK.out.keep HB12.out) HNK.out HS2.out HC2.out).mono ?_
  rintro e w13 ⟨⟨A9, c9, rfl, hs, ho⟩, hb⟩
  have hyz := HYZ.out
  have HBH := Lib.hid (HBG.out.trans (hb.mono HBG.out.size))
  have HZL := Lib.hid (show dz < w12.heap.size from Nat.lt_of_lt_of_le (HDZ.out.lt (by decide)) HBG.out.size)
  have HS9 := Lib.hid hs
  have HO9 := Lib.hid ho
  have HM13 := Lib.hid (HM10.out.keep HBH.out)
  have HDX13 := Lib.hid (HDX10.out.keep HBH.out)
  have HDY13 := Lib.hid (HDY10.out.keep HBH.out)
  have HDZ13 := Lib.hid (HDZ.out.keep HBH.out)
  have HRA13 := Lib.hid (HRA10.out.of_block (HBH.out.block ga HRA10.out.lt))
  have HB13 := Lib.hid (HB12.out.trans (hb.mono HB12.out.size))
  clear hs ho hb HM10 HDX10 HDY10 HDZ HRA10 HO1 HS2 HC2 HBF HBG HE HBE HAk HBk HBH
  have hcx := convSl (cap := 32) (HDX13.out.slB fun j _ => tag_lt _ _ _ _ j) (Nat.le_refl 32)
  have hcy := convSl (cap := 32) (HDY13.out.slB fun j _ => tag_lt _ _ _ _ j) (Nat.le_refl 32)
  have hcz := convSl (cap := 32) (HDZ13.out.slB fun j _ => tag_lt _ _ _ _ j) (Nat.le_refl 32)
  have hcw := convSl (cap := c9) HS9.out (Nat.le_refl 32)
  obtain ⟨X, hX⟩ : ∃ X, strOf 32 (tag n key (na + nb) G) = X := ⟨_, rfl⟩
  rw [hX] at hcx hcy hcz hcw
  have HX := Lib.hid hX
  clear hX
  go_wp2_with fail
  clear hcx hcy hcz hcw
  refine (owned_rows 4 w13 #[.slice (some ⟨dx, 0, none⟩) 32 32, .slice (some ⟨dy, 0, none⟩) 32 32, .slice (some ⟨dz, 0, none⟩) 32 32, .slice (some ⟨ga, 0, none⟩) na (na + 1)] (q4 (some ⟨dx, 0, none⟩) (some ⟨dy, 0, none⟩) (some ⟨dz, 0, none⟩) (some ⟨ga, 0, none⟩)) (q4 32 32 32 na) (q4 32 32 32 (na + 1)) (q4 dx dy dz ga) (by decide) (fun j hj => by rcases four_of hj with rfl | rfl | rfl | rfl <;> rfl) (fun j hj => ?_) (fun i j hij hj ci cj => ?_) (fun j hj => ?_)).mono ?_
  · rcases four_of hj with rfl | rfl | rfl | rfl
    · exact OwnR.arr HDX13.out
    · exact OwnR.arr HDY13.out
    · exact OwnR.arr HDZ13.out
    · exact OwnR.arr (RowX.of_rowIs HRA13.out).arr
  · rcases four_of hj with rfl | rfl | rfl | rfl
    · omega
    · obtain rfl : i = 0 := by omega
      show dx ≠ dy; omega
    · rcases (show i = 0 ∨ i = 1 by omega) with rfl | rfl
      · show dx ≠ dz; omega
      · show dy ≠ dz; omega
    · rcases (show i = 0 ∨ i = 1 ∨ i = 2 by omega) with rfl | rfl | rfl
      · show dx ≠ ga; omega
      · show dy ≠ ga; omega
      · show dz ≠ ga; omega
  · rcases four_of hj with rfl | rfl | rfl | rfl
    · show 32 ≤ _; decide
    · show 32 ≤ _; decide
    · show 32 ≤ _; decide
    · show na + 1 ≤ _; omega
  rintro e w14 ⟨rfl, hc⟩
  have hin : ∀ k, InR 4 (q4 32 32 32 (na + 1)) (q4 dx dy dz ga) k → k = dx ∨ k = dy ∨ k = dz ∨ k = ga := fun k hk => by
    obtain ⟨j, hj, _, rfl⟩ := hk
    rcases four_of hj with rfl | rfl | rfl | rfl
    · exact Or.inl rfl
    · exact Or.inr (Or.inl rfl)
    · exact Or.inr (Or.inr (Or.inl rfl))
    · exact Or.inr (Or.inr (Or.inr rfl))
  have HM14 := Lib.hid (show MakAt w14 g n key from Or.inr (HM13.out.of_block (hc.block g HM13.out.lt fun h => by rcases hin _ h with e | e | e | e <;> omega)))
  have HS14 := Lib.hid (HS9.out.chgS hc (HO9.out.offS fun k hk => by
    have := HZL.out
    rcases hin _ hk with e | e | e | e <;> omega))
  have HO14 := Lib.hid (HO9.out.offK (K := g) (by have := HZL.out; omega))
  have HB14 := Lib.hid (HB13.out.trans (hc.below HB13.out.size fun k hk => by
    have h1 := HGA.out
    have h2 := HG.out
    rcases hin _ hk with e | e | e | e <;> omega))
  clear hc hin HDX13 HDY13 HDZ13 HRA13 HM13
  have HRR := Lib.hid (RelI.pre (fun k => k = g) (fun w => MakAt w g n key))
  have HBL := Lib.hid (show ∀ w w', Below w.heap.size w w' → RelI (fun k => k = g) (fun w => MakAt w g n key) w w' from fun w w' hb => RelI.of_below (fun _ _ hi hb => hi.keep hb) hb)
  have HNS := Lib.hid (show ∀ w, RelI (fun k => k = g) (fun w => MakAt w g n key) w14.drew w → ∀ p, w.heap.size ≤ p → ¬ p = g from fun w hb p hp e => by
    have h1 := hb.1.size
    have h2 := HM14.out.lt
    have h4 : w14.drew.heap.size = w14.heap.size := rfl
    omega)
  have HTW := Lib.hid (show ∀ w, RelI (fun k => k = g) (fun w => MakAt w g n key) w14.drew w → Below w0.heap.size w0 w ∧ MakAt w g n key from fun w hb => ⟨⟨hb.1.os.trans HB14.out.os, hb.1.tape.trans HB14.out.tape, hb.1.output.trans HB14.out.output, Nat.le_trans HB14.out.size hb.1.size, fun k hk => by
    have h1 := HG.out
    exact (hb.1.block k (Nat.lt_of_lt_of_le hk HB14.out.size) (by omega)).trans (HB14.out.block k hk)⟩, hb.2 (HM14.out.of_block rfl)⟩)
  have HM1 := Lib.hid (show ∀ w, RelI (fun k => k = g) (fun w => MakAt w g n key) w14.drew w → ∀ p, w.cell? ⟨p, 0, none⟩ = some (.slice A na ca) → w.cell? ⟨p, 1, none⟩ = some (.slice B nb cb) → ¬ p = g → Calls Tryd.prog 15 #[.pointer (some ⟨g, 0, none⟩), .slice (some ⟨p, 0, none⟩) 2 2] w (TagI (RelI (fun k => k = g) (fun w => MakAt w g n key)) n key (na + nb) G w) from fun w hb p hp0 hp1 hpg => by
    obtain ⟨h1, h2⟩ := HTW.out w hb
    refine (mmac_any g n p 2 2 key _ _ _ _ G (na + nb) w HF.out h2 (by decide) (by decide) (offs_two na nb) (by omega) (parts_two hp0 hp1 (HA.out.keep h1) (HB.out.keep h1)) (cap_two HCA.out HCB.out) (hF_two (HA.out.keep h1) (HB.out.keep h1) HG0.out HG1.out).1 HGB.out (HT.out.keep h1) HW.out hpg (fun i hi => by rcases two_of hi with rfl | rfl; exact HA.out.off HG.out; exact HB.out.off HG.out)).mono ?_
    rintro e w' ⟨d, he, hd, ha, hr, hc⟩
    exact ⟨d, he, hd, ha, ChgS.of_chg hc rfl, fun _ => Or.inr hr⟩)
  have HCW := Lib.hid (show ∀ w, RelI (fun k => k = g) (fun w => MakAt w g n key) w14.drew w → (convert 22 9 (.slice A9 32 c9)).run Tryd.prog w = .ok (.string (strOf 32 (tag n key (na + nb) G))) w from fun w hb =>
    convSl (SlB.chgS (S := fun k => k = g) (show SlB w14.drew A9 32 _ from HS14.out.drewN 1) hb.1 (fun hn B' o e h => HO14.out hn B' o e h)) (Nat.le_refl 32))
  clear HM14 HS14
  go_wp2_with fail
  refine ord.wp_region_ordR (RelI (fun k => k = g) (fun w => MakAt w g n key)) 18 [[], [0], [1], [1, 2], [3], [4], [4, 5], [6], [7], [7], [7], [9, 10, 7], [8, 11, 7], [12, 7], [7], [14, 7], [13, 15, 7], [7, 16]] [(0, 106), (1, 107), (2, 108), (3, 109), (4, 110), (5, 111), (6, 112), (7, 113), (8, 114), (9, 115), (10, 116), (11, 117), (12, 118), (13, 119), (14, 120), (15, 121), (16, 122), (17, 123)] (taG g n key A na ca B nb cb G A9 c9) (by kernel_rfl) (by kernel_rfl) (by kernel_rfl) HRR.out (taG_stays _ _ _ _ _ _ _ _ _ _ _ _) ((ord.steps_cons ?_ (ord.steps_cons ?_ (ord.steps_cons ?_ (ord.steps_cons ?_ (ord.steps_cons ?_ (ord.steps_cons ?_ (ord.steps_cons ?_ (ord.steps_cons ?_ (ord.steps_cons ?_ (ord.steps_cons ?_ (ord.steps_cons ?_ (ord.steps_cons ?_ (ord.steps_cons ?_ (ord.steps_cons ?_ (ord.steps_cons ?_ (ord.steps_cons ?_ (ord.steps_cons ?_ (ord.steps_cons ?_ ord.steps_nil))))))))))))))))))) (fun w' hb => RelI.of_drew (fun w hi => hi.of_block rfl) hb) ?_
  --STEPS ta
  · intro o ho x w hb hG
    obtain rfl := Option.some.inj ho
    clear ho
    refine Or.inl ⟨ord.want0 rfl, ?_⟩
    exact ord.makes_move rfl ⟨HRR.out.refl _, rfl⟩
  · intro o ho x w hb hG
    obtain rfl := Option.some.inj ho
    clear ho
    have h106 : x 0 = .bool true := hG (0, 106) (List.mem_of_getElem? (i := 0) rfl) rfl
    refine Or.inl ⟨ord.want0 rfl, ?_⟩
    exact ord.makes_move rfl ⟨HRR.out.refl _, h106⟩
  · intro o ho x w hb hG
    obtain rfl := Option.some.inj ho
    clear ho
    have h107 : x 1 = .bool true := hG (1, 107) (List.mem_of_getElem? (i := 1) rfl) rfl
    refine Or.inl ⟨ord.wantG rfl rfl h107, ?_⟩
    exact ord.makes_move rfl ⟨HRR.out.refl _, rfl⟩
  · intro o ho x w hb hG
    obtain rfl := Option.some.inj ho
    clear ho
    have h107 : x 1 = .bool true := hG (1, 107) (List.mem_of_getElem? (i := 1) rfl) rfl
    have h108 : x 2 = .bool true := hG (2, 108) (List.mem_of_getElem? (i := 2) rfl) rfl
    refine Or.inl ⟨ord.want0 rfl, ?_⟩
    exact ord.makes_pick rfl h107 ⟨HRR.out.refl _, h108⟩
  · intro o ho x w hb hG
    obtain rfl := Option.some.inj ho
    clear ho
    have h109 : x 3 = .bool true := hG (3, 109) (List.mem_of_getElem? (i := 3) rfl) rfl
    refine Or.inl ⟨ord.want0 rfl, ?_⟩
    exact ord.makes_move rfl ⟨HRR.out.refl _, h109⟩
  · intro o ho x w hb hG
    obtain rfl := Option.some.inj ho
    clear ho
    have h110 : x 4 = .bool true := hG (4, 110) (List.mem_of_getElem? (i := 4) rfl) rfl
    refine Or.inl ⟨ord.wantG rfl rfl h110, ?_⟩
    exact ord.makes_move rfl ⟨HRR.out.refl _, rfl⟩
  · intro o ho x w hb hG
    obtain rfl := Option.some.inj ho
    clear ho
    have h110 : x 4 = .bool true := hG (4, 110) (List.mem_of_getElem? (i := 4) rfl) rfl
    have h111 : x 5 = .bool true := hG (5, 111) (List.mem_of_getElem? (i := 5) rfl) rfl
    refine Or.inl ⟨ord.want0 rfl, ?_⟩
    exact ord.makes_pick rfl h110 ⟨HRR.out.refl _, h111⟩
  · intro o ho x w hb hG
    obtain rfl := Option.some.inj ho
    clear ho
    have h112 : x 6 = .bool true := hG (6, 112) (List.mem_of_getElem? (i := 6) rfl) rfl
    refine Or.inl ⟨ord.want0 rfl, ?_⟩
    exact ord.makes_move rfl ⟨HRR.out.refl _, h112⟩
  · intro o ho x w hb hG
    obtain rfl := Option.some.inj ho
    clear ho
    have h113 : x 7 = .bool true := hG (7, 113) (List.mem_of_getElem? (i := 7) rfl) rfl
    refine Or.inl ⟨ord.wantG rfl rfl h113, ?_⟩
    exact ord.makes_move rfl ⟨HRR.out.refl _, rfl⟩
  · intro o ho x w hb hG
    obtain rfl := Option.some.inj ho
    clear ho
    have h113 : x 7 = .bool true := hG (7, 113) (List.mem_of_getElem? (i := 7) rfl) rfl
    refine Or.inl ⟨ord.wantG rfl rfl h113, ?_⟩
    exact ord.makes_move rfl ⟨HRR.out.refl _, rfl⟩
  · intro o ho x w hb hG
    obtain rfl := Option.some.inj ho
    clear ho
    have h113 : x 7 = .bool true := hG (7, 113) (List.mem_of_getElem? (i := 7) rfl) rfl
    refine Or.inl ⟨ord.wantG rfl rfl h113, ?_⟩
    exact ord.makes_move rfl ⟨HRR.out.refl _, rfl⟩
  · intro o ho x w hb hG
    obtain rfl := Option.some.inj ho
    clear ho
    have h115 : x 9 = .slice A na ca := hG (9, 115) (List.mem_of_getElem? (i := 9) rfl) rfl
    have h116 : x 10 = .slice B nb cb := hG (10, 116) (List.mem_of_getElem? (i := 10) rfl) rfl
    have h113 : x 7 = .bool true := hG (7, 113) (List.mem_of_getElem? (i := 7) rfl) rfl
    refine Or.inl ⟨ord.wantG rfl rfl h113, ?_⟩
    exact ord.makes_build2 rfl h115 h116 (run_build2 w _ _ _ _ _ _) ⟨HBL.out _ _ (alloc_below w _), _, rfl, cell_built w _ _ 0 rfl, cell_built w _ _ 1 rfl, HNS.out w hb _ (Nat.le_refl _)⟩
  · intro o ho x w hb hG
    obtain rfl := Option.some.inj ho
    clear ho
    have h114 : x 8 = .pointer (some ⟨g, 0, none⟩) := hG (8, 114) (List.mem_of_getElem? (i := 8) rfl) rfl
    have h117 : taG g n key A na ca B nb cb G A9 c9 11 (x 11) w := hG (11, 117) (List.mem_of_getElem? (i := 11) rfl) rfl
    have h113 : x 7 = .bool true := hG (7, 113) (List.mem_of_getElem? (i := 7) rfl) rfl
    refine Or.inl ⟨ord.wantG rfl rfl h113, ?_⟩
    obtain ⟨p, hv, hp0, hp1, hpg⟩ := h117
    exact ord.makes_call2 Tryd.func15 (by kernel_rfl) (by kernel_rfl) rfl h114 hv (HM1.out w hb p hp0 hp1 hpg) (fun e w' h => by obtain ⟨d, he, h1, h2, h3⟩ := h; exact ⟨_, he, h3, d, rfl, h2, HNS.out w hb d h1⟩)
  · intro o ho x w hb hG
    obtain rfl := Option.some.inj ho
    clear ho
    have h118 : taG g n key A na ca B nb cb G A9 c9 12 (x 12) w := hG (12, 118) (List.mem_of_getElem? (i := 12) rfl) rfl
    have h113 : x 7 = .bool true := hG (7, 113) (List.mem_of_getElem? (i := 7) rfl) rfl
    refine Or.inl ⟨ord.wantG rfl rfl h113, ?_⟩
    obtain ⟨d, hv, ha, _⟩ := h118
    exact ord.makes_conv rfl hv (convSl (ha.slB fun j _ => tag_lt _ _ _ _ j) (Nat.le_refl 32)) ⟨HRR.out.refl _, rfl⟩
  · intro o ho x w hb hG
    obtain rfl := Option.some.inj ho
    clear ho
    have h113 : x 7 = .bool true := hG (7, 113) (List.mem_of_getElem? (i := 7) rfl) rfl
    refine Or.inl ⟨ord.wantG rfl rfl h113, ?_⟩
    exact ord.makes_move rfl ⟨HRR.out.refl _, rfl⟩
  · intro o ho x w hb hG
    obtain rfl := Option.some.inj ho
    clear ho
    have h120 : x 14 = .slice A9 32 c9 := hG (14, 120) (List.mem_of_getElem? (i := 14) rfl) rfl
    have h113 : x 7 = .bool true := hG (7, 113) (List.mem_of_getElem? (i := 7) rfl) rfl
    refine Or.inl ⟨ord.wantG rfl rfl h113, ?_⟩
    exact ord.makes_conv rfl h120 (HCW.out w hb) ⟨HRR.out.refl _, rfl⟩
  · intro o ho x w hb hG
    obtain rfl := Option.some.inj ho
    clear ho
    have h119 : x 13 = .string (strOf 32 (tag n key (na + nb) G)) := hG (13, 119) (List.mem_of_getElem? (i := 13) rfl) rfl
    have h121 : x 15 = .string (strOf 32 (tag n key (na + nb) G)) := hG (15, 121) (List.mem_of_getElem? (i := 15) rfl) rfl
    have h113 : x 7 = .bool true := hG (7, 113) (List.mem_of_getElem? (i := 7) rfl) rfl
    refine Or.inl ⟨ord.wantG rfl rfl h113, ?_⟩
    exact ord.makes_bin rfl h119 h121 (by exact str_same2 _ _ _ _) ⟨HRR.out.refl _, rfl⟩
  · intro o ho x w hb hG
    obtain rfl := Option.some.inj ho
    clear ho
    have h113 : x 7 = .bool true := hG (7, 113) (List.mem_of_getElem? (i := 7) rfl) rfl
    have h122 : x 16 = .bool true := hG (16, 122) (List.mem_of_getElem? (i := 16) rfl) rfl
    refine Or.inl ⟨ord.want0 rfl, ?_⟩
    exact ord.makes_pick rfl h113 ⟨HRR.out.refl _, h122⟩
  --END STEPS ta
  · intro x w5 hb hG
    have e123 : x 17 = .bool true := hG (17, 123) (List.mem_of_getElem? (i := 17) rfl)
    clear hG
    have HB5 := Lib.hid (HTW.out w5 ⟨⟨hb.1.os, hb.1.tape, hb.1.output, hb.1.size, hb.1.block⟩, fun hi => hb.2 (hi.of_block rfl)⟩).1
    clear hb
    simp only [ord.puts, ord.put', List.set_cons_zero, List.set_cons_succ, if_true]
    rw [e123]
    simp only [List.drop_succ_cons, List.drop_zero]
    go_wp2_with fail
    go_ret
    exact ⟨rfl, HB5.out⟩
end Go.Proofs.YtogcfaijphpgfaaDoor
/- Law MacTags (layer 6): every way. -/
namespace Go.Proofs.YtogcfaijphpgfaaDoor
open Go.RowKit
theorem tags_all (KA : Option Addr) (n c : Nat) (key : Nat → Nat) (A : Option Addr) (na ca : Nat) (fa : Nat → Nat) (B : Option Addr) (nb cb : Nat) (fb : Nat → Nat) (w0 : World) (hn : n ≤ 140737488351232) (hna : na ≤ 140737488351232) (hnb : nb ≤ 140737488351232) (hca : na ≤ ca) (hcb : nb ≤ cb)
    (hK : SlB w0 KA n key) (hA : SlB w0 A na fa) (hB : SlB w0 B nb fb) (nK : KA = none → n = 0 ∧ c = 0) (nA : A = none → na = 0 ∧ ca = 0) (nB : B = none → nb = 0 ∧ cb = 0) (ht : GT w0) :
    Calls Tryd.prog 3 #[.slice KA n c, .slice A na ca, .slice B nb cb] w0 fun e w' => e = .returned (.bool true) ∧ Below w0.heap.size w0 w' := by
  by_cases h1 : 4096 < n
  · have hd1 : decide (4096 < (n : Int)) = true := decide_eq_true (by omega)
    have HT := Lib.hid ht
    clear hK hA hB nK nA nB ht
    go_enter Tryd.func3, Tryd.ntmps3
    go_wp2_with fail
    refine (small6_any w0 HT.out).mono ?_
    rintro e w1 ⟨rfl, hb⟩
    have HB1 := Lib.hid hb
    clear hb
    go_wp2_with fail
    go_ret
    exact ⟨rfl, HB1.out⟩
  · have hd1 : decide (4096 < (n : Int)) = false := decide_eq_false (by omega)
    by_cases h2 : 4096 < na
    · have hd2 : decide (4096 < (na : Int)) = true := decide_eq_true (by omega)
      have HT := Lib.hid ht
      clear hK hA hB nK nA nB ht
      go_enter Tryd.func3, Tryd.ntmps3
      go_wp2_with fail
      refine (small6_any w0 HT.out).mono ?_
      rintro e w1 ⟨rfl, hb⟩
      have HB1 := Lib.hid hb
      clear hb
      go_wp2_with fail
      go_ret
      exact ⟨rfl, HB1.out⟩
    · have hd2 : decide (4096 < (na : Int)) = false := decide_eq_false (by omega)
      by_cases h3 : 4096 < nb
      · have hd3 : decide (4096 < (nb : Int)) = true := decide_eq_true (by omega)
        have HT := Lib.hid ht
        clear hK hA hB nK nA nB ht
        go_enter Tryd.func3, Tryd.ntmps3
        go_wp2_with fail
        refine (small6_any w0 HT.out).mono ?_
        rintro e w1 ⟨rfl, hb⟩
        have HB1 := Lib.hid hb
        clear hb
        go_wp2_with fail
        go_ret
        exact ⟨rfl, HB1.out⟩
      · have hd3 : decide (4096 < (nb : Int)) = false := decide_eq_false (by omega)
        exact tags_any KA n c key A na ca fa B nb cb fb w0 (by omega) (by omega) (by omega) hca hcb hK hA hB nK nA nB ht
end Go.Proofs.YtogcfaijphpgfaaDoor
/- Law MacCuts (layer 6): the walk. -/
namespace Go.Proofs.YtogcfaijphpgfaaDoor
open Go.RowKit
theorem infoS : (Tryd.prog.info? 9).map (·.size) = some 1 := by kernel_rfl
theorem sizeS (w : World) : (sizeOf (Tryd.prog.elem 34)).run Tryd.prog w = .ok 1 w := by
  have he : Tryd.prog.elem 34 = 9 := by simp [Program.elem, Tryd.underlying34]
  rw [he]
  cases hq : Tryd.prog.info? 9 with
  | none => have h := infoS; rw [hq] at h; cases h
  | some i =>
    have h := infoS
    rw [hq] at h
    have hs : i.size = 1 := by simpa using h
    simp [sizeOf, typeInfo, hq, hs]
theorem run_loS (w : World) (A : Option Addr) (n c k : Nat) (hk : k ≤ c) : (Instr.sliceAt 34 (.slice A n c) none (some (.int .i64 (k : Int))) none).run Tryd.prog w = .ok (.slice (loA A c) k c) w := by
  rw [run_sliceAt_slice (h := Tryd.underlying34), run_slice_h (ht := Tryd.underlying34) (h0 := by omega) (h2 := by omega), sizeS]
  rfl
theorem run_hiS (w : World) (A : Option Addr) (n c k : Nat) (hk : k ≤ n) : (Instr.sliceAt 34 (.slice A n c) (some (.int .i64 (k : Int))) none none).run Tryd.prog w = .ok (.slice (hiA A c k) (n - k) (c - k)) w := by
  rw [run_sliceAt_slice (h := Tryd.underlying34), run_slice_l (ht := Tryd.underlying34) (h0 := by omega) (h1 := by omega), sizeS]
  rfl
theorem SlS.loA {w : World} {A : Option Addr} {L : Nat} {s : Nat → ByteArray} (h : SlS w A L s) (c : Nat) {k : Nat} (hk : k ≤ L) : SlS w (loA A c) k s := fun h0 => by
  obtain ⟨B, o, rfl, hB, hc⟩ := h (by omega)
  refine ⟨B, o, ?_, hB, fun j hj => hc j (by omega)⟩
  unfold Go.Proofs.YtogcfaijphpgfaaDoor.loA; split
  · rfl
  · rw [Option.map_some, Go.WideShapes.add_plain, Nat.zero_mul, Nat.add_zero]
theorem SlS.hiA {w : World} {A : Option Addr} {L : Nat} {s : Nat → ByteArray} (h : SlS w A L s) {c k : Nat} (hk : k ≤ L) (hn : L ≤ c) : SlS w (hiA A c k) (L - k) (fun j => s (k + j)) := fun h0 => by
  obtain ⟨B, o, rfl, hB, hc⟩ := h (by omega)
  refine ⟨B, o + k, ?_, hB, fun j hj => ?_⟩
  · unfold Go.Proofs.YtogcfaijphpgfaaDoor.hiA
    rw [if_neg (by omega), Option.map_some, Go.WideShapes.add_plain, Nat.mul_one]
  · rw [Nat.add_assoc]; exact hc (k + j) (by omega)
/-- folding goes on -/
theorem fk_join (n : Nat) (key : Nat → Nat) (s : Nat → ByteArray) (q : Nat) : ∀ d, fkN (fkN n q) d = fkN n (q + d) ∧ fkF (fkN n q) (fkF n key s q) (fun j => s (q + j)) d = fkF n key s (q + d)
  | 0 => ⟨rfl, rfl⟩
  | d + 1 => by
    obtain ⟨h1, h2⟩ := fk_join n key s q d
    refine ⟨rfl, ?_⟩
    show tag (fkN (fkN n q) d) (fkF (fkN n q) (fkF n key s q) (fun j => s (q + j)) d) (8 + (s (q + d)).size) (catB 8 (len8 (s (q + d)).size) (by_ (s (q + d)))) = tag (fkN n (q + d)) (fkF n key s (q + d)) (8 + (s (q + d)).size) (catB 8 (len8 (s (q + d)).size) (by_ (s (q + d))))
    rw [h1, h2]
theorem mac_cut (W : World) (gp : Nat) (A B : Option Addr) (n c m cb p : Nat) (f g : Nat → Nat) (hn : n ≤ 4096) (hm : m ≤ 4096) (hpm : p ≤ m) (hc : n ≤ c) (hcb : m ≤ cb) (hA : SlB W A n f) (hB : SlB W B m g)
    (hp : Parts W gp 3 (q3 (loA B cb) none (hiA B cb p)) (q3 p 0 (m - p)) (q3 cb 0 (cb - p)) (q3 g (fun _ => 0) (fun j => g (p + j)))) (ht : GT W) :
    Calls Tryd.prog 12 #[.slice A n c, .slice (some ⟨gp, 0, none⟩) 3 3] W (TagD n f m g W) := by
  refine mac_any gp 3 3 n c A f _ _ _ _ g m W (by omega) hc hA (fun j hj => hA.byte hj) (by decide) (by decide) (by show 0 + p + 0 + (m - p) = m; omega) (by omega) hp (fun i hi => ?_) (fun i hi j hj => ?_) (fun j hj => hB.byte hj) ht
  · rcases three_of hi with rfl | rfl | rfl
    · show p ≤ cb; omega
    · exact Nat.le_refl _
    · show m - p ≤ cb - p; omega
  · rcases three_of hi with rfl | rfl | rfl
    · show g (0 + j) = g j
      rw [Nat.zero_add]
    · exact absurd hj (Nat.not_lt_zero j)
    · show g (0 + p + 0 + j) = g (p + j)
      rw [Nat.zero_add, Nat.add_zero]
/-- a key with noughts behind it -/
def padK (n : Nat) (f : Nat → Nat) (j : Nat) : Nat := if j < n then f j else 0
theorem tag_pad {n l : Nat} (f : Nat → Nat) (hl : n ≤ l) (h : l ≤ 64 ∨ l = n) (m : Nat) (g : Nat → Nat) (j : Nat) : tag l (padK n f) m g j = tag n f m g j := by
  refine tag_halves (fun j _ => ?_) (fun _ _ => rfl) j
  rcases h with h | rfl
  · unfold kf padK
    rw [if_pos h, if_pos (show n ≤ 64 by omega)]
    by_cases h1 : j < n
    · rw [if_pos (show j < l by omega), if_pos h1]
    · rw [if_neg h1]
      by_cases h2 : j < l
      · rw [if_pos h2]
      · rw [if_neg h2]
  · exact kf_congr (fun j hj => by unfold padK; rw [if_pos hj]) j
--DEFS ca
def caG (A : Option Addr) (n c : Nat) (f : Nat → Nat) (B : Option Addr) (m cb : Nat) (g : Nat → Nat) (p dt : Nat) : Nat → Value → World → Prop
  | 0, v, _ => v = .slice (some ⟨dt, 0, none⟩) 32 32
  | 1, v, _ => v = .int .i64 ((32 : Nat) : Int)
  | 2, v, _ => v = .bool true
  | 3, v, _ => v = .bool true
  | 4, v, _ => v = .slice A n c
  | 5, v, _ => v = .slice B m cb
  | 6, v, _ => v = .int .i64 (p : Nat)
  | 7, v, _ => v = .slice (loA B cb) p cb
  | 8, v, _ => v = .slice B m cb
  | 9, v, _ => v = .int .i64 (p : Nat)
  | 10, v, _ => v = .slice (hiA B cb p) (m - p) (cb - p)
  | 11, v, w => ∃ p1, v = .slice (some ⟨p1, 0, none⟩) 3 3 ∧ Parts w p1 3 (q3 (loA B cb) none (hiA B cb p)) (q3 p 0 (m - p)) (q3 cb 0 (cb - p)) (q3 g (fun _ => 0) (fun j => g (p + j)))
  | 12, v, w => ∃ d, v = .slice (some ⟨d, 0, none⟩) 32 32 ∧ Arr w d 0 32 (tag n f m g)
  | 13, v, _ => v = .string (strOf 32 (tag n f m g))
  | 14, v, _ => v = .slice (some ⟨dt, 0, none⟩) 32 32
  | 15, v, _ => v = .string (strOf 32 (tag n f m g))
  | 16, v, _ => v = .bool true
  | 17, v, _ => v = .bool true
  | _, _, _ => True
theorem caG_stays (A : Option Addr) (n c : Nat) (f : Nat → Nat) (B : Option Addr) (m cb : Nat) (g : Nat → Nat) (p dt : Nat) : ∀ i v w w', caG A n c f B m cb g p dt i v w → Below w.heap.size w w' → caG A n c f B m cb g p dt i v w'
  | 0, _, _, _, h, _ => h
  | 1, _, _, _, h, _ => h
  | 2, _, _, _, h, _ => h
  | 3, _, _, _, h, _ => h
  | 4, _, _, _, h, _ => h
  | 5, _, _, _, h, _ => h
  | 6, _, _, _, h, _ => h
  | 7, _, _, _, h, _ => h
  | 8, _, _, _, h, _ => h
  | 9, _, _, _, h, _ => h
  | 10, _, _, _, h, _ => h
  | 11, v, w, w', h_, hb => by
    obtain ⟨p1, h1, h2⟩ := h_; exact ⟨p1, h1, h2.keep hb⟩
  | 12, v, w, w', h_, hb => by
    obtain ⟨p1, h1, h2⟩ := h_; exact ⟨p1, h1, h2.keep hb⟩
  | 13, _, _, _, h, _ => h
  | 14, _, _, _, h, _ => h
  | 15, _, _, _, h, _ => h
  | 16, _, _, _, h, _ => h
  | 17, _, _, _, h, _ => h
  | _ + 18, _, _, _, _, _ => trivial
--END DEFS ca
--DEFS cb
def cbG (A4 : Option Addr) (n : Nat) (f : Nat → Nat) (l c4 : Nat) (B : Option Addr) (m cb : Nat) (g : Nat → Nat) (dt : Nat) : Nat → Value → World → Prop
  | 0, v, _ => v = .slice A4 l c4
  | 1, v, _ => v = .slice B m cb
  | 2, v, w => ∃ p1, v = .slice (some ⟨p1, 0, none⟩) 1 1 ∧ Parts w p1 1 (fun _ => B) (fun _ => m) (fun _ => cb) (fun _ => g)
  | 3, v, w => ∃ d, v = .slice (some ⟨d, 0, none⟩) 32 32 ∧ Arr w d 0 32 (tag n f m g)
  | 4, v, _ => v = .string (strOf 32 (tag n f m g))
  | 5, v, _ => v = .slice (some ⟨dt, 0, none⟩) 32 32
  | 6, v, _ => v = .string (strOf 32 (tag n f m g))
  | 7, v, _ => v = .bool true
  | _, _, _ => True
theorem cbG_stays (A4 : Option Addr) (n : Nat) (f : Nat → Nat) (l c4 : Nat) (B : Option Addr) (m cb : Nat) (g : Nat → Nat) (dt : Nat) : ∀ i v w w', cbG A4 n f l c4 B m cb g dt i v w → Below w.heap.size w w' → cbG A4 n f l c4 B m cb g dt i v w'
  | 0, _, _, _, h, _ => h
  | 1, _, _, _, h, _ => h
  | 2, v, w, w', h_, hb => by
    obtain ⟨p1, h1, h2⟩ := h_; exact ⟨p1, h1, h2.keep hb⟩
  | 3, v, w, w', h_, hb => by
    obtain ⟨p1, h1, h2⟩ := h_; exact ⟨p1, h1, h2.keep hb⟩
  | 4, _, _, _, h, _ => h
  | 5, _, _, _, h, _ => h
  | 6, _, _, _, h, _ => h
  | 7, _, _, _, h, _ => h
  | _ + 8, _, _, _, _, _ => trivial
--END DEFS cb
--DEFS cc
def ccG (A : Option Addr) (n c : Nat) (f : Nat → Nat) (AL : Option Addr) (L cL : Nat) (s : Nat → ByteArray) (q : Nat) : Nat → Value → World → Prop
  | 0, v, _ => v = .slice A n c
  | 1, v, _ => v = .slice AL L cL
  | 2, v, _ => v = .int .i64 (q : Nat)
  | 3, v, _ => v = .slice (loA AL cL) q cL
  | 4, v, w => ∃ A1 c1, v = .slice A1 (fkN n q) c1 ∧ SlB w A1 (fkN n q) (fkF n f s q) ∧ (A1 = none → fkN n q = 0 ∧ c1 = 0)
  | 5, v, _ => v = .slice AL L cL
  | 6, v, _ => v = .int .i64 (q : Nat)
  | 7, v, _ => v = .slice (hiA AL cL q) (L - q) (cL - q)
  | 8, v, w => ∃ A1 c1, v = .slice A1 (fkN n L) c1 ∧ SlB w A1 (fkN n L) (fkF n f s L)
  | 9, v, _ => v = .string (strOf (fkN n L) (fkF n f s L))
  | 10, v, _ => v = .slice A n c
  | 11, v, _ => v = .slice AL L cL
  | 12, v, w => ∃ A1 c1, v = .slice A1 (fkN n L) c1 ∧ SlB w A1 (fkN n L) (fkF n f s L)
  | 13, v, _ => v = .string (strOf (fkN n L) (fkF n f s L))
  | 14, v, _ => v = .bool true
  | _, _, _ => True
theorem ccG_stays (A : Option Addr) (n c : Nat) (f : Nat → Nat) (AL : Option Addr) (L cL : Nat) (s : Nat → ByteArray) (q : Nat) : ∀ i v w w', ccG A n c f AL L cL s q i v w → Below w.heap.size w w' → ccG A n c f AL L cL s q i v w'
  | 0, _, _, _, h, _ => h
  | 1, _, _, _, h, _ => h
  | 2, _, _, _, h, _ => h
  | 3, _, _, _, h, _ => h
  | 4, v, w, w', h_, hb => by
    obtain ⟨A1, c1, h1, h2, h3⟩ := h_; exact ⟨A1, c1, h1, h2.keep hb, h3⟩
  | 5, _, _, _, h, _ => h
  | 6, _, _, _, h, _ => h
  | 7, _, _, _, h, _ => h
  | 8, v, w, w', h_, hb => by
    obtain ⟨A1, c1, h1, h2⟩ := h_; exact ⟨A1, c1, h1, h2.keep hb⟩
  | 9, _, _, _, h, _ => h
  | 10, _, _, _, h, _ => h
  | 11, _, _, _, h, _ => h
  | 12, v, w, w', h_, hb => by
    obtain ⟨A1, c1, h1, h2⟩ := h_; exact ⟨A1, c1, h1, h2.keep hb⟩
  | 13, _, _, _, h, _ => h
  | 14, _, _, _, h, _ => h
  | _ + 15, _, _, _, _, _ => trivial
--END DEFS cc
--DEFS cd
def cdG (A : Option Addr) (n c : Nat) (f : Nat → Nat) : Nat → Value → World → Prop
  | 0, v, _ => v = .bool true
  | 1, v, _ => v = .bool true
  | 2, v, _ => v = .bool true
  | 3, v, _ => v = .bool true
  | 4, v, _ => v = .bool true
  | 5, v, _ => v = .bool true
  | 6, v, _ => v = .bool true
  | 7, v, _ => v = .bool true
  | 8, v, _ => v = .bool true
  | 9, v, _ => v = .bool true
  | 10, v, _ => v = .bool true
  | 11, v, _ => v = .slice A n c
  | 12, v, w => ∃ A1 c1, v = .slice A1 n c1 ∧ SlB w A1 n f
  | 13, v, _ => v = .string (strOf n f)
  | 14, v, _ => v = .slice A n c
  | 15, v, _ => v = .string (strOf n f)
  | 16, v, _ => v = .bool true
  | 17, v, _ => v = .bool true
  | _, _, _ => True
theorem cdG_stays (A : Option Addr) (n c : Nat) (f : Nat → Nat) : ∀ i v w w', cdG A n c f i v w → Below w.heap.size w w' → cdG A n c f i v w'
  | 0, _, _, _, h, _ => h
  | 1, _, _, _, h, _ => h
  | 2, _, _, _, h, _ => h
  | 3, _, _, _, h, _ => h
  | 4, _, _, _, h, _ => h
  | 5, _, _, _, h, _ => h
  | 6, _, _, _, h, _ => h
  | 7, _, _, _, h, _ => h
  | 8, _, _, _, h, _ => h
  | 9, _, _, _, h, _ => h
  | 10, _, _, _, h, _ => h
  | 11, _, _, _, h, _ => h
  | 12, v, w, w', h_, hb => by
    obtain ⟨A1, c1, h1, h2⟩ := h_; exact ⟨A1, c1, h1, h2.keep hb⟩
  | 13, _, _, _, h, _ => h
  | 14, _, _, _, h, _ => h
  | 15, _, _, _, h, _ => h
  | 16, _, _, _, h, _ => h
  | 17, _, _, _, h, _ => h
  | _ + 18, _, _, _, _, _ => trivial
--END DEFS cd
set_option maxRecDepth 100000 in
set_option maxHeartbeats 6400000 in
theorem mcuts_any (A : Option Addr) (n c : Nat) (f : Nat → Nat) (B : Option Addr) (m cb : Nat) (g : Nat → Nat) (p : Nat) (z : Int) (AL : Option Addr) (L cL : Nat) (s : Nat → ByteArray) (q : Nat) (w0 : World) (hn : n ≤ 4096) (hm : m ≤ 4096) (hL : L ≤ 8) (hpm : p ≤ m) (hqL : q ≤ L) (hc : n ≤ c) (hcb : m ≤ cb) (hcL : L ≤ cL)
    (hA : SlB w0 A n f) (hnA : A = none → n = 0 ∧ c = 0) (hB : SlB w0 B m g) (hS : SlS w0 AL L s) (ht : GT w0) :
    Calls Tryd.prog 6 #[.slice A n c, .slice B m cb, .int .i64 (p : Nat), .int .i64 z, .slice AL L cL, .int .i64 (q : Nat)] w0 fun e w' => e = .returned (.bool true) ∧ Below w0.heap.size w0 w' := by
  have HA := Lib.hid hA
  have HB := Lib.hid hB
  have HS := Lib.hid hS
  have HT := Lib.hid ht
  have HNA := Lib.hid hnA
  have HCA := Lib.hid hc
  have HCB := Lib.hid hcb
  have HCL := Lib.hid hcL
  have HF := Lib.hid (show By n f from fun j hj => hA.byte hj)
  have hpc : p ≤ cb := by omega
  have hqc : q ≤ cL := by omega
  have hd1 : decide (4096 < (n : Int)) = false := by simp; omega
  have hd2 : decide (4096 < (m : Int)) = false := by simp; omega
  have hd3 : decide (8 < (L : Int)) = false := by simp; omega
  have hd4 : decide ((p : Int) < 0) = false := decide_eq_false (by omega)
  have hd5 : decide (m < p) = false := by simp; omega
  have hd6 : decide ((q : Int) < 0) = false := decide_eq_false (by omega)
  have hd7 : decide (L < q) = false := by simp; omega
  obtain ⟨y, hy, hy63⟩ : ∃ y : Nat, bits BinOp.and .i64 z 63 = (y : Int) ∧ y ≤ 63 := by
    have h := i64_mask 6 63 (by decide) (by decide) z
    refine ⟨(z % 64).toNat, ?_, by omega⟩
    rw [show ((63 : Nat) : Int) = 63 from rfl] at h
    rw [h]
    show z % 64 = _
    omega
  clear hA hB hS ht hnA hc hcb hcL
  go_enter Tryd.func6, Tryd.ntmps6
  go_wp2_with fail
  refine (small6_any w0 HT.out).mono ?_
  rintro e w1 ⟨rfl, hb⟩
  have HB1 := Lib.hid hb
  clear hb
  go_wp2_with fail
  clear hd1 hd2 hd3 hd4 hd5 hd6 hd7
  go_loop [14] (fun v => ∃ k : Nat, k ≤ L ∧ v = .int .i64 k ∧ ∀ j, j < k → (s j).size ≤ 4096) (fun v => L - (intOf v).toNat)
  case atStart => exact ⟨0, Nat.zero_le _, rfl, fun j hj => absurd hj (Nat.not_lt_zero j)⟩
  case round =>
    obtain ⟨k, hk, rfl, hsz⟩ := hrel
    have HZ := Lib.hid hsz
    clear hsz
    by_cases hlt : k < L
    · have hki : (k : Int) < L := by omega
      obtain ⟨B0, o, rfl, hB0, hsa⟩ := HS.out (by omega)
      have hcell := (hsa.keep HB1.out) k hlt
      have HZ1 := Lib.hid (fun (h : (s k).size ≤ 4096) => show ∀ j, j < k + 1 → (s j).size ≤ 4096 from fun j hj => by
        rcases Nat.lt_or_ge j k with h1 | h1
        · exact HZ.out j h1
        · obtain rfl : j = k := by omega
          exact h)
      clear hsa hB0
      obtain ⟨x, hx⟩ : ∃ x, s k = x := ⟨_, rfl⟩
      rw [hx] at hcell HZ1
      clear hx
      by_cases hxs : 4096 < x.size
      · have hd3 : decide (4096 < (x.size : Int)) = true := by simp; omega
        go_wp2_with fail
        go_ret
        exact ⟨rfl, HB1.out⟩
      · have hd3 : decide (4096 < (x.size : Int)) = false := by simp; omega
        have HZ2 := Lib.hid (HZ1.out (by omega))
        go_wp2_with fail
        go_round
        case rel => exact ⟨k + 1, by omega, by go_num, HZ2.out⟩
        case measure => simp [intOf]; omega
    · have HZL := Lib.hid (show ∀ j, j < L → (s j).size ≤ 1000000000000 from fun j hj => Nat.le_trans (HZ.out j (by omega)) (by decide))
      have hki : ¬ (k : Int) < L := by omega
      clear HZ
      go_wp2_with fail
      refine (mac1_any w1 A B n c m cb f g (by omega) (by omega) HCA.out HCB.out (HA.out.keep HB1.out) HF.out (HB.out.keep HB1.out) (HT.out.keep HB1.out)).mono ?_
      rintro e w2 ⟨dt, rfl, _, hdt, hb⟩
      have HB2 := Lib.hid (HB1.out.trans (hb.mono HB1.out.size))
      have HDA := Lib.hid hdt
      have HAk := Lib.hid (show ∀ w', Below w2.heap.size w2 w' → SlB w' A n f from fun w' h => (HA.out.keep HB2.out).keep h)
      have HBk := Lib.hid (show ∀ w', Below w2.heap.size w2 w' → SlB w' B m g from fun w' h => (HB.out.keep HB2.out).keep h)
      have HTk := Lib.hid (show ∀ w', Below w2.heap.size w2 w' → GT w' from fun w' h => (HT.out.keep HB2.out).keep h)
      have HDT := Lib.hid (show ∀ w', Below w2.heap.size w2 w' → (convert 22 9 (.slice (some ⟨dt, 0, none⟩) 32 32)).run Tryd.prog w' = .ok (.string (strOf 32 (tag n f m g))) w' from fun w' h => convSl ((HDA.out.keep h).slB fun j _ => tag_lt _ _ _ _ j) (Nat.le_refl 32))
      clear hb hdt
      go_wp2_with fail
      refine ord.wp_region_ordT 18 [[], [0], [1], [2], [3], [3], [3], [5, 6, 3], [3], [3], [8, 9, 3], [7, 10, 3], [4, 11, 3], [12, 3], [3], [14, 3], [13, 15, 3], [3, 16]] [(0, 73), (1, 74), (2, 75), (3, 76), (4, 77), (5, 78), (6, 79), (7, 80), (8, 81), (9, 82), (10, 83), (11, 84), (12, 85), (13, 86), (14, 87), (15, 88), (16, 89), (17, 90)] (caG A n c f B m cb g p dt) (by kernel_rfl) (by kernel_rfl) (by kernel_rfl) (caG_stays _ _ _ _ _ _ _ _ _ _) ((ord.steps_cons ?_ (ord.steps_cons ?_ (ord.steps_cons ?_ (ord.steps_cons ?_ (ord.steps_cons ?_ (ord.steps_cons ?_ (ord.steps_cons ?_ (ord.steps_cons ?_ (ord.steps_cons ?_ (ord.steps_cons ?_ (ord.steps_cons ?_ (ord.steps_cons ?_ (ord.steps_cons ?_ (ord.steps_cons ?_ (ord.steps_cons ?_ (ord.steps_cons ?_ (ord.steps_cons ?_ (ord.steps_cons ?_ ord.steps_nil))))))))))))))))))) ?_
      --STEPS ca
      · intro o ho x w hb hG
        obtain rfl := Option.some.inj ho
        clear ho
        refine Or.inl ⟨ord.want0 rfl, ?_⟩
        exact ord.makes_move rfl ⟨Below.refl _ _, rfl⟩
      · intro o ho x w hb hG
        obtain rfl := Option.some.inj ho
        clear ho
        have h73 : x 0 = .slice (some ⟨dt, 0, none⟩) 32 32 := hG (0, 73) (List.mem_of_getElem? (i := 0) rfl) rfl
        refine Or.inl ⟨ord.want0 rfl, ?_⟩
        exact ord.makes_len rfl rfl h73 (run_len8 _ _ _ w) ⟨Below.refl _ _, rfl⟩
      · intro o ho x w hb hG
        obtain rfl := Option.some.inj ho
        clear ho
        have h74 : x 1 = .int .i64 ((32 : Nat) : Int) := hG (1, 74) (List.mem_of_getElem? (i := 1) rfl) rfl
        refine Or.inl ⟨ord.want0 rfl, ?_⟩
        exact ord.makes_bin rfl h74 rfl (by go_simp) ⟨Below.refl _ _, rfl⟩
      · intro o ho x w hb hG
        obtain rfl := Option.some.inj ho
        clear ho
        have h75 : x 2 = .bool true := hG (2, 75) (List.mem_of_getElem? (i := 2) rfl) rfl
        refine Or.inl ⟨ord.want0 rfl, ?_⟩
        exact ord.makes_move rfl ⟨Below.refl _ _, h75⟩
      · intro o ho x w hb hG
        obtain rfl := Option.some.inj ho
        clear ho
        have h76 : x 3 = .bool true := hG (3, 76) (List.mem_of_getElem? (i := 3) rfl) rfl
        refine Or.inl ⟨ord.wantG rfl rfl h76, ?_⟩
        exact ord.makes_move rfl ⟨Below.refl _ _, rfl⟩
      · intro o ho x w hb hG
        obtain rfl := Option.some.inj ho
        clear ho
        have h76 : x 3 = .bool true := hG (3, 76) (List.mem_of_getElem? (i := 3) rfl) rfl
        refine Or.inl ⟨ord.wantG rfl rfl h76, ?_⟩
        exact ord.makes_move rfl ⟨Below.refl _ _, rfl⟩
      · intro o ho x w hb hG
        obtain rfl := Option.some.inj ho
        clear ho
        have h76 : x 3 = .bool true := hG (3, 76) (List.mem_of_getElem? (i := 3) rfl) rfl
        refine Or.inl ⟨ord.wantG rfl rfl h76, ?_⟩
        exact ord.makes_move rfl ⟨Below.refl _ _, rfl⟩
      · intro o ho x w hb hG
        obtain rfl := Option.some.inj ho
        clear ho
        have h78 : x 5 = .slice B m cb := hG (5, 78) (List.mem_of_getElem? (i := 5) rfl) rfl
        have h79 : x 6 = .int .i64 (p : Nat) := hG (6, 79) (List.mem_of_getElem? (i := 6) rfl) rfl
        have h76 : x 3 = .bool true := hG (3, 76) (List.mem_of_getElem? (i := 3) rfl) rfl
        refine Or.inl ⟨ord.wantG rfl rfl h76, ?_⟩
        exact ord.makes_slice rfl h78 (rfl) (congrArg some h79) (rfl) (by exact run_lo w B m cb p hpc) ⟨Below.refl _ _, rfl⟩
      · intro o ho x w hb hG
        obtain rfl := Option.some.inj ho
        clear ho
        have h76 : x 3 = .bool true := hG (3, 76) (List.mem_of_getElem? (i := 3) rfl) rfl
        refine Or.inl ⟨ord.wantG rfl rfl h76, ?_⟩
        exact ord.makes_move rfl ⟨Below.refl _ _, rfl⟩
      · intro o ho x w hb hG
        obtain rfl := Option.some.inj ho
        clear ho
        have h76 : x 3 = .bool true := hG (3, 76) (List.mem_of_getElem? (i := 3) rfl) rfl
        refine Or.inl ⟨ord.wantG rfl rfl h76, ?_⟩
        exact ord.makes_move rfl ⟨Below.refl _ _, rfl⟩
      · intro o ho x w hb hG
        obtain rfl := Option.some.inj ho
        clear ho
        have h81 : x 8 = .slice B m cb := hG (8, 81) (List.mem_of_getElem? (i := 8) rfl) rfl
        have h82 : x 9 = .int .i64 (p : Nat) := hG (9, 82) (List.mem_of_getElem? (i := 9) rfl) rfl
        have h76 : x 3 = .bool true := hG (3, 76) (List.mem_of_getElem? (i := 3) rfl) rfl
        refine Or.inl ⟨ord.wantG rfl rfl h76, ?_⟩
        exact ord.makes_slice rfl h81 (congrArg some h82) (rfl) (rfl) (by exact run_hi w B m cb p hpm) ⟨Below.refl _ _, rfl⟩
      · intro o ho x w hb hG
        obtain rfl := Option.some.inj ho
        clear ho
        have h80 : x 7 = .slice (loA B cb) p cb := hG (7, 80) (List.mem_of_getElem? (i := 7) rfl) rfl
        have h83 : x 10 = .slice (hiA B cb p) (m - p) (cb - p) := hG (10, 83) (List.mem_of_getElem? (i := 10) rfl) rfl
        have h76 : x 3 = .bool true := hG (3, 76) (List.mem_of_getElem? (i := 3) rfl) rfl
        refine Or.inl ⟨ord.wantG rfl rfl h76, ?_⟩
        exact ord.makes_build3 rfl h80 rfl h83 (run_parts3 w _ _ _ _ _ _ _ _ _) ⟨alloc_below w _, _, rfl, parts3 _ _ _ _ _ _ _ _ _ _ _ _ ((HBk.out w (of_drew hb)).loA cb hpm) (SlB.none0 _ _) ((HBk.out w (of_drew hb)).hiA hpm HCB.out)⟩
      · intro o ho x w hb hG
        obtain rfl := Option.some.inj ho
        clear ho
        have h77 : x 4 = .slice A n c := hG (4, 77) (List.mem_of_getElem? (i := 4) rfl) rfl
        have h84 : caG A n c f B m cb g p dt 11 (x 11) w := hG (11, 84) (List.mem_of_getElem? (i := 11) rfl) rfl
        have h76 : x 3 = .bool true := hG (3, 76) (List.mem_of_getElem? (i := 3) rfl) rfl
        refine Or.inl ⟨ord.wantG rfl rfl h76, ?_⟩
        obtain ⟨p1, hv, hp⟩ := h84
        exact ord.makes_call2 Tryd.func12 (by kernel_rfl) (by kernel_rfl) rfl h77 hv (mac_cut w p1 A B n c m cb p f g hn hm hpm HCA.out HCB.out (HAk.out w (of_drew hb)) (HBk.out w (of_drew hb)) hp (HTk.out w (of_drew hb))) (fun e w' h => by obtain ⟨d, he, _, h2, h4⟩ := h; exact ⟨_, he, h4, d, rfl, h2⟩)
      · intro o ho x w hb hG
        obtain rfl := Option.some.inj ho
        clear ho
        have h85 : caG A n c f B m cb g p dt 12 (x 12) w := hG (12, 85) (List.mem_of_getElem? (i := 12) rfl) rfl
        have h76 : x 3 = .bool true := hG (3, 76) (List.mem_of_getElem? (i := 3) rfl) rfl
        refine Or.inl ⟨ord.wantG rfl rfl h76, ?_⟩
        obtain ⟨d, hv, ha⟩ := h85
        exact ord.makes_conv rfl hv (convSl (ha.slB fun j _ => tag_lt _ _ _ _ j) (Nat.le_refl 32)) ⟨Below.refl _ _, rfl⟩
      · intro o ho x w hb hG
        obtain rfl := Option.some.inj ho
        clear ho
        have h76 : x 3 = .bool true := hG (3, 76) (List.mem_of_getElem? (i := 3) rfl) rfl
        refine Or.inl ⟨ord.wantG rfl rfl h76, ?_⟩
        exact ord.makes_move rfl ⟨Below.refl _ _, rfl⟩
      · intro o ho x w hb hG
        obtain rfl := Option.some.inj ho
        clear ho
        have h87 : x 14 = .slice (some ⟨dt, 0, none⟩) 32 32 := hG (14, 87) (List.mem_of_getElem? (i := 14) rfl) rfl
        have h76 : x 3 = .bool true := hG (3, 76) (List.mem_of_getElem? (i := 3) rfl) rfl
        refine Or.inl ⟨ord.wantG rfl rfl h76, ?_⟩
        exact ord.makes_conv rfl h87 (HDT.out w (of_drew hb)) ⟨Below.refl _ _, rfl⟩
      · intro o ho x w hb hG
        obtain rfl := Option.some.inj ho
        clear ho
        have h86 : x 13 = .string (strOf 32 (tag n f m g)) := hG (13, 86) (List.mem_of_getElem? (i := 13) rfl) rfl
        have h88 : x 15 = .string (strOf 32 (tag n f m g)) := hG (15, 88) (List.mem_of_getElem? (i := 15) rfl) rfl
        have h76 : x 3 = .bool true := hG (3, 76) (List.mem_of_getElem? (i := 3) rfl) rfl
        refine Or.inl ⟨ord.wantG rfl rfl h76, ?_⟩
        exact ord.makes_bin rfl h86 h88 (by exact str_same2 _ _ _ _) ⟨Below.refl _ _, rfl⟩
      · intro o ho x w hb hG
        obtain rfl := Option.some.inj ho
        clear ho
        have h76 : x 3 = .bool true := hG (3, 76) (List.mem_of_getElem? (i := 3) rfl) rfl
        have h89 : x 16 = .bool true := hG (16, 89) (List.mem_of_getElem? (i := 16) rfl) rfl
        refine Or.inl ⟨ord.want0 rfl, ?_⟩
        exact ord.makes_pick rfl h76 ⟨Below.refl _ _, h89⟩
      --END STEPS ca
      · intro x w5 hb hG
        have e90 : x 17 = .bool true := hG (17, 90) (List.mem_of_getElem? (i := 17) rfl)
        clear hG
        have HB5 := Lib.hid hb
        have HE := Lib.hid (OwnB.empty w5 w5.heap.size f (Nat.le_refl _))
        have HBE := Lib.hid (alloc_below w5 (.cells #[] 5))
        clear hb
        simp only [ord.puts, ord.put', List.set_cons_zero, List.set_cons_succ, if_true]
        rw [e90]
        simp only [List.drop_succ_cons, List.drop_zero]
        go_wp2_with (refine wpList_appO rfl (.tmp 91) (.tmp 92) rfl w5.heap.size _ 0 f rfl HE.out A n c f rfl (HAk.out _ (HB5.out.trans (HBE.out.mono HB5.out.size))) HNA.out (by omega) HBE.out.size (fun j hj => absurd hj (Nat.not_lt_zero j)) HF.out ?_; intro A3 c3 w6 h1 h2 h3 h4; rw [Nat.zero_add] at h1 h2 h3 ⊢; have HO1 := Lib.hid (OwnB.congr (g := padK n f) h1 fun j hj => by unfold padK; rw [if_pos hj]; rfl); have HB6 := Lib.hid (HBE.out.trans h4); clear h1 h2 h3 h4)
        go_loopw [17, 18] (fun v t wr => ∃ (i l : Nat) (A4 : Option Addr) (c4 : Nat), i ≤ y ∧ t = .int .i64 i ∧ n ≤ l ∧ (l ≤ 64 ∨ l = n) ∧ v = .slice A4 l c4 ∧ OwnB wr w5.heap.size (.slice A4 l c4) l (padK n f) ∧ Below w5.heap.size w5 wr) (fun _ t _ => y - (intOf t).toNat)
        case atStart => exact ⟨0, n, A3, c3, Nat.zero_le _, rfl, Nat.le_refl _, Or.inr rfl, rfl, HO1.out, HB6.out⟩
        case round =>
          obtain ⟨i, l, A4, c4, hi, rfl, hl1, hl2, rfl, h1, h2⟩ := hrel
          have K1 := Lib.hid h1
          have K2 := Lib.hid h2
          have HPB := Lib.hid (show ∀ l, By l (padK n f) from fun l j _ => by
            unfold padK; split
            · exact HF.out j (by omega)
            · decide)
          clear h1 h2
          by_cases hin : i < y ∧ l < 64
          · obtain ⟨hi1, hl3⟩ := hin
            have hii : (i : Int) < y := by omega
            have hli : (l : Int) < 64 := by omega
            have hl5 : l ≤ 5000 := by omega
            have HZ1 := Lib.hid fun W => one_sl W 0 (by decide)
            have HO4 := Lib.hid (K1.out.alloc (.cells #[.int .u8 ((0 : Nat) : Int)] 5))
            have HB4 := Lib.hid (K2.out.alloc K2.out.size (.cells #[.int .u8 ((0 : Nat) : Int)] 5))
            have HZP := Lib.hid (show padK n f l = 0 by unfold padK; rw [if_neg (by omega)])
            go_wp2_with (refine wpList_appO rfl (.tmp 105) (.tmp 106) rfl w5.heap.size _ l (padK n f) rfl HO4.out (some ⟨_, 0, none⟩) 1 1 (fun _ => 0) rfl (HZ1.out _) (fun h => by cases h) (by omega) HB4.out.size (HPB.out l) (fun _ _ => by decide) ?_; intro A5 c5 w7 h1 h2 h3 h4; have HO5 := Lib.hid (OwnB.congr (g := padK n f) h1 fun j hj => by unfold catB; by_cases e : j < l; rw [if_pos e]; rw [if_neg e, show j = l by omega, HZP.out]); have HB7 := Lib.hid (HB4.out.trans h4); clear h1 h2 h3 h4)
            go_roundw
            case rel => exact ⟨i + 1, l + 1, A5, c5, by omega, by go_num, by omega, Or.inl (by omega), rfl, HO5.out, HB7.out⟩
            case measure => simp [intOf]; omega
          · have hex : (¬ (i : Int) < y) ∨ ((i : Int) < y ∧ ¬ (l : Int) < 64) := by omega
            obtain ⟨A6, c6, e6, hsl⟩ := OwnB.slice K1.out (HPB.out l)
            cases e6
            obtain ⟨A7, c7, e7, hlc, _, _⟩ := OwnB.cap_le K1.out
            cases e7
            have HSL := Lib.hid hsl
            have HLC := Lib.hid hlc
            have HL2 := Lib.hid (show l ≤ 4096 by omega)
            have HTG := Lib.hid (tag_pad f hl1 hl2 m g)
            have HKB := Lib.hid (HB5.out.trans (K2.out.mono HB5.out.size))
            have HLG := Lib.hid (show ∀ w', Below wr.heap.size wr w' → ∀ p1, Parts w' p1 1 (fun _ => B) (fun _ => m) (fun _ => cb) (fun _ => g) → Calls Tryd.prog 12 #[.slice A4 l c4, .slice (some ⟨p1, 0, none⟩) 1 1] w' (TagD l (padK n f) m g w') from fun w' h p1 hp =>
              mac1_parts w' p1 1 A4 B l c4 m cb (padK n f) g (by have := HL2.out; omega) (by omega) HLC.out HCB.out (HSL.out.keep h) (HPB.out l) hp (HTk.out w' (HKB.out.trans (h.mono HKB.out.size))))
            have HBk2 := Lib.hid (show ∀ w', Below wr.heap.size wr w' → SlB w' B m g from fun w' h => HBk.out w' (HKB.out.trans (h.mono HKB.out.size)))
            have HDT2 := Lib.hid (show ∀ w', Below wr.heap.size wr w' → (convert 22 9 (.slice (some ⟨dt, 0, none⟩) 32 32)).run Tryd.prog w' = .ok (.string (strOf 32 (tag n f m g))) w' from fun w' h => HDT.out w' (HKB.out.trans (h.mono HKB.out.size)))
            clear hsl hlc hin hl1 hl2
            rcases hex with hii | ⟨hii, hli⟩
            all_goals
              go_wp2_with fail
              refine ord.wp_region_ordT 8 [[], [], [1], [0, 2], [3], [], [5], [4, 6]] [(0, 108), (1, 109), (2, 110), (3, 111), (4, 112), (5, 113), (6, 114), (7, 115)] (cbG A4 n f l c4 B m cb g dt) (by kernel_rfl) (by kernel_rfl) (by kernel_rfl) (cbG_stays _ _ _ _ _ _ _ _ _ _) ((ord.steps_cons ?_ (ord.steps_cons ?_ (ord.steps_cons ?_ (ord.steps_cons ?_ (ord.steps_cons ?_ (ord.steps_cons ?_ (ord.steps_cons ?_ (ord.steps_cons ?_ ord.steps_nil))))))))) ?_
              --STEPS cb
              · intro o ho x w hb hG
                obtain rfl := Option.some.inj ho
                clear ho
                refine Or.inl ⟨ord.want0 rfl, ?_⟩
                exact ord.makes_move rfl ⟨Below.refl _ _, rfl⟩
              · intro o ho x w hb hG
                obtain rfl := Option.some.inj ho
                clear ho
                refine Or.inl ⟨ord.want0 rfl, ?_⟩
                exact ord.makes_move rfl ⟨Below.refl _ _, rfl⟩
              · intro o ho x w hb hG
                obtain rfl := Option.some.inj ho
                clear ho
                have h109 : x 1 = .slice B m cb := hG (1, 109) (List.mem_of_getElem? (i := 1) rfl) rfl
                refine Or.inl ⟨ord.want0 rfl, ?_⟩
                exact ord.makes_build1 rfl h109 (run_build1 w _ _ _) ⟨alloc_below w _, _, rfl, parts1 _ _ _ _ (HBk2.out w (of_drew hb))⟩
              · intro o ho x w hb hG
                obtain rfl := Option.some.inj ho
                clear ho
                have h108 : x 0 = .slice A4 l c4 := hG (0, 108) (List.mem_of_getElem? (i := 0) rfl) rfl
                have h110 : cbG A4 n f l c4 B m cb g dt 2 (x 2) w := hG (2, 110) (List.mem_of_getElem? (i := 2) rfl) rfl
                refine Or.inl ⟨ord.want0 rfl, ?_⟩
                obtain ⟨p1, hv, hp⟩ := h110
                exact ord.makes_call2 Tryd.func12 (by kernel_rfl) (by kernel_rfl) rfl h108 hv (HLG.out w (of_drew hb) p1 hp) (fun e w' h => by obtain ⟨d, he, _, h2, h4⟩ := h; exact ⟨_, he, h4, d, rfl, h2.congr fun j _ => HTG.out j⟩)
              · intro o ho x w hb hG
                obtain rfl := Option.some.inj ho
                clear ho
                have h111 : cbG A4 n f l c4 B m cb g dt 3 (x 3) w := hG (3, 111) (List.mem_of_getElem? (i := 3) rfl) rfl
                refine Or.inl ⟨ord.want0 rfl, ?_⟩
                obtain ⟨d, hv, ha⟩ := h111
                exact ord.makes_conv rfl hv (convSl (ha.slB fun j _ => tag_lt _ _ _ _ j) (Nat.le_refl 32)) ⟨Below.refl _ _, rfl⟩
              · intro o ho x w hb hG
                obtain rfl := Option.some.inj ho
                clear ho
                refine Or.inl ⟨ord.want0 rfl, ?_⟩
                exact ord.makes_move rfl ⟨Below.refl _ _, rfl⟩
              · intro o ho x w hb hG
                obtain rfl := Option.some.inj ho
                clear ho
                have h113 : x 5 = .slice (some ⟨dt, 0, none⟩) 32 32 := hG (5, 113) (List.mem_of_getElem? (i := 5) rfl) rfl
                refine Or.inl ⟨ord.want0 rfl, ?_⟩
                exact ord.makes_conv rfl h113 (HDT2.out w (of_drew hb)) ⟨Below.refl _ _, rfl⟩
              · intro o ho x w hb hG
                obtain rfl := Option.some.inj ho
                clear ho
                have h112 : x 4 = .string (strOf 32 (tag n f m g)) := hG (4, 112) (List.mem_of_getElem? (i := 4) rfl) rfl
                have h114 : x 6 = .string (strOf 32 (tag n f m g)) := hG (6, 114) (List.mem_of_getElem? (i := 6) rfl) rfl
                refine Or.inl ⟨ord.want0 rfl, ?_⟩
                exact ord.makes_bin rfl h112 h114 (by exact str_same2 _ _ _ _) ⟨Below.refl _ _, rfl⟩
              --END STEPS cb
              · intro x w8 hb hG
                have e115 : x 7 = .bool true := hG (7, 115) (List.mem_of_getElem? (i := 7) rfl)
                clear hG
                have HB8 := Lib.hid (HB2.out.trans ((HKB.out.trans (hb.mono HKB.out.size)).mono HB2.out.size))
                clear hb
                have HSk := Lib.hid (show ∀ w', Below w8.heap.size w8 w' → SlS w' AL L s from fun w' h => (HS.out.keep HB8.out).keep h)
                have HAj := Lib.hid (show ∀ w', Below w8.heap.size w8 w' → SlB w' A n f from fun w' h => (HA.out.keep HB8.out).keep h)
                have HTj := Lib.hid (show ∀ w', Below w8.heap.size w8 w' → GT w' from fun w' h => (HT.out.keep HB8.out).keep h)
                have HF1 := Lib.hid (show ∀ w', Below w8.heap.size w8 w' → Calls Tryd.prog 18 #[.slice A n c, .slice (loA AL cL) q cL] w' (FoldP w' (fkN n q) (fkF n f s q)) from fun w' h =>
                  fold_any A n c f (loA AL cL) q cL s w' (by omega) (HAj.out w' h) HNA.out (by omega) ((HSk.out w' h).loA cL hqL) (fun j hj => HZL.out j (by omega)) (HTj.out w' h))
                have HF2 := Lib.hid (show ∀ w', Below w8.heap.size w8 w' → ∀ (A0 : Option Addr) (c0 : Nat), SlB w' A0 (fkN n q) (fkF n f s q) → (A0 = none → fkN n q = 0 ∧ c0 = 0) → Calls Tryd.prog 18 #[.slice A0 (fkN n q) c0, .slice (hiA AL cL q) (L - q) (cL - q)] w' (FoldP w' (fkN n L) (fkF n f s L)) from fun w' h A0 c0 hs hn0 => by
                  have h1 := fold_any A0 (fkN n q) c0 (fkF n f s q) (hiA AL cL q) (L - q) (cL - q) (fun j => s (q + j)) w' (fkN_le (by omega) (by decide) q) hs hn0 (by omega) ((HSk.out w' h).hiA hqL HCL.out) (fun j hj => HZL.out _ (by omega)) (HTj.out w' h)
                  obtain ⟨h2, h3⟩ := fk_join n f s q (L - q)
                  rw [h2, h3, show q + (L - q) = L by omega] at h1
                  exact h1)
                have HF3 := Lib.hid (show ∀ w', Below w8.heap.size w8 w' → Calls Tryd.prog 18 #[.slice A n c, .slice AL L cL] w' (FoldP w' (fkN n L) (fkF n f s L)) from fun w' h =>
                  fold_any A n c f AL L cL s w' (by omega) (HAj.out w' h) HNA.out (by omega) (HSk.out w' h) HZL.out (HTj.out w' h))
                simp only [ord.puts, ord.put', List.set_cons_zero, List.set_cons_succ, if_true]
                rw [e115]
                simp only [List.drop_succ_cons, List.drop_zero]
                go_wp2_with fail
                refine ord.wp_region_ordT 15 [[], [], [], [1, 2], [0, 3], [], [], [5, 6], [4, 7], [8], [], [], [10, 11], [12], [9, 13]] [(0, 116), (1, 117), (2, 118), (3, 119), (4, 120), (5, 121), (6, 122), (7, 123), (8, 124), (9, 125), (10, 126), (11, 127), (12, 128), (13, 129), (14, 130)] (ccG A n c f AL L cL s q) (by kernel_rfl) (by kernel_rfl) (by kernel_rfl) (ccG_stays _ _ _ _ _ _ _ _ _) ((ord.steps_cons ?_ (ord.steps_cons ?_ (ord.steps_cons ?_ (ord.steps_cons ?_ (ord.steps_cons ?_ (ord.steps_cons ?_ (ord.steps_cons ?_ (ord.steps_cons ?_ (ord.steps_cons ?_ (ord.steps_cons ?_ (ord.steps_cons ?_ (ord.steps_cons ?_ (ord.steps_cons ?_ (ord.steps_cons ?_ (ord.steps_cons ?_ ord.steps_nil)))))))))))))))) ?_
                --STEPS cc
                · intro o ho x w hb hG
                  obtain rfl := Option.some.inj ho
                  clear ho
                  refine Or.inl ⟨ord.want0 rfl, ?_⟩
                  exact ord.makes_move rfl ⟨Below.refl _ _, rfl⟩
                · intro o ho x w hb hG
                  obtain rfl := Option.some.inj ho
                  clear ho
                  refine Or.inl ⟨ord.want0 rfl, ?_⟩
                  exact ord.makes_move rfl ⟨Below.refl _ _, rfl⟩
                · intro o ho x w hb hG
                  obtain rfl := Option.some.inj ho
                  clear ho
                  refine Or.inl ⟨ord.want0 rfl, ?_⟩
                  exact ord.makes_move rfl ⟨Below.refl _ _, rfl⟩
                · intro o ho x w hb hG
                  obtain rfl := Option.some.inj ho
                  clear ho
                  have h117 : x 1 = .slice AL L cL := hG (1, 117) (List.mem_of_getElem? (i := 1) rfl) rfl
                  have h118 : x 2 = .int .i64 (q : Nat) := hG (2, 118) (List.mem_of_getElem? (i := 2) rfl) rfl
                  refine Or.inl ⟨ord.want0 rfl, ?_⟩
                  exact ord.makes_slice rfl h117 (rfl) (congrArg some h118) (rfl) (by exact run_loS w AL L cL q hqc) ⟨Below.refl _ _, rfl⟩
                · intro o ho x w hb hG
                  obtain rfl := Option.some.inj ho
                  clear ho
                  have h116 : x 0 = .slice A n c := hG (0, 116) (List.mem_of_getElem? (i := 0) rfl) rfl
                  have h119 : x 3 = .slice (loA AL cL) q cL := hG (3, 119) (List.mem_of_getElem? (i := 3) rfl) rfl
                  refine Or.inl ⟨ord.want0 rfl, ?_⟩
                  exact ord.makes_call2 Tryd.func18 (by kernel_rfl) (by kernel_rfl) rfl h116 h119 (HF1.out w (of_drew hb)) (fun e w' h => by obtain ⟨⟨v, A1, c1, g1, he, h2⟩, h4⟩ := h; exact ⟨_, he, h4, A1, c1, h2.val, h2.row, h2.nil⟩)
                · intro o ho x w hb hG
                  obtain rfl := Option.some.inj ho
                  clear ho
                  refine Or.inl ⟨ord.want0 rfl, ?_⟩
                  exact ord.makes_move rfl ⟨Below.refl _ _, rfl⟩
                · intro o ho x w hb hG
                  obtain rfl := Option.some.inj ho
                  clear ho
                  refine Or.inl ⟨ord.want0 rfl, ?_⟩
                  exact ord.makes_move rfl ⟨Below.refl _ _, rfl⟩
                · intro o ho x w hb hG
                  obtain rfl := Option.some.inj ho
                  clear ho
                  have h121 : x 5 = .slice AL L cL := hG (5, 121) (List.mem_of_getElem? (i := 5) rfl) rfl
                  have h122 : x 6 = .int .i64 (q : Nat) := hG (6, 122) (List.mem_of_getElem? (i := 6) rfl) rfl
                  refine Or.inl ⟨ord.want0 rfl, ?_⟩
                  exact ord.makes_slice rfl h121 (congrArg some h122) (rfl) (rfl) (by exact run_hiS w AL L cL q hqL) ⟨Below.refl _ _, rfl⟩
                · intro o ho x w hb hG
                  obtain rfl := Option.some.inj ho
                  clear ho
                  have h120 : ccG A n c f AL L cL s q 4 (x 4) w := hG (4, 120) (List.mem_of_getElem? (i := 4) rfl) rfl
                  have h123 : x 7 = .slice (hiA AL cL q) (L - q) (cL - q) := hG (7, 123) (List.mem_of_getElem? (i := 7) rfl) rfl
                  refine Or.inl ⟨ord.want0 rfl, ?_⟩
                  obtain ⟨A0, c0, hv, hs, hn0⟩ := h120
                  exact ord.makes_call2 Tryd.func18 (by kernel_rfl) (by kernel_rfl) rfl hv h123 (HF2.out w (of_drew hb) A0 c0 hs hn0) (fun e w' h => by obtain ⟨⟨v, A1, c1, g1, he, h2⟩, h4⟩ := h; exact ⟨_, he, h4, A1, c1, h2.val, h2.row⟩)
                · intro o ho x w hb hG
                  obtain rfl := Option.some.inj ho
                  clear ho
                  have h124 : ccG A n c f AL L cL s q 8 (x 8) w := hG (8, 124) (List.mem_of_getElem? (i := 8) rfl) rfl
                  refine Or.inl ⟨ord.want0 rfl, ?_⟩
                  obtain ⟨A1, c1, hv, hs⟩ := h124
                  exact ord.makes_conv rfl hv (convSl hs (Nat.le_refl _)) ⟨Below.refl _ _, rfl⟩
                · intro o ho x w hb hG
                  obtain rfl := Option.some.inj ho
                  clear ho
                  refine Or.inl ⟨ord.want0 rfl, ?_⟩
                  exact ord.makes_move rfl ⟨Below.refl _ _, rfl⟩
                · intro o ho x w hb hG
                  obtain rfl := Option.some.inj ho
                  clear ho
                  refine Or.inl ⟨ord.want0 rfl, ?_⟩
                  exact ord.makes_move rfl ⟨Below.refl _ _, rfl⟩
                · intro o ho x w hb hG
                  obtain rfl := Option.some.inj ho
                  clear ho
                  have h126 : x 10 = .slice A n c := hG (10, 126) (List.mem_of_getElem? (i := 10) rfl) rfl
                  have h127 : x 11 = .slice AL L cL := hG (11, 127) (List.mem_of_getElem? (i := 11) rfl) rfl
                  refine Or.inl ⟨ord.want0 rfl, ?_⟩
                  exact ord.makes_call2 Tryd.func18 (by kernel_rfl) (by kernel_rfl) rfl h126 h127 (HF3.out w (of_drew hb)) (fun e w' h => by obtain ⟨⟨v, A1, c1, g1, he, h2⟩, h4⟩ := h; exact ⟨_, he, h4, A1, c1, h2.val, h2.row⟩)
                · intro o ho x w hb hG
                  obtain rfl := Option.some.inj ho
                  clear ho
                  have h128 : ccG A n c f AL L cL s q 12 (x 12) w := hG (12, 128) (List.mem_of_getElem? (i := 12) rfl) rfl
                  refine Or.inl ⟨ord.want0 rfl, ?_⟩
                  obtain ⟨A1, c1, hv, hs⟩ := h128
                  exact ord.makes_conv rfl hv (convSl hs (Nat.le_refl _)) ⟨Below.refl _ _, rfl⟩
                · intro o ho x w hb hG
                  obtain rfl := Option.some.inj ho
                  clear ho
                  have h125 : x 9 = .string (strOf (fkN n L) (fkF n f s L)) := hG (9, 125) (List.mem_of_getElem? (i := 9) rfl) rfl
                  have h129 : x 13 = .string (strOf (fkN n L) (fkF n f s L)) := hG (13, 129) (List.mem_of_getElem? (i := 13) rfl) rfl
                  refine Or.inl ⟨ord.want0 rfl, ?_⟩
                  exact ord.makes_bin rfl h125 h129 (by exact str_same2 _ _ _ _) ⟨Below.refl _ _, rfl⟩
                --END STEPS cc
                · intro x w9 hb hG
                  have e130 : x 14 = .bool true := hG (14, 130) (List.mem_of_getElem? (i := 14) rfl)
                  clear hG
                  have HB9 := Lib.hid (HB8.out.trans (hb.mono HB8.out.size))
                  have HAk9 := Lib.hid (show ∀ w', Below w9.heap.size w9 w' → SlB w' A n f from fun w' h => (HA.out.keep HB9.out).keep h)
                  have HF0 := Lib.hid (show ∀ w', Below w9.heap.size w9 w' → Calls Tryd.prog 18 #[.slice A n c, .slice none 0 0] w' (FoldP w' n f) from fun w' h =>
                    fold_any A n c f none 0 0 s w' (by omega) (HAk9.out w' h) HNA.out (by decide) (fun h => absurd h (Nat.lt_irrefl 0)) (fun j hj => absurd hj (Nat.not_lt_zero j)) ((HT.out.keep HB9.out).keep h))
                  clear hb
                  simp only [ord.puts, ord.put', List.set_cons_zero, List.set_cons_succ, if_true]
                  rw [e130]
                  simp only [List.drop_succ_cons, List.drop_zero]
                  go_wp2_with fail
                  refine ord.wp_region_ordT 18 [[], [0], [1], [1, 2], [3], [4], [4, 5], [6], [7], [7, 8], [9], [10], [11, 10], [12, 10], [10], [14, 10], [13, 15, 10], [10, 16]] [(0, 131), (1, 132), (2, 133), (3, 134), (4, 135), (5, 136), (6, 137), (7, 138), (8, 139), (9, 140), (10, 141), (11, 142), (12, 143), (13, 144), (14, 145), (15, 146), (16, 147), (17, 148)] (cdG A n c f) (by kernel_rfl) (by kernel_rfl) (by kernel_rfl) (cdG_stays _ _ _ _) ((ord.steps_cons ?_ (ord.steps_cons ?_ (ord.steps_cons ?_ (ord.steps_cons ?_ (ord.steps_cons ?_ (ord.steps_cons ?_ (ord.steps_cons ?_ (ord.steps_cons ?_ (ord.steps_cons ?_ (ord.steps_cons ?_ (ord.steps_cons ?_ (ord.steps_cons ?_ (ord.steps_cons ?_ (ord.steps_cons ?_ (ord.steps_cons ?_ (ord.steps_cons ?_ (ord.steps_cons ?_ (ord.steps_cons ?_ ord.steps_nil))))))))))))))))))) ?_
                  --STEPS cd
                  · intro o ho x w hb hG
                    obtain rfl := Option.some.inj ho
                    clear ho
                    refine Or.inl ⟨ord.want0 rfl, ?_⟩
                    exact ord.makes_move rfl ⟨Below.refl _ _, rfl⟩
                  · intro o ho x w hb hG
                    obtain rfl := Option.some.inj ho
                    clear ho
                    have h131 : x 0 = .bool true := hG (0, 131) (List.mem_of_getElem? (i := 0) rfl) rfl
                    refine Or.inl ⟨ord.want0 rfl, ?_⟩
                    exact ord.makes_move rfl ⟨Below.refl _ _, h131⟩
                  · intro o ho x w hb hG
                    obtain rfl := Option.some.inj ho
                    clear ho
                    have h132 : x 1 = .bool true := hG (1, 132) (List.mem_of_getElem? (i := 1) rfl) rfl
                    refine Or.inl ⟨ord.wantG rfl rfl h132, ?_⟩
                    exact ord.makes_move rfl ⟨Below.refl _ _, rfl⟩
                  · intro o ho x w hb hG
                    obtain rfl := Option.some.inj ho
                    clear ho
                    have h132 : x 1 = .bool true := hG (1, 132) (List.mem_of_getElem? (i := 1) rfl) rfl
                    have h133 : x 2 = .bool true := hG (2, 133) (List.mem_of_getElem? (i := 2) rfl) rfl
                    refine Or.inl ⟨ord.want0 rfl, ?_⟩
                    exact ord.makes_pick rfl h132 ⟨Below.refl _ _, h133⟩
                  · intro o ho x w hb hG
                    obtain rfl := Option.some.inj ho
                    clear ho
                    have h134 : x 3 = .bool true := hG (3, 134) (List.mem_of_getElem? (i := 3) rfl) rfl
                    refine Or.inl ⟨ord.want0 rfl, ?_⟩
                    exact ord.makes_move rfl ⟨Below.refl _ _, h134⟩
                  · intro o ho x w hb hG
                    obtain rfl := Option.some.inj ho
                    clear ho
                    have h135 : x 4 = .bool true := hG (4, 135) (List.mem_of_getElem? (i := 4) rfl) rfl
                    refine Or.inl ⟨ord.wantG rfl rfl h135, ?_⟩
                    exact ord.makes_move rfl ⟨Below.refl _ _, rfl⟩
                  · intro o ho x w hb hG
                    obtain rfl := Option.some.inj ho
                    clear ho
                    have h135 : x 4 = .bool true := hG (4, 135) (List.mem_of_getElem? (i := 4) rfl) rfl
                    have h136 : x 5 = .bool true := hG (5, 136) (List.mem_of_getElem? (i := 5) rfl) rfl
                    refine Or.inl ⟨ord.want0 rfl, ?_⟩
                    exact ord.makes_pick rfl h135 ⟨Below.refl _ _, h136⟩
                  · intro o ho x w hb hG
                    obtain rfl := Option.some.inj ho
                    clear ho
                    have h137 : x 6 = .bool true := hG (6, 137) (List.mem_of_getElem? (i := 6) rfl) rfl
                    refine Or.inl ⟨ord.want0 rfl, ?_⟩
                    exact ord.makes_move rfl ⟨Below.refl _ _, h137⟩
                  · intro o ho x w hb hG
                    obtain rfl := Option.some.inj ho
                    clear ho
                    have h138 : x 7 = .bool true := hG (7, 138) (List.mem_of_getElem? (i := 7) rfl) rfl
                    refine Or.inl ⟨ord.wantG rfl rfl h138, ?_⟩
                    exact ord.makes_move rfl ⟨Below.refl _ _, rfl⟩
                  · intro o ho x w hb hG
                    obtain rfl := Option.some.inj ho
                    clear ho
                    have h138 : x 7 = .bool true := hG (7, 138) (List.mem_of_getElem? (i := 7) rfl) rfl
                    have h139 : x 8 = .bool true := hG (8, 139) (List.mem_of_getElem? (i := 8) rfl) rfl
                    refine Or.inl ⟨ord.want0 rfl, ?_⟩
                    exact ord.makes_pick rfl h138 ⟨Below.refl _ _, h139⟩
                  · intro o ho x w hb hG
                    obtain rfl := Option.some.inj ho
                    clear ho
                    have h140 : x 9 = .bool true := hG (9, 140) (List.mem_of_getElem? (i := 9) rfl) rfl
                    refine Or.inl ⟨ord.want0 rfl, ?_⟩
                    exact ord.makes_move rfl ⟨Below.refl _ _, h140⟩
                  · intro o ho x w hb hG
                    obtain rfl := Option.some.inj ho
                    clear ho
                    have h141 : x 10 = .bool true := hG (10, 141) (List.mem_of_getElem? (i := 10) rfl) rfl
                    refine Or.inl ⟨ord.wantG rfl rfl h141, ?_⟩
                    exact ord.makes_move rfl ⟨Below.refl _ _, rfl⟩
                  · intro o ho x w hb hG
                    obtain rfl := Option.some.inj ho
                    clear ho
                    have h142 : x 11 = .slice A n c := hG (11, 142) (List.mem_of_getElem? (i := 11) rfl) rfl
                    have h141 : x 10 = .bool true := hG (10, 141) (List.mem_of_getElem? (i := 10) rfl) rfl
                    refine Or.inl ⟨ord.wantG rfl rfl h141, ?_⟩
                    exact ord.makes_call2 Tryd.func18 (by kernel_rfl) (by kernel_rfl) rfl h142 rfl (HF0.out w (of_drew hb)) (fun e w' h => by obtain ⟨⟨v, A1, c1, g1, he, h2⟩, h4⟩ := h; exact ⟨_, he, h4, A1, c1, h2.val, h2.row⟩)
                  · intro o ho x w hb hG
                    obtain rfl := Option.some.inj ho
                    clear ho
                    have h143 : cdG A n c f 12 (x 12) w := hG (12, 143) (List.mem_of_getElem? (i := 12) rfl) rfl
                    have h141 : x 10 = .bool true := hG (10, 141) (List.mem_of_getElem? (i := 10) rfl) rfl
                    refine Or.inl ⟨ord.wantG rfl rfl h141, ?_⟩
                    obtain ⟨A1, c1, hv, hs⟩ := h143
                    exact ord.makes_conv rfl hv (convSl hs (Nat.le_refl _)) ⟨Below.refl _ _, rfl⟩
                  · intro o ho x w hb hG
                    obtain rfl := Option.some.inj ho
                    clear ho
                    have h141 : x 10 = .bool true := hG (10, 141) (List.mem_of_getElem? (i := 10) rfl) rfl
                    refine Or.inl ⟨ord.wantG rfl rfl h141, ?_⟩
                    exact ord.makes_move rfl ⟨Below.refl _ _, rfl⟩
                  · intro o ho x w hb hG
                    obtain rfl := Option.some.inj ho
                    clear ho
                    have h145 : x 14 = .slice A n c := hG (14, 145) (List.mem_of_getElem? (i := 14) rfl) rfl
                    have h141 : x 10 = .bool true := hG (10, 141) (List.mem_of_getElem? (i := 10) rfl) rfl
                    refine Or.inl ⟨ord.wantG rfl rfl h141, ?_⟩
                    exact ord.makes_conv rfl h145 (convSl (HAk9.out w (of_drew hb)) (Nat.le_refl _)) ⟨Below.refl _ _, rfl⟩
                  · intro o ho x w hb hG
                    obtain rfl := Option.some.inj ho
                    clear ho
                    have h144 : x 13 = .string (strOf n f) := hG (13, 144) (List.mem_of_getElem? (i := 13) rfl) rfl
                    have h146 : x 15 = .string (strOf n f) := hG (15, 146) (List.mem_of_getElem? (i := 15) rfl) rfl
                    have h141 : x 10 = .bool true := hG (10, 141) (List.mem_of_getElem? (i := 10) rfl) rfl
                    refine Or.inl ⟨ord.wantG rfl rfl h141, ?_⟩
                    exact ord.makes_bin rfl h144 h146 (by exact str_same2 _ _ _ _) ⟨Below.refl _ _, rfl⟩
                  · intro o ho x w hb hG
                    obtain rfl := Option.some.inj ho
                    clear ho
                    have h141 : x 10 = .bool true := hG (10, 141) (List.mem_of_getElem? (i := 10) rfl) rfl
                    have h147 : x 16 = .bool true := hG (16, 147) (List.mem_of_getElem? (i := 16) rfl) rfl
                    refine Or.inl ⟨ord.want0 rfl, ?_⟩
                    exact ord.makes_pick rfl h141 ⟨Below.refl _ _, h147⟩
                  --END STEPS cd
                  · intro x w10 hb hG
                    have e148 : x 17 = .bool true := hG (17, 148) (List.mem_of_getElem? (i := 17) rfl)
                    clear hG
                    have HB10 := Lib.hid (HB9.out.trans (hb.mono HB9.out.size))
                    clear hb
                    simp only [ord.puts, ord.put', List.set_cons_zero, List.set_cons_succ, if_true]
                    rw [e148]
                    simp only [List.drop_succ_cons, List.drop_zero]
                    go_wp2_with fail
                    go_ret
                    exact ⟨rfl, HB10.out⟩
end Go.Proofs.YtogcfaijphpgfaaDoor
