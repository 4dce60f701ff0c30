/- ShaSums: the walk. -/
import Derived.Test.YtcmhnelonainhaaDoorLaw05b
import Derived.Test.YtcmhnelonainhaaDoorLent
import Derived.Test.YtcmhnelonainhaaDoorOwnA
import Derived.Test.YtcmhnelonainhaaDoorOrdM
namespace Go.Proofs.YtcmhnelonainhaaDoor
open Go.RowKit
/-- two rows, just put into a row -/
theorem owned_two (W : World) (A0 A1 : Option Addr) (n0 n1 c0 c1 g0 g1 : Nat) (f0 f1 : Nat → Nat) (B : Nat)
    (h0 : 0 < c0 → A0 = some ⟨g0, 0, none⟩ ∧ Arr W g0 0 c0 f0 ∧ B ≤ g0) (h1 : 0 < c1 → A1 = some ⟨g1, 0, none⟩ ∧ Arr W g1 0 c1 f1 ∧ B ≤ g1)
    (n01 : 0 < c0 → 0 < c1 → g0 ≠ g1) (l0 : c0 ≤ 140737488351300) (l1 : c1 ≤ 140737488351300) (hB : B ≤ W.heap.size) :
    Calls Tryd.prog 15 #[.slice (some ⟨W.heap.size, 0, none⟩) 2 2] (W.alloc (.cells #[.slice A0 n0 c0, .slice A1 n1 c1] 22)) fun e w' => e = .returned (.bool true) ∧ Below B W w' := by
  refine (owned_arr (R := 2) (A := t2 A0 A1) (n := t2 n0 n1) (c := t2 c0 c1) (g := t2 g0 g1) (f := t2 f0 f1) 2 _ (by decide) ⟨fun j hj => ?_, fun j hj hc => ?_⟩ ?_ ?_ ?_ ?_).mono ?_
  · rcases two_of hj with rfl | rfl <;> exact (World.cell?_alloc_at _ _ _ _ rfl).trans rfl
  · rcases two_of hj with rfl | rfl
    · exact ((h0 hc).2.1.alloc _).congr fun t _ => (ov_none (t2 f0 f1) 0 t).symm
    · exact ((h1 hc).2.1.alloc _).congr fun t _ => (ov_none (t2 f0 f1) 1 t).symm
  · intro j hj hc
    rcases two_of hj with rfl | rfl
    · exact (h0 hc).1
    · exact (h1 hc).1
  · intro i j hi hj hij ci cj
    rcases two_of hi with rfl | rfl <;> rcases two_of hj with rfl | rfl
    · exact absurd rfl hij
    · exact n01 ci cj
    · exact (n01 cj ci).symm
    · exact absurd rfl hij
  · intro j hj hc
    rcases two_of hj with rfl | rfl
    · exact Nat.ne_of_gt ((h0 hc).2.1.lt hc)
    · exact Nat.ne_of_gt ((h1 hc).2.1.lt hc)
  · intro j hj
    rcases two_of hj with rfl | rfl
    · exact l0
    · exact l1
  rintro e w' ⟨he, h⟩
  refine ⟨he, ((Below.refl W.heap.size W).alloc (Nat.le_refl _) _ |>.mono hB).trans (h.below (by simp; omega) fun k hk => ?_)⟩
  obtain ⟨j, hj, hc, rfl⟩ := hk
  rcases two_of hj with rfl | rfl
  · exact (h0 hc).2.2
  · exact (h1 hc).2.2
namespace ord
theorem makes_append {P : Program} {o : Oper} {a : Act} {w : World} {N : Value → World → Prop} {s x : Operand} {t : TypeId} {vs vx u : Value} {w' : World} (ho : o.op = .call { callee := .builtin .append, args := #[s, x], argTypes := #[t, t] }) (ht : o.type = t) (hs : a.eval s = vs) (hx : a.eval x = vx)
    (hrun : (Builtin.append_ #[t, t] t #[vs, vx]).run P w = .ok u w') (hN : N u w') : makes P o a w N := by
  unfold makes
  have : (execOp a.eval o).run P w = .ok (.value u) w' := by
    simp [execOp, ho, ht, resolve, invoke, builtin, hs, hx, hrun, Result.andThen]
  rw [this]; exact hN
theorem makes_build0 {P : Program} {o : Oper} {a : Act} {w : World} {N : Value → World → Prop} {t : TypeId} {len : Nat} {u : Value} {w' : World} (ho : o.op = .buildSlice t len #[]) (hrun : (Instr.buildSlice t len #[]).run P w = .ok u w') (hN : N u w') : makes P o a w N := makes_build ho (by simp) hrun hN
end ord
theorem str_same2 (w : World) (x y : Operand) (s : ByteArray) : (do eqGuard .eql 9 x y (.string s) (.string s); binOp .eql 9 (.string s) (.string s) : Sem Value).run Tryd.prog w = .ok (.bool true) w := by
  go_simp
theorem run_bytes0 (w : World) : (Instr.buildSlice 22 0 #[]).run Tryd.prog w = .ok (.slice (some ⟨w.heap.size, 0, none⟩) 0 0) (w.alloc (.cells #[] 5)) := by go_simp
--DEFS sms
def smsG (A B : Option Addr) (n c m c2 d base : Nat) (f g : Nat → Nat) : Nat → Value → World → Prop
  | 0, v, _ => v = .slice (some ⟨d, 0, none⟩) 32 32
  | 1, v, _ => v = .string (strOf 32 (sha (n + m) (catB n f g)))
  | 2, v, w => OwnB w base v 0 f ∧ base ≤ w.heap.size
  | 3, v, _ => v = .slice A n c
  | 4, v, w => (∃ A' c', v = .slice A' n c') ∧ OwnB w base v n f ∧ base ≤ w.heap.size
  | 5, v, _ => v = .slice B m c2
  | 6, v, w => ∃ A' c', v = .slice A' (n + m) c' ∧ SlB w A' (n + m) (catB n f g) ∧ (A' = none → n + m = 0 ∧ c' = 0)
  | 7, v, w => ∃ A' c', v = .slice A' 32 c' ∧ SlB w A' 32 (sha (n + m) (catB n f g))
  | 8, v, _ => v = .string (strOf 32 (sha (n + m) (catB n f g)))
  | 9, v, _ => v = .bool true
  | _, _, _ => True
theorem smsG_stays (A B : Option Addr) (n c m c2 d base : Nat) (f g : Nat → Nat) : ∀ i v w w', smsG A B n c m c2 d base f g i v w → Below w.heap.size w w' → smsG A B n c m c2 d base f g i v w'
  | 0, _, _, _, h, _ => h
  | 1, _, _, _, h, _ => h
  | 2, v, w, w', h_, hb => by
    exact ⟨h_.1.keep hb, Nat.le_trans h_.2 hb.size⟩
  | 3, _, _, _, h, _ => h
  | 4, v, w, w', h_, hb => by
    exact ⟨h_.1, h_.2.1.keep hb, Nat.le_trans h_.2.2 hb.size⟩
  | 5, _, _, _, h, _ => h
  | 6, v, w, w', h_, hb => by
    obtain ⟨A1, c1, h1, h2, h3⟩ := h_; exact ⟨A1, c1, h1, h2.keep hb, h3⟩
  | 7, v, w, w', h_, hb => by
    obtain ⟨A1, c1, h1, h2⟩ := h_; exact ⟨A1, c1, h1, h2.keep hb⟩
  | 8, _, _, _, h, _ => h
  | 9, _, _, _, h, _ => h
  | _ + 10, _, _, _, _, _ => trivial
def smsG_mu (i : Nat) : Bool := i == 4 || i == 6
def smsG_st (i : Nat) : Bool := !(i == 2 || i == 4 || i == 6 || i == 7)
theorem smsG_steady (A B : Option Addr) (n c m c2 d base : Nat) (f g : Nat → Nat) : ∀ i v w w', smsG_st i = true → smsG A B n c m c2 d base f g i v w → smsG A B n c m c2 d base f g i v w'
  | 0, _, _, _, _, h => h
  | 1, _, _, _, _, h => h
  | 2, _, _, _, h, _ => absurd h (by decide)
  | 3, _, _, _, _, h => h
  | 4, _, _, _, h, _ => absurd h (by decide)
  | 5, _, _, _, _, h => h
  | 6, _, _, _, h, _ => absurd h (by decide)
  | 7, _, _, _, h, _ => absurd h (by decide)
  | 8, _, _, _, _, h => h
  | 9, _, _, _, _, h => h
  | _ + 10, _, _, _, _, _ => trivial
--END DEFS sms
set_option maxRecDepth 100000 in
set_option maxHeartbeats 1600000 in
theorem sums_any (A B : Option Addr) (n c m c2 : Nat) (f g : Nat → Nat) (w : World) (hn : n ≤ 65536) (hm : m ≤ 65536) (hc2 : m ≤ c2) (hA : SlB w A n f) (hB : SlB w B m g) (nA : A = none → n = 0 ∧ c = 0) (nB : B = none → m = 0 ∧ c2 = 0) (ht : GT w) :
    Calls Tryd.prog 3 #[.slice A n c, .slice B m c2] w fun e w' => e = .returned (.bool true) ∧ Below w.heap.size w w' := by
  have HA := Lib.hid hA
  have HB := Lib.hid hB
  have HT := Lib.hid ht
  have HNA := Lib.hid nA
  have HNB := Lib.hid nB
  have HFA := Lib.hid (fun j (hj : j < n) => hA.byte hj)
  have HFB := Lib.hid (fun j (hj : j < m) => hB.byte hj)
  clear hA hB ht nA nB
  have hd : decide (65536 < (n : Int)) = false := by simp; omega
  have hd2 : decide (65536 < (m : Int)) = false := by simp; omega
  go_enter Tryd.func3, Tryd.ntmps3
  go_wp2_with fail
  refine (small_any _ HT.out).mono ?_
  rintro e w1 ⟨rfl, hb1⟩
  have HB1 := Lib.hid hb1
  clear hb1
  go_wp2_with fail
  refine (lent_any A n c f _ (by omega) (HA.out.keep HB1.out)).mono ?_
  rintro e w2 ⟨gL, rfl, hgL, hrow, hb2⟩
  have HR2 := Lib.hid hrow
  have HGL := Lib.hid (Nat.le_trans HB1.out.size hgL)
  have HB2 := Lib.hid (HB1.out.trans (hb2.mono HB1.out.size))
  clear hrow hgL hb2
  go_wp2_with fail
  refine (sum2_any w2 (some ⟨gL, 0, none⟩) B n m (n + 1) c2 f g (catB n f g) (by omega) (Nat.le_succ n) hc2 (SlB.of_rowX ((RowX.of_rowIs HR2.out).less (Nat.le_succ n)) (fun j hj => ⟨HFA.out j hj, by rw [if_pos hj]⟩)) (HB.out.keep HB2.out)
    (fun j hj => by unfold catB; rw [if_pos hj]) (fun j _ => by unfold catB; rw [if_neg (by omega), Nat.add_sub_cancel_left]) (HT.out.keep HB2.out)).mono ?_
  rintro e w3 ⟨d, rfl, hd3, ha3, hb3⟩
  have HDL := Lib.hid (show gL < d from Nat.lt_of_lt_of_le HR2.out.lt hd3)
  have HD3 := Lib.hid ha3
  have HR3 := Lib.hid (HR2.out.of_block (hb3.block gL HR2.out.lt))
  have HB3 := Lib.hid (HB2.out.trans (hb3.mono HB2.out.size))
  clear hd3 ha3 hb3 HR2
  go_wp2_with fail
  refine (kept_any gL A n c f _ (by omega) (HA.out.keep HB3.out) HR3.out).mono ?_
  rintro e w4 ⟨rfl, rfl⟩
  have HCV := Lib.hid (show ∀ w', Below w3.heap.size w3 w' → (convert 22 9 (.slice (some ⟨d, 0, none⟩) 32 32)).run Tryd.prog w' = .ok (.string (strOf 32 (sha (n + m) (catB n f g)))) w' from fun w' hb => convSl (cap := 32) ((HD3.out.keep hb).slB fun j _ => sha_lt _ _ j) (Nat.le_refl 32))
  have HAk := Lib.hid (show ∀ w', Below w3.heap.size w3 w' → SlB w' A n f from fun w' h => (HA.out.keep HB3.out).keep h)
  have HBk := Lib.hid (show ∀ w', Below w3.heap.size w3 w' → SlB w' B m g from fun w' h => (HB.out.keep HB3.out).keep h)
  go_wp2_with fail
  refine ord.wp_region_ordM 10 [[], [0], [], [], [2, 3], [], [4, 5], [6], [7], [1, 8]] [(0, 30), (1, 31), (2, 32), (3, 33), (4, 34), (5, 35), (6, 36), (7, 37), (8, 38), (9, 39)] (smsG A B n c m c2 d w3.heap.size f g) smsG_mu smsG_st (by kernel_rfl) (by kernel_rfl) (by kernel_rfl) (by kernel_rfl) (smsG_stays _ _ _ _ _ _ _ _ _ _) (fun i v w0 w' h1 h2 _ => smsG_steady _ _ _ _ _ _ _ _ _ _ i v w0 w' h1 h2) ((ord.steps_cons ?_ (ord.steps_cons ?_ (ord.steps_cons ?_ (ord.steps_cons ?_ (ord.steps_cons ?_ (ord.steps_cons ?_ (ord.steps_cons ?_ (ord.steps_cons ?_ (ord.steps_cons ?_ (ord.steps_cons ?_ ord.steps_nil))))))))))) ?_
  --STEPS sms
  · intro o ho x w hb hG
    obtain rfl := Option.some.inj ho
    clear ho
    refine Or.inl ⟨ord.want0 rfl, ?_⟩
    exact ord.makes_move rfl ⟨Below.refl _ _, rfl⟩
  · intro o ho x w hb hG
    obtain rfl := Option.some.inj ho
    clear ho
    have h30 : x 0 = .slice (some ⟨d, 0, none⟩) 32 32 := hG (0, 30) (List.mem_of_getElem? (i := 0) rfl) rfl
    refine Or.inl ⟨ord.want0 rfl, ?_⟩
    exact ord.makes_conv rfl h30 (HCV.out w (of_drew hb)) ⟨Below.refl _ _, rfl⟩
  · intro o ho x w hb hG
    obtain rfl := Option.some.inj ho
    clear ho
    refine Or.inl ⟨ord.want0 rfl, ?_⟩
    exact ord.makes_build0 rfl (run_bytes0 w) ⟨(Below.refl _ _).alloc (Nat.le_refl _) _, OwnB.empty w _ _ hb.size, Nat.le_trans hb.size (by simp)⟩
  · intro o ho x w hb hG
    obtain rfl := Option.some.inj ho
    clear ho
    refine Or.inl ⟨ord.want0 rfl, ?_⟩
    exact ord.makes_move rfl ⟨Below.refl _ _, rfl⟩
  · intro o ho x w hb hG
    obtain rfl := Option.some.inj ho
    clear ho
    have h32 : smsG A B n c m c2 d w3.heap.size f g 2 (x 2) w := hG (2, 32) (List.mem_of_getElem? (i := 2) rfl) rfl
    have h33 : x 3 = .slice A n c := hG (3, 33) (List.mem_of_getElem? (i := 3) rfl) rfl
    refine Or.inl ⟨ord.want0 rfl, ?_⟩
    obtain ⟨ho, hbs⟩ := h32
    obtain ⟨A1, c1, w1, hr, h1, h2, h3, h4⟩ := run_appO w w3.heap.size _ 0 f ho A n c f (HAk.out w (of_drew hb)) HNA.out (by omega) hbs (fun j hj => absurd hj (Nat.not_lt_zero j)) HFA.out
    rw [Nat.zero_add] at hr h1 h2 h3
    exact ord.makes_append rfl rfl rfl h33 hr ⟨h4, ⟨A1, c1, rfl⟩, h1.congr fun j _ => rfl, Nat.le_trans hbs h4.size⟩
  · intro o ho x w hb hG
    obtain rfl := Option.some.inj ho
    clear ho
    refine Or.inl ⟨ord.want0 rfl, ?_⟩
    exact ord.makes_move rfl ⟨Below.refl _ _, rfl⟩
  · intro o ho x w hb hG
    obtain rfl := Option.some.inj ho
    clear ho
    have h34 : smsG A B n c m c2 d w3.heap.size f g 4 (x 4) w := hG (4, 34) (List.mem_of_getElem? (i := 4) rfl) rfl
    have h35 : x 5 = .slice B m c2 := hG (5, 35) (List.mem_of_getElem? (i := 5) rfl) rfl
    refine Or.inl ⟨ord.want0 rfl, ?_⟩
    obtain ⟨⟨A0, c0, hv⟩, ho, hbs⟩ := h34
    obtain ⟨A1, c1, w1, hr, h1, h2, h3, h4⟩ := run_appO w w3.heap.size _ n f ho B m c2 g (HBk.out w (of_drew hb)) HNB.out (by omega) hbs HFA.out HFB.out
    exact ord.makes_append rfl rfl rfl h35 hr ⟨h4, A1, c1, rfl, h2, h3.2.2⟩
  · intro o ho x w hb hG
    obtain rfl := Option.some.inj ho
    clear ho
    have h36 : smsG A B n c m c2 d w3.heap.size f g 6 (x 6) w := hG (6, 36) (List.mem_of_getElem? (i := 6) rfl) rfl
    refine Or.inl ⟨ord.want0 rfl, ?_⟩
    obtain ⟨A1, c1, hv, hs, hn1⟩ := h36
    exact ord.makes_call1 Tryd.func14 (by kernel_rfl) (by kernel_rfl) rfl hv (rsum_any A1 (n + m) c1 (catB n f g) w (by omega) hs hn1) (fun e w' h => by obtain ⟨A2, c2', he, h2, h4⟩ := h; exact ⟨_, he, h4, A2, c2', rfl, h2⟩)
  · intro o ho x w hb hG
    obtain rfl := Option.some.inj ho
    clear ho
    have h37 : smsG A B n c m c2 d w3.heap.size f g 7 (x 7) w := hG (7, 37) (List.mem_of_getElem? (i := 7) rfl) rfl
    refine Or.inl ⟨ord.want0 rfl, ?_⟩
    obtain ⟨A1, c1, hv, hs⟩ := h37
    exact ord.makes_conv rfl hv (convSl hs (Nat.le_refl 32)) ⟨Below.refl _ _, rfl⟩
  · intro o ho x w hb hG
    obtain rfl := Option.some.inj ho
    clear ho
    have h31 : x 1 = .string (strOf 32 (sha (n + m) (catB n f g))) := hG (1, 31) (List.mem_of_getElem? (i := 1) rfl) rfl
    have h38 : x 8 = .string (strOf 32 (sha (n + m) (catB n f g))) := hG (8, 38) (List.mem_of_getElem? (i := 8) rfl) rfl
    refine Or.inl ⟨ord.want0 rfl, ?_⟩
    exact ord.makes_bin rfl h31 h38 (by exact str_same2 _ _ _ _) ⟨Below.refl _ _, rfl⟩
  --END STEPS sms
  · intro x w5 hb hG
    have e9 : x 9 = .bool true := hG (9, 39) (List.mem_of_getElem? (i := 9) rfl) rfl
    clear hG
    have HDa := Lib.hid (HD3.out.keep hb)
    have HRa := Lib.hid (HR3.out.of_block (hb.block gL HR3.out.lt))
    have HB5 := Lib.hid (HB3.out.trans (hb.mono HB3.out.size))
    clear hb
    simp only [ord.puts, ord.put', List.set_cons_zero, List.set_cons_succ, if_true]
    rw [e9]
    simp only [List.drop_succ_cons, List.drop_zero]
    go_wp2_with fail
    refine (owned_two w5 (some ⟨d, 0, none⟩) (some ⟨gL, 0, none⟩) 32 n 32 (n + 1) d gL _ _ w.heap.size (fun _ => ⟨rfl, HDa.out, Nat.le_trans HGL.out (Nat.le_of_lt HDL.out)⟩) (fun _ => ⟨rfl, (RowX.of_rowIs HRa.out).arr, HGL.out⟩) (fun _ _ => Nat.ne_of_gt HDL.out) (by decide) (by omega) HB5.out.size).mono ?_
    rintro e w6 ⟨rfl, h6⟩
    have HB6 := Lib.hid (HB5.out.trans h6)
    clear h6
    go_wp2_with fail
    go_ret
    exact ⟨rfl, HB6.out⟩
set_option maxHeartbeats 800000 in
theorem sums_all (A B : Option Addr) (n c m c2 : Nat) (f g : Nat → Nat) (w : World) (hn : n ≤ 140737488351232) (hm : m ≤ 140737488351232) (hc2 : m ≤ c2) (hA : SlB w A n f) (hB : SlB w B m g) (nA : A = none → n = 0 ∧ c = 0) (nB : B = none → m = 0 ∧ c2 = 0) (ht : GT w) :
    Calls Tryd.prog 3 #[.slice A n c, .slice B m c2] w fun e w' => e = .returned (.bool true) ∧ Below w.heap.size w w' := by
  by_cases h1 : 65536 < n
  · have hd : decide (65536 < (n : Int)) = true := by simp; omega
    have HT := Lib.hid ht
    clear hA hB nA nB ht
    go_enter Tryd.func3, Tryd.ntmps3
    go_wp2_with fail
    refine (small_any _ HT.out).mono ?_
    rintro e w1 ⟨rfl, hb1⟩
    have HB1 := Lib.hid hb1
    clear hb1
    go_wp2_with fail
    go_ret
    exact ⟨rfl, HB1.out⟩
  · by_cases h2 : 65536 < m
    · have hd : decide (65536 < (n : Int)) = false := by simp; omega
      have hd2 : decide (65536 < (m : Int)) = true := by simp; omega
      have HT := Lib.hid ht
      clear hA hB nA nB ht
      go_enter Tryd.func3, Tryd.ntmps3
      go_wp2_with fail
      refine (small_any _ HT.out).mono ?_
      rintro e w1 ⟨rfl, hb1⟩
      have HB1 := Lib.hid hb1
      clear hb1
      go_wp2_with fail
      go_ret
      exact ⟨rfl, HB1.out⟩
    · exact sums_any A B n c m c2 f g w (by omega) (by omega) hc2 hA hB nA nB ht
end Go.Proofs.YtcmhnelonainhaaDoor
