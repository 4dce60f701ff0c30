/- Law LimitsAnew (layer 16). -/
import Derived.Test.YtbcanfhjdllaoaaActs16
import Derived.Test.YtbcanfhjdllaoaaLimH
import Derived.Test.YtbcanfhjdllaoaaOrdT
import Derived.Test.YtbcanfhjdllaoaaOrdI
import Derived.Test.YtbcanfhjdllaoaaOrdX
namespace Go.Proofs.Ytbcanfhjdllaoaa
set_option maxRecDepth 100000
open Go.RowKit
theorem low_try {L : List Us} {r : Rl} {c : ByteArray} {a t now : Int} (h : LowW L (now / r.k)) (ht : t ≤ now) : LowW (trN L r c a t) (now / r.k) := by
  unfold trN
  by_cases e : trE L r c a t = 0
  · rw [if_pos e]
    have k := tr_iff.1 e
    have hw : (nxtU (getU L c (winW r t)) a).w ≤ now / r.k := by
      show (getU L c (winW r t)).w ≤ _
      rw [get_card.2]
      exact Int.ediv_le_ediv (by have := k.my.rk.1; omega) ht
    exact low_put h hw
  · rw [if_neg e]
    exact h
/-- in a window behind the last one all begins anew -/
theorem anew_iff {L : List Us} {r : Rl} {c : ByteArray} {a now : Int} (h : LowW L (now / r.k)) (hr : rlK r = true) (h0 : 0 ≤ now) (h1 : now ≤ 549755813888) (hk : r.k ≤ 549755813888) (hc : 1 ≤ c.size ∧ c.size ≤ 32) :
    trE L r c a (now + r.k) = 0 ↔ (0 ≤ a ∧ a ≤ 999999999999 ∧ a ≤ r.o ∧ a ≤ r.s ∧ 0 < r.t) := by
  have hr' := hr
  unfold rlK at hr'
  obtain ⟨q1, q2, q3, q4, q5⟩ := of_decide_eq_true hr'
  have hW : winW r (now + r.k) = now / r.k + 1 := by
    unfold winW
    rw [Int.add_ediv_of_dvd_right (Int.dvd_refl _), Int.ediv_self (by omega)]
  have hne : ∀ u ∈ L, u.w ≠ winW r (now + r.k) := fun u hu e => by
    have := h u hu
    rw [hW] at e
    omega
  have hg : getU L c (winW r (now + r.k)) = ⟨c, winW r (now + r.k), 0, 0⟩ := by
    unfold getU
    cases hf : fndU L c with
    | none => rfl
    | some v => exact if_neg (hne v (fnd_mem hf).1)
  rw [tr_iff]
  constructor
  · intro k
    have k3 := k.times
    have k4 := k.sum
    rw [hg] at k3 k4
    have k3 : 0 < r.t := k3
    have k4 : 0 + a ≤ r.s := k4
    exact ⟨k.my.a.1, k.my.a.2, k.once, by omega, k3⟩
  · rintro ⟨a1, a2, a3, a4, a5⟩
    refine ⟨⟨q1, q2, q3, ⟨q4, q5⟩, ⟨a1, a2⟩, hc, by omega, by omega⟩, a3, by rw [hg]; exact a5, by rw [hg]; show 0 + a ≤ r.s; omega, ?_⟩
    by_cases hl : L.length < 16
    · exact Or.inr (Or.inl hl)
    · cases L with
      | nil => exact absurd (show ([] : List Us).length < 16 by decide) hl
      | cons v L => exact Or.inr (Or.inr (by rw [List.any_cons, decide_eq_true (hne v (List.mem_cons_self ..)), Bool.true_or]))
theorem run_ixA (B o n cc k : Nat) (h : (k : Int) < n) (w : World) : (Instr.indexAt 23 (.slice (some ⟨B, o, none⟩) n cc) (.int .i64 (k : Nat))).run Try.prog w = .ok (.pointer (some ⟨B, o + k * 8, none⟩)) w := by
  have h0 : ¬ ((k : Nat) : Int) < 0 := by omega
  go_simp
theorem run_faA2 (B o : Nat) (w : World) : (Instr.fieldAt 40 (.pointer (some ⟨B, o, none⟩)) 2).run Try.prog w = .ok (.pointer (some ⟨B, o + 5, none⟩)) w := by go_simp
theorem run_faA3 (B o : Nat) (w : World) : (Instr.fieldAt 40 (.pointer (some ⟨B, o, none⟩)) 3).run Try.prog w = .ok (.pointer (some ⟨B, o + 6, none⟩)) w := by go_simp
theorem run_faA4 (B o : Nat) (w : World) : (Instr.fieldAt 40 (.pointer (some ⟨B, o, none⟩)) 4).run Try.prog w = .ok (.pointer (some ⟨B, o + 7, none⟩)) w := by go_simp
theorem run_ldR (H : Nat) (rk rt rs ro : Int) (w : World) (h : w.cell? ⟨H, 0, none⟩ = some (.int .i64 rk) ∧ w.cell? ⟨H, 1, none⟩ = some (.int .i64 rt) ∧ w.cell? ⟨H, 2, none⟩ = some (.int .i64 rs) ∧ w.cell? ⟨H, 3, none⟩ = some (.int .i64 ro)) : (Instr.loadAt 38 (.pointer (some ⟨H, 0, none⟩))).run Try.prog w = .ok (ruW rk rt rs ro) w := by
  obtain ⟨h0, h1, h2, h3⟩ := h
  go_simp
theorem run_ldIA (A : Addr) (x : Int) (w : World) (h : w.cell? A = some (.int .i64 x)) : (Instr.loadAt 3 (.pointer (some A))).run Try.prog w = .ok (.int .i64 x) w := by go_simp
theorem run_ldSA (A : Addr) (x : ByteArray) (w : World) (h : w.cell? A = some (.string x)) : (Instr.loadAt 9 (.pointer (some A))).run Try.prog w = .ok (.string x) w := by go_simp
theorem nilNe16 {c : ByteArray} (h : 1 ≤ c.size) : ¬ c.toList = [] ∧ c.toList.isEmpty = false := by
  have h2 := toList_of_size (s := c) (by omega)
  exact ⟨(fun e => by rw [e] at h2; cases h2), h2⟩
theorem nilOf {c : ByteArray} (h : c.size = 0) : c.toList = [] := by
  rw [ByteArray.toList_eq]
  exact List.eq_nil_of_length_eq_zero (Array.length_toList.trans h)
--DEFS an
def anP (G B o k n cc : Nat) (rk rt rs ro xa xn : Int) (xc : ByteArray) : Nat → Value → World → Prop
  | 0, v, _ => v = .pointer (some ⟨G, 0, none⟩)
  | 1, v, _ => v = ruW rk rt rs ro
  | 2, v, _ => v = .slice (some ⟨B, o, none⟩) n cc
  | 3, v, _ => v = .int .i64 (k : Nat)
  | 4, v, _ => v = .pointer (some ⟨B, o + k * 8, none⟩)
  | 5, v, _ => v = .pointer (some ⟨B, o + k * 8 + 5, none⟩)
  | 6, v, _ => v = .string xc
  | 7, v, _ => v = .slice (some ⟨B, o, none⟩) n cc
  | 8, v, _ => v = .int .i64 (k : Nat)
  | 9, v, _ => v = .pointer (some ⟨B, o + k * 8, none⟩)
  | 10, v, _ => v = .pointer (some ⟨B, o + k * 8 + 6, none⟩)
  | 11, v, _ => v = .int .i64 xa
  | 12, v, _ => v = .slice (some ⟨B, o, none⟩) n cc
  | 13, v, _ => v = .int .i64 (k : Nat)
  | 14, v, _ => v = .pointer (some ⟨B, o + k * 8, none⟩)
  | 15, v, _ => v = .pointer (some ⟨B, o + k * 8 + 7, none⟩)
  | 16, v, _ => v = .int .i64 xn
  | _, _, _ => True
theorem anP_stays (G B o k n cc : Nat) (rk rt rs ro xa xn : Int) (xc : ByteArray) : ∀ i v w w', anP G B o k n cc rk rt rs ro xa xn xc i v w → Below w.heap.size w w' → anP G B o k n cc rk rt rs ro xa xn xc i v w'
  | 0, _, _, _, h, _ => h
  | 1, _, _, _, h, _ => h
  | 2, _, _, _, h, _ => h
  | 3, _, _, _, h, _ => h
  | 4, _, _, _, h, _ => h
  | 5, _, _, _, h, _ => h
  | 6, _, _, _, h, _ => h
  | 7, _, _, _, h, _ => h
  | 8, _, _, _, h, _ => h
  | 9, _, _, _, h, _ => h
  | 10, _, _, _, h, _ => h
  | 11, _, _, _, h, _ => h
  | 12, _, _, _, h, _ => h
  | 13, _, _, _, h, _ => h
  | 14, _, _, _, h, _ => h
  | 15, _, _, _, h, _ => h
  | 16, _, _, _, h, _ => h
  | _ + 17, _, _, _, _, _ => trivial
--END DEFS an
set_option maxHeartbeats 6400000 in
theorem anew16_any (hN : LimOk) (rk rt rs ro : Int) (A : Option Addr) (cc : Nat) (X : List Ac) (c : ByteArray) (a now : Int) (w : World) (hv : Ev w) (hv2 : ∀ W, Ev W) (hX : ∀ x ∈ X, x.c.size ≤ maxLen) (hact : LiS acE w A X) (hc : c.size ≤ maxLen) :
    Calls Try.prog 6 #[ruW rk rt rs ro, .slice A X.length cc, .string c, .int .i64 a, .int .i64 now] w fun e w' => e = .returned (.bool true) ∧ Below w.heap.size w w' := by
  have HB0 := Lib.hid (alloc_below w (.cells #[.int .i64 rk, .int .i64 rt, .int .i64 rs, .int .i64 ro] 38))
  have HS := Lib.hid (small16_any hN (w.alloc (.cells #[.int .i64 rk, .int .i64 rt, .int .i64 rs, .int .i64 ro] 38)) (hv2 _))
  have HN := Lib.hid (fun w1 (hb : Below w.heap.size w w1) => hN.new w w1 hv hb)
  have HR := Lib.hid (fun W => hN.right W rk rt rs ro (hv2 W))
  have HACT := Lib.hid hact
  have HX := Lib.hid hX
  have HCS := Lib.hid hc
  clear hN hv hv2 hact hX hc
  go_enter Try.func6, Try.ntmps6
  go_wp2_with fail
  refine HS.out.mono ?_
  rintro e w1 ⟨rfl, hb1⟩
  have HB1 := Lib.hid (HB0.out.trans (hb1.mono HB0.out.size))
  have HH1 := Lib.hid (show w1.heap[w.heap.size]? = some (.cells #[.int .i64 rk, .int .i64 rt, .int .i64 rs, .int .i64 ro] 38) from (hb1.block _ (by simp)).trans (by
    show (w.heap.push _)[w.heap.size]? = _
    rw [Array.getElem?_push_size]))
  clear hb1
  go_wp2_with fail
  refine (HN.out w1 HB1.out).mono ?_
  rintro e w2 ⟨G, TA, O, rfl, hkit, ha, ho, hb2⟩
  have HK := Lib.hid hkit
  have HA := Lib.hid (show HeldK TA w.heap.size (.cells #[.int .i64 rk, .int .i64 rt, .int .i64 rs, .int .i64 ro] 38) w2 [] from ⟨O, ha, fun hx => by
    have h1 := ho _ hx
    have h2 := (Array.getElem?_eq_some_iff.1 HH1.out).1
    omega, (hb2.block _ (Array.getElem?_eq_some_iff.1 HH1.out).1).trans HH1.out⟩)
  have HCE := Lib.hid (show ∀ W L, HeldK TA w.heap.size (.cells #[.int .i64 rk, .int .i64 rt, .int .i64 rs, .int .i64 ro] 38) W L → W.cell? ⟨w.heap.size, 0, none⟩ = some (.int .i64 rk) ∧ W.cell? ⟨w.heap.size, 1, none⟩ = some (.int .i64 rt) ∧ W.cell? ⟨w.heap.size, 2, none⟩ = some (.int .i64 rs) ∧ W.cell? ⟨w.heap.size, 3, none⟩ = some (.int .i64 ro) from fun W L h => by
    obtain ⟨_, _, _, e⟩ := h
    exact ⟨(Lib.cell_of_heap e 0).trans rfl, (Lib.cell_of_heap e 1).trans rfl, (Lib.cell_of_heap e 2).trans rfl, (Lib.cell_of_heap e 3).trans rfl⟩)
  clear hkit ha ho hb2 HN HS HH1 HB0
  generalize hob : Obj.cells #[.int .i64 rk, .int .i64 rt, .int .i64 rs, .int .i64 ro] 38 = ob at *
  clear hob
  go_wp2_with fail
  go_loopw [13] (fun i wr => ∃ (k : Nat) (L : List Us), i = .int .i64 k ∧ k ≤ X.length ∧ k ≤ 60 ∧ HeldK TA w.heap.size ob wr L ∧ LowW L (now / rk)) (fun i _ => X.length - (intOf i).toNat)
  case atStart => exact ⟨0, [], rfl, Nat.zero_le _, Nat.zero_le _, HA.out, fun u hu => by cases hu⟩
  case round =>
    obtain ⟨k, L, rfl, hk, hk60, hp, hlw⟩ := hrel
    have HP := Lib.hid hp
    have HLW := Lib.hid hlw
    obtain ⟨r0, r1, r2, r3⟩ := HCE.out _ _ hp
    clear hp HA hlw
    by_cases hlt : k < X.length ∧ k < 60
    · obtain ⟨hl1, hl2⟩ := hlt
      have hki : (k : Int) < X.length := by omega
      have hk2i : (k : Int) < 60 := by omega
      have hk3 : ¬ (k : Int) < 0 := by omega
      obtain ⟨B, o, rfl, hBl, a0, a1, a2, a3, a4, a5, a6, a7⟩ := ac_at (HACT.out.keep (HP.out.bel HK.out)) hl1
      have HXc := Lib.hid (HX.out _ (List.getElem_mem hl1))
      generalize X[k] = x at *
      obtain ⟨d, xr, xc, xa, xn⟩ := x
      simp only at a0 a1 a2 a3 a4 a5 a6 a7 HXc
      clear a0 a1 a2 a3 a4
      by_cases hle : xn ≤ now
      · have d1 : decide (xn ≤ now) = true := decide_eq_true hle
        have HN := Lib.hid (low_try (c := xc) (a := xa) (r := ⟨rk, rt, rs, ro⟩) HLW.out hle)
        have HT := Lib.hid (show ∀ W, Below wr.heap.size wr W → Calls Try.prog 20 #[.pointer (some ⟨G, 0, none⟩), ruW rk rt rs ro, .string xc, .int .i64 xa, .int .i64 xn] W fun e w' => e = .returned (.int .i64 (trE L ⟨rk, rt, rs, ro⟩ xc xa xn)) ∧ HeldK TA w.heap.size ob w' (trN L ⟨rk, rt, rs, ro⟩ xc xa xn) from fun W hb => HeldK.call HK.out (HP.out.below HK.out hb) fun O h => HK.out.try_ _ _ O rk rt rs ro xc xa xn h HXc.out)
        generalize trN L ⟨rk, rt, rs, ro⟩ xc xa xn = L1 at *
        generalize trE L ⟨rk, rt, rs, ro⟩ xc xa xn = e1 at *
        go_wp2_with fail
        have HKI := Lib.hid hki
        have HRB := Lib.hid (show ∀ W, Below wr.heap.size wr W → W.cell? ⟨w.heap.size, 0, none⟩ = some (.int .i64 rk) ∧ W.cell? ⟨w.heap.size, 1, none⟩ = some (.int .i64 rt) ∧ W.cell? ⟨w.heap.size, 2, none⟩ = some (.int .i64 rs) ∧ W.cell? ⟨w.heap.size, 3, none⟩ = some (.int .i64 ro) from fun W hb => HCE.out _ _ (HP.out.below HK.out hb))
        have HAB := Lib.hid (show ∀ W, Below wr.heap.size wr W → W.cell? ⟨B, o + k * 8 + 5, none⟩ = some (.string xc) ∧ W.cell? ⟨B, o + k * 8 + 6, none⟩ = some (.int .i64 xa) ∧ W.cell? ⟨B, o + k * 8 + 7, none⟩ = some (.int .i64 xn) from fun W hb => ⟨(hb.cell (p := ⟨B, _, none⟩) hBl).trans a5, (hb.cell (p := ⟨B, _, none⟩) hBl).trans a6, (hb.cell (p := ⟨B, _, none⟩) hBl).trans a7⟩)
        refine ord.wp_region_ordT 17 [[], [], [], [], [2, 3], [4], [5], [], [], [7, 8], [9], [10], [], [], [12, 13], [14], [15]] [(0, 41), (1, 42), (2, 43), (3, 44), (4, 45), (5, 46), (6, 47), (7, 48), (8, 49), (9, 50), (10, 51), (11, 52), (12, 53), (13, 54), (14, 55), (15, 56), (16, 57)] (anP G B o k X.length cc rk rt rs ro xa xn xc) (by kernel_rfl) (by kernel_rfl) (by kernel_rfl) (anP_stays _ _ _ _ _ _ _ _ _ _ _ _ _) ((ord.steps_cons ?_ (ord.steps_cons ?_ (ord.steps_cons ?_ (ord.steps_cons ?_ (ord.steps_cons ?_ (ord.steps_cons ?_ (ord.steps_cons ?_ (ord.steps_cons ?_ (ord.steps_cons ?_ (ord.steps_cons ?_ (ord.steps_cons ?_ (ord.steps_cons ?_ (ord.steps_cons ?_ (ord.steps_cons ?_ (ord.steps_cons ?_ (ord.steps_cons ?_ (ord.steps_cons ?_ ord.steps_nil)))))))))))))))))) ?_
        --STEPS an
        · intro o ho x w hb hG
          obtain rfl := Option.some.inj ho
          clear ho
          refine Or.inl ⟨ord.want0 rfl, ?_⟩
          exact ord.makes_move rfl ⟨Below.refl _ _, rfl⟩
        · intro o ho x w hb hG
          obtain rfl := Option.some.inj ho
          clear ho
          refine Or.inl ⟨ord.want0 rfl, ?_⟩
          exact ord.makes_ld rfl rfl (run_ldR _ _ _ _ _ w (HRB.out w (of_drew hb))) ⟨Below.refl _ _, rfl⟩
        · intro o ho x w hb hG
          obtain rfl := Option.some.inj ho
          clear ho
          refine Or.inl ⟨ord.want0 rfl, ?_⟩
          exact ord.makes_move rfl ⟨Below.refl _ _, rfl⟩
        · intro o ho x w hb hG
          obtain rfl := Option.some.inj ho
          clear ho
          refine Or.inl ⟨ord.want0 rfl, ?_⟩
          exact ord.makes_move rfl ⟨Below.refl _ _, rfl⟩
        · intro o ho x w hb hG
          obtain rfl := Option.some.inj ho
          clear ho
          have h43 : x 2 = .slice (some ⟨B, o, none⟩) X.length cc := hG (2, 43) (List.mem_of_getElem? (i := 2) rfl) rfl
          have h44 : x 3 = .int .i64 (k : Nat) := hG (3, 44) (List.mem_of_getElem? (i := 3) rfl) rfl
          refine Or.inl ⟨ord.want0 rfl, ?_⟩
          exact ord.makes_ixAddr rfl h43 h44 (run_ixA _ _ _ _ _ HKI.out w) ⟨Below.refl _ _, rfl⟩
        · intro o ho x w hb hG
          obtain rfl := Option.some.inj ho
          clear ho
          have h45 : x 4 = .pointer (some ⟨B, o + k * 8, none⟩) := hG (4, 45) (List.mem_of_getElem? (i := 4) rfl) rfl
          refine Or.inl ⟨ord.want0 rfl, ?_⟩
          exact ord.makes_fieldAddr rfl h45 (run_faA2 _ _ w) ⟨Below.refl _ _, rfl⟩
        · intro o ho x w hb hG
          obtain rfl := Option.some.inj ho
          clear ho
          have h46 : x 5 = .pointer (some ⟨B, o + k * 8 + 5, none⟩) := hG (5, 46) (List.mem_of_getElem? (i := 5) rfl) rfl
          refine Or.inl ⟨ord.want0 rfl, ?_⟩
          exact ord.makes_ld rfl h46 (run_ldSA _ _ w (HAB.out w (of_drew hb)).1) ⟨Below.refl _ _, rfl⟩
        · intro o ho x w hb hG
          obtain rfl := Option.some.inj ho
          clear ho
          refine Or.inl ⟨ord.want0 rfl, ?_⟩
          exact ord.makes_move rfl ⟨Below.refl _ _, rfl⟩
        · intro o ho x w hb hG
          obtain rfl := Option.some.inj ho
          clear ho
          refine Or.inl ⟨ord.want0 rfl, ?_⟩
          exact ord.makes_move rfl ⟨Below.refl _ _, rfl⟩
        · intro o ho x w hb hG
          obtain rfl := Option.some.inj ho
          clear ho
          have h48 : x 7 = .slice (some ⟨B, o, none⟩) X.length cc := hG (7, 48) (List.mem_of_getElem? (i := 7) rfl) rfl
          have h49 : x 8 = .int .i64 (k : Nat) := hG (8, 49) (List.mem_of_getElem? (i := 8) rfl) rfl
          refine Or.inl ⟨ord.want0 rfl, ?_⟩
          exact ord.makes_ixAddr rfl h48 h49 (run_ixA _ _ _ _ _ HKI.out w) ⟨Below.refl _ _, rfl⟩
        · intro o ho x w hb hG
          obtain rfl := Option.some.inj ho
          clear ho
          have h50 : x 9 = .pointer (some ⟨B, o + k * 8, none⟩) := hG (9, 50) (List.mem_of_getElem? (i := 9) rfl) rfl
          refine Or.inl ⟨ord.want0 rfl, ?_⟩
          exact ord.makes_fieldAddr rfl h50 (run_faA3 _ _ w) ⟨Below.refl _ _, rfl⟩
        · intro o ho x w hb hG
          obtain rfl := Option.some.inj ho
          clear ho
          have h51 : x 10 = .pointer (some ⟨B, o + k * 8 + 6, none⟩) := hG (10, 51) (List.mem_of_getElem? (i := 10) rfl) rfl
          refine Or.inl ⟨ord.want0 rfl, ?_⟩
          exact ord.makes_ld rfl h51 (run_ldIA _ _ w (HAB.out w (of_drew hb)).2.1) ⟨Below.refl _ _, rfl⟩
        · intro o ho x w hb hG
          obtain rfl := Option.some.inj ho
          clear ho
          refine Or.inl ⟨ord.want0 rfl, ?_⟩
          exact ord.makes_move rfl ⟨Below.refl _ _, rfl⟩
        · intro o ho x w hb hG
          obtain rfl := Option.some.inj ho
          clear ho
          refine Or.inl ⟨ord.want0 rfl, ?_⟩
          exact ord.makes_move rfl ⟨Below.refl _ _, rfl⟩
        · intro o ho x w hb hG
          obtain rfl := Option.some.inj ho
          clear ho
          have h53 : x 12 = .slice (some ⟨B, o, none⟩) X.length cc := hG (12, 53) (List.mem_of_getElem? (i := 12) rfl) rfl
          have h54 : x 13 = .int .i64 (k : Nat) := hG (13, 54) (List.mem_of_getElem? (i := 13) rfl) rfl
          refine Or.inl ⟨ord.want0 rfl, ?_⟩
          exact ord.makes_ixAddr rfl h53 h54 (run_ixA _ _ _ _ _ HKI.out w) ⟨Below.refl _ _, rfl⟩
        · intro o ho x w hb hG
          obtain rfl := Option.some.inj ho
          clear ho
          have h55 : x 14 = .pointer (some ⟨B, o + k * 8, none⟩) := hG (14, 55) (List.mem_of_getElem? (i := 14) rfl) rfl
          refine Or.inl ⟨ord.want0 rfl, ?_⟩
          exact ord.makes_fieldAddr rfl h55 (run_faA4 _ _ w) ⟨Below.refl _ _, rfl⟩
        · intro o ho x w hb hG
          obtain rfl := Option.some.inj ho
          clear ho
          have h56 : x 15 = .pointer (some ⟨B, o + k * 8 + 7, none⟩) := hG (15, 56) (List.mem_of_getElem? (i := 15) rfl) rfl
          refine Or.inl ⟨ord.want0 rfl, ?_⟩
          exact ord.makes_ld rfl h56 (run_ldIA _ _ w (HAB.out w (of_drew hb)).2.2) ⟨Below.refl _ _, rfl⟩
        --END STEPS an
        · intro x w5 hb hG
          have e1 : x 0 = .pointer (some ⟨G, 0, none⟩) := hG (0, 41) (List.mem_of_getElem? (i := 0) rfl)
          have e2 : x 1 = ruW rk rt rs ro := hG (1, 42) (List.mem_of_getElem? (i := 1) rfl)
          have e3 : x 6 = .string xc := hG (6, 47) (List.mem_of_getElem? (i := 6) rfl)
          have e4 : x 11 = .int .i64 xa := hG (11, 52) (List.mem_of_getElem? (i := 11) rfl)
          have e5 : x 16 = .int .i64 xn := hG (16, 57) (List.mem_of_getElem? (i := 16) rfl)
          clear hG
          simp only [ord.puts, ord.put', List.set_cons_zero, List.set_cons_succ, if_true]
          rw [e1, e2, e3, e4, e5]
          simp only [List.drop_succ_cons, List.drop_zero]
          have HT5 := Lib.hid (HT.out w5 hb)
          clear e1 e2 e3 e4 e5 hb r0 r1 r2 r3 a5 a6 a7
          go_wp2_with fail
          refine HT5.out.mono ?_
          rintro e w6 ⟨rfl, h6⟩
          have H6 := Lib.hid h6
          clear h6
          go_wp2_with fail
          go_roundw
          case rel => exact ⟨k + 1, L1, by go_num, by omega, by omega, H6.out, HN.out⟩
          case measure => simp [intOf]; omega
      · have d1 : decide (xn ≤ now) = false := decide_eq_false hle
        go_wp2_with fail
        go_roundw
        case rel => exact ⟨k + 1, L, by go_num, by omega, by omega, HP.out, HLW.out⟩
        case measure => simp [intOf]; omega
    · have hend : ¬ (k : Int) < X.length ∨ (k : Int) < X.length ∧ ¬ (k : Int) < 60 := by omega
      have HRW := Lib.hid (HR.out wr)
      obtain ⟨bl, hbl⟩ : ∃ b, rlK ⟨rk, rt, rs, ro⟩ = b := ⟨_, rfl⟩
      rw [hbl] at HRW
      have HBL := Lib.hid hbl
      clear hbl HR HACT HX HB1
      have hw : (bl = false) ∨ (bl = true ∧ now < 0) ∨ (bl = true ∧ 0 ≤ now ∧ 549755813888 < now) ∨ (bl = true ∧ 0 ≤ now ∧ now ≤ 549755813888 ∧ 549755813888 < rk) ∨ (bl = true ∧ 0 ≤ now ∧ now ≤ 549755813888 ∧ rk ≤ 549755813888 ∧ c.size = 0) ∨
          (bl = true ∧ 0 ≤ now ∧ now ≤ 549755813888 ∧ rk ≤ 549755813888 ∧ 1 ≤ c.size ∧ 32 < c.size) ∨ (bl = true ∧ 0 ≤ now ∧ now ≤ 549755813888 ∧ rk ≤ 549755813888 ∧ 1 ≤ c.size ∧ c.size ≤ 32) := by
        cases bl
        · exact Or.inl rfl
        · simp only [true_and, Bool.true_eq_false, false_or]
          omega
      have HEND := Lib.hid hend
      clear hend hlt
      rcases hw with rfl | ⟨rfl, p1⟩ | ⟨rfl, p1, p2⟩ | ⟨rfl, p1, p2, p3⟩ | ⟨rfl, p1, p2, p3, p4⟩ | ⟨rfl, p1, p2, p3, p4, p5⟩ | ⟨rfl, p1, p2, p3, p4, p5⟩
      iterate 6
        · as_aux_lemma =>
            try (have d1 : decide (now < 0) = true := decide_eq_true (by omega))
            try (have d1 : decide (now < 0) = false := decide_eq_false (by omega))
            try (have d2 : decide ((549755813888 : Int) < now) = true := decide_eq_true (by omega))
            try (have d2 : decide ((549755813888 : Int) < now) = false := decide_eq_false (by omega))
            try (have d3 : decide ((549755813888 : Int) < rk) = true := decide_eq_true (by omega))
            try (have d3 : decide ((549755813888 : Int) < rk) = false := decide_eq_false (by omega))
            try (have d4 := nilOf p4)
            try (have d4 := (nilNe16 p4).1)
            try (have d5 := (nilNe16 p4).2)
            try (have d6 : decide ((32 : Int) < ((c.size : Nat) : Int)) = true := decide_eq_true (by omega))
            try clear p1
            try clear p2
            try clear p3
            rcases HEND.out with hki | ⟨hki, hki2⟩
            all_goals
              go_wp2_with fail
              refine HRW.out.mono ?_
              rintro e w5 ⟨rfl, hb5⟩
              have HP5 := Lib.hid (HP.out.below HK.out hb5)
              obtain ⟨s0, s1, s2, s3⟩ := HCE.out _ _ HP5.out
              clear hb5
              go_wp2_with fail
              go_ret
              exact ⟨rfl, HP5.out.bel HK.out⟩
      have HRK := Lib.hid (show 1 ≤ rk by
        have h := HBL.out
        unfold rlK at h
        exact (of_decide_eq_true h).2.2.2.1)
      have HAN := Lib.hid (anew_iff (a := a) (r := ⟨rk, rt, rs, ro⟩) HLW.out HBL.out p1 p2 p3 ⟨p4, p5⟩)
      have hrk := HRK.out
      have hd4 := nilNe16 p4
      have d4 := hd4.1
      have d5 := hd4.2
      have hsz : ¬ (32 : Int) < ((c.size : Nat) : Int) := by omega
      clear HBL p4 p5 hd4
      have hfine : (a < 0) ∨ (0 ≤ a ∧ 999999999999 < a) ∨ (0 ≤ a ∧ a ≤ 999999999999 ∧ ro < a) ∨ (0 ≤ a ∧ a ≤ 999999999999 ∧ a ≤ ro ∧ rs < a) ∨ (0 ≤ a ∧ a ≤ 999999999999 ∧ a ≤ ro ∧ a ≤ rs ∧ rt ≤ 0) ∨ (0 ≤ a ∧ a ≤ 999999999999 ∧ a ≤ ro ∧ a ≤ rs ∧ 0 < rt) := by omega
      have HTT := Lib.hid (show ∀ W, Below wr.heap.size wr W → Calls Try.prog 20 #[.pointer (some ⟨G, 0, none⟩), ruW rk rt rs ro, .string c, .int .i64 a, .int .i64 (now + rk)] W fun e w' => e = .returned (.int .i64 (trE L ⟨rk, rt, rs, ro⟩ c a (now + rk))) ∧ HeldK TA w.heap.size ob w' (trN L ⟨rk, rt, rs, ro⟩ c a (now + rk)) from fun W hb => HeldK.call HK.out (HP.out.below HK.out hb) fun O h => HK.out.try_ _ _ O rk rt rs ro c a (now + rk) h HCS.out)
      generalize trN L ⟨rk, rt, rs, ro⟩ c a (now + rk) = L1 at *
      generalize trE L ⟨rk, rt, rs, ro⟩ c a (now + rk) = E at *
      have HF := Lib.hid hfine
      have HF1 := Lib.hid (show (0 ≤ a ∧ a ≤ 999999999999 ∧ a ≤ ro ∧ a ≤ rs ∧ 0 < rt) → (E == 0) = true from fun h => by rw [HAN.out.2 h]; rfl)
      have HF0 := Lib.hid (show ¬ (0 ≤ a ∧ a ≤ 999999999999 ∧ a ≤ ro ∧ a ≤ rs ∧ 0 < rt) → (E == 0) = false from fun h => by simpa using fun e => h (HAN.out.1 e))
      clear hfine HAN
      rcases HF.out with q0 | ⟨q0, q1⟩ | ⟨q0, q1, q2⟩ | ⟨q0, q1, q2, q3⟩ | ⟨q0, q1, q2, q3, q4⟩ | ⟨q0, q1, q2, q3, q4⟩
      iterate 6
        · as_aux_lemma =>
            clear HF
            try (have f1 := HF1.out (by omega))
            try (have f1 := HF0.out (by omega))
            clear HF1 HF0
            rcases HEND.out with hki | ⟨hki, hki2⟩
            all_goals
              go_wp2_with fail
              refine HRW.out.mono ?_
              rintro e w5 ⟨rfl, hb5⟩
              have HT5 := Lib.hid (HTT.out w5 hb5)
              have HP5 := Lib.hid (HP.out.below HK.out hb5)
              obtain ⟨s0, s1, s2, s3⟩ := HCE.out _ _ HP5.out
              clear hb5
              go_wp2_with fail
              refine HT5.out.mono ?_
              rintro e w6 ⟨rfl, h6⟩
              have HP6 := Lib.hid h6
              obtain ⟨z0, z1, z2, z3⟩ := HCE.out _ _ h6
              clear h6 s0 s1 s2 s3
              go_wp2_with fail
              go_ret
              exact ⟨by (simp <;> omega), HP6.out.bel HK.out⟩
end Go.Proofs.Ytbcanfhjdllaoaa
