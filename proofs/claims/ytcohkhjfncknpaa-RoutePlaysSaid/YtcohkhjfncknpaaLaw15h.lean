/- Law RoutePlays (layer 15). Written by sh/mkp.sh. -/
import Derived.Test.YtcohkhjfncknpaaLaw15g
import Derived.Test.YtcohkhjfncknpaaActs15
import Derived.Test.YtcohkhjfncknpaaOrdS
import Derived.Test.YtcohkhjfncknpaaOrdI
import Derived.Test.YtcohkhjfncknpaaOrdG
namespace Go.Proofs.Ytcohkhjfncknpaa
set_option maxRecDepth 100000
open Go.RowKit
theorem rput15_any (u : World) (X : Nat) (L : List Rt) (v : Value) (p : ByteArray) (t : Int) (w : World) (h : RTb u X w L v) (hp : p.size ≤ maxLen) :
    Calls Try.prog 12 #[.pointer (some ⟨X, 0, none⟩), .string p, .int .i64 t] w fun e w' => e = .returned (.int .i64 (puE L p t)) ∧ RtS u X w v w' (puN L p t) := by
  cases hk : puK p t with
  | true => exact rput15_good u X L v p t w h hk
  | false =>
    have he : puE L p t = 1 := by unfold puE; rw [if_neg (by rw [hk]; decide)]
    have hn : puN L p t = L := by unfold puN; rw [if_neg (by rw [he]; decide)]
    rw [he, hn]
    exact rput15_bad u X L v p t w h hp hk
theorem run_fbA1 (H : Nat) (w : World) : (Instr.fieldAt 29 (.pointer (some ⟨H, 0, none⟩)) 1).run Try.prog w = .ok (.pointer (some ⟨H, 1, none⟩)) w := by go_simp
theorem run_fbA2 (H : Nat) (w : World) : (Instr.fieldAt 29 (.pointer (some ⟨H, 0, none⟩)) 2).run Try.prog w = .ok (.pointer (some ⟨H, 2, none⟩)) w := by go_simp
theorem run_ldI (A : Addr) (x : Int) (w : World) (h : w.cell? A = some (.int .i64 x)) : (Instr.loadAt 3 (.pointer (some A))).run Try.prog w = .ok (.int .i64 x) w := by go_simp
theorem run_ldS (A : Addr) (x : ByteArray) (w : World) (h : w.cell? A = some (.string x)) : (Instr.loadAt 9 (.pointer (some A))).run Try.prog w = .ok (.string x) w := by go_simp
/-- the two tables while both are changed: operation i is the code's, operation j the document's -/
def J15 (u : World) (TA : World → List Rt → (Nat → Prop) → Prop) (X H : Nat) (w1 : World) (L L1 : List Rt) (i j : Nat) (c : Nat → Bool) (w : World) : Prop :=
  BothK u TA X (fun k => k = H) w1 w (if c i = true then L1 else L) (if c j = true then L1 else L)
section
variable {u w w1 : World} {G X H i j : Nat} {TA : World → List Rt → (Nat → Prop) → Prop} {L L1 : List Rt} {f : FuncId} {args : Array Value} {r : Value} {c : Nat → Bool}
theorem J15.keep (h : J15 u TA X H w1 L L1 i j c w) {q : Nat} (h1 : i ≠ q) (h2 : j ≠ q) : J15 u TA X H w1 L L1 i j (ord.upd c q) w := by
  unfold J15 ord.upd
  rw [if_neg h1, if_neg h2]
  exact h
theorem J15.code (hK : TKit u G TA) (h : J15 u TA X H w1 L L1 i j c w) (hc : c i = false) (hij : j ≠ i) (hcall : ∀ w O, TA w L O → Calls Try.prog f args w fun e w' => e = .returned r ∧ TStep TA w O w' L1) :
    Calls Try.prog f args w fun e w' => e = .returned r ∧ J15 u TA X H w1 L L1 i j (ord.upd c i) w' := by
  unfold J15 at h
  rw [hc] at h
  simp only [Bool.false_eq_true, if_false] at h
  unfold J15 ord.upd
  rw [if_pos rfl, if_pos rfl, if_neg hij]
  exact BothK.code hK h fun O ho => hcall w O ho
theorem J15.ref (hK : TKit u G TA) (h : J15 u TA X H w1 L L1 i j c w) (hc : c j = false) (hij : i ≠ j) (hcall : ∀ w v, RTb u X w L v → Calls Try.prog f args w fun e w' => e = .returned r ∧ RtS u X w v w' L1) :
    Calls Try.prog f args w fun e w' => e = .returned r ∧ J15 u TA X H w1 L L1 i j (ord.upd c j) w' := by
  unfold J15 at h
  rw [hc] at h
  simp only [Bool.false_eq_true, if_false] at h
  unfold J15 ord.upd
  rw [if_pos rfl, if_pos rfl, if_neg hij]
  exact BothK.ref hK h fun v hv => hcall w v hv
end
--DEFS plp
def plP (G X H : Nat) (mm r : Int) (y : ByteArray) : Nat → Value → Prop
  | 0, v => v = .pointer (some ⟨G, 0, none⟩)
  | 1, v => v = .pointer (some ⟨H, 2, none⟩)
  | 2, v => v = .string y
  | 3, v => v = .pointer (some ⟨H, 1, none⟩)
  | 4, v => v = .int .i64 mm
  | 5, v => v = .int .i64 r
  | 6, v => v = .pointer (some ⟨X, 0, none⟩)
  | 7, v => v = .pointer (some ⟨H, 2, none⟩)
  | 8, v => v = .string y
  | 9, v => v = .pointer (some ⟨H, 1, none⟩)
  | 10, v => v = .int .i64 mm
  | 11, v => v = .int .i64 r
  | _, _ => True
--END DEFS plp
--DEFS pld
def plD (G X H : Nat) (r : Int) (y : ByteArray) : Nat → Value → Prop
  | 0, v => v = .pointer (some ⟨G, 0, none⟩)
  | 1, v => v = .pointer (some ⟨H, 2, none⟩)
  | 2, v => v = .string y
  | 3, v => v = .int .i64 r
  | 4, v => v = .pointer (some ⟨X, 0, none⟩)
  | 5, v => v = .pointer (some ⟨H, 2, none⟩)
  | 6, v => v = .string y
  | 7, v => v = .int .i64 r
  | _, _ => True
--END DEFS pld
set_option maxHeartbeats 6400000 in
theorem plays15_any (hN : NewT) (A : Option Addr) (n c : Nat) (D M : Nat → Int) (T : Nat → ByteArray) (w : World) (hv : Ev w) (hn : n ≤ 140737488355328) (hT : ∀ j, j < n → (T j).size ≤ maxLen) (hact : ActsIn w A n D M T) :
    Calls Try.prog 3 #[.slice A n c] w fun e w' => e = .returned (.bool true) ∧ Below w.heap.size w w' := by
  have HS := Lib.hid (small15_any hN w hv)
  have HN := Lib.hid (fun w1 (hb : Below w.heap.size w w1) => hN w w1 hv hb)
  have HACT := Lib.hid hact
  have HT := Lib.hid hT
  clear hN hv hact hT
  go_enter Try.func3, Try.ntmps3
  go_wp2_with fail
  refine HS.out.mono ?_
  rintro e w1 ⟨rfl, hb1⟩
  have HB1 := Lib.hid hb1
  clear hb1
  go_wp2_with fail
  refine (HN.out w1 HB1.out).mono ?_
  rintro e w2 ⟨G, TA, O, rfl, hkit, ha, _, _⟩
  have HK := Lib.hid hkit
  have HA := Lib.hid ha
  clear hkit ha HN HS
  go_wp2_with fail
  refine (rnew15_any w w2 (HK.out.bel _ _ _ HA.out)).mono ?_
  rintro e w3 ⟨X, rfl, hr, hX, hb3⟩
  have HP := Lib.hid (show BothK w TA X (fun _ => False) w w3 [] [] from ⟨O, _, HK.out.below HA.out hb3, hr, fun hx => by have := (HK.out.own _ _ _ HA.out X hx).2; omega, (fun g hg => by cases hg), id, fun _ hk => absurd hk id⟩)
  clear hr hX hb3 HA
  go_wp2_with fail
  go_loopw [6] (fun i wr => ∃ (k : Nat) (L : List Rt), i = .int .i64 k ∧ k ≤ n ∧ k ≤ 200 ∧ BothK w TA X (fun _ => False) w wr L L) (fun i _ => n - (intOf i).toNat)
  case atStart => exact ⟨0, [], rfl, Nat.zero_le _, Nat.zero_le _, HP.out⟩
  case round =>
    obtain ⟨k, L, rfl, hk, hk200, hp⟩ := hrel
    have HPR := Lib.hid hp
    clear hp HP
    by_cases hlt : k < n ∧ k < 200
    · obtain ⟨hl1, hl2⟩ := hlt
      have hki : (k : Int) < n := by omega
      have hk2i : (k : Int) < 200 := by omega
      have hk3 : ¬ (k : Int) < 0 := by omega
      obtain ⟨B, o, rfl, hBl, hc⟩ := (HACT.out.keep (HPR.out.bel HK.out) (Nat.le_refl _)) (by omega)
      obtain ⟨a0, a1, a2⟩ := hc k hl1
      have HX := Lib.hid (HT.out k hl1)
      clear hc hBl
      generalize D k = d at *
      generalize M k = mm at *
      generalize T k = y at *
      have HM := Lib.hid (HPR.out.mark HK.out (alloc_below wr (.cells #[.int .i64 d, .int .i64 mm, .string y] 29)) (Nat.le_refl _) (by simp))
      have HH := Lib.hid (show (wr.alloc (.cells #[.int .i64 d, .int .i64 mm, .string y] 29)).heap[wr.heap.size]? = some (.cells #[.int .i64 d, .int .i64 mm, .string y] 29) by
        show (wr.heap.push _)[wr.heap.size]? = _
        rw [Array.getElem?_push_size])
      rcases (show d = 0 ∨ d = 1 ∨ d = 2 ∨ (d ≠ 0 ∧ d ≠ 1 ∧ d ≠ 2) by omega) with rfl | rfl | rfl | ⟨q0, q1, q2⟩
      · as_aux_lemma =>
          go_wp2_with fail
          have HCO := Lib.hid (show ∀ W O, TA W L O → Calls Try.prog 11 #[.pointer (some ⟨G, 0, none⟩), .string y, .int .i64 mm] W fun e w' => e = .returned (.int .i64 (puE L y mm)) ∧ TStep TA W O w' (puN L y mm) from fun W O h => HK.out.put W L O y mm h HX.out)
          have HRE := Lib.hid (show ∀ W v, RTb w X W L v → Calls Try.prog 12 #[.pointer (some ⟨X, 0, none⟩), .string y, .int .i64 mm] W fun e w' => e = .returned (.int .i64 (puE L y mm)) ∧ RtS w X W v w' (puN L y mm) from fun W v h => rput15_any w X L v y mm W h HX.out)
          generalize puN L y mm = L1 at *
          generalize puE L y mm = r at *
          generalize hW : wr.alloc (.cells #[.int .i64 0, .int .i64 mm, .string y] 29) = w4 at *
          clear hW
          generalize wr.heap.size = H at *
          have HCE := Lib.hid (show ∀ W c, J15 w TA X H w4 L L1 5 11 c W → W.cell? ⟨H, 1, none⟩ = some (.int .i64 mm) ∧ W.cell? ⟨H, 2, none⟩ = some (.string y) from fun W c h => by
            have e := (BothK.held h (k := H) rfl).trans HH.out
            exact ⟨(Lib.cell_of_heap e 1).trans rfl, (Lib.cell_of_heap e 2).trans rfl⟩)
          have HJ := Lib.hid (show J15 w TA X H w4 L L1 5 11 (fun _ => false) w4.drew from HM.out.below HK.out (Below.refl _ _).drew)
          clear HM HH HPR
          refine ord.wp_region_ordS (J15 w TA X H w4 L L1 5 11) 12 [[], [], [1], [], [3], [0, 2, 4], [], [], [7], [], [9], [6, 8, 10]] [(0, 40), (1, 41), (2, 42), (3, 43), (4, 44), (5, 45), (6, 46), (7, 47), (8, 48), (9, 49), (10, 50), (11, 51)] (plP G X H mm r y) (by kernel_rfl) (by kernel_rfl) (by kernel_rfl) ((ord.steps_cons ?_ (ord.steps_cons ?_ (ord.steps_cons ?_ (ord.steps_cons ?_ (ord.steps_cons ?_ (ord.steps_cons ?_ (ord.steps_cons ?_ (ord.steps_cons ?_ (ord.steps_cons ?_ (ord.steps_cons ?_ (ord.steps_cons ?_ (ord.steps_cons ?_ ord.steps_nil))))))))))))) HJ.out ?_
          --STEPS plp
          · intro o ho x c w hj hc hG
            obtain rfl := Option.some.inj ho
            clear ho
            refine Or.inl ⟨ord.want0 rfl, ?_⟩
            exact ord.makes_move rfl ⟨hj.keep (by decide) (by decide), rfl⟩
          · intro o ho x c w hj hc hG
            obtain rfl := Option.some.inj ho
            clear ho
            refine Or.inl ⟨ord.want0 rfl, ?_⟩
            exact ord.makes_fieldAddr rfl rfl (run_fbA2 H w) ⟨hj.keep (by decide) (by decide), rfl⟩
          · intro o ho x c w hj hc hG
            obtain rfl := Option.some.inj ho
            clear ho
            have h41 : x 1 = .pointer (some ⟨H, 2, none⟩) := hG (1, 41) (List.mem_of_getElem? (i := 1) rfl) rfl
            refine Or.inl ⟨ord.want0 rfl, ?_⟩
            exact ord.makes_ld rfl h41 (run_ldS _ _ w (HCE.out _ _ hj).2) ⟨hj.keep (by decide) (by decide), rfl⟩
          · intro o ho x c w hj hc hG
            obtain rfl := Option.some.inj ho
            clear ho
            refine Or.inl ⟨ord.want0 rfl, ?_⟩
            exact ord.makes_fieldAddr rfl rfl (run_fbA1 H w) ⟨hj.keep (by decide) (by decide), rfl⟩
          · intro o ho x c w hj hc hG
            obtain rfl := Option.some.inj ho
            clear ho
            have h43 : x 3 = .pointer (some ⟨H, 1, none⟩) := hG (3, 43) (List.mem_of_getElem? (i := 3) rfl) rfl
            refine Or.inl ⟨ord.want0 rfl, ?_⟩
            exact ord.makes_ld rfl h43 (run_ldI _ _ w (HCE.out _ _ hj).1) ⟨hj.keep (by decide) (by decide), rfl⟩
          · intro o ho x c w hj hc hG
            obtain rfl := Option.some.inj ho
            clear ho
            have h40 : x 0 = .pointer (some ⟨G, 0, none⟩) := hG (0, 40) (List.mem_of_getElem? (i := 0) rfl) rfl
            have h42 : x 2 = .string y := hG (2, 42) (List.mem_of_getElem? (i := 2) rfl) rfl
            have h44 : x 4 = .int .i64 mm := hG (4, 44) (List.mem_of_getElem? (i := 4) rfl) rfl
            refine Or.inl ⟨ord.want0 rfl, ?_⟩
            exact ord.makes_call3 Try.func11 (by kernel_rfl) (by kernel_rfl) rfl h40 h42 h44 (hj.code HK.out hc (by decide) HCO.out) (fun e w' h => ⟨_, h.1, h.2, rfl⟩)
          · intro o ho x c w hj hc hG
            obtain rfl := Option.some.inj ho
            clear ho
            refine Or.inl ⟨ord.want0 rfl, ?_⟩
            exact ord.makes_move rfl ⟨hj.keep (by decide) (by decide), rfl⟩
          · intro o ho x c w hj hc hG
            obtain rfl := Option.some.inj ho
            clear ho
            refine Or.inl ⟨ord.want0 rfl, ?_⟩
            exact ord.makes_fieldAddr rfl rfl (run_fbA2 H w) ⟨hj.keep (by decide) (by decide), rfl⟩
          · intro o ho x c w hj hc hG
            obtain rfl := Option.some.inj ho
            clear ho
            have h47 : x 7 = .pointer (some ⟨H, 2, none⟩) := hG (7, 47) (List.mem_of_getElem? (i := 7) rfl) rfl
            refine Or.inl ⟨ord.want0 rfl, ?_⟩
            exact ord.makes_ld rfl h47 (run_ldS _ _ w (HCE.out _ _ hj).2) ⟨hj.keep (by decide) (by decide), rfl⟩
          · intro o ho x c w hj hc hG
            obtain rfl := Option.some.inj ho
            clear ho
            refine Or.inl ⟨ord.want0 rfl, ?_⟩
            exact ord.makes_fieldAddr rfl rfl (run_fbA1 H w) ⟨hj.keep (by decide) (by decide), rfl⟩
          · intro o ho x c w hj hc hG
            obtain rfl := Option.some.inj ho
            clear ho
            have h49 : x 9 = .pointer (some ⟨H, 1, none⟩) := hG (9, 49) (List.mem_of_getElem? (i := 9) rfl) rfl
            refine Or.inl ⟨ord.want0 rfl, ?_⟩
            exact ord.makes_ld rfl h49 (run_ldI _ _ w (HCE.out _ _ hj).1) ⟨hj.keep (by decide) (by decide), rfl⟩
          · intro o ho x c w hj hc hG
            obtain rfl := Option.some.inj ho
            clear ho
            have h46 : x 6 = .pointer (some ⟨X, 0, none⟩) := hG (6, 46) (List.mem_of_getElem? (i := 6) rfl) rfl
            have h48 : x 8 = .string y := hG (8, 48) (List.mem_of_getElem? (i := 8) rfl) rfl
            have h50 : x 10 = .int .i64 mm := hG (10, 50) (List.mem_of_getElem? (i := 10) rfl) rfl
            refine Or.inl ⟨ord.want0 rfl, ?_⟩
            exact ord.makes_call3 Try.func12 (by kernel_rfl) (by kernel_rfl) rfl h46 h48 h50 (hj.ref HK.out hc (by decide) HRE.out) (fun e w' h => ⟨_, h.1, h.2, rfl⟩)
          --END STEPS plp
          · intro x w5 hj hG
            have e1 : x 5 = .int .i64 r := hG (5, 45) (List.mem_of_getElem? (i := 5) rfl)
            have e2 : x 11 = .int .i64 r := hG (11, 51) (List.mem_of_getElem? (i := 11) rfl)
            clear hG
            simp only [ord.puts, ord.put', List.set_cons_zero, List.set_cons_succ, if_true]
            rw [e1, e2]
            simp only [List.drop_succ_cons, List.drop_zero]
            have HB5 := Lib.hid (show BothK w TA X (fun _ => False) w w5 L1 L1 from BothK.free (show BothK w TA X (fun k => k = H) w4 w5 L1 L1 from hj) w)
            have HSA := Lib.hid (same15_any HK.out HB5.out)
            simp only [decide_true] at HSA
            clear hj e1 e2 HCE HJ HCO HRE HB5
            go_wp2_with fail
            refine HSA.out.mono ?_
            rintro e w6 ⟨rfl, hb6⟩
            have HB6 := Lib.hid hb6
            clear hb6 HSA
            go_wp2_with fail
            go_roundw
            case rel => exact ⟨k + 1, L1, by go_num, by omega, by omega, HB6.out⟩
            case measure => simp [intOf]; omega
      · as_aux_lemma =>
          go_wp2_with fail
          have HCO := Lib.hid (show ∀ W O, TA W L O → Calls Try.prog 13 #[.pointer (some ⟨G, 0, none⟩), .string y] W fun e w' => e = .returned (.int .i64 (drE L y)) ∧ TStep TA W O w' (dropR L y) from fun W O h => HK.out.drop W L O y h HX.out)
          have HRE := Lib.hid (show ∀ W v, RTb w X W L v → Calls Try.prog 14 #[.pointer (some ⟨X, 0, none⟩), .string y] W fun e w' => e = .returned (.int .i64 (drE L y)) ∧ RtS w X W v w' (dropR L y) from fun W v h => rdrop15_any w X L v y W h)
          generalize dropR L y = L1 at *
          generalize drE L y = r at *
          generalize hW : wr.alloc (.cells #[.int .i64 1, .int .i64 mm, .string y] 29) = w4 at *
          clear hW
          generalize wr.heap.size = H at *
          have HCE := Lib.hid (show ∀ W c, J15 w TA X H w4 L L1 3 7 c W → W.cell? ⟨H, 1, none⟩ = some (.int .i64 mm) ∧ W.cell? ⟨H, 2, none⟩ = some (.string y) from fun W c h => by
            have e := (BothK.held h (k := H) rfl).trans HH.out
            exact ⟨(Lib.cell_of_heap e 1).trans rfl, (Lib.cell_of_heap e 2).trans rfl⟩)
          have HJ := Lib.hid (show J15 w TA X H w4 L L1 3 7 (fun _ => false) w4.drew from HM.out.below HK.out (Below.refl _ _).drew)
          clear HM HH HPR
          refine ord.wp_region_ordS (J15 w TA X H w4 L L1 3 7) 8 [[], [], [1], [0, 2], [], [], [5], [4, 6]] [(0, 55), (1, 56), (2, 57), (3, 58), (4, 59), (5, 60), (6, 61), (7, 62)] (plD G X H r y) (by kernel_rfl) (by kernel_rfl) (by kernel_rfl) ((ord.steps_cons ?_ (ord.steps_cons ?_ (ord.steps_cons ?_ (ord.steps_cons ?_ (ord.steps_cons ?_ (ord.steps_cons ?_ (ord.steps_cons ?_ (ord.steps_cons ?_ ord.steps_nil))))))))) HJ.out ?_
          --STEPS pld
          · intro o ho x c w hj hc hG
            obtain rfl := Option.some.inj ho
            clear ho
            refine Or.inl ⟨ord.want0 rfl, ?_⟩
            exact ord.makes_move rfl ⟨hj.keep (by decide) (by decide), rfl⟩
          · intro o ho x c w hj hc hG
            obtain rfl := Option.some.inj ho
            clear ho
            refine Or.inl ⟨ord.want0 rfl, ?_⟩
            exact ord.makes_fieldAddr rfl rfl (run_fbA2 H w) ⟨hj.keep (by decide) (by decide), rfl⟩
          · intro o ho x c w hj hc hG
            obtain rfl := Option.some.inj ho
            clear ho
            have h56 : x 1 = .pointer (some ⟨H, 2, none⟩) := hG (1, 56) (List.mem_of_getElem? (i := 1) rfl) rfl
            refine Or.inl ⟨ord.want0 rfl, ?_⟩
            exact ord.makes_ld rfl h56 (run_ldS _ _ w (HCE.out _ _ hj).2) ⟨hj.keep (by decide) (by decide), rfl⟩
          · intro o ho x c w hj hc hG
            obtain rfl := Option.some.inj ho
            clear ho
            have h55 : x 0 = .pointer (some ⟨G, 0, none⟩) := hG (0, 55) (List.mem_of_getElem? (i := 0) rfl) rfl
            have h57 : x 2 = .string y := hG (2, 57) (List.mem_of_getElem? (i := 2) rfl) rfl
            refine Or.inl ⟨ord.want0 rfl, ?_⟩
            exact ord.makes_call2 Try.func13 (by kernel_rfl) (by kernel_rfl) rfl h55 h57 (hj.code HK.out hc (by decide) HCO.out) (fun e w' h => ⟨_, h.1, h.2, rfl⟩)
          · intro o ho x c w hj hc hG
            obtain rfl := Option.some.inj ho
            clear ho
            refine Or.inl ⟨ord.want0 rfl, ?_⟩
            exact ord.makes_move rfl ⟨hj.keep (by decide) (by decide), rfl⟩
          · intro o ho x c w hj hc hG
            obtain rfl := Option.some.inj ho
            clear ho
            refine Or.inl ⟨ord.want0 rfl, ?_⟩
            exact ord.makes_fieldAddr rfl rfl (run_fbA2 H w) ⟨hj.keep (by decide) (by decide), rfl⟩
          · intro o ho x c w hj hc hG
            obtain rfl := Option.some.inj ho
            clear ho
            have h60 : x 5 = .pointer (some ⟨H, 2, none⟩) := hG (5, 60) (List.mem_of_getElem? (i := 5) rfl) rfl
            refine Or.inl ⟨ord.want0 rfl, ?_⟩
            exact ord.makes_ld rfl h60 (run_ldS _ _ w (HCE.out _ _ hj).2) ⟨hj.keep (by decide) (by decide), rfl⟩
          · intro o ho x c w hj hc hG
            obtain rfl := Option.some.inj ho
            clear ho
            have h59 : x 4 = .pointer (some ⟨X, 0, none⟩) := hG (4, 59) (List.mem_of_getElem? (i := 4) rfl) rfl
            have h61 : x 6 = .string y := hG (6, 61) (List.mem_of_getElem? (i := 6) rfl) rfl
            refine Or.inl ⟨ord.want0 rfl, ?_⟩
            exact ord.makes_call2 Try.func14 (by kernel_rfl) (by kernel_rfl) rfl h59 h61 (hj.ref HK.out hc (by decide) HRE.out) (fun e w' h => ⟨_, h.1, h.2, rfl⟩)
          --END STEPS pld
          · intro x w5 hj hG
            have e1 : x 3 = .int .i64 r := hG (3, 58) (List.mem_of_getElem? (i := 3) rfl)
            have e2 : x 7 = .int .i64 r := hG (7, 62) (List.mem_of_getElem? (i := 7) rfl)
            clear hG
            simp only [ord.puts, ord.put', List.set_cons_zero, List.set_cons_succ, if_true]
            rw [e1, e2]
            simp only [List.drop_succ_cons, List.drop_zero]
            have HB5 := Lib.hid (show BothK w TA X (fun _ => False) w w5 L1 L1 from BothK.free (show BothK w TA X (fun k => k = H) w4 w5 L1 L1 from hj) w)
            have HSA := Lib.hid (same15_any HK.out HB5.out)
            simp only [decide_true] at HSA
            clear hj e1 e2 HCE HJ HCO HRE HB5
            go_wp2_with fail
            refine HSA.out.mono ?_
            rintro e w6 ⟨rfl, hb6⟩
            have HB6 := Lib.hid hb6
            clear hb6 HSA
            go_wp2_with fail
            go_roundw
            case rel => exact ⟨k + 1, L1, by go_num, by omega, by omega, HB6.out⟩
            case measure => simp [intOf]; omega
      · as_aux_lemma =>
          have HCF := Lib.hid (BothK.code HK.out HM.out fun O h => HK.out.find _ L O y h HX.out)
          have HCE := Lib.hid (show ∀ W, BothK w TA X (fun k => k = wr.heap.size) (wr.alloc (.cells #[.int .i64 2, .int .i64 mm, .string y] 29)) W L L → W.cell? ⟨wr.heap.size, 2, none⟩ = some (.string y) from fun W h => by
            have e := (BothK.held h (k := wr.heap.size) rfl).trans HH.out
            exact (Lib.cell_of_heap e 2).trans rfl)
          obtain ⟨x1, hx1⟩ : ∃ x1, fdV L y = x1 := ⟨_, rfl⟩
          obtain ⟨y1, hy1⟩ : ∃ y1, fdI L y = y1 := ⟨_, rfl⟩
          simp only [hx1, hy1] at HCF
          have HXY := Lib.hid (And.intro hx1 hy1)
          clear hx1 hy1 HH HPR HM
          go_wp2_with fail
          refine HCF.out.mono ?_
          rintro e w5 ⟨rfl, hb5⟩
          have HB5 := Lib.hid hb5
          have c5 := HCE.out w5 hb5
          have HRF := Lib.hid (show Calls Try.prog 16 #[.pointer (some ⟨X, 0, none⟩), .string y] w5 fun e w' => e = .returned (.tuple #[.int .i64 x1, .bool y1]) ∧ BothK w TA X (fun _ => False) w w' L L from by
            have hb := HB5.out
            obtain ⟨O, v, _, hv, _⟩ := hb
            refine (rfind15_any w X L v y w5 hv HX.out).mono ?_
            rintro e w' ⟨he, hb'⟩
            rw [HXY.out.1, HXY.out.2] at he
            exact ⟨he, (HB5.out.below HK.out hb').free w⟩)
          clear hb5 HCF HCE HXY
          go_wp2_with fail
          refine HRF.out.mono ?_
          rintro e w6 ⟨rfl, hb6⟩
          have HSA := Lib.hid (same15_any HK.out hb6)
          simp only [decide_true] at HSA
          clear hb6 HRF c5 HB5
          go_wp2_with fail
          refine HSA.out.mono ?_
          rintro e w7 ⟨rfl, hb7⟩
          have HB7 := Lib.hid hb7
          clear hb7 HSA
          go_wp2_with fail
          go_roundw
          case rel => exact ⟨k + 1, L, by go_num, by omega, by omega, HB7.out⟩
          case measure => simp [intOf]; omega
      · as_aux_lemma =>
          have q0' : (d == 0) = false := by simpa using q0
          have q1' : (d == 1) = false := by simpa using q1
          have q2' : (d == 2) = false := by simpa using q2
          have HB5 := Lib.hid (HPR.out.below HK.out (alloc_below wr (.cells #[.int .i64 d, .int .i64 mm, .string y] 29)))
          have HSA := Lib.hid (same15_any HK.out HB5.out)
          simp only [decide_true] at HSA
          clear HM HH HPR HB5 q0 q1 q2
          go_wp2_with fail
          refine HSA.out.mono ?_
          rintro e w6 ⟨rfl, hb6⟩
          have HB6 := Lib.hid hb6
          clear hb6 HSA
          go_wp2_with fail
          go_roundw
          case rel => exact ⟨k + 1, L, by go_num, by omega, by omega, HB6.out⟩
          case measure => simp [intOf]; omega
    · have HSA := Lib.hid (same15_any HK.out HPR.out)
      simp only [decide_true] at HSA
      have hend : ¬ (k : Int) < n ∨ (k : Int) < n ∧ ¬ (k : Int) < 200 := by omega
      rcases hend with hki | ⟨hki, hki2⟩
      all_goals
        go_wp2_with fail
        refine HSA.out.mono ?_
        rintro e w6 ⟨rfl, hb6⟩
        have HB6 := Lib.hid (hb6.bel HK.out)
        clear hb6
        go_wp2_with fail
        go_ret
        exact ⟨rfl, HB6.out⟩
end Go.Proofs.Ytcohkhjfncknpaa
