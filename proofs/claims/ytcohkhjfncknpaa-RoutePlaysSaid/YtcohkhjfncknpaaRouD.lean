/- Layer 15, the code: Put where it puts; Drop. -/
import Derived.Test.YtcohkhjfncknpaaRouC
import Derived.Test.YtcohkhjfncknpaaOrdT
import Derived.Test.YtcohkhjfncknpaaOrdOps
import Derived.Test.YtcohkhjfncknpaaOrdI
namespace Go.Proofs.Ytcohkhjfncknpaa
set_option maxRecDepth 100000
open Go.RowKit
theorem run_fbT (G : Nat) (w : World) : (Instr.fieldAt 50 (.pointer (some ⟨G, 0, none⟩)) 0).run Try.prog w = .ok (.pointer (some ⟨G, 0, none⟩)) w := by go_simp
theorem run_ldM (A : Addr) (B : Nat) (w : World) (h : w.cell? A = some (.map (some B))) : (Instr.loadAt 48 (.pointer (some A))).run Try.prog w = .ok (.map (some B)) w := by go_simp
theorem chgS_wide {S T : Nat → Prop} {w w' : World} (h : ChgS S w w') (hs : ∀ k, S k → T k) : ChgS T w w' := ⟨h.os, h.tape, h.output, h.size, fun k hk hn => h.block k hk fun h2 => hn (hs k h2)⟩
--DEFS pu
def puG (G B : Nat) (p : ByteArray) (t : Int) : Nat → Value → World → Prop
  | 0, v, _ => v = .pointer (some ⟨G, 0, none⟩)
  | 1, v, _ => v = .pointer (some ⟨G, 0, none⟩)
  | 2, v, _ => v = .pointer (some ⟨G, 0, none⟩)
  | 3, v, _ => v = .map (some B)
  | 4, v, _ => v = .string p
  | 5, v, _ => v = .string p
  | 6, v, _ => v = .int .i64 t
  | _, _, _ => True
theorem puG_stays (G B : Nat) (p : ByteArray) (t : Int) : ∀ i v w w', puG G B p t i v w → Below w.heap.size w w' → puG G B p t i v w'
  | 0, _, _, _, h, _ => h
  | 1, _, _, _, h, _ => h
  | 2, _, _, _, h, _ => h
  | 3, _, _, _, h, _ => h
  | 4, _, _, _, h, _ => h
  | 5, _, _, _, h, _ => h
  | 6, _, _, _, h, _ => h
  | _ + 7, _, _, _, _, _ => trivial
--END DEFS pu
theorem puR_ok {L : List Rt} (h : RtOk L) {p : ByteArray} {t : Int} (hk : puK p t = true) (hf : (atR L p).isSome = true ∨ L.length < 24) : RtOk (putR L p t) where
  rise := putR_rise h.rise p t
  few := by
    have := h.few
    rw [putR_length h.rise]
    split
    · exact this
    · rename_i hn
      rcases hf with hf | hf
      · exact absurd hf hn
      · omega
  size := fun r hr => by
    rcases putR_mem hr with rfl | hr
    · unfold puK at hk
      exact (of_decide_eq_true hk).2.1
    · exact h.size r hr
set_option maxHeartbeats 1600000 in
/-- a route is put -/
theorem cput_ok {u : World} {G B : Nat} {w : World} {L : List Rt} {O : Nat → Prop} (h : TblA u G B w L O) (p : ByteArray) (t : Int) (hp : p.size ≤ maxLen) (hk : puK p t = true) (ha : (atR L p).isSome = true ∨ L.length < 24) :
    Calls Try.prog 11 #[.pointer (some ⟨G, 0, none⟩), .string p, .int .i64 t] w fun e w' => e = .returned (.int .i64 (puE L p t)) ∧ TStep (TblA u G B) w O w' (puN L p t) := by
  have he : puE L p t = 0 := by
    unfold puE
    rw [if_pos hk]
    split
    · rfl
    · rename_i hn
      rcases ha with ha | ha
      · exact absurd ha hn
      · rw [if_neg (by omega)]
  have hn : puN L p t = putR L p t := by unfold puN; rw [if_pos he]
  have HE := Lib.hid he
  have HN := Lib.hid hn
  have HT := Lib.hid h
  have HR := Lib.hid (puR_ok h.ok hk ha)
  have HP := Lib.hid (isp_any p w hp)
  have hps : p.size ≤ 281474976710656 := by unfold puK at hk; have := (of_decide_eq_true hk).2.1; omega
  have HS := Lib.hid hps
  rw [puK_isP, Bool.and_eq_true, decide_eq_true_eq] at hk
  rw [hk.1] at HP
  have HK := Lib.hid hk.2
  have t1 : decide (t < 1) = false := decide_eq_false (by omega)
  have t2 : decide (99 < t) = false := decide_eq_false (by omega)
  have t3 : (atR L p).isSome = false → decide ((24 : Int) ≤ ((L.length : Nat) : Int)) = false := fun h => decide_eq_false (by rcases ha with ha | ha; (rw [h] at ha; cases ha); omega)
  have c0 : ∀ n, (w.drewN n).cell? ⟨G, 0, none⟩ = some (.map (some B)) := fun _ => h.cell
  have m0 : ∀ n, (Instr.lookup 48 (.map (some B)) (.string p) true).run Try.prog (w.drewN n) = .ok (.tuple #[.int .i64 ((atR L p).getD 0), .bool (atR L p).isSome]) (w.drewN n) := fun n => (h.mp.drewN n).look p hp
  have m1 : ∀ n ty, (Builtin.len_ #[48] ty #[.map (some B)]).run Try.prog (w.drewN n) = .ok (.int .i64 (L.length : Nat)) (w.drewN n) := fun n ty => (h.mp.drewN n).len ty
  have HPS := Lib.hid hp
  clear he hn hp h hk ha hps
  generalize (atR L p).getD 0 = x0 at *
  generalize hb0 : (atR L p).isSome = b0 at *
  clear hb0
  have HL := Lib.hid (HT.out.ok.few)
  generalize hll : L.length = ll at *
  clear hll
  go_enter Try.func11, Try.ntmps11
  go_wp2_with fail
  refine HP.out.mono ?_
  rintro e w1 ⟨rfl, n, rfl⟩
  clear HP
  have c0 := c0 n
  have m0 := m0 n
  have m1 := m1 n
  have HA := Lib.hid (HT.out.below (drawnB w n))
  have HC := Lib.hid (fun (w2 : World) (hb : Below (w.drewN n).heap.size (w.drewN n) w2) => (HA.out.below hb).cell)
  have HW := Lib.hid (ChgS.of_below (S := fun k => k = B) (drawnB w n))
  generalize w.drewN n = W at *
  cases b0 with
  | true =>
    go_wp2_with fail
    refine ord.wp_region_ordT 7 [[], [0], [1], [2], [], [4], []] [(0, 39), (1, 40), (2, 41), (3, 42), (4, 43), (5, 44), (6, 45)] (puG G B p t) (by kernel_rfl) (by kernel_rfl) (by kernel_rfl) (puG_stays _ _ _ _) ((ord.steps_cons ?_ (ord.steps_cons ?_ (ord.steps_cons ?_ (ord.steps_cons ?_ (ord.steps_cons ?_ (ord.steps_cons ?_ (ord.steps_cons ?_ ord.steps_nil)))))))) ?_
    --STEPS pu
    · intro o ho x w hb hG
      obtain rfl := Option.some.inj ho
      clear ho
      refine Or.inl ⟨ord.want0 rfl, ?_⟩
      exact ord.makes_move rfl ⟨Below.refl _ _, rfl⟩
    · intro o ho x w hb hG
      obtain rfl := Option.some.inj ho
      clear ho
      have h39 : x 0 = .pointer (some ⟨G, 0, none⟩) := hG (0, 39) (List.mem_of_getElem? (i := 0) rfl) rfl
      refine Or.inl ⟨ord.want0 rfl, ?_⟩
      exact ord.makes_nilCheck rfl h39 ⟨Below.refl _ _, rfl⟩
    · intro o ho x w hb hG
      obtain rfl := Option.some.inj ho
      clear ho
      have h40 : x 1 = .pointer (some ⟨G, 0, none⟩) := hG (1, 40) (List.mem_of_getElem? (i := 1) rfl) rfl
      refine Or.inl ⟨ord.want0 rfl, ?_⟩
      exact ord.makes_fieldAddr rfl h40 (run_fbT G w) ⟨Below.refl _ _, rfl⟩
    · intro o ho x w hb hG
      obtain rfl := Option.some.inj ho
      clear ho
      have h41 : x 2 = .pointer (some ⟨G, 0, none⟩) := hG (2, 41) (List.mem_of_getElem? (i := 2) rfl) rfl
      refine Or.inl ⟨ord.want0 rfl, ?_⟩
      exact ord.makes_ld rfl h41 (run_ldM _ _ w (HC.out w (of_drew hb))) ⟨Below.refl _ _, rfl⟩
    · intro o ho x w hb hG
      obtain rfl := Option.some.inj ho
      clear ho
      refine Or.inl ⟨ord.want0 rfl, ?_⟩
      exact ord.makes_move rfl ⟨Below.refl _ _, rfl⟩
    · intro o ho x w hb hG
      obtain rfl := Option.some.inj ho
      clear ho
      have h43 : x 4 = .string p := hG (4, 43) (List.mem_of_getElem? (i := 4) rfl) rfl
      refine Or.inl ⟨ord.want0 rfl, ?_⟩
      exact ord.makes_call1 Try.func23 (by kernel_rfl) (by kernel_rfl) rfl h43 (sclone_any p w HS.out) (fun e w' h => ⟨_, h.1, h.2, rfl⟩)
    · intro o ho x w hb hG
      obtain rfl := Option.some.inj ho
      clear ho
      refine Or.inl ⟨ord.want0 rfl, ?_⟩
      exact ord.makes_move rfl ⟨Below.refl _ _, rfl⟩
    --END STEPS pu
    · intro x w5 hb hG
      have e4 : x 3 = .map (some B) := hG (3, 42) (List.mem_of_getElem? (i := 3) rfl)
      have e6 : x 5 = .string p := hG (5, 44) (List.mem_of_getElem? (i := 5) rfl)
      have e7 : x 6 = .int .i64 t := hG (6, 45) (List.mem_of_getElem? (i := 6) rfl)
      clear hG
      simp only [ord.puts, ord.put', List.set_cons_zero, List.set_cons_succ, if_true]
      rw [e4, e6, e7]
      simp only [List.drop_succ_cons, List.drop_zero]
      have HA5 := HA.out.below hb
      obtain ⟨w6, hr6, hm6, hc6⟩ := HA5.mp.store (by have := HA5.ok.few; omega) p HPS.out t (by have := HK.out; omega)
      have HF := Lib.hid (show TStep (TblA u G B) w O w6 (putR L p t) from ⟨O, HA5.turn hc6 hm6 HR.out, chgS_wide ((HW.out.trans (ChgS.of_below hb)).trans hc6) fun k hk => (HT.out.own k).2 (Or.inr hk), fun _ hk => Or.inl hk⟩)
      clear e4 e6 e7 hb HA5 hm6 hc6 HC HA m0 m1 c0
      go_wp2_with fail
      go_ret
      rw [HE.out, HN.out]
      exact ⟨rfl, HF.out⟩
  | false =>
    have t3 := t3 rfl
    go_wp2_with fail
    refine ord.wp_region_ordT 7 [[], [0], [1], [2], [], [4], []] [(0, 39), (1, 40), (2, 41), (3, 42), (4, 43), (5, 44), (6, 45)] (puG G B p t) (by kernel_rfl) (by kernel_rfl) (by kernel_rfl) (puG_stays _ _ _ _) ((ord.steps_cons ?_ (ord.steps_cons ?_ (ord.steps_cons ?_ (ord.steps_cons ?_ (ord.steps_cons ?_ (ord.steps_cons ?_ (ord.steps_cons ?_ ord.steps_nil)))))))) ?_
    --STEPS pu
    · intro o ho x w hb hG
      obtain rfl := Option.some.inj ho
      clear ho
      refine Or.inl ⟨ord.want0 rfl, ?_⟩
      exact ord.makes_move rfl ⟨Below.refl _ _, rfl⟩
    · intro o ho x w hb hG
      obtain rfl := Option.some.inj ho
      clear ho
      have h39 : x 0 = .pointer (some ⟨G, 0, none⟩) := hG (0, 39) (List.mem_of_getElem? (i := 0) rfl) rfl
      refine Or.inl ⟨ord.want0 rfl, ?_⟩
      exact ord.makes_nilCheck rfl h39 ⟨Below.refl _ _, rfl⟩
    · intro o ho x w hb hG
      obtain rfl := Option.some.inj ho
      clear ho
      have h40 : x 1 = .pointer (some ⟨G, 0, none⟩) := hG (1, 40) (List.mem_of_getElem? (i := 1) rfl) rfl
      refine Or.inl ⟨ord.want0 rfl, ?_⟩
      exact ord.makes_fieldAddr rfl h40 (run_fbT G w) ⟨Below.refl _ _, rfl⟩
    · intro o ho x w hb hG
      obtain rfl := Option.some.inj ho
      clear ho
      have h41 : x 2 = .pointer (some ⟨G, 0, none⟩) := hG (2, 41) (List.mem_of_getElem? (i := 2) rfl) rfl
      refine Or.inl ⟨ord.want0 rfl, ?_⟩
      exact ord.makes_ld rfl h41 (run_ldM _ _ w (HC.out w (of_drew hb))) ⟨Below.refl _ _, rfl⟩
    · intro o ho x w hb hG
      obtain rfl := Option.some.inj ho
      clear ho
      refine Or.inl ⟨ord.want0 rfl, ?_⟩
      exact ord.makes_move rfl ⟨Below.refl _ _, rfl⟩
    · intro o ho x w hb hG
      obtain rfl := Option.some.inj ho
      clear ho
      have h43 : x 4 = .string p := hG (4, 43) (List.mem_of_getElem? (i := 4) rfl) rfl
      refine Or.inl ⟨ord.want0 rfl, ?_⟩
      exact ord.makes_call1 Try.func23 (by kernel_rfl) (by kernel_rfl) rfl h43 (sclone_any p w HS.out) (fun e w' h => ⟨_, h.1, h.2, rfl⟩)
    · intro o ho x w hb hG
      obtain rfl := Option.some.inj ho
      clear ho
      refine Or.inl ⟨ord.want0 rfl, ?_⟩
      exact ord.makes_move rfl ⟨Below.refl _ _, rfl⟩
    --END STEPS pu
    · intro x w5 hb hG
      have e4 : x 3 = .map (some B) := hG (3, 42) (List.mem_of_getElem? (i := 3) rfl)
      have e6 : x 5 = .string p := hG (5, 44) (List.mem_of_getElem? (i := 5) rfl)
      have e7 : x 6 = .int .i64 t := hG (6, 45) (List.mem_of_getElem? (i := 6) rfl)
      clear hG
      simp only [ord.puts, ord.put', List.set_cons_zero, List.set_cons_succ, if_true]
      rw [e4, e6, e7]
      simp only [List.drop_succ_cons, List.drop_zero]
      have HA5 := HA.out.below hb
      obtain ⟨w6, hr6, hm6, hc6⟩ := HA5.mp.store (by have := HA5.ok.few; omega) p HPS.out t (by have := HK.out; omega)
      have HF := Lib.hid (show TStep (TblA u G B) w O w6 (putR L p t) from ⟨O, HA5.turn hc6 hm6 HR.out, chgS_wide ((HW.out.trans (ChgS.of_below hb)).trans hc6) fun k hk => (HT.out.own k).2 (Or.inr hk), fun _ hk => Or.inl hk⟩)
      clear e4 e6 e7 hb HA5 hm6 hc6 HC HA m0 m1 c0
      go_wp2_with fail
      go_ret
      rw [HE.out, HN.out]
      exact ⟨rfl, HF.out⟩
/-- Drop -/
theorem cdrop_any {u : World} {G B : Nat} {w : World} {L : List Rt} {O : Nat → Prop} (h : TblA u G B w L O) (p : ByteArray) (hp : p.size ≤ maxLen) :
    Calls Try.prog 13 #[.pointer (some ⟨G, 0, none⟩), .string p] w fun e w' => e = .returned (.int .i64 (drE L p)) ∧ TStep (TblA u G B) w O w' (dropR L p) := by
  have HT := Lib.hid h
  have c0 := h.cell
  have m0 := h.mp.look p hp
  cases ha : (atR L p).isSome with
  | false =>
    have HE := Lib.hid (show drE L p = 15 by unfold drE; rw [if_neg (by rw [ha]; decide)])
    have HN := Lib.hid (show dropR L p = L from dropR_none (by cases h2 : atR L p with | none => rfl | some t => rw [h2] at ha; cases ha))
    rw [ha] at m0
    clear h hp ha
    generalize (atR L p).getD 0 = x0 at *
    go_enter Try.func13, Try.ntmps13
    go_wp2_with fail
    go_ret
    rw [HE.out, HN.out]
    exact ⟨rfl, HT.out.stay (Below.refl _ _)⟩
  | true =>
    have HE := Lib.hid (show drE L p = 0 by unfold drE; rw [if_pos ha])
    rw [ha] at m0
    obtain ⟨w1, hr1, hm1, hc1⟩ := h.mp.drop p hp 0
    have HF := Lib.hid (show TStep (TblA u G B) w O w1 (dropR L p) from ⟨O, h.turn hc1 hm1 (dropR_ok h.ok p), chgS_wide hc1 fun k hk => (h.own k).2 (Or.inr hk), fun _ hk => Or.inl hk⟩)
    clear h hp ha hm1 hc1
    generalize (atR L p).getD 0 = x0 at *
    go_enter Try.func13, Try.ntmps13
    go_wp2_with fail
    go_ret
    rw [HE.out]
    exact ⟨rfl, HF.out⟩
end Go.Proofs.Ytcohkhjfncknpaa
