/- 1 texts in one, in their order: what the cards need of them. -/
import Derived.Test.YthmlcmlpmolmoaaGreatDoorSk11
namespace Go.Proofs.YthmlcmlpmolmoaaGreatDoor
set_option maxRecDepth 100000
open Go.RowKit
set_option maxHeartbeats 1600000 in
theorem plays14_bad (hN : NewOk) (hB : NewBad) (A AL : Option Addr) (n c L cL : Nat) (key : Nat → Nat) (t V : Int) (w : World) (hk : vok n t V = false) (hl : n ≤ 140737488351232) (hA : SlB w A n key) (hnil : A = none → n = 0 ∧ c = 0) (ht : Tabs w) :
    Calls Tryz.prog 3 #[.slice A n c, .int .i64 t, .int .i64 V, .slice AL L cL] w fun e w' => e = .returned (.bool true) ∧ Below w.heap.size w w' := by
  have HS := Lib.hid (small14_any hN w ht)
  have HA := Lib.hid hA
  have HF := Lib.hid (show By n key from fun j hj => hA.byte hj)
  have HL := Lib.hid hl
  have HB := Lib.hid (show ∀ W A2 c2, SlB W A2 n key → (A2 = none → n = 0 ∧ c2 = 0) → Tabs W → Calls Tryz.prog 12 #[.slice A2 n c2, .int .i64 t, .int .i64 V] W fun e w' => e = .returned (.tuple #[.pointer none, .int .i64 1]) ∧ Below W.heap.size W w' from fun W A2 c2 h1 h2 h3 => hB A2 n c2 key t V W hk (by omega) h1 h2 h3)
  have HR := Lib.hid (show ∀ W, Below w.heap.size w W → Calls Tryz.prog 15 #[.slice A n c, .int .i64 t, .int .i64 V] W fun e w' => e = .returned (.tuple #[.pointer none, .int .i64 1]) ∧ Below W.heap.size W w' from fun W h => rnew14_bad A n c key t V W hk hl (hA.keep h) hnil)
  have HT := Lib.hid ht
  clear hA hnil ht hk hl hN hB
  go_enter Tryz.func3, Tryz.ntmps3
  go_wp2_with fail
  refine HS.out.mono ?_
  rintro e w1 ⟨rfl, hb1⟩
  have HB1 := Lib.hid hb1
  clear hb1
  go_wp2_with fail
  refine (lent_any A n c key w1 (by have := HL.out; omega) (HA.out.keep HB1.out)).mono ?_
  rintro e w2 ⟨gL, rfl, hgL, hrow, hb2⟩
  have HR2 := Lib.hid hrow
  have HGL := Lib.hid (Nat.le_trans HB1.out.size hgL)
  have HB2 := Lib.hid (HB1.out.trans (hb2.mono HB1.out.size))
  clear hrow hgL hb2
  go_wp2_with fail
  refine (HB.out w2 _ _ (lent_slB HR2.out HF.out) (fun h => by cases h) (HT.out.keep HB2.out)).mono ?_
  rintro e w3 ⟨rfl, hb3⟩
  have HR3 := Lib.hid (HR2.out.of_block (hb3.block gL HR2.out.lt))
  have HB3 := Lib.hid (HB2.out.trans (hb3.mono HB2.out.size))
  clear hb3 HR2
  go_wp2_with fail
  refine (kept_any gL A n c key w3 (by have := HL.out; omega) (HA.out.keep HB3.out) HR3.out).mono ?_
  rintro e w4 ⟨rfl, rfl⟩
  go_wp2_with fail
  refine (owned_one w3 gL n (n + 1) _ (lent_arr HR3.out) (by have := HL.out; omega)).mono ?_
  rintro e w5 ⟨rfl, h5⟩
  have HB5 := Lib.hid (HB3.out.trans (h5.below HB3.out.size HGL.out))
  clear h5
  go_wp2_with fail
  refine (HR.out w5 HB5.out).mono ?_
  rintro e w6 ⟨rfl, hb6⟩
  have HB6 := Lib.hid (HB5.out.trans (hb6.mono HB5.out.size))
  clear hb6
  go_wp2_with fail
  go_ret
  exact ⟨rfl, HB6.out⟩
def putT (T : Nat → ByteArray) (q : Nat) (y : ByteArray) (j : Nat) : ByteArray := if j = q then y else T j
theorem putT_at (T : Nat → ByteArray) (q : Nat) (y : ByteArray) : putT T q y q = y := if_pos rfl
theorem putT_lt (T : Nat → ByteArray) (y : ByteArray) {q j : Nat} (h : j < q) : putT T q y j = T j := if_neg (by omega)
structure PlayAt (w0 w : World) (VA : World → Int → (Nat → Prop) → Prop) (X gX : Nat) (A' : Option Addr) (n c' : Nat) (key : Nat → Nat) (t V V2 : Int) (base : Nat) (mv : Value) (q : Nat) (T : Nat → ByteArray) : Prop where
  va : ∃ O, VA w V O ∧ ¬ O X ∧ ¬ O gX
  rv : RVAt w0 w X gX A' n c' key t V2
  made : OwnT w base mv q (fun j => .string (T j))
  size : base ≤ w.heap.size
  short : ∀ j, j < q → (T j).size ≤ 41
  nil : q = 0 → mv = .slice none 0 0
theorem OwnT.chgS' {S : Nat → Prop} {w w' : World} {base k : Nat} {v : Value} {T : Nat → ByteArray} (h : OwnT w base v k (fun j => .string (T j))) (h0 : k = 0 → v = .slice none 0 0) (hc : ChgS S w w') (hS : ∀ q, S q → ∀ s, w.cell? ⟨q, 0, none⟩ ≠ some (.string s)) : OwnT w' base v k (fun j => .string (T j)) := by
  have h' := h
  rcases h with ⟨h1, h2 | ⟨g, cap, cur, e, hg, hh, r⟩⟩
  · exact ⟨h1, Or.inl h2⟩
  · refine ⟨h1, Or.inr ⟨g, cap, cur, e, hg, (hc.block g (Array.getElem?_eq_some_iff.1 hh).1 (fun hs => ?_)).trans hh, r⟩⟩
    rcases Nat.eq_zero_or_pos k with hk | hk
    · rw [h0 hk] at e; cases e
    · obtain ⟨g2, c2, e2, _, _, _, hcl⟩ := h'.slice hk
      rw [e] at e2
      injection e2 with e2
      injection e2 with e2
      injection e2 with e2
      subst e2
      exact hS g hs _ (hcl 0 hk)
section
variable {w0 w w' : World} {G : Nat} {K : Int → Nat → Nat} {VA : Nat → World → Int → (Nat → Prop) → Prop} {X gX n c' base q a a1 : Nat} {A' : Option Addr} {key : Nat → Nat} {t V V1 V2 : Int} {mv : Value} {T : Nat → ByteArray} {f : FuncId} {args : Array Value} {r : Value}
theorem PlayAt.code (hK : VKitS w0 G K VA) (h : PlayAt w0 w (VA a) X gX A' n c' key t V V2 base mv q T) (hc : ∀ O, VA a w V O → Calls Tryz.prog f args w fun e w' => e = .returned r ∧ VStep (VA a1) w O w' V1) :
    Calls Tryz.prog f args w fun e w' => e = .returned r ∧ PlayAt w0 w' (VA a1) X gX A' n c' key t V1 V2 base mv q T := by
  obtain ⟨O, h1, h2, h3⟩ := h.va
  refine (hc O h1).mono ?_
  rintro e w' ⟨he, O1, k1, k2, k3⟩
  refine ⟨he, ⟨O1, k1, fun hx => ?_, fun hx => ?_⟩, h.rv.chgS k2 (fun k hk => (hK.own _ _ _ h1 k hk).1) h2 h3, h.made.chgS' h.nil k2 (fun q hq => hK.kind _ _ _ h1 q hq), Nat.le_trans h.size k2.size, h.short, h.nil⟩
  · rcases k3 X hx with h4 | h4
    · exact h2 h4
    · have := h.rv.lt; omega
  · rcases k3 gX hx with h4 | h4
    · exact h3 h4
    · have := h.rv.ltg; omega
theorem PlayAt.below (hK : VKitS w0 G K VA) (h : PlayAt w0 w (VA a) X gX A' n c' key t V V2 base mv q T) (hb : Below w.heap.size w w') : PlayAt w0 w' (VA a) X gX A' n c' key t V V2 base mv q T := by
  obtain ⟨O, h1, h2, h3⟩ := h.va
  exact ⟨⟨O, hK.below h1 hb, h2, h3⟩, h.rv.keep hb, h.made.keep hb, Nat.le_trans h.size hb.size, h.short, h.nil⟩
theorem PlayAt.rot (hK : VKitS w0 G K VA) (hX : X < base) (h : PlayAt w0 w (VA a) X gX A' n c' key t V V2 base mv q T) (hr : RVAt w0 w' X gX A' n c' key t V1) (hc : Chg X w w') : PlayAt w0 w' (VA a) X gX A' n c' key t V V1 base mv q T := by
  obtain ⟨O, h1, h2, h3⟩ := h.va
  exact ⟨⟨O, hK.keep _ _ _ _ (fun p => p = X) h1 (ChgS.of_chg hc rfl) (fun p hp => by subst hp; exact ⟨h.rv.uX, h2⟩), h2, h3⟩, hr, h.made.chgS (ChgS.of_chg (S := fun p => p = X) hc rfl) (fun p hp => by subst hp; exact hX), Nat.le_trans h.size hc.size, h.short, h.nil⟩
theorem PlayAt.app {v' : Value} {y : ByteArray} (hK : VKitS w0 G K VA) (hu : w0.heap.size ≤ base) (hX : X < base ∧ gX < base) (hy : y.size ≤ 41) (h : PlayAt w0 w (VA a) X gX A' n c' key t V V2 base mv q T) (h1 : OwnT w' base v' (q + 1) (fun j => .string (putT T q y j))) (h2 : w.grownBy w' mv.ownBlock) :
    PlayAt w0 w' (VA a) X gX A' n c' key t V V2 base v' (q + 1) (putT T q y) := by
  obtain ⟨O, k1, k2, k3⟩ := h.va
  have hc : ChgS (fun p => mv.ownBlock = some p) w w' := ⟨h2.os, h2.tape, h2.output, h2.size, fun p hp hn => h2.block p hp (fun e => hn e.symm)⟩
  have hl : ∀ p, mv.ownBlock = some p → base ≤ p := fun p hp => (h.made.lt p hp).1
  refine ⟨⟨O, hK.keep _ _ _ _ _ k1 hc (fun p hp => ⟨Nat.le_trans hu (hl p hp), fun ho => ?_⟩), k2, k3⟩, h.rv.chgS hc (fun p hp => Nat.le_trans hu (hl p hp)) (fun hp => by have := hl _ hp; omega) (fun hp => by have := hl _ hp; omega), h1, Nat.le_trans h.size h2.size, fun j hj => ?_, fun h => absurd h (Nat.succ_ne_zero q)⟩
  · rcases Nat.eq_zero_or_pos q with hq | hq
    · rw [h.nil hq] at hp; cases hp
    · obtain ⟨g, cc, e, _, _, _, hcl⟩ := h.made.slice hq
      rw [e] at hp
      injection hp with hp
      subst hp
      exact hK.kind _ _ _ k1 _ ho _ (hcl 0 hq)
  · rcases Nat.lt_or_ge j q with e | e
    · rw [putT_lt T y e]; exact h.short j e
    · obtain rfl : j = q := by omega
      rw [putT_at]; exact hy
end
set_option maxHeartbeats 16000000 in
theorem plays14_good (hN : NewOkS) (A AL : Option Addr) (n c L cL : Nat) (key : Nat → Nat) (t V : Int) (D M : Nat → Int) (TT : Nat → ByteArray) (w : World) (hk : vok n t V = true) (hL : L ≤ 140737488351232) (hTT : ∀ j, j < L → (TT j).size ≤ maxLen) (hact : ActsIn w AL L D M TT) (hA : SlB w A n key) (hnil : A = none → n = 0 ∧ c = 0) (ht : Tabs w) :
    Calls Tryz.prog 3 #[.slice A n c, .int .i64 t, .int .i64 V, .slice AL L cL] w fun e w' => e = .returned (.bool true) ∧ Below w.heap.size w w' := by
  have hn64 := (of_decide_eq_true hk).1
  have HS := Lib.hid (small14_any hN.weak w ht)
  have HA := Lib.hid hA
  have HF := Lib.hid (show By n key from fun j hj => hA.byte hj)
  have HL := Lib.hid hn64
  have HLL := Lib.hid hL
  have HACT := Lib.hid hact
  have HTT := Lib.hid hTT
  have HN := Lib.hid (show ∀ W A2 c2, SlB W A2 n key → (A2 = none → n = 0 ∧ c2 = 0) → Below w.heap.size w W → _ from fun W A2 c2 h1 h2 h3 => hN A2 n c2 key t V w W hk h1 h2 ht h3)
  have HR := Lib.hid (show ∀ W, Below w.heap.size w W → _ from fun W h => rnew14_good A n c key t V w W hk (hA.keep h) hnil h)
  clear hA hnil ht hk hN hn64 hL hact hTT
  go_enter Tryz.func3, Tryz.ntmps3
  go_wp2_with fail
  refine HS.out.mono ?_
  rintro e w1 ⟨rfl, hb1⟩
  have HB1 := Lib.hid hb1
  clear hb1
  go_wp2_with fail
  refine (lent_any A n c key w1 (by have := HL.out; omega) (HA.out.keep HB1.out)).mono ?_
  rintro e w2 ⟨gL, rfl, hgL, hrow, hb2⟩
  have HR2 := Lib.hid hrow
  have HGL := Lib.hid (Nat.le_trans HB1.out.size hgL)
  have HB2 := Lib.hid (HB1.out.trans (hb2.mono HB1.out.size))
  clear hrow hgL hb2
  go_wp2_with fail
  refine (HN.out w2 _ _ (lent_slB HR2.out HF.out) (fun h => by cases h) HB2.out).mono ?_
  rintro e w3 ⟨G, VA, O, rfl, hkit, hv, hnew, hb3⟩
  have HK := Lib.hid hkit
  have HV3 := Lib.hid hv
  have HNW := Lib.hid (show ¬ O gL from fun h => by have := hnew gL h; have := HR2.out.lt; omega)
  have HR3 := Lib.hid (HR2.out.of_block (hb3.block gL HR2.out.lt))
  have HB3 := Lib.hid (HB2.out.trans (hb3.mono HB2.out.size))
  clear hkit hv hnew hb3 HR2 HN HS
  go_wp2_with fail
  refine (kept_any gL A n c key w3 (by have := HL.out; omega) (HA.out.keep HB3.out) HR3.out).mono ?_
  rintro e w4 ⟨rfl, rfl⟩
  go_wp2_with fail
  refine (owned_one w3 gL n (n + 1) _ (lent_arr HR3.out) (by have := HL.out; omega)).mono ?_
  rintro e w5 ⟨rfl, h5⟩
  have HV5 := Lib.hid (HK.out.keep _ _ _ _ (fun q => q = gL) HV3.out (ChgS.of_chg h5 rfl) (fun q hq => by subst hq; exact ⟨HGL.out, HNW.out⟩))
  have HB5 := Lib.hid (HK.out.bel _ _ _ HV5.out)
  have HLT := Lib.hid (show ∀ k, O k → k < w5.heap.size from fun k hk => (HK.out.own _ _ _ HV5.out k hk).2)
  clear h5 HV3 HR3
  go_wp2_with fail
  refine (HR.out w5 HB5.out).mono ?_
  rintro e w6 ⟨X, gX, A', c', rfl, hrv, hX, hgX, hb6⟩
  have HP6 := Lib.hid (show PlayAt w w6 (VA 1000) X gX A' n c' key t V V w6.heap.size (.slice none 0 0) 0 (fun _ => ByteArray.empty) from ⟨⟨O, HK.out.below HV5.out hb6, fun h => by have := HLT.out _ h; omega, fun h => by have := HLT.out _ h; omega⟩, hrv, OwnT.nil _ _ _, Nat.le_refl _, fun j hj => absurd hj (Nat.not_lt_zero j), fun _ => rfl⟩)
  have HXU := Lib.hid hrv.uX
  have HXB := Lib.hid (show X < w6.heap.size from hrv.lt)
  have HGB := Lib.hid (show gX < w6.heap.size from hrv.ltg)
  have HUB := Lib.hid (show w.heap.size ≤ w6.heap.size from hrv.bel.size)
  clear hrv hX hgX hb6 HV5 HLT HR
  generalize w6.heap.size = base at *
  generalize hKK : vK n key t = K at *
  have HKK := Lib.hid hKK
  clear hKK
  go_wp2_with fail
  go_loopw [16, 17] (fun mv i wr => ∃ (k q fu : Nat) (W : Int) (T : Nat → ByteArray) (mA : Option Addr) (mc : Nat), i = .int .i64 k ∧ mv = .slice mA q mc ∧ k ≤ L ∧ k ≤ 40 ∧ q ≤ k ∧ 40 ≤ fu + k ∧ PlayAt w wr (VA fu) X gX A' n c' key t W W base (.slice mA q mc) q T) (fun _ i _ => L - (intOf i).toNat)
  case atStart => exact ⟨0, 0, 1000, V, _, none, 0, rfl, rfl, Nat.zero_le _, Nat.zero_le _, Nat.le_refl _, by omega, HP6.out⟩
  case round =>
    obtain ⟨k, q, fu, W, T, mA, mc, rfl, rfl, hk, hk40, hqk, hfu, hp⟩ := hrel
    have HP := Lib.hid hp
    clear hp HP6
    by_cases hlt : k < L ∧ k < 40
    · obtain ⟨hl1, hl2⟩ := hlt
      obtain ⟨fu, rfl⟩ : ∃ m, fu = m + 1 := ⟨fu - 1, by omega⟩
      have hki : (k : Int) < L := by omega
      have hk4i : (k : Int) < 40 := by omega
      have d1 : decide ((k : Int) < L) = true := decide_eq_true hki
      have d2 : decide ((k : Int) < 40) = true := decide_eq_true hk4i
      obtain ⟨B, o, rfl, hB, hc⟩ := (HACT.out.keep HP.out.rv.bel (Nat.le_refl _)) (by omega)
      obtain ⟨a0, a1, a2⟩ := hc k hl1
      have HX := Lib.hid (HTT.out k hl1)
      clear hc hB
      generalize D k = d at *
      generalize M k = mm at *
      generalize TT k = x at *
      rcases (show d < 0 ∨ d = 0 ∨ d = 1 ∨ d = 2 ∨ d = 3 ∨ (d = 4 ∨ d = 5 ∨ 6 ≤ d) by omega) with hd | rfl | rfl | rfl | rfl | hd
      · as_aux_lemma =>
          have q0 : (d == 0) = false := by simp; omega
          have q1 : (d == 1) = false := by simp; omega
          have q2 : (d == 2) = false := by simp; omega
          have q3 : (d == 3) = false := by simp; omega
          have q4 : (d == 4) = false := by simp; omega
          have q5 : (d == 5) = false := by simp; omega
          have q6 : decide (4 ≤ d) = false := decide_eq_false (by omega)
          have HPA := Lib.hid (HP.out.below HK.out (alloc_below wr (.cells #[.int .i64 d, .int .i64 mm, .string x] 38)))
          clear HP
          go_wp2_with fail
          have HPC := HPA
          clear HPA
          have HPD := Lib.hid (HPC.out.below HK.out (Below.refl _ _).drew)
          have c1 := HPC.out.rv.cV
          go_wp2_with fail
          go_region_with (go_at_call 24; refine (PlayAt.code HK.out HPD.out fun O h => HK.out.version _ _ O h).mono ?_; rintro e wY ⟨rfl, hpY⟩; have HPY := Lib.hid hpY; have c2 := HPY.out.rv.cV; clear hpY)
          all_goals
            go_wp2_with fail
            go_roundw
            case rel => exact ⟨k + 1, q, _, W, _, _, _, by go_num, rfl, by omega, by omega, by omega, by omega, HPY.out⟩
            case measure => simp [intOf]; omega
      · as_aux_lemma =>
          have HPA := Lib.hid (HP.out.below HK.out (alloc_below wr (.cells #[.int .i64 0, .int .i64 mm, .string x] 38)))
          clear HP
          go_wp2_with fail
          have HY41 := Lib.hid (show (vtV K W x).size ≤ 41 from vt_le (K := K) x HPA.out.rv.rng.2.2.1 HPA.out.rv.rng.2.2.2)
          refine (PlayAt.code HK.out HPA.out fun O h => HK.out.token _ W O x h HX.out).mono ?_
          rintro e wB ⟨rfl, hpB⟩
          have HPB := Lib.hid hpB
          have HRT := Lib.hid (rtoken14_any X gX n c' A' key t W x w wB HPB.out.rv HX.out)
          rw [HKK.out] at HRT
          clear hpB HPA
          generalize vtV K W x = yV at *
          cases h1 : isV x with
          | false =>
            rw [vtE_no h1] at HRT ⊢
            clear h1
            go_wp2_with fail
            refine HRT.out.mono ?_
            rintro e wC ⟨rfl, hbC⟩
            have HPC := Lib.hid (HPB.out.below HK.out hbC)
            clear hbC HPB HRT
            have HPD := Lib.hid (HPC.out.below HK.out (Below.refl _ _).drew)
            have c1 := HPC.out.rv.cV
            go_wp2_with fail
            go_region_with (go_at_call 24; refine (PlayAt.code HK.out HPD.out fun O h => HK.out.version _ _ O h).mono ?_; rintro e wY ⟨rfl, hpY⟩; have HPY := Lib.hid hpY; have c2 := HPY.out.rv.cV; clear hpY)
            all_goals
              go_wp2_with fail
              go_roundw
              case rel => exact ⟨k + 1, q, _, W, _, _, _, by go_num, rfl, by omega, by omega, by omega, by omega, HPY.out⟩
              case measure => simp [intOf]; omega
          | true =>
            rw [vtE_ok h1] at HRT ⊢
            clear h1
            go_wp2_with fail
            refine HRT.out.mono ?_
            rintro e wC ⟨rfl, hbC⟩
            have HPC := Lib.hid (HPB.out.below HK.out hbC)
            clear hbC HPB HRT
            have HPE := Lib.hid (HPC.out.below HK.out (alloc_below wC (.cells #[.string yV] 9)))
            have HCE := Lib.hid (show (wC.alloc (.cells #[.string yV] 9)).cell? ⟨wC.heap.size, 0, none⟩ = some ((fun j => Value.string (putT T q yV j)) q) from by
              show _ = some (Value.string (putT T q yV q))
              rw [putT_at]
              exact (World.cell?_alloc_at _ _ _ _ rfl).trans rfl)
            have HME := Lib.hid (HPE.out.made.congr (Y := fun j => Value.string (putT T q yV j)) fun j hj => by
              show Value.string (T j) = Value.string (putT T q yV j)
              rw [putT_lt T yV hj])
            go_wp2_with (at_builtin; refine wpList_appT rfl (.tmp 142) (.tmp 144) rfl base _ q (fun j => Value.string (putT T q yV j)) rfl HME.out wC.heap.size rfl HCE.out rfl (by omega) HPE.out.size ?_; intro v' wF hF1 hF2; obtain ⟨gF, cF, rfl, _⟩ := hF1.slice (Nat.succ_pos q); have HPF := Lib.hid (PlayAt.app HK.out HUB.out ⟨HXB.out, HGB.out⟩ HY41.out HPE.out hF1 hF2); clear hF1 hF2)
            clear HPC HCE HME
            have HPD := Lib.hid (HPF.out.below HK.out (Below.refl _ _).drew)
            have c1 := HPF.out.rv.cV
            go_wp2_with fail
            go_region_with (go_at_call 24; refine (PlayAt.code HK.out HPD.out fun O h => HK.out.version _ _ O h).mono ?_; rintro e wY ⟨rfl, hpY⟩; have HPY := Lib.hid hpY; have c2 := HPY.out.rv.cV; clear hpY)
            all_goals
              go_wp2_with fail
              go_roundw
              case rel => exact ⟨k + 1, q + 1, _, W, _, _, _, by go_num, rfl, by omega, by omega, by omega, by omega, HPY.out⟩
              case measure => simp [intOf]; omega
      · as_aux_lemma =>
          have HPA := Lib.hid (HP.out.below HK.out (alloc_below wr (.cells #[.int .i64 1, .int .i64 mm, .string x] 38)))
          clear HP
          go_wp2_with fail
          refine (PlayAt.code HK.out HPA.out fun O h => HK.out.back _ W O x h HX.out).mono ?_
          rintro e wB ⟨rfl, hpB⟩
          have HPB := Lib.hid hpB
          have HRT := Lib.hid (rback14_any X gX n c' A' key t W x w wB HPB.out.rv HX.out)
          rw [HKK.out] at HRT
          clear hpB HPA
          generalize vbV K W x = yV at *
          generalize vbE K W x = yE at *
          go_wp2_with fail
          refine HRT.out.mono ?_
          rintro e wC ⟨rfl, hbC⟩
          have HPC := Lib.hid (HPB.out.below HK.out hbC)
          clear hbC HPB HRT
          have HPD := Lib.hid (HPC.out.below HK.out (Below.refl _ _).drew)
          have c1 := HPC.out.rv.cV
          go_wp2_with fail
          go_region_with (go_at_call 24; refine (PlayAt.code HK.out HPD.out fun O h => HK.out.version _ _ O h).mono ?_; rintro e wY ⟨rfl, hpY⟩; have HPY := Lib.hid hpY; have c2 := HPY.out.rv.cV; clear hpY)
          all_goals
            go_wp2_with fail
            go_roundw
            case rel => exact ⟨k + 1, q, _, W, _, _, _, by go_num, rfl, by omega, by omega, by omega, by omega, HPY.out⟩
            case measure => simp [intOf]; omega
      · as_aux_lemma =>
          have HPA := Lib.hid (HP.out.below HK.out (alloc_below wr (.cells #[.int .i64 2, .int .i64 mm, .string x] 38)))
          clear HP
          go_wp2_with fail
          refine (PlayAt.code HK.out HPA.out fun O h => HK.out.rotate _ W O h).mono ?_
          rintro e wB ⟨rfl, hpB⟩
          have HPB := Lib.hid hpB
          have HRT := Lib.hid (rrotate14_any X gX n c' A' key t W w wB HPB.out.rv)
          clear hpB HPA
          generalize roN W = W8 at *
          generalize roV W = r8 at *
          generalize roE W = e8 at *
          go_wp2_with fail
          refine HRT.out.mono ?_
          rintro e wC ⟨rfl, hrC, hcC⟩
          have HPC := Lib.hid (PlayAt.rot HK.out HXB.out HPB.out hrC hcC)
          clear hrC hcC HPB HRT
          have HPD := Lib.hid (HPC.out.below HK.out (Below.refl _ _).drew)
          have c1 := HPC.out.rv.cV
          go_wp2_with fail
          go_region_with (go_at_call 24; refine (PlayAt.code HK.out HPD.out fun O h => HK.out.version _ _ O h).mono ?_; rintro e wY ⟨rfl, hpY⟩; have HPY := Lib.hid hpY; have c2 := HPY.out.rv.cV; clear hpY)
          all_goals
            go_wp2_with fail
            go_roundw
            case rel => exact ⟨k + 1, q, _, W8, _, _, _, by go_num, rfl, by omega, by omega, by omega, by omega, HPY.out⟩
            case measure => simp [intOf]; omega
      · as_aux_lemma =>
          have HPA := Lib.hid (HP.out.below HK.out (alloc_below wr (.cells #[.int .i64 3, .int .i64 mm, .string x] 38)))
          clear HP
          go_wp2_with fail
          refine (PlayAt.code HK.out HPA.out fun O h => HK.out.renew _ W O x h HX.out).mono ?_
          rintro e wB ⟨rfl, hpB⟩
          have HPB := Lib.hid hpB
          have HRT := Lib.hid (rrenew14_any X gX n c' A' key t W x w wB HPB.out.rv HX.out)
          rw [HKK.out] at HRT
          clear hpB HPA
          generalize vrV K W x = yV at *
          generalize vbE K W x = yE at *
          go_wp2_with fail
          refine HRT.out.mono ?_
          rintro e wC ⟨rfl, hbC⟩
          have HPC := Lib.hid (HPB.out.below HK.out hbC)
          clear hbC HPB HRT
          have HPD := Lib.hid (HPC.out.below HK.out (Below.refl _ _).drew)
          have c1 := HPC.out.rv.cV
          go_wp2_with fail
          go_region_with (go_at_call 24; refine (PlayAt.code HK.out HPD.out fun O h => HK.out.version _ _ O h).mono ?_; rintro e wY ⟨rfl, hpY⟩; have HPY := Lib.hid hpY; have c2 := HPY.out.rv.cV; clear hpY)
          all_goals
            go_wp2_with fail
            go_roundw
            case rel => exact ⟨k + 1, q, _, W, _, _, _, by go_num, rfl, by omega, by omega, by omega, by omega, HPY.out⟩
            case measure => simp [intOf]; omega
      · rcases hd with rfl | rfl | hd
        · by_cases h0 : 0 < q
          · as_aux_lemma =>
              have hqi : (0 : Int) < (q : Nat) := by omega
              obtain ⟨g, cc, e, hcc, hbg, _, hcells⟩ := HP.out.made.slice h0
              injection e with e1 _ e3
              subst e1 e3
              obtain ⟨m1, hm1⟩ : ∃ m1 : Nat, mm % 1024 = (m1 : Int) := ⟨(mm % 1024).toNat, by omega⟩
              have hbm : bits BinOp.and .i64 mm 1023 = (m1 : Nat) := by rw [← hm1]; exact i64_mask 10 1023 (by decide) rfl mm
              obtain ⟨r, hr⟩ : ∃ r, r = m1 % q := ⟨_, rfl⟩
              have hrq : r < q := by rw [hr]; exact Nat.mod_lt _ h0
              have hr1 : (m1 : Int).tmod (q : Nat) = (r : Nat) := by rw [Int.tmod_eq_emod_of_nonneg (by omega), hr]; simp
              have hr2 : (m1 : Int) % (q : Nat) = (r : Nat) := by rw [hr]; simp
              obtain ⟨j, hj⟩ : ∃ j, j = q - 1 - r := ⟨_, rfl⟩
              have hj1 : (q : Int) - 1 - (r : Nat) = (j : Nat) := by omega
              have hjq : j < q := by omega
              have hjqi : (j : Int) < (q : Nat) := by omega
              have hq0 : ¬ (q : Int) = 0 := by omega
              have hm0 : (m1 : Int) < 1024 := by omega
              have hq40 : (q : Int) ≤ 40 := by omega
              have hr0 : (r : Int) < 40 := by omega
              have HJ := Lib.hid (HP.out.short j hjq)
              have hcj := hcells j hjq
              have HPA := Lib.hid (HP.out.below HK.out (alloc_below wr (.cells #[.int .i64 4, .int .i64 mm, .string x] 38)))
              have hcja := ((alloc_below wr (.cells #[.int .i64 4, .int .i64 mm, .string x] 38)).cell (p := ⟨g, j, none⟩) (block_lt hcj)).trans hcj
              clear HP hcells hm1 hr hj hcj
              obtain ⟨y, hy⟩ : ∃ y, T j = y := ⟨_, rfl⟩
              rw [hy] at hcja HJ
              clear hy
              have HY := Lib.hid (Nat.le_trans HJ.out (show 41 ≤ maxLen by unfold maxLen; decide))
              clear HJ
              go_wp2_with fail
              refine (PlayAt.code HK.out HPA.out fun O h => HK.out.back _ W O y h HY.out).mono ?_
              rintro e wB ⟨rfl, hpB⟩
              have HPB := Lib.hid hpB
              have HRT := Lib.hid (rback14_any X gX n c' A' key t W y w wB HPB.out.rv HY.out)
              rw [HKK.out] at HRT
              clear hpB HPA
              generalize vbV K W y = yV at *
              generalize vbE K W y = yE at *
              go_wp2_with fail
              refine HRT.out.mono ?_
              rintro e wC ⟨rfl, hbC⟩
              have HPC := Lib.hid (HPB.out.below HK.out hbC)
              clear hbC HPB HRT
              have HPD := Lib.hid (HPC.out.below HK.out (Below.refl _ _).drew)
              have c1 := HPC.out.rv.cV
              go_wp2_with fail
              go_region_with (go_at_call 24; refine (PlayAt.code HK.out HPD.out fun O h => HK.out.version _ _ O h).mono ?_; rintro e wY ⟨rfl, hpY⟩; have HPY := Lib.hid hpY; have c2 := HPY.out.rv.cV; clear hpY)
              all_goals
                go_wp2_with fail
                go_roundw
                case rel => exact ⟨k + 1, q, _, W, _, _, _, by go_num, rfl, by omega, by omega, by omega, by omega, HPY.out⟩
                case measure => simp [intOf]; omega
          · as_aux_lemma =>
              have h0' : q = 0 := by omega
              subst h0'
              have HPA := Lib.hid (HP.out.below HK.out (alloc_below wr (.cells #[.int .i64 4, .int .i64 mm, .string x] 38)))
              clear HP
              go_wp2_with fail
              refine (PlayAt.code HK.out HPA.out fun O h => HK.out.back _ W O x h HX.out).mono ?_
              rintro e wB ⟨rfl, hpB⟩
              have HPB := Lib.hid hpB
              have HRT := Lib.hid (rback14_any X gX n c' A' key t W x w wB HPB.out.rv HX.out)
              rw [HKK.out] at HRT
              clear hpB HPA
              generalize vbV K W x = yV at *
              generalize vbE K W x = yE at *
              go_wp2_with fail
              refine HRT.out.mono ?_
              rintro e wC ⟨rfl, hbC⟩
              have HPC := Lib.hid (HPB.out.below HK.out hbC)
              clear hbC HPB HRT
              have HPD := Lib.hid (HPC.out.below HK.out (Below.refl _ _).drew)
              have c1 := HPC.out.rv.cV
              go_wp2_with fail
              go_region_with (go_at_call 24; refine (PlayAt.code HK.out HPD.out fun O h => HK.out.version _ _ O h).mono ?_; rintro e wY ⟨rfl, hpY⟩; have HPY := Lib.hid hpY; have c2 := HPY.out.rv.cV; clear hpY)
              all_goals
                go_wp2_with fail
                go_roundw
                case rel => exact ⟨k + 1, 0, _, W, _, _, _, by go_num, rfl, by omega, by omega, by omega, by omega, HPY.out⟩
                case measure => simp [intOf]; omega
        · by_cases h0 : 0 < q
          · as_aux_lemma =>
              have hqi : (0 : Int) < (q : Nat) := by omega
              obtain ⟨g, cc, e, hcc, hbg, _, hcells⟩ := HP.out.made.slice h0
              injection e with e1 _ e3
              subst e1 e3
              obtain ⟨m1, hm1⟩ : ∃ m1 : Nat, mm % 1024 = (m1 : Int) := ⟨(mm % 1024).toNat, by omega⟩
              have hbm : bits BinOp.and .i64 mm 1023 = (m1 : Nat) := by rw [← hm1]; exact i64_mask 10 1023 (by decide) rfl mm
              obtain ⟨r, hr⟩ : ∃ r, r = m1 % q := ⟨_, rfl⟩
              have hrq : r < q := by rw [hr]; exact Nat.mod_lt _ h0
              have hr1 : (m1 : Int).tmod (q : Nat) = (r : Nat) := by rw [Int.tmod_eq_emod_of_nonneg (by omega), hr]; simp
              have hr2 : (m1 : Int) % (q : Nat) = (r : Nat) := by rw [hr]; simp
              obtain ⟨j, hj⟩ : ∃ j, j = q - 1 - r := ⟨_, rfl⟩
              have hj1 : (q : Int) - 1 - (r : Nat) = (j : Nat) := by omega
              have hjq : j < q := by omega
              have hjqi : (j : Int) < (q : Nat) := by omega
              have hq0 : ¬ (q : Int) = 0 := by omega
              have hm0 : (m1 : Int) < 1024 := by omega
              have hq40 : (q : Int) ≤ 40 := by omega
              have hr0 : (r : Int) < 40 := by omega
              have HJ := Lib.hid (HP.out.short j hjq)
              have hcj := hcells j hjq
              have HPA := Lib.hid (HP.out.below HK.out (alloc_below wr (.cells #[.int .i64 5, .int .i64 mm, .string x] 38)))
              have hcja := ((alloc_below wr (.cells #[.int .i64 5, .int .i64 mm, .string x] 38)).cell (p := ⟨g, j, none⟩) (block_lt hcj)).trans hcj
              clear HP hcells hm1 hr hj hcj
              obtain ⟨y, hy⟩ : ∃ y, T j = y := ⟨_, rfl⟩
              rw [hy] at hcja HJ
              clear hy
              have HY := Lib.hid (Nat.le_trans HJ.out (show 41 ≤ maxLen by unfold maxLen; decide))
              clear HJ
              go_wp2_with fail
              refine (PlayAt.code HK.out HPA.out fun O h => HK.out.renew _ W O y h HY.out).mono ?_
              rintro e wB ⟨rfl, hpB⟩
              have HPB := Lib.hid hpB
              have HRT := Lib.hid (rrenew14_any X gX n c' A' key t W y w wB HPB.out.rv HY.out)
              rw [HKK.out] at HRT
              clear hpB HPA
              generalize vrV K W y = yV at *
              generalize vbE K W y = yE at *
              go_wp2_with fail
              refine HRT.out.mono ?_
              rintro e wC ⟨rfl, hbC⟩
              have HPC := Lib.hid (HPB.out.below HK.out hbC)
              clear hbC HPB HRT
              have HPD := Lib.hid (HPC.out.below HK.out (Below.refl _ _).drew)
              have c1 := HPC.out.rv.cV
              go_wp2_with fail
              go_region_with (go_at_call 24; refine (PlayAt.code HK.out HPD.out fun O h => HK.out.version _ _ O h).mono ?_; rintro e wY ⟨rfl, hpY⟩; have HPY := Lib.hid hpY; have c2 := HPY.out.rv.cV; clear hpY)
              all_goals
                go_wp2_with fail
                go_roundw
                case rel => exact ⟨k + 1, q, _, W, _, _, _, by go_num, rfl, by omega, by omega, by omega, by omega, HPY.out⟩
                case measure => simp [intOf]; omega
          · as_aux_lemma =>
              have h0' : q = 0 := by omega
              subst h0'
              have HPA := Lib.hid (HP.out.below HK.out (alloc_below wr (.cells #[.int .i64 5, .int .i64 mm, .string x] 38)))
              clear HP
              go_wp2_with fail
              refine (PlayAt.code HK.out HPA.out fun O h => HK.out.renew _ W O x h HX.out).mono ?_
              rintro e wB ⟨rfl, hpB⟩
              have HPB := Lib.hid hpB
              have HRT := Lib.hid (rrenew14_any X gX n c' A' key t W x w wB HPB.out.rv HX.out)
              rw [HKK.out] at HRT
              clear hpB HPA
              generalize vrV K W x = yV at *
              generalize vbE K W x = yE at *
              go_wp2_with fail
              refine HRT.out.mono ?_
              rintro e wC ⟨rfl, hbC⟩
              have HPC := Lib.hid (HPB.out.below HK.out hbC)
              clear hbC HPB HRT
              have HPD := Lib.hid (HPC.out.below HK.out (Below.refl _ _).drew)
              have c1 := HPC.out.rv.cV
              go_wp2_with fail
              go_region_with (go_at_call 24; refine (PlayAt.code HK.out HPD.out fun O h => HK.out.version _ _ O h).mono ?_; rintro e wY ⟨rfl, hpY⟩; have HPY := Lib.hid hpY; have c2 := HPY.out.rv.cV; clear hpY)
              all_goals
                go_wp2_with fail
                go_roundw
                case rel => exact ⟨k + 1, 0, _, W, _, _, _, by go_num, rfl, by omega, by omega, by omega, by omega, HPY.out⟩
                case measure => simp [intOf]; omega
        · have q0 : (d == 0) = false := by simp; omega
          have q1 : (d == 1) = false := by simp; omega
          have q2 : (d == 2) = false := by simp; omega
          have q3 : (d == 3) = false := by simp; omega
          have q4 : (d == 4) = false := by simp; omega
          have q5 : (d == 5) = false := by simp; omega
          have q6 : decide (4 ≤ d) = true := decide_eq_true (by omega)
          by_cases h0 : 0 < q
          · as_aux_lemma =>
              have hqi : (0 : Int) < (q : Nat) := by omega
              obtain ⟨g, cc, e, hcc, hbg, _, hcells⟩ := HP.out.made.slice h0
              injection e with e1 _ e3
              subst e1 e3
              obtain ⟨m1, hm1⟩ : ∃ m1 : Nat, mm % 1024 = (m1 : Int) := ⟨(mm % 1024).toNat, by omega⟩
              have hbm : bits BinOp.and .i64 mm 1023 = (m1 : Nat) := by rw [← hm1]; exact i64_mask 10 1023 (by decide) rfl mm
              obtain ⟨r, hr⟩ : ∃ r, r = m1 % q := ⟨_, rfl⟩
              have hrq : r < q := by rw [hr]; exact Nat.mod_lt _ h0
              have hr1 : (m1 : Int).tmod (q : Nat) = (r : Nat) := by rw [Int.tmod_eq_emod_of_nonneg (by omega), hr]; simp
              have hr2 : (m1 : Int) % (q : Nat) = (r : Nat) := by rw [hr]; simp
              obtain ⟨j, hj⟩ : ∃ j, j = q - 1 - r := ⟨_, rfl⟩
              have hj1 : (q : Int) - 1 - (r : Nat) = (j : Nat) := by omega
              have hjq : j < q := by omega
              have hjqi : (j : Int) < (q : Nat) := by omega
              have hq0 : ¬ (q : Int) = 0 := by omega
              have hm0 : (m1 : Int) < 1024 := by omega
              have hq40 : (q : Int) ≤ 40 := by omega
              have hr0 : (r : Int) < 40 := by omega
              have HJ := Lib.hid (HP.out.short j hjq)
              have hcj := hcells j hjq
              have HPA := Lib.hid (HP.out.below HK.out (alloc_below wr (.cells #[.int .i64 d, .int .i64 mm, .string x] 38)))
              have hcja := ((alloc_below wr (.cells #[.int .i64 d, .int .i64 mm, .string x] 38)).cell (p := ⟨g, j, none⟩) (block_lt hcj)).trans hcj
              clear HP hcells hm1 hr hj hcj
              obtain ⟨y, hy⟩ : ∃ y, T j = y := ⟨_, rfl⟩
              rw [hy] at hcja HJ
              clear hy
              have HY := Lib.hid (Nat.le_trans HJ.out (show 41 ≤ maxLen by unfold maxLen; decide))
              clear HJ
              go_wp2_with fail
              have HPC := HPA
              clear HPA
              have HPD := Lib.hid (HPC.out.below HK.out (Below.refl _ _).drew)
              have c1 := HPC.out.rv.cV
              go_wp2_with fail
              go_region_with (go_at_call 24; refine (PlayAt.code HK.out HPD.out fun O h => HK.out.version _ _ O h).mono ?_; rintro e wY ⟨rfl, hpY⟩; have HPY := Lib.hid hpY; have c2 := HPY.out.rv.cV; clear hpY)
              all_goals
                go_wp2_with fail
                go_roundw
                case rel => exact ⟨k + 1, q, _, W, _, _, _, by go_num, rfl, by omega, by omega, by omega, by omega, HPY.out⟩
                case measure => simp [intOf]; omega
          · as_aux_lemma =>
              have h0' : q = 0 := by omega
              subst h0'
              have HPA := Lib.hid (HP.out.below HK.out (alloc_below wr (.cells #[.int .i64 d, .int .i64 mm, .string x] 38)))
              clear HP
              go_wp2_with fail
              have HPC := HPA
              clear HPA
              have HPD := Lib.hid (HPC.out.below HK.out (Below.refl _ _).drew)
              have c1 := HPC.out.rv.cV
              go_wp2_with fail
              go_region_with (go_at_call 24; refine (PlayAt.code HK.out HPD.out fun O h => HK.out.version _ _ O h).mono ?_; rintro e wY ⟨rfl, hpY⟩; have HPY := Lib.hid hpY; have c2 := HPY.out.rv.cV; clear hpY)
              all_goals
                go_wp2_with fail
                go_roundw
                case rel => exact ⟨k + 1, 0, _, W, _, _, _, by go_num, rfl, by omega, by omega, by omega, by omega, HPY.out⟩
                case measure => simp [intOf]; omega
    · have hlt2 : ¬ k < L ∨ (k < L ∧ ¬ k < 40) := by omega
      clear hlt
      rcases hlt2 with hl1 | ⟨hl1, hl2⟩
      · as_aux_lemma =>
          have d1 : decide ((k : Int) < L) = false := decide_eq_false (by omega)
          have HPD := Lib.hid (HP.out.below HK.out (Below.refl _ _).drew)
          have c1 := HP.out.rv.cV
          go_wp2_with fail
          go_region_with (go_at_call 24; refine (PlayAt.code HK.out HPD.out fun O h => HK.out.version _ _ O h).mono ?_; rintro e wY ⟨rfl, hpY⟩; have HPY := Lib.hid hpY; have c2 := HPY.out.rv.cV; clear hpY)
          all_goals
            go_wp2_with fail
            go_ret
            exact ⟨rfl, HPY.out.rv.bel⟩
      · as_aux_lemma =>
          have d1 : decide ((k : Int) < L) = true := decide_eq_true (by omega)
          have d2 : decide ((k : Int) < 40) = false := decide_eq_false (by omega)
          have HPD := Lib.hid (HP.out.below HK.out (Below.refl _ _).drew)
          have c1 := HP.out.rv.cV
          go_wp2_with fail
          go_region_with (go_at_call 24; refine (PlayAt.code HK.out HPD.out fun O h => HK.out.version _ _ O h).mono ?_; rintro e wY ⟨rfl, hpY⟩; have HPY := Lib.hid hpY; have c2 := HPY.out.rv.cV; clear hpY)
          all_goals
            go_wp2_with fail
            go_ret
            exact ⟨rfl, HPY.out.rv.bel⟩
theorem plays14_any (hN : NewOkS) (hB : NewBad) (A AL : Option Addr) (n c L cL : Nat) (key : Nat → Nat) (t V : Int) (D M : Nat → Int) (TT : Nat → ByteArray) (w : World) (hl : n ≤ 140737488351232) (hL : L ≤ 140737488351232) (hTT : ∀ j, j < L → (TT j).size ≤ maxLen) (hact : ActsIn w AL L D M TT) (hA : SlB w A n key) (hnil : A = none → n = 0 ∧ c = 0) (ht : Tabs w) :
    Calls Tryz.prog 3 #[.slice A n c, .int .i64 t, .int .i64 V, .slice AL L cL] w fun e w' => e = .returned (.bool true) ∧ Below w.heap.size w w' := by
  cases hk : vok n t V with
  | false => exact plays14_bad hN.weak hB A AL n c L cL key t V w hk hl hA hnil ht
  | true => exact plays14_good hN A AL n c L cL key t V D M TT w hk hL hTT hact hA hnil ht
end Go.Proofs.YthmlcmlpmolmoaaGreatDoor
