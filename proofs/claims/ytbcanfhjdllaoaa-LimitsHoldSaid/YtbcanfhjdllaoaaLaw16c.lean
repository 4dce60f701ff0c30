/- Law LimitsHold (layer 16). Written by specs/mklaw16c.py. -/
import Derived.Test.YtbcanfhjdllaoaaActs16
import Derived.Test.YtbcanfhjdllaoaaLimH
import Derived.Test.YtbcanfhjdllaoaaLimB
import Derived.Test.YtbcanfhjdllaoaaRef16S
namespace Go.Proofs.Ytbcanfhjdllaoaa
set_option maxRecDepth 100000
open Go.RowKit
theorem KB.heldK {TA : World → List Us → (Nat → Prop) → Prop} {S : Nat → Prop} {w0 w : World} {L : List Us} {H : Nat} {ob : Obj} (h : KB TA S w0 w L) (hk : S H) (e : w0.heap[H]? = some ob) : HeldK TA H ob w L := by
  obtain ⟨O, h1, h2⟩ := h
  exact ⟨O, h1, (h2 H hk).1, (h2 H hk).2.2.trans e⟩
set_option maxHeartbeats 6400000 in
theorem hold16_any (hN : LimOk) (rk rt rs ro : Int) (card : ByteArray) (A : Option Addr) (cc : Nat) (X : List Ac) (w : World) (hv : ∀ W, Ev W) (_hn : X.length ≤ 140737488355328) (hX : ∀ x ∈ X, x.c.size ≤ maxLen) (hact : LiS acE w A X) :
    Calls Try.prog 4 #[ruW rk rt rs ro, .string card, .slice A X.length cc] w fun e w' => e = .returned (.bool true) ∧ Below w.heap.size w w' := by
  have HB0 := Lib.hid (alloc_below w (.cells #[.int .i64 rk, .int .i64 rt, .int .i64 rs, .int .i64 ro] 38))
  have HS := Lib.hid (small16_any hN (w.alloc (.cells #[.int .i64 rk, .int .i64 rt, .int .i64 rs, .int .i64 ro] 38)) (hv _))
  have HN := Lib.hid (fun w1 (hb : Below w.heap.size w w1) => hN.new w w1 (hv _) hb)
  have HR := Lib.hid (fun W => hN.right W rk rt rs ro (hv W))
  have HACT := Lib.hid hact
  have HX := Lib.hid hX
  clear hN hv hact hX
  go_enter Try.func4, Try.ntmps4
  go_wp2_with fail
  refine HS.out.mono ?_
  rintro e w1 ⟨rfl, hb1⟩
  have HB1 := Lib.hid (HB0.out.trans (hb1.mono HB0.out.size))
  have HH1 := Lib.hid (show w1.heap[w.heap.size]? = some (.cells #[.int .i64 rk, .int .i64 rt, .int .i64 rs, .int .i64 ro] 38) from (hb1.block _ (by simp)).trans (by
    show (w.heap.push _)[w.heap.size]? = _
    rw [Array.getElem?_push_size]))
  clear hb1
  go_wp2_with fail
  refine (HN.out w1 HB1.out).mono ?_
  rintro e w2 ⟨G, TA, O, rfl, hkit, ha, ho, hb2⟩
  have HK := Lib.hid hkit
  have HA := Lib.hid (show HeldK TA w.heap.size (.cells #[.int .i64 rk, .int .i64 rt, .int .i64 rs, .int .i64 ro] 38) w2 [] from ⟨O, ha, fun hx => by
    have h1 := ho _ hx
    have h2 := (Array.getElem?_eq_some_iff.1 HH1.out).1
    omega, (hb2.block _ (Array.getElem?_eq_some_iff.1 HH1.out).1).trans HH1.out⟩)
  have HCE := Lib.hid (show ∀ W : World, W.heap[w.heap.size]? = some (.cells #[.int .i64 rk, .int .i64 rt, .int .i64 rs, .int .i64 ro] 38) → W.cell? ⟨w.heap.size, 0, none⟩ = some (.int .i64 rk) ∧ W.cell? ⟨w.heap.size, 1, none⟩ = some (.int .i64 rt) ∧ W.cell? ⟨w.heap.size, 2, none⟩ = some (.int .i64 rs) ∧ W.cell? ⟨w.heap.size, 3, none⟩ = some (.int .i64 ro) from fun W e =>
    ⟨(Lib.cell_of_heap e 0).trans rfl, (Lib.cell_of_heap e 1).trans rfl, (Lib.cell_of_heap e 2).trans rfl, (Lib.cell_of_heap e 3).trans rfl⟩)
  obtain ⟨bl, hbl⟩ : ∃ b, rlK ⟨rk, rt, rs, ro⟩ = b := ⟨_, rfl⟩
  have HRW := Lib.hid (HR.out w2)
  rw [hbl] at HRW
  have HBL := Lib.hid hbl
  have HHI := Lib.hid (show bl = true → HoldI [] rk card 0 (-1) 0 0 from fun _ => HoldI.start)
  have HRK := Lib.hid (show bl = true → 1 ≤ rk from fun h => by
    have h2 := HBL.out.trans h
    unfold rlK at h2
    exact (of_decide_eq_true h2).2.2.2.1)
  obtain ⟨r0, r1, r2, r3⟩ := HCE.out w2 (by obtain ⟨_, _, _, e⟩ := HA.out; exact e)
  clear hkit ha ho hb2 HN HS HH1 HB0 HR hbl
  generalize hob : Obj.cells #[.int .i64 rk, .int .i64 rt, .int .i64 rs, .int .i64 ro] 38 = ob at *
  clear hob
  go_wp2_with fail
  refine HRW.out.mono ?_
  rintro e w5 ⟨rfl, hb5⟩
  have HA5 := Lib.hid (HA.out.below HK.out hb5)
  clear hb5 HRW HA r0 r1 r2 r3
  go_wp2_with fail
  go_loopw [10, 11, 12, 13, 14] (fun nv wv tv sv i wr => ∃ (k : Nat) (now W n s : Int) (L : List Us), i = .int .i64 k ∧ nv = .int .i64 now ∧ wv = .int .i64 W ∧ tv = .int .i64 n ∧ sv = .int .i64 s ∧ k ≤ X.length ∧ k ≤ 200 ∧ 0 ≤ now ∧ now ≤ 64 * k ∧ HeldK TA w.heap.size ob wr L ∧ (bl = true → HoldI L rk card now W n s)) (fun _ _ _ _ i _ => X.length - (intOf i).toNat)
  case atStart => exact ⟨0, 0, -1, 0, 0, [], rfl, rfl, rfl, rfl, rfl, Nat.zero_le _, Nat.zero_le _, Int.le_refl _, by omega, HA5.out, HHI.out⟩
  case round =>
    obtain ⟨k, now, W, n, s, L, rfl, rfl, rfl, rfl, rfl, hk, hk200, hn0, hn1, hp, hh⟩ := hrel
    have HP := Lib.hid hp
    have HH := Lib.hid hh
    clear hp HA5 hh HHI
    by_cases hlt : k < X.length ∧ k < 200
    · obtain ⟨hl1, hl2⟩ := hlt
      have hki : (k : Int) < X.length := by omega
      have hk2i : (k : Int) < 200 := by omega
      have hk3 : ¬ (k : Int) < 0 := by omega
      obtain ⟨B, o, rfl, hBl, a0, a1, a2, a3, a4, a5, a6, a7⟩ := ac_at (HACT.out.keep (HP.out.bel HK.out)) hl1
      have HXc := Lib.hid (HX.out _ (List.getElem_mem hl1))
      generalize X[k] = x at *
      obtain ⟨xd, ⟨xk, xt, xs, xo⟩, xc, xa, xn⟩ := x
      simp only at a0 a1 a2 a3 a4 a5 a6 a7 HXc
      have HK3 := Lib.hid (show KB TA (fun k => k = w.heap.size ∨ k = wr.heap.size) (wr.alloc (.cells #[.int .i64 xd, .int .i64 xk, .int .i64 xt, .int .i64 xs, .int .i64 xo, .string xc, .int .i64 xa, .int .i64 xn] 40)) (wr.alloc (.cells #[.int .i64 xd, .int .i64 xk, .int .i64 xt, .int .i64 xs, .int .i64 xo, .string xc, .int .i64 xa, .int .i64 xn] 40)) L from KB.more (S := fun k => k = w.heap.size) (w0 := wr) HK.out (by
        obtain ⟨O, h1, h2, h3⟩ := HP.out
        exact ⟨O, h1, fun k hk => by subst hk; exact ⟨h2, (Array.getElem?_eq_some_iff.1 h3).1, rfl⟩⟩) (alloc_below wr (.cells #[.int .i64 xd, .int .i64 xk, .int .i64 xt, .int .i64 xs, .int .i64 xo, .string xc, .int .i64 xa, .int .i64 xn] 40)) (fun k hk => by subst hk; simp))
      have HHA := Lib.hid (show (wr.alloc (.cells #[.int .i64 xd, .int .i64 xk, .int .i64 xt, .int .i64 xs, .int .i64 xo, .string xc, .int .i64 xa, .int .i64 xn] 40)).heap[wr.heap.size]? = some (.cells #[.int .i64 xd, .int .i64 xk, .int .i64 xt, .int .i64 xs, .int .i64 xo, .string xc, .int .i64 xa, .int .i64 xn] 40) ∧ (wr.alloc (.cells #[.int .i64 xd, .int .i64 xk, .int .i64 xt, .int .i64 xs, .int .i64 xo, .string xc, .int .i64 xa, .int .i64 xn] 40)).heap[w.heap.size]? = some ob from ⟨by
        show (wr.heap.push _)[wr.heap.size]? = _
        rw [Array.getElem?_push_size], by
        obtain ⟨_, _, _, e⟩ := HP.out
        exact ((alloc_below wr (.cells #[.int .i64 xd, .int .i64 xk, .int .i64 xt, .int .i64 xs, .int .i64 xo, .string xc, .int .i64 xa, .int .i64 xn] 40)).block _ (Array.getElem?_eq_some_iff.1 e).1).trans e⟩)
      have HAE := Lib.hid (show ∀ W : World, W.heap[wr.heap.size]? = some (.cells #[.int .i64 xd, .int .i64 xk, .int .i64 xt, .int .i64 xs, .int .i64 xo, .string xc, .int .i64 xa, .int .i64 xn] 40) → W.cell? ⟨wr.heap.size, 5, none⟩ = some (.string xc) ∧ W.cell? ⟨wr.heap.size, 6, none⟩ = some (.int .i64 xa) from fun W e => ⟨(Lib.cell_of_heap e 5).trans rfl, (Lib.cell_of_heap e 6).trans rfl⟩)
      have hways : xn < 0 ∨ 64 < xn ∨ (0 ≤ xn ∧ xn ≤ 64) := by omega
      have hnx : ∃ now', now ≤ now' ∧ now' ≤ now + 64 ∧ ((xn < 0 ∨ 64 < xn) → now' = now) ∧ ((0 ≤ xn ∧ xn ≤ 64) → now + xn = now') := by
        by_cases h : 0 ≤ xn ∧ xn ≤ 64
        · exact ⟨now + xn, by omega, by omega, fun h2 => by omega, fun _ => rfl⟩
        · exact ⟨now, by omega, by omega, fun _ => rfl, fun h2 => absurd h2 h⟩
      obtain ⟨now', hle, hle2, hnA, hnB⟩ := hnx
      have HNB := Lib.hid (And.intro hnA hnB)
      have hn0' : 0 ≤ now' := by omega
      have hn1' : now' ≤ 64 * (k + 1) := by omega
      have HH' := Lib.hid (show bl = true → HoldI L rk card now' W n s from fun h => (HH.out h).later (HRK.out h) hle)
      clear hle hle2 hnA hnB HH HP
      obtain ⟨E, hE⟩ : ∃ E, trE L ⟨rk, rt, rs, ro⟩ xc xa now' = E := ⟨_, rfl⟩
      obtain ⟨L1, hL1⟩ : ∃ L1, trN L ⟨rk, rt, rs, ro⟩ xc xa now' = L1 := ⟨_, rfl⟩
      have HTR := Lib.hid (show ∀ (W4 : Nat → Prop) (w4 : World), KB TA W4 w4 w4 L → Calls Try.prog 20 #[.pointer (some ⟨G, 0, none⟩), ruW rk rt rs ro, .string xc, .int .i64 xa, .int .i64 now'] w4 fun e w' => e = .returned (.int .i64 E) ∧ KB TA W4 w4 w' L1 from fun W4 w4 h => by
        have h9 := h.call HK.out fun O h => HK.out.try_ _ _ O rk rt rs ro xc xa now' h HXc.out
        rw [hE, hL1] at h9
        exact h9)
      have hcase : (E = 1 ∧ bl = false ∧ L1 = L) ∨ (bl = true ∧ E ≠ 0 ∧ L1 = L) ∨ (bl = true ∧ E = 0 ∧ TrK L ⟨rk, rt, rs, ro⟩ xc xa now') := by
        cases hb : bl
        · refine Or.inl ⟨by rw [← hE]; exact tr_wrong (HBL.out.trans hb), rfl, ?_⟩
          rw [← hL1]
          exact tr_same (by rw [tr_wrong (HBL.out.trans hb)]; decide)
        · by_cases h0 : E = 0
          · exact Or.inr (Or.inr ⟨rfl, h0, tr_iff.1 (hE.trans h0)⟩)
          · exact Or.inr (Or.inl ⟨rfl, h0, by rw [← hL1]; exact tr_same (by rw [hE]; exact h0)⟩)
      have HL1 := Lib.hid hL1
      have HCS := Lib.hid hcase
      clear hE hL1 hcase HX
      rcases hways with q0 | q0 | ⟨q0, q1⟩
      iterate 3
        · as_aux_lemma =>
            try (have d1 : decide (0 ≤ xn) = false := decide_eq_false (by omega))
            try (have d1 : decide (0 ≤ xn) = true := decide_eq_true (by omega))
            try (have d2 : decide (xn ≤ 64) = false := decide_eq_false (by omega))
            try (have d2 : decide (xn ≤ 64) = true := decide_eq_true (by omega))
            try (have d3 := HNB.out.1 (Or.inl q0))
            try (have d3 := HNB.out.1 (Or.inr q0))
            try subst d3
            try (have d3 := HNB.out.2 ⟨q0, q1⟩)
            clear HNB
            go_wp2_with fail
            generalize hw3 : wr.alloc (.cells #[.int .i64 xd, .int .i64 xk, .int .i64 xt, .int .i64 xs, .int .i64 xo, .string xc, .int .i64 xa, .int .i64 xn] 40) = w3 at *
            clear hw3 a0 a1 a2 a3 a4 a5 a6 a7
            refine (HK3.out.list HK.out).mono ?_
            rintro e w6 ⟨v1, rfl, ho1, hk1, hk2⟩
            obtain ⟨A1, c1, rfl, _⟩ := ho1.slice
            have HO1 := Lib.hid ho1
            have K2 := Lib.hid hk2
            have HOB := Lib.hid (show w6.heap[w.heap.size]? = some ob from (hk1.held (Or.inl rfl)).trans HHA.out.2)
            have HAC := Lib.hid ((hk1.held (Or.inr rfl)).trans HHA.out.1)
            obtain ⟨r0, r1, r2, r3⟩ := HCE.out w6 HOB.out
            obtain ⟨x5, x6⟩ := HAE.out w6 HAC.out
            clear ho1 hk1 hk2 HK3 HHA
            have HT := Lib.hid (HTR.out _ w6 K2.out)
            clear HTR
            go_wp2_with fail
            refine HT.out.mono ?_
            rintro e w7 ⟨rfl, h7⟩
            have K7 := Lib.hid h7
            have HAC7 := Lib.hid ((h7.held (Or.inl (Or.inr rfl))).trans HAC.out)
            have HOB7 := Lib.hid ((h7.held (Or.inl (Or.inl rfl))).trans HOB.out)
            clear h7 HT r0 r1 r2 r3 x5 x6 HAC HXc
            rcases HCS.out with ⟨c1', c2', c3'⟩ | ⟨c1', c2', c3'⟩ | ⟨c1', c2', c3'⟩
            iterate 2
              · try (have qe : (E == 0) = false := by simpa using c2')
                try subst c1'
                try subst c2'
                rw [c3'] at K7
                clear c3' HL1 HCS
                go_wp2_with fail
                refine (K7.out.list HK.out).mono ?_
                rintro e w8 ⟨v2, rfl, ho2, hk3', hk4⟩
                obtain ⟨A2, c2, rfl, hl2'⟩ := ho2.slice
                obtain ⟨A3, c3, e3, hl3⟩ := (hk3'.row HO1.out (fun k hk => Or.inr hk)).slice
                injection e3 with e4 _ e5
                subst e4 e5
                have hl16 : L.length ≤ 140737488355328 := by have := (hk3'.ok HK.out).few; omega
                have HSM := Lib.hid (rsame16_any A1 c1 L A2 c2 L w8 hl3 hl2' hl16 hl16)
                simp only [decide_true] at HSM
                have K8 := Lib.hid (hk3'.heldK (Or.inl (Or.inl rfl)) HOB.out)
                clear ho2 hk3' hk4 hl2' hl3 hl16 K7
                go_wp2_with fail
                refine HSM.out.mono ?_
                rintro e w9 ⟨rfl, hb9⟩
                have K9 := Lib.hid (K8.out.below HK.out hb9)
                clear hb9 HSM K8
                go_wp2_with fail
                go_roundw
                case rel => exact ⟨k + 1, now', W, n, s, L, by go_num, rfl, rfl, rfl, rfl, by omega, by omega, hn0', by omega, K9.out, HH'.out⟩
                case measure => simp [intOf]; omega
            · subst c1' c2'
              have HTK := Lib.hid c3'
              have HOKL := Lib.hid (K2.out.ok HK.out)
              have hrk := HRK.out rfl
              have hro := c3'.my.ro
              have hxa := c3'.my.a
              have hxo := c3'.once
              simp only at hro hxo
              have K9 := Lib.hid (K7.out.heldK (Or.inl (Or.inl rfl)) HOB.out)
              obtain ⟨r0, r1, r2, r3⟩ := HCE.out w7 HOB7.out
              obtain ⟨x5, x6⟩ := HAE.out w7 HAC7.out
              clear c3' HCS K7 K2
              by_cases hcd : xc = card
              · have qc : (xc.toList == card.toList) = true := by rw [hcd]; simp
                subst hcd
                have HUS := Lib.hid ((HH'.out rfl).used HOKL.out)
                by_cases hW : now' / rk = W
                · have qw : (now' / rk == W) = true := by simpa using hW
                  have hg := HUS.out
                  rw [if_pos hW] at hg
                  have HO := Lib.hid ((HH'.out rfl).own (n' := n + 1) (s' := s + xa) (r := ⟨rk, rt, rs, ro⟩) HOKL.out HTK.out (by show _ = (getU L xc (now' / rk)).n + 1; rw [hg]) (by show _ = (getU L xc (now' / rk)).s + xa; rw [hg]))
                  have hb1 := (HH'.out rfl).n0
                  have hb2 := (HH'.out rfl).s0
                  have ht1 : ¬ rt < n + 1 := by have := HO.out.2.1; simp only at this; omega
                  have ht2 : ¬ rs < s + xa := by have := HO.out.2.2; simp only at this; omega
                  have HF := Lib.hid (show HoldI L1 rk xc now' W (n + 1) (s + xa) from by
                    have h9 := HO.out.1
                    rw [HL1.out] at h9
                    rw [← hW]
                    exact h9)
                  clear HO hg hW HUS HTK
                  go_wp2_with fail
                  go_roundw
                  case rel => exact ⟨k + 1, now', W, n + 1, s + xa, L1, by go_num, rfl, rfl, rfl, rfl, by omega, by omega, hn0', by omega, K9.out, fun _ => HF.out⟩
                  case measure => simp [intOf]; omega
                · have qw : (now' / rk == W) = false := by simpa using hW
                  have hg := HUS.out
                  rw [if_neg hW] at hg
                  have HO := Lib.hid ((HH'.out rfl).own (n' := 1) (s' := xa) (r := ⟨rk, rt, rs, ro⟩) HOKL.out HTK.out (by show _ = (getU L xc (now' / rk)).n + 1; rw [hg]; rfl) (by show _ = (getU L xc (now' / rk)).s + xa; rw [hg]; show xa = 0 + xa; omega))
                  have ht1 : ¬ rt < 1 := by have := HO.out.2.1; simp only at this; omega
                  have ht2 : ¬ rs < xa := by have := HO.out.2.2; simp only at this; omega
                  have HF := Lib.hid (show HoldI L1 rk xc now' (now' / rk) 1 xa from by
                    have h9 := HO.out.1
                    rw [HL1.out] at h9
                    exact h9)
                  clear HO hg hW HUS HTK
                  go_wp2_with fail
                  go_roundw
                  case rel => exact ⟨k + 1, now', now' / rk, 1, xa, L1, by go_num, rfl, rfl, rfl, rfl, by omega, by omega, hn0', by omega, K9.out, fun _ => HF.out⟩
                  case measure => simp [intOf]; omega
              · have qc : (xc.toList == card.toList) = false := by rw [str_eq16]; exact decide_eq_false hcd
                have HF := Lib.hid (show HoldI L1 rk card now' W n s from by
                  have h9 := (HH'.out rfl).other (r := ⟨rk, rt, rs, ro⟩) HOKL.out HTK.out hcd
                  rw [HL1.out] at h9
                  exact h9)
                clear hcd HTK
                go_wp2_with fail
                go_roundw
                case rel => exact ⟨k + 1, now', W, n, s, L1, by go_num, rfl, rfl, rfl, rfl, by omega, by omega, hn0', by omega, K9.out, fun _ => HF.out⟩
                case measure => simp [intOf]; omega
    · have HB := Lib.hid (HP.out.bel HK.out)
      have hend : ¬ (k : Int) < X.length ∨ (k : Int) < X.length ∧ ¬ (k : Int) < 200 := by omega
      rcases hend with hki | ⟨hki, hki2⟩
      all_goals
        go_wp2_with fail
        go_ret
        exact ⟨rfl, HB.out⟩
end Go.Proofs.Ytbcanfhjdllaoaa
