/- Law LedgerSums (layer 17). Written by specs/mklaw17d.py. -/
import Derived.Test.YtlglkfgephilnaaLaw17a
namespace Go.Proofs.Ytlglkfgephilnaa
set_option maxRecDepth 100000
open Go.RowKit
/-- what is known of a key: is it approved, is it reversed, its answer -/
def SumI (L : List Po) (key : ByteArray) (ap rv : Bool) (an : ByteArray) : Prop :=
  (ap = false ∧ rv = false ∧ fndP L key = none) ∨ ∃ p, fndP L key = some p ∧ ap = true ∧ rv = decide (p.s = 2) ∧ an = p.t
theorem fndP_app (L M : List Po) (key : ByteArray) : fndP (L ++ M) key = (fndP L key).or (fndP M key) := by
  unfold fndP
  rw [List.find?_append]
theorem sum_new {L : List Po} {k : ByteArray} {a : Int} {t : ByteArray} (h : fndP L k = none) : SumI (L ++ [⟨k, a, 1, t⟩]) k true false t := by
  refine Or.inr ⟨⟨k, a, 1, t⟩, ?_, rfl, (decide_eq_false (p := (1 : Int) = 2) (by decide)).symm, rfl⟩
  rw [fndP_app, h]
  unfold fndP
  simp
theorem sum_old {L : List Po} {k key : ByteArray} {a : Int} {t an : ByteArray} {ap rv : Bool} (hk : k ≠ key) (h : SumI L key ap rv an) : SumI (L ++ [⟨k, a, 1, t⟩]) key ap rv an := by
  have e : fndP (L ++ [⟨k, a, 1, t⟩]) key = fndP L key := by
    rw [fndP_app]
    have : fndP [⟨k, a, 1, t⟩] key = none := by unfold fndP; simp [hk]
    rw [this, Option.or_none]
  unfold SumI
  rw [e]
  exact h
theorem fndP_mrk (L : List Po) (k key : ByteArray) : fndP (mrk L k) key = (fndP L key).map fun p => if p.k = k then ⟨p.k, p.a, 2, p.t⟩ else p := by
  unfold fndP mrk
  rw [List.find?_map]
  have : ((fun p : Po => decide (p.k = key)) ∘ fun p => if p.k = k then (⟨p.k, p.a, 2, p.t⟩ : Po) else p) = fun p => decide (p.k = key) := by
    funext p
    show decide ((if p.k = k then (⟨p.k, p.a, 2, p.t⟩ : Po) else p).k = key) = decide (p.k = key)
    by_cases e : p.k = k
    · rw [if_pos e]
    · rw [if_neg e]
  rw [this]
theorem sum_rev {L : List Po} {key : ByteArray} {p : Po} (h : fndP L key = some p) : SumI (mrk L key) key true true p.t := by
  refine Or.inr ⟨⟨p.k, p.a, 2, p.t⟩, ?_, rfl, (decide_eq_true (p := (2 : Int) = 2) rfl).symm, rfl⟩
  rw [fndP_mrk, h, Option.map_some, if_pos (fndP_mem h).2]
theorem sum_keep {L : List Po} {k key an : ByteArray} {ap rv : Bool} (hk : k ≠ key) (h : SumI L key ap rv an) : SumI (mrk L k) key ap rv an := by
  have e : fndP (mrk L k) key = fndP L key := by
    rw [fndP_mrk]
    cases hf : fndP L key with
    | none => rfl
    | some p =>
      have := (fndP_mem hf).2
      rw [Option.map_some, if_neg (by rw [this]; exact fun e => hk e.symm)]
  unfold SumI
  rw [e]
  exact h
theorem rv_le {L : List Po} (ok : LgOk L) {k : ByteArray} (h : rvE L k = 0) : 0 ≤ rvV L k ∧ rvV L k ≤ totP L := by
  have h1 := rv_tot ok h
  have h2 := totP_nn (mrk_ok ok h).each
  obtain ⟨p, hp, hs⟩ := rv_iff.1 h
  have h3 : rvV L k = p.a := by unfold rvV; rw [hp]; exact if_neg hs
  have h4 := (ok.each p (fndP_mem hp).1).a0
  omega
/-- what Ask tells -/
theorem ask_f {L : List Po} {key : ByteArray} {rv : Bool} {an : ByteArray} (h : SumI L key false rv an) : akB L key = false := by
  rcases h with ⟨h1, h2, h3⟩ | ⟨p, h1, h2, h3, h4⟩
  · unfold akB; rw [h3]; rfl
  · cases h2
theorem ask_t {L : List Po} {key : ByteArray} {rv : Bool} {an : ByteArray} (h : SumI L key true rv an) : akB L key = true ∧ (akP L key).t = an ∧ ((akP L key).s == 2) = rv := by
  rcases h with ⟨h1, h2, h3⟩ | ⟨p, h1, h2, h3, h4⟩
  · cases h1
  · refine ⟨by unfold akB; rw [h1]; rfl, ?_⟩
    have e : akP L key = p := by unfold akP; rw [h1]; rfl
    rw [e, h3, h4]
    refine ⟨rfl, ?_⟩
    rw [Bool.eq_iff_iff]
    simp
set_option maxHeartbeats 12800000 in
theorem sums17_any (hN : LgNew) (A : Option Addr) (cc : Nat) (X : List Ap) (key : ByteArray) (w : World) (hX : ∀ x ∈ X, x.k.size ≤ maxLen ∧ x.t.size ≤ maxLen) (hact : LiS apEnc w A X) (hkey : key.size ≤ maxLen) :
    Calls Try.prog 4 #[.slice A X.length cc, .string key] w fun e w' => e = .returned (.bool true) ∧ Below w.heap.size w w' := by
  have HS := Lib.hid (small17_any hN w)
  have HN := Lib.hid (fun w1 (hb : Below w.heap.size w w1) => hN w w1 hb)
  have HACT := Lib.hid hact
  have HX := Lib.hid hX
  have HKEY := Lib.hid hkey
  clear hN hX hact hkey
  go_enter Try.func4, Try.ntmps4
  go_wp2_with fail
  refine HS.out.mono ?_
  rintro e w1 ⟨rfl, hb1⟩
  have HB1 := Lib.hid hb1
  clear hb1
  go_wp2_with fail
  refine (HN.out w1 HB1.out).mono ?_
  rintro e w2 ⟨G, LA, O, rfl, hkit, ha, _, _⟩
  have HK := Lib.hid hkit
  have HP := Lib.hid (show KL LA (fun _ => False) w2 w2 [] from ⟨O, ha, fun k hk => absurd hk id⟩)
  clear hkit ha HN HS
  go_wp2_with fail
  go_loopw [7, 8, 9, 10, 11] (fun s7 s8 s9 s10 i wr => ∃ (k : Nat) (L : List Po) (ap rv : Bool) (an : ByteArray), s7 = .int .i64 (totP L) ∧ s8 = .bool ap ∧ s9 = .bool rv ∧ s10 = .string an ∧ i = .int .i64 k ∧ k ≤ X.length ∧ k ≤ 200 ∧ SumI L key ap rv an ∧ KL LA (fun _ => False) w2 wr L) (fun _ _ _ _ i _ => X.length - (intOf i).toNat)
  case atStart => exact ⟨0, [], false, false, ⟨#[]⟩, rfl, rfl, rfl, rfl, rfl, Nat.zero_le _, Nat.zero_le _, Or.inl ⟨rfl, rfl, rfl⟩, HP.out⟩
  case round =>
    obtain ⟨wr2, hwr2⟩ : ∃ W, W = wr := ⟨_, rfl⟩
    subst hwr2
    obtain ⟨k, L, ap, rv, an, rfl, rfl, rfl, rfl, rfl, hk, hk150, hi, hp⟩ := hrel
    have HPR := Lib.hid hp
    have HI := Lib.hid hi
    clear hp HP hi
    by_cases hlt : k < X.length ∧ k < 200
    · obtain ⟨hl1, hl2⟩ := hlt
      have hki : (k : Int) < X.length := by omega
      have hk2i : (k : Int) < 200 := by omega
      have hk3 : ¬ (k : Int) < 0 := by omega
      obtain ⟨B, o, rfl, hBl, a0, a1, a2, a3⟩ := ap_at (HACT.out.chgS (ChgS.of_below (S := fun _ => False) (HPR.out.bel HK.out)) (fun _ _ _ h => h)) hl1
      have HXC := Lib.hid (HX.out _ (List.getElem_mem hl1))
      generalize X[k] = x at *
      have HOK := Lib.hid (HPR.out.ok HK.out)
      have hT0 := totP_nn HOK.out.each
      have hTB := HOK.out.tot
      have hba := alloc_below wr2 (.cells #[.int .i64 x.d, .string x.k, .string x.t, .int .i64 x.a] 38)
      have HM := Lib.hid (HPR.out.more (T := fun j => j = wr2.heap.size) HK.out hba (fun j e => by subst e; exact ⟨Nat.le_refl _, by simp⟩))
      have HH := Lib.hid (heap_alloc_new wr2 (.cells #[.int .i64 x.d, .string x.k, .string x.t, .int .i64 x.a] 38))
      have HCE := Lib.hid (show ∀ W L', KL LA (fun j => False ∨ j = wr2.heap.size) (wr2.alloc (.cells #[.int .i64 x.d, .string x.k, .string x.t, .int .i64 x.a] 38)) W L' → _ from fun W L' h => ap_cells ((h.held (k := wr2.heap.size) (Or.inr rfl)).trans HH.out))
      clear hba HPR
      obtain ⟨b0, b1, b2, b3⟩ := ap_cells HH.out
      have hcases : (x.d = 0) ∨ (x.d = 1) ∨ (x.d = 3) ∨ (x.d ≠ 0 ∧ x.d ≠ 1 ∧ x.d ≠ 3) := by omega
      rcases hcases with hd | hd | hd | ⟨hd0, hd1, hd3⟩
      · rw [hd] at a0 b0 HM HH HCE
        have HA := Lib.hid (fun O (h : LA (wr2.alloc (.cells #[.int .i64 0, .string x.k, .string x.t, .int .i64 x.a] 38)) L O) => HK.out.approve _ L O x.k x.a x.t h HXC.out.1 HXC.out.2)
        by_cases hE : apE L x.k x.a x.t = 0
        · have hz := ap_iff.1 hE
          have hN1 : apN L x.k x.a x.t = L ++ [⟨x.k, x.a, 1, x.t⟩] := if_pos hE
          rw [hE, hN1] at HA
          have hA0 := hz.ok.a0
          have hAB := hz.ok.aB
          simp only at hA0 hAB
          have hw1 : IntKind.i64.wrap (totP L + x.a) = totP L + x.a := by rw [IntKind.wrap_i64]; omega
          have m1 : decide (x.a < 0) = false := decide_eq_false (by omega)
          have m2 : decide (999999999999 < x.a) = false := decide_eq_false (by omega)
          have HSUM := Lib.hid (show totP L + x.a = totP (L ++ [⟨x.k, x.a, 1, x.t⟩]) from ap_tot.symm)
          by_cases hkk : x.k = key
          · have hkb : (x.k.toList == key.toList) = true := by rw [hkk]; simp
            have hnew := hz.new
            rw [hkk] at hnew
            rcases HI.out with ⟨rfl, rfl, _⟩ | ⟨p, hp, _⟩
            · have HI1 := Lib.hid (show SumI (L ++ [⟨x.k, x.a, 1, x.t⟩]) key true false x.t from hkk ▸ sum_new hz.new)
              obtain ⟨L1, hL1⟩ : ∃ L1, L1 = L ++ [⟨x.k, x.a, 1, x.t⟩] := ⟨_, rfl⟩
              rw [← hL1] at HI1 HSUM HA
              clear hL1 hnew hkk hN1 hE hz
              as_aux_lemma =>
                go_wp2_with fail
                refine (KL.call HM.out HA.out).mono ?_
                rintro e w3 ⟨rfl, h⟩
                have H3 := Lib.hid h
                obtain ⟨c0, c1, c2, c3⟩ := HCE.out _ _ h
                clear h HA HM hT0 hTB

                have HOK1 := Lib.hid (H3.out.ok HK.out)
                have HAS := Lib.hid (ask_t HI1.out)
                have hT10 := totP_nn HOK1.out.each
                have hT1B := HOK1.out.tot
                have HA1 := Lib.hid (fun O (h : LA w3 L1 O) => HK.out.ask w3 L1 O key h HKEY.out)
                go_wp2_with fail
                refine (KL.call H3.out HA1.out).mono ?_
                rintro e w4 ⟨rfl, h⟩
                obtain ⟨P, hP⟩ : ∃ P, akP L1 key = P := ⟨_, rfl⟩
                obtain ⟨Bq, hBq⟩ : ∃ B, akB L1 key = B := ⟨_, rfl⟩
                first | rw [hP, hBq] at HAS | rw [hBq] at HAS
                rw [hP, hBq]
                clear hP hBq HA1 b0 b1 b2 b3
                have hz := alloc_below w4 (.cells #[.string P.k, .int .i64 P.a, .int .i64 P.s, .string P.t] 31)
                obtain ⟨u0, u1, u2, u3⟩ := po_cells (heap_alloc_new w4 (.cells #[.string P.k, .int .i64 P.a, .int .i64 P.s, .string P.t] 31))
                have H5 := Lib.hid (KL.below HK.out h hz)
                have HPC := Lib.hid (show ∀ W, Below (w4.alloc (.cells #[.string P.k, .int .i64 P.a, .int .i64 P.s, .string P.t] 31)).heap.size (w4.alloc (.cells #[.string P.k, .int .i64 P.a, .int .i64 P.s, .string P.t] 31)) W → True from fun _ _ => trivial)
                have HT := Lib.hid (fun O (h : LA (w4.alloc (.cells #[.string P.k, .int .i64 P.a, .int .i64 P.s, .string P.t] 31)) L1 O) => HK.out.total _ L1 O h)
                have H5b := Lib.hid (KL.more (T := fun j => j = w4.heap.size) HK.out h hz (fun j e => by subst e; exact ⟨Nat.le_refl _, by simp⟩))
                have HPB := Lib.hid (heap_alloc_new w4 (.cells #[.string P.k, .int .i64 P.a, .int .i64 P.s, .string P.t] 31))
                clear h hz u0 u1 u2 u3 H5 HPC
                go_wp2_with fail
                refine (KL.call H5b.out HT.out).mono ?_
                rintro e w6 ⟨rfl, h⟩
                obtain ⟨u0, u1, u2, u3⟩ := po_cells ((h.held (k := w4.heap.size) (Or.inr rfl)).trans HPB.out)
                have H6 := Lib.hid (h.free w2)
                clear h HT H5b HPB
                have hq1 : (totP L1 != (totP L + x.a)) = false := by rw [HSUM.out]; simp
                have hq2 : ¬ (5000000000000 : Int) < (totP L + x.a) := by rw [HSUM.out]; omega
                have HFS := Lib.hid (show Value.int .i64 ((totP L + x.a)) = .int .i64 (totP L1) by rw [HSUM.out])
                have HASO := HAS.out
                generalize hT1 : totP L1 = T1
                rw [hT1] at hq1
                clear hT10 hT1B HAS hT1 HSUM

                obtain ⟨g1, g4, g5⟩ := HASO
                subst g1
                have hs1 : P.t.toList = x.t.toList := by rw [g4]
                have hs2 : (P.s == 2) = false := g5
                have hs3 : ¬ P.s = 2 := by simpa using g5
                clear g4 g5

                go_wp2_with fail
                go_roundw
                case rel => exact ⟨k + 1, L1, _, _, _, HFS.out, rfl, rfl, rfl, by go_num, by omega, by omega, HI1.out, H6.out⟩
                case measure => simp [intOf]; omega
            · rw [hnew] at hp; cases hp
          · have hkb : (x.k.toList == key.toList) = false := by rw [str_eq17]; exact decide_eq_false hkk
            have HI1 := Lib.hid (sum_old (a := x.a) (t := x.t) hkk HI.out)
            obtain ⟨L1, hL1⟩ : ∃ L1, L1 = L ++ [⟨x.k, x.a, 1, x.t⟩] := ⟨_, rfl⟩
            rw [← hL1] at HI1 HSUM HA
            clear hL1 hkk hN1 hE hz
            cases ap with
            | false =>
              cases rv with
              | true => exact absurd HI.out (by rintro (⟨_, h, _⟩ | ⟨_, _, h, _⟩) <;> cases h)
              | false =>
                as_aux_lemma =>
                  go_wp2_with fail
                  refine (KL.call HM.out HA.out).mono ?_
                  rintro e w3 ⟨rfl, h⟩
                  have H3 := Lib.hid h
                  obtain ⟨c0, c1, c2, c3⟩ := HCE.out _ _ h
                  clear h HA HM hT0 hTB

                  have HOK1 := Lib.hid (H3.out.ok HK.out)
                  have HAS := Lib.hid (ask_f HI1.out)
                  have hT10 := totP_nn HOK1.out.each
                  have hT1B := HOK1.out.tot
                  have HA1 := Lib.hid (fun O (h : LA w3 L1 O) => HK.out.ask w3 L1 O key h HKEY.out)
                  go_wp2_with fail
                  refine (KL.call H3.out HA1.out).mono ?_
                  rintro e w4 ⟨rfl, h⟩
                  obtain ⟨P, hP⟩ : ∃ P, akP L1 key = P := ⟨_, rfl⟩
                  obtain ⟨Bq, hBq⟩ : ∃ B, akB L1 key = B := ⟨_, rfl⟩
                  first | rw [hP, hBq] at HAS | rw [hBq] at HAS
                  rw [hP, hBq]
                  clear hP hBq HA1 b0 b1 b2 b3
                  have hz := alloc_below w4 (.cells #[.string P.k, .int .i64 P.a, .int .i64 P.s, .string P.t] 31)
                  obtain ⟨u0, u1, u2, u3⟩ := po_cells (heap_alloc_new w4 (.cells #[.string P.k, .int .i64 P.a, .int .i64 P.s, .string P.t] 31))
                  have H5 := Lib.hid (KL.below HK.out h hz)
                  have HPC := Lib.hid (show ∀ W, Below (w4.alloc (.cells #[.string P.k, .int .i64 P.a, .int .i64 P.s, .string P.t] 31)).heap.size (w4.alloc (.cells #[.string P.k, .int .i64 P.a, .int .i64 P.s, .string P.t] 31)) W → True from fun _ _ => trivial)
                  have HT := Lib.hid (fun O (h : LA (w4.alloc (.cells #[.string P.k, .int .i64 P.a, .int .i64 P.s, .string P.t] 31)) L1 O) => HK.out.total _ L1 O h)
                  have H5b := Lib.hid (KL.more (T := fun j => j = w4.heap.size) HK.out h hz (fun j e => by subst e; exact ⟨Nat.le_refl _, by simp⟩))
                  have HPB := Lib.hid (heap_alloc_new w4 (.cells #[.string P.k, .int .i64 P.a, .int .i64 P.s, .string P.t] 31))
                  clear h hz u0 u1 u2 u3 H5 HPC
                  go_wp2_with fail
                  refine (KL.call H5b.out HT.out).mono ?_
                  rintro e w6 ⟨rfl, h⟩
                  obtain ⟨u0, u1, u2, u3⟩ := po_cells ((h.held (k := w4.heap.size) (Or.inr rfl)).trans HPB.out)
                  have H6 := Lib.hid (h.free w2)
                  clear h HT H5b HPB
                  have hq1 : (totP L1 != (totP L + x.a)) = false := by rw [HSUM.out]; simp
                  have hq2 : ¬ (5000000000000 : Int) < (totP L + x.a) := by rw [HSUM.out]; omega
                  have HFS := Lib.hid (show Value.int .i64 ((totP L + x.a)) = .int .i64 (totP L1) by rw [HSUM.out])
                  have HASO := HAS.out
                  generalize hT1 : totP L1 = T1
                  rw [hT1] at hq1
                  clear hT10 hT1B HAS hT1 HSUM

                  subst HASO

                  go_wp2_with fail
                  go_roundw
                  case rel => exact ⟨k + 1, L1, _, _, _, HFS.out, rfl, rfl, rfl, by go_num, by omega, by omega, HI1.out, H6.out⟩
                  case measure => simp [intOf]; omega
            | true =>
              cases rv with
              | true =>
                as_aux_lemma =>
                  go_wp2_with fail
                  refine (KL.call HM.out HA.out).mono ?_
                  rintro e w3 ⟨rfl, h⟩
                  have H3 := Lib.hid h
                  obtain ⟨c0, c1, c2, c3⟩ := HCE.out _ _ h
                  clear h HA HM hT0 hTB

                  have HOK1 := Lib.hid (H3.out.ok HK.out)
                  have HAS := Lib.hid (ask_t HI1.out)
                  have hT10 := totP_nn HOK1.out.each
                  have hT1B := HOK1.out.tot
                  have HA1 := Lib.hid (fun O (h : LA w3 L1 O) => HK.out.ask w3 L1 O key h HKEY.out)
                  go_wp2_with fail
                  refine (KL.call H3.out HA1.out).mono ?_
                  rintro e w4 ⟨rfl, h⟩
                  obtain ⟨P, hP⟩ : ∃ P, akP L1 key = P := ⟨_, rfl⟩
                  obtain ⟨Bq, hBq⟩ : ∃ B, akB L1 key = B := ⟨_, rfl⟩
                  first | rw [hP, hBq] at HAS | rw [hBq] at HAS
                  rw [hP, hBq]
                  clear hP hBq HA1 b0 b1 b2 b3
                  have hz := alloc_below w4 (.cells #[.string P.k, .int .i64 P.a, .int .i64 P.s, .string P.t] 31)
                  obtain ⟨u0, u1, u2, u3⟩ := po_cells (heap_alloc_new w4 (.cells #[.string P.k, .int .i64 P.a, .int .i64 P.s, .string P.t] 31))
                  have H5 := Lib.hid (KL.below HK.out h hz)
                  have HPC := Lib.hid (show ∀ W, Below (w4.alloc (.cells #[.string P.k, .int .i64 P.a, .int .i64 P.s, .string P.t] 31)).heap.size (w4.alloc (.cells #[.string P.k, .int .i64 P.a, .int .i64 P.s, .string P.t] 31)) W → True from fun _ _ => trivial)
                  have HT := Lib.hid (fun O (h : LA (w4.alloc (.cells #[.string P.k, .int .i64 P.a, .int .i64 P.s, .string P.t] 31)) L1 O) => HK.out.total _ L1 O h)
                  have H5b := Lib.hid (KL.more (T := fun j => j = w4.heap.size) HK.out h hz (fun j e => by subst e; exact ⟨Nat.le_refl _, by simp⟩))
                  have HPB := Lib.hid (heap_alloc_new w4 (.cells #[.string P.k, .int .i64 P.a, .int .i64 P.s, .string P.t] 31))
                  clear h hz u0 u1 u2 u3 H5 HPC
                  go_wp2_with fail
                  refine (KL.call H5b.out HT.out).mono ?_
                  rintro e w6 ⟨rfl, h⟩
                  obtain ⟨u0, u1, u2, u3⟩ := po_cells ((h.held (k := w4.heap.size) (Or.inr rfl)).trans HPB.out)
                  have H6 := Lib.hid (h.free w2)
                  clear h HT H5b HPB
                  have hq1 : (totP L1 != (totP L + x.a)) = false := by rw [HSUM.out]; simp
                  have hq2 : ¬ (5000000000000 : Int) < (totP L + x.a) := by rw [HSUM.out]; omega
                  have HFS := Lib.hid (show Value.int .i64 ((totP L + x.a)) = .int .i64 (totP L1) by rw [HSUM.out])
                  have HASO := HAS.out
                  generalize hT1 : totP L1 = T1
                  rw [hT1] at hq1
                  clear hT10 hT1B HAS hT1 HSUM

                  obtain ⟨g1, g4, g5⟩ := HASO
                  subst g1
                  have hs1 : P.t.toList = an.toList := by rw [g4]
                  have hs2 : (P.s == 2) = true := g5
                  have hs3 : P.s = 2 := by simpa using g5
                  clear g4 g5

                  go_wp2_with fail
                  go_roundw
                  case rel => exact ⟨k + 1, L1, _, _, _, HFS.out, rfl, rfl, rfl, by go_num, by omega, by omega, HI1.out, H6.out⟩
                  case measure => simp [intOf]; omega
              | false =>
                as_aux_lemma =>
                  go_wp2_with fail
                  refine (KL.call HM.out HA.out).mono ?_
                  rintro e w3 ⟨rfl, h⟩
                  have H3 := Lib.hid h
                  obtain ⟨c0, c1, c2, c3⟩ := HCE.out _ _ h
                  clear h HA HM hT0 hTB

                  have HOK1 := Lib.hid (H3.out.ok HK.out)
                  have HAS := Lib.hid (ask_t HI1.out)
                  have hT10 := totP_nn HOK1.out.each
                  have hT1B := HOK1.out.tot
                  have HA1 := Lib.hid (fun O (h : LA w3 L1 O) => HK.out.ask w3 L1 O key h HKEY.out)
                  go_wp2_with fail
                  refine (KL.call H3.out HA1.out).mono ?_
                  rintro e w4 ⟨rfl, h⟩
                  obtain ⟨P, hP⟩ : ∃ P, akP L1 key = P := ⟨_, rfl⟩
                  obtain ⟨Bq, hBq⟩ : ∃ B, akB L1 key = B := ⟨_, rfl⟩
                  first | rw [hP, hBq] at HAS | rw [hBq] at HAS
                  rw [hP, hBq]
                  clear hP hBq HA1 b0 b1 b2 b3
                  have hz := alloc_below w4 (.cells #[.string P.k, .int .i64 P.a, .int .i64 P.s, .string P.t] 31)
                  obtain ⟨u0, u1, u2, u3⟩ := po_cells (heap_alloc_new w4 (.cells #[.string P.k, .int .i64 P.a, .int .i64 P.s, .string P.t] 31))
                  have H5 := Lib.hid (KL.below HK.out h hz)
                  have HPC := Lib.hid (show ∀ W, Below (w4.alloc (.cells #[.string P.k, .int .i64 P.a, .int .i64 P.s, .string P.t] 31)).heap.size (w4.alloc (.cells #[.string P.k, .int .i64 P.a, .int .i64 P.s, .string P.t] 31)) W → True from fun _ _ => trivial)
                  have HT := Lib.hid (fun O (h : LA (w4.alloc (.cells #[.string P.k, .int .i64 P.a, .int .i64 P.s, .string P.t] 31)) L1 O) => HK.out.total _ L1 O h)
                  have H5b := Lib.hid (KL.more (T := fun j => j = w4.heap.size) HK.out h hz (fun j e => by subst e; exact ⟨Nat.le_refl _, by simp⟩))
                  have HPB := Lib.hid (heap_alloc_new w4 (.cells #[.string P.k, .int .i64 P.a, .int .i64 P.s, .string P.t] 31))
                  clear h hz u0 u1 u2 u3 H5 HPC
                  go_wp2_with fail
                  refine (KL.call H5b.out HT.out).mono ?_
                  rintro e w6 ⟨rfl, h⟩
                  obtain ⟨u0, u1, u2, u3⟩ := po_cells ((h.held (k := w4.heap.size) (Or.inr rfl)).trans HPB.out)
                  have H6 := Lib.hid (h.free w2)
                  clear h HT H5b HPB
                  have hq1 : (totP L1 != (totP L + x.a)) = false := by rw [HSUM.out]; simp
                  have hq2 : ¬ (5000000000000 : Int) < (totP L + x.a) := by rw [HSUM.out]; omega
                  have HFS := Lib.hid (show Value.int .i64 ((totP L + x.a)) = .int .i64 (totP L1) by rw [HSUM.out])
                  have HASO := HAS.out
                  generalize hT1 : totP L1 = T1
                  rw [hT1] at hq1
                  clear hT10 hT1B HAS hT1 HSUM

                  obtain ⟨g1, g4, g5⟩ := HASO
                  subst g1
                  have hs1 : P.t.toList = an.toList := by rw [g4]
                  have hs2 : (P.s == 2) = false := g5
                  have hs3 : ¬ P.s = 2 := by simpa using g5
                  clear g4 g5

                  go_wp2_with fail
                  go_roundw
                  case rel => exact ⟨k + 1, L1, _, _, _, HFS.out, rfl, rfl, rfl, by go_num, by omega, by omega, HI1.out, H6.out⟩
                  case measure => simp [intOf]; omega
        · have hN1 : apN L x.k x.a x.t = L := if_neg hE
          rw [hN1] at HA
          have hEb : (apE L x.k x.a x.t == 0) = false := by simpa using hE
          have HI1 := HI
          obtain ⟨L1, hL1⟩ : ∃ L1, L1 = L := ⟨_, rfl⟩
          obtain ⟨Ee, hEe⟩ : ∃ E, apE L x.k x.a x.t = E := ⟨_, rfl⟩
          rw [hEe] at HA hEb
          subst hL1
          clear hE hN1 hEe
          cases ap with
          | false =>
            cases rv with
            | true => exact absurd HI.out (by rintro (⟨_, h, _⟩ | ⟨_, _, h, _⟩) <;> cases h)
            | false =>
              as_aux_lemma =>
                go_wp2_with fail
                refine (KL.call HM.out HA.out).mono ?_
                rintro e w3 ⟨rfl, h⟩
                have H3 := Lib.hid h
                obtain ⟨c0, c1, c2, c3⟩ := HCE.out _ _ h
                clear h HA HM hT0 hTB

                have HOK1 := Lib.hid (H3.out.ok HK.out)
                have HAS := Lib.hid (ask_f HI1.out)
                have hT10 := totP_nn HOK1.out.each
                have hT1B := HOK1.out.tot
                have HA1 := Lib.hid (fun O (h : LA w3 L1 O) => HK.out.ask w3 L1 O key h HKEY.out)
                go_wp2_with fail
                refine (KL.call H3.out HA1.out).mono ?_
                rintro e w4 ⟨rfl, h⟩
                obtain ⟨P, hP⟩ : ∃ P, akP L1 key = P := ⟨_, rfl⟩
                obtain ⟨Bq, hBq⟩ : ∃ B, akB L1 key = B := ⟨_, rfl⟩
                first | rw [hP, hBq] at HAS | rw [hBq] at HAS
                rw [hP, hBq]
                clear hP hBq HA1 b0 b1 b2 b3
                have hz := alloc_below w4 (.cells #[.string P.k, .int .i64 P.a, .int .i64 P.s, .string P.t] 31)
                obtain ⟨u0, u1, u2, u3⟩ := po_cells (heap_alloc_new w4 (.cells #[.string P.k, .int .i64 P.a, .int .i64 P.s, .string P.t] 31))
                have H5 := Lib.hid (KL.below HK.out h hz)
                have HPC := Lib.hid (show ∀ W, Below (w4.alloc (.cells #[.string P.k, .int .i64 P.a, .int .i64 P.s, .string P.t] 31)).heap.size (w4.alloc (.cells #[.string P.k, .int .i64 P.a, .int .i64 P.s, .string P.t] 31)) W → True from fun _ _ => trivial)
                have HT := Lib.hid (fun O (h : LA (w4.alloc (.cells #[.string P.k, .int .i64 P.a, .int .i64 P.s, .string P.t] 31)) L1 O) => HK.out.total _ L1 O h)
                have H5b := Lib.hid (KL.more (T := fun j => j = w4.heap.size) HK.out h hz (fun j e => by subst e; exact ⟨Nat.le_refl _, by simp⟩))
                have HPB := Lib.hid (heap_alloc_new w4 (.cells #[.string P.k, .int .i64 P.a, .int .i64 P.s, .string P.t] 31))
                clear h hz u0 u1 u2 u3 H5 HPC
                go_wp2_with fail
                refine (KL.call H5b.out HT.out).mono ?_
                rintro e w6 ⟨rfl, h⟩
                obtain ⟨u0, u1, u2, u3⟩ := po_cells ((h.held (k := w4.heap.size) (Or.inr rfl)).trans HPB.out)
                have H6 := Lib.hid (h.free w2)
                clear h HT H5b HPB
                have hq1 : (totP L1 != totP L1) = false := by simp
                have hq2 : ¬ (5000000000000 : Int) < totP L1 := by omega
                have HASO := HAS.out
                clear hT10 hT1B HAS

                subst HASO

                go_wp2_with fail
                go_roundw
                case rel => exact ⟨k + 1, L1, _, _, _, rfl, rfl, rfl, rfl, by go_num, by omega, by omega, HI1.out, H6.out⟩
                case measure => simp [intOf]; omega
          | true =>
            cases rv with
            | true =>
              as_aux_lemma =>
                go_wp2_with fail
                refine (KL.call HM.out HA.out).mono ?_
                rintro e w3 ⟨rfl, h⟩
                have H3 := Lib.hid h
                obtain ⟨c0, c1, c2, c3⟩ := HCE.out _ _ h
                clear h HA HM hT0 hTB

                have HOK1 := Lib.hid (H3.out.ok HK.out)
                have HAS := Lib.hid (ask_t HI1.out)
                have hT10 := totP_nn HOK1.out.each
                have hT1B := HOK1.out.tot
                have HA1 := Lib.hid (fun O (h : LA w3 L1 O) => HK.out.ask w3 L1 O key h HKEY.out)
                go_wp2_with fail
                refine (KL.call H3.out HA1.out).mono ?_
                rintro e w4 ⟨rfl, h⟩
                obtain ⟨P, hP⟩ : ∃ P, akP L1 key = P := ⟨_, rfl⟩
                obtain ⟨Bq, hBq⟩ : ∃ B, akB L1 key = B := ⟨_, rfl⟩
                first | rw [hP, hBq] at HAS | rw [hBq] at HAS
                rw [hP, hBq]
                clear hP hBq HA1 b0 b1 b2 b3
                have hz := alloc_below w4 (.cells #[.string P.k, .int .i64 P.a, .int .i64 P.s, .string P.t] 31)
                obtain ⟨u0, u1, u2, u3⟩ := po_cells (heap_alloc_new w4 (.cells #[.string P.k, .int .i64 P.a, .int .i64 P.s, .string P.t] 31))
                have H5 := Lib.hid (KL.below HK.out h hz)
                have HPC := Lib.hid (show ∀ W, Below (w4.alloc (.cells #[.string P.k, .int .i64 P.a, .int .i64 P.s, .string P.t] 31)).heap.size (w4.alloc (.cells #[.string P.k, .int .i64 P.a, .int .i64 P.s, .string P.t] 31)) W → True from fun _ _ => trivial)
                have HT := Lib.hid (fun O (h : LA (w4.alloc (.cells #[.string P.k, .int .i64 P.a, .int .i64 P.s, .string P.t] 31)) L1 O) => HK.out.total _ L1 O h)
                have H5b := Lib.hid (KL.more (T := fun j => j = w4.heap.size) HK.out h hz (fun j e => by subst e; exact ⟨Nat.le_refl _, by simp⟩))
                have HPB := Lib.hid (heap_alloc_new w4 (.cells #[.string P.k, .int .i64 P.a, .int .i64 P.s, .string P.t] 31))
                clear h hz u0 u1 u2 u3 H5 HPC
                go_wp2_with fail
                refine (KL.call H5b.out HT.out).mono ?_
                rintro e w6 ⟨rfl, h⟩
                obtain ⟨u0, u1, u2, u3⟩ := po_cells ((h.held (k := w4.heap.size) (Or.inr rfl)).trans HPB.out)
                have H6 := Lib.hid (h.free w2)
                clear h HT H5b HPB
                have hq1 : (totP L1 != totP L1) = false := by simp
                have hq2 : ¬ (5000000000000 : Int) < totP L1 := by omega
                have HASO := HAS.out
                clear hT10 hT1B HAS

                obtain ⟨g1, g4, g5⟩ := HASO
                subst g1
                have hs1 : P.t.toList = an.toList := by rw [g4]
                have hs2 : (P.s == 2) = true := g5
                have hs3 : P.s = 2 := by simpa using g5
                clear g4 g5

                go_wp2_with fail
                go_roundw
                case rel => exact ⟨k + 1, L1, _, _, _, rfl, rfl, rfl, rfl, by go_num, by omega, by omega, HI1.out, H6.out⟩
                case measure => simp [intOf]; omega
            | false =>
              as_aux_lemma =>
                go_wp2_with fail
                refine (KL.call HM.out HA.out).mono ?_
                rintro e w3 ⟨rfl, h⟩
                have H3 := Lib.hid h
                obtain ⟨c0, c1, c2, c3⟩ := HCE.out _ _ h
                clear h HA HM hT0 hTB

                have HOK1 := Lib.hid (H3.out.ok HK.out)
                have HAS := Lib.hid (ask_t HI1.out)
                have hT10 := totP_nn HOK1.out.each
                have hT1B := HOK1.out.tot
                have HA1 := Lib.hid (fun O (h : LA w3 L1 O) => HK.out.ask w3 L1 O key h HKEY.out)
                go_wp2_with fail
                refine (KL.call H3.out HA1.out).mono ?_
                rintro e w4 ⟨rfl, h⟩
                obtain ⟨P, hP⟩ : ∃ P, akP L1 key = P := ⟨_, rfl⟩
                obtain ⟨Bq, hBq⟩ : ∃ B, akB L1 key = B := ⟨_, rfl⟩
                first | rw [hP, hBq] at HAS | rw [hBq] at HAS
                rw [hP, hBq]
                clear hP hBq HA1 b0 b1 b2 b3
                have hz := alloc_below w4 (.cells #[.string P.k, .int .i64 P.a, .int .i64 P.s, .string P.t] 31)
                obtain ⟨u0, u1, u2, u3⟩ := po_cells (heap_alloc_new w4 (.cells #[.string P.k, .int .i64 P.a, .int .i64 P.s, .string P.t] 31))
                have H5 := Lib.hid (KL.below HK.out h hz)
                have HPC := Lib.hid (show ∀ W, Below (w4.alloc (.cells #[.string P.k, .int .i64 P.a, .int .i64 P.s, .string P.t] 31)).heap.size (w4.alloc (.cells #[.string P.k, .int .i64 P.a, .int .i64 P.s, .string P.t] 31)) W → True from fun _ _ => trivial)
                have HT := Lib.hid (fun O (h : LA (w4.alloc (.cells #[.string P.k, .int .i64 P.a, .int .i64 P.s, .string P.t] 31)) L1 O) => HK.out.total _ L1 O h)
                have H5b := Lib.hid (KL.more (T := fun j => j = w4.heap.size) HK.out h hz (fun j e => by subst e; exact ⟨Nat.le_refl _, by simp⟩))
                have HPB := Lib.hid (heap_alloc_new w4 (.cells #[.string P.k, .int .i64 P.a, .int .i64 P.s, .string P.t] 31))
                clear h hz u0 u1 u2 u3 H5 HPC
                go_wp2_with fail
                refine (KL.call H5b.out HT.out).mono ?_
                rintro e w6 ⟨rfl, h⟩
                obtain ⟨u0, u1, u2, u3⟩ := po_cells ((h.held (k := w4.heap.size) (Or.inr rfl)).trans HPB.out)
                have H6 := Lib.hid (h.free w2)
                clear h HT H5b HPB
                have hq1 : (totP L1 != totP L1) = false := by simp
                have hq2 : ¬ (5000000000000 : Int) < totP L1 := by omega
                have HASO := HAS.out
                clear hT10 hT1B HAS

                obtain ⟨g1, g4, g5⟩ := HASO
                subst g1
                have hs1 : P.t.toList = an.toList := by rw [g4]
                have hs2 : (P.s == 2) = false := g5
                have hs3 : ¬ P.s = 2 := by simpa using g5
                clear g4 g5

                go_wp2_with fail
                go_roundw
                case rel => exact ⟨k + 1, L1, _, _, _, rfl, rfl, rfl, rfl, by go_num, by omega, by omega, HI1.out, H6.out⟩
                case measure => simp [intOf]; omega
      · rw [hd] at a0 b0 HM HH HCE
        have HR := Lib.hid (fun O (h : LA (wr2.alloc (.cells #[.int .i64 1, .string x.k, .string x.t, .int .i64 x.a] 38)) L O) => HK.out.reverse _ L O x.k h HXC.out.1)
        by_cases hE : rvE L x.k = 0
        · have hN1 : rvN L x.k = mrk L x.k := if_pos hE
          have hv := rv_le HOK.out hE
          have HSUM := Lib.hid (show totP L - rvV L x.k = totP (mrk L x.k) from (rv_tot HOK.out hE).symm)
          rw [hE, hN1] at HR
          obtain ⟨p, hp, hps⟩ := rv_iff.1 hE
          have HKE := Lib.hid (show x.k ≠ key → SumI (mrk L x.k) key ap rv an from fun h => sum_keep h HI.out)
          have HKR := Lib.hid (show x.k = key → ap = true ∧ rv = false ∧ SumI (mrk L x.k) key true true an from fun h => by
            subst h
            rcases HI.out with ⟨_, _, h3⟩ | ⟨q, h1, h2, h3, h4⟩
            · rw [hp] at h3; cases h3
            · rw [hp] at h1
              obtain rfl : p = q := Option.some.inj h1
              exact ⟨h2, by rw [h3]; exact decide_eq_false hps, by rw [h4]; exact sum_rev hp⟩)
          obtain ⟨L1, hL1⟩ : ∃ L1, L1 = mrk L x.k := ⟨_, rfl⟩
          obtain ⟨V, hV⟩ : ∃ V, rvV L x.k = V := ⟨_, rfl⟩
          rw [← hL1] at HKE HKR HSUM HR
          rw [hV] at HR HSUM hv
          clear hL1 hV hE hN1 hp hps
          have hw1 : IntKind.i64.wrap (totP L - V) = totP L - V := by rw [IntKind.wrap_i64]; omega
          have m1 : decide (V < 0) = false := decide_eq_false (by omega)
          have m2 : decide (totP L < V) = false := decide_eq_false (by omega)
          by_cases hkk : x.k = key
          · have hkb : (x.k.toList == key.toList) = true := by rw [hkk]; simp
            obtain ⟨rfl, rfl, hi1⟩ := HKR.out hkk
            have HI1 := Lib.hid hi1
            clear hi1 HKE HKR hkk hv
            as_aux_lemma =>
              go_wp2_with fail
              refine (KL.call HM.out HR.out).mono ?_
              rintro e w3 ⟨rfl, h⟩
              have H3 := Lib.hid h
              obtain ⟨c0, c1, c2, c3⟩ := HCE.out _ _ h
              clear h HR HM hT0 hTB

              have HOK1 := Lib.hid (H3.out.ok HK.out)
              have HAS := Lib.hid (ask_t HI1.out)
              have hT10 := totP_nn HOK1.out.each
              have hT1B := HOK1.out.tot
              have HA1 := Lib.hid (fun O (h : LA w3 L1 O) => HK.out.ask w3 L1 O key h HKEY.out)
              go_wp2_with fail
              refine (KL.call H3.out HA1.out).mono ?_
              rintro e w4 ⟨rfl, h⟩
              obtain ⟨P, hP⟩ : ∃ P, akP L1 key = P := ⟨_, rfl⟩
              obtain ⟨Bq, hBq⟩ : ∃ B, akB L1 key = B := ⟨_, rfl⟩
              first | rw [hP, hBq] at HAS | rw [hBq] at HAS
              rw [hP, hBq]
              clear hP hBq HA1 b0 b1 b2 b3
              have hz := alloc_below w4 (.cells #[.string P.k, .int .i64 P.a, .int .i64 P.s, .string P.t] 31)
              obtain ⟨u0, u1, u2, u3⟩ := po_cells (heap_alloc_new w4 (.cells #[.string P.k, .int .i64 P.a, .int .i64 P.s, .string P.t] 31))
              have H5 := Lib.hid (KL.below HK.out h hz)
              have HPC := Lib.hid (show ∀ W, Below (w4.alloc (.cells #[.string P.k, .int .i64 P.a, .int .i64 P.s, .string P.t] 31)).heap.size (w4.alloc (.cells #[.string P.k, .int .i64 P.a, .int .i64 P.s, .string P.t] 31)) W → True from fun _ _ => trivial)
              have HT := Lib.hid (fun O (h : LA (w4.alloc (.cells #[.string P.k, .int .i64 P.a, .int .i64 P.s, .string P.t] 31)) L1 O) => HK.out.total _ L1 O h)
              have H5b := Lib.hid (KL.more (T := fun j => j = w4.heap.size) HK.out h hz (fun j e => by subst e; exact ⟨Nat.le_refl _, by simp⟩))
              have HPB := Lib.hid (heap_alloc_new w4 (.cells #[.string P.k, .int .i64 P.a, .int .i64 P.s, .string P.t] 31))
              clear h hz u0 u1 u2 u3 H5 HPC
              go_wp2_with fail
              refine (KL.call H5b.out HT.out).mono ?_
              rintro e w6 ⟨rfl, h⟩
              obtain ⟨u0, u1, u2, u3⟩ := po_cells ((h.held (k := w4.heap.size) (Or.inr rfl)).trans HPB.out)
              have H6 := Lib.hid (h.free w2)
              clear h HT H5b HPB
              have hq1 : (totP L1 != (totP L - V)) = false := by rw [HSUM.out]; simp
              have hq2 : ¬ (5000000000000 : Int) < (totP L - V) := by rw [HSUM.out]; omega
              have HFS := Lib.hid (show Value.int .i64 ((totP L - V)) = .int .i64 (totP L1) by rw [HSUM.out])
              have HASO := HAS.out
              generalize hT1 : totP L1 = T1
              rw [hT1] at hq1
              clear hT10 hT1B HAS hT1 HSUM

              obtain ⟨g1, g4, g5⟩ := HASO
              subst g1
              have hs1 : P.t.toList = an.toList := by rw [g4]
              have hs2 : (P.s == 2) = true := g5
              have hs3 : P.s = 2 := by simpa using g5
              clear g4 g5

              go_wp2_with fail
              go_roundw
              case rel => exact ⟨k + 1, L1, _, _, _, HFS.out, rfl, rfl, rfl, by go_num, by omega, by omega, HI1.out, H6.out⟩
              case measure => simp [intOf]; omega
          · have hkb : (x.k.toList == key.toList) = false := by rw [str_eq17]; exact decide_eq_false hkk
            have HI1 := Lib.hid (HKE.out hkk)
            clear HKE HKR hkk hv
            cases ap with
            | false =>
              cases rv with
              | true => exact absurd HI.out (by rintro (⟨_, h, _⟩ | ⟨_, _, h, _⟩) <;> cases h)
              | false =>
                as_aux_lemma =>
                  go_wp2_with fail
                  refine (KL.call HM.out HR.out).mono ?_
                  rintro e w3 ⟨rfl, h⟩
                  have H3 := Lib.hid h
                  obtain ⟨c0, c1, c2, c3⟩ := HCE.out _ _ h
                  clear h HR HM hT0 hTB

                  have HOK1 := Lib.hid (H3.out.ok HK.out)
                  have HAS := Lib.hid (ask_f HI1.out)
                  have hT10 := totP_nn HOK1.out.each
                  have hT1B := HOK1.out.tot
                  have HA1 := Lib.hid (fun O (h : LA w3 L1 O) => HK.out.ask w3 L1 O key h HKEY.out)
                  go_wp2_with fail
                  refine (KL.call H3.out HA1.out).mono ?_
                  rintro e w4 ⟨rfl, h⟩
                  obtain ⟨P, hP⟩ : ∃ P, akP L1 key = P := ⟨_, rfl⟩
                  obtain ⟨Bq, hBq⟩ : ∃ B, akB L1 key = B := ⟨_, rfl⟩
                  first | rw [hP, hBq] at HAS | rw [hBq] at HAS
                  rw [hP, hBq]
                  clear hP hBq HA1 b0 b1 b2 b3
                  have hz := alloc_below w4 (.cells #[.string P.k, .int .i64 P.a, .int .i64 P.s, .string P.t] 31)
                  obtain ⟨u0, u1, u2, u3⟩ := po_cells (heap_alloc_new w4 (.cells #[.string P.k, .int .i64 P.a, .int .i64 P.s, .string P.t] 31))
                  have H5 := Lib.hid (KL.below HK.out h hz)
                  have HPC := Lib.hid (show ∀ W, Below (w4.alloc (.cells #[.string P.k, .int .i64 P.a, .int .i64 P.s, .string P.t] 31)).heap.size (w4.alloc (.cells #[.string P.k, .int .i64 P.a, .int .i64 P.s, .string P.t] 31)) W → True from fun _ _ => trivial)
                  have HT := Lib.hid (fun O (h : LA (w4.alloc (.cells #[.string P.k, .int .i64 P.a, .int .i64 P.s, .string P.t] 31)) L1 O) => HK.out.total _ L1 O h)
                  have H5b := Lib.hid (KL.more (T := fun j => j = w4.heap.size) HK.out h hz (fun j e => by subst e; exact ⟨Nat.le_refl _, by simp⟩))
                  have HPB := Lib.hid (heap_alloc_new w4 (.cells #[.string P.k, .int .i64 P.a, .int .i64 P.s, .string P.t] 31))
                  clear h hz u0 u1 u2 u3 H5 HPC
                  go_wp2_with fail
                  refine (KL.call H5b.out HT.out).mono ?_
                  rintro e w6 ⟨rfl, h⟩
                  obtain ⟨u0, u1, u2, u3⟩ := po_cells ((h.held (k := w4.heap.size) (Or.inr rfl)).trans HPB.out)
                  have H6 := Lib.hid (h.free w2)
                  clear h HT H5b HPB
                  have hq1 : (totP L1 != (totP L - V)) = false := by rw [HSUM.out]; simp
                  have hq2 : ¬ (5000000000000 : Int) < (totP L - V) := by rw [HSUM.out]; omega
                  have HFS := Lib.hid (show Value.int .i64 ((totP L - V)) = .int .i64 (totP L1) by rw [HSUM.out])
                  have HASO := HAS.out
                  generalize hT1 : totP L1 = T1
                  rw [hT1] at hq1
                  clear hT10 hT1B HAS hT1 HSUM

                  subst HASO

                  go_wp2_with fail
                  go_roundw
                  case rel => exact ⟨k + 1, L1, _, _, _, HFS.out, rfl, rfl, rfl, by go_num, by omega, by omega, HI1.out, H6.out⟩
                  case measure => simp [intOf]; omega
            | true =>
              cases rv with
              | true =>
                as_aux_lemma =>
                  go_wp2_with fail
                  refine (KL.call HM.out HR.out).mono ?_
                  rintro e w3 ⟨rfl, h⟩
                  have H3 := Lib.hid h
                  obtain ⟨c0, c1, c2, c3⟩ := HCE.out _ _ h
                  clear h HR HM hT0 hTB

                  have HOK1 := Lib.hid (H3.out.ok HK.out)
                  have HAS := Lib.hid (ask_t HI1.out)
                  have hT10 := totP_nn HOK1.out.each
                  have hT1B := HOK1.out.tot
                  have HA1 := Lib.hid (fun O (h : LA w3 L1 O) => HK.out.ask w3 L1 O key h HKEY.out)
                  go_wp2_with fail
                  refine (KL.call H3.out HA1.out).mono ?_
                  rintro e w4 ⟨rfl, h⟩
                  obtain ⟨P, hP⟩ : ∃ P, akP L1 key = P := ⟨_, rfl⟩
                  obtain ⟨Bq, hBq⟩ : ∃ B, akB L1 key = B := ⟨_, rfl⟩
                  first | rw [hP, hBq] at HAS | rw [hBq] at HAS
                  rw [hP, hBq]
                  clear hP hBq HA1 b0 b1 b2 b3
                  have hz := alloc_below w4 (.cells #[.string P.k, .int .i64 P.a, .int .i64 P.s, .string P.t] 31)
                  obtain ⟨u0, u1, u2, u3⟩ := po_cells (heap_alloc_new w4 (.cells #[.string P.k, .int .i64 P.a, .int .i64 P.s, .string P.t] 31))
                  have H5 := Lib.hid (KL.below HK.out h hz)
                  have HPC := Lib.hid (show ∀ W, Below (w4.alloc (.cells #[.string P.k, .int .i64 P.a, .int .i64 P.s, .string P.t] 31)).heap.size (w4.alloc (.cells #[.string P.k, .int .i64 P.a, .int .i64 P.s, .string P.t] 31)) W → True from fun _ _ => trivial)
                  have HT := Lib.hid (fun O (h : LA (w4.alloc (.cells #[.string P.k, .int .i64 P.a, .int .i64 P.s, .string P.t] 31)) L1 O) => HK.out.total _ L1 O h)
                  have H5b := Lib.hid (KL.more (T := fun j => j = w4.heap.size) HK.out h hz (fun j e => by subst e; exact ⟨Nat.le_refl _, by simp⟩))
                  have HPB := Lib.hid (heap_alloc_new w4 (.cells #[.string P.k, .int .i64 P.a, .int .i64 P.s, .string P.t] 31))
                  clear h hz u0 u1 u2 u3 H5 HPC
                  go_wp2_with fail
                  refine (KL.call H5b.out HT.out).mono ?_
                  rintro e w6 ⟨rfl, h⟩
                  obtain ⟨u0, u1, u2, u3⟩ := po_cells ((h.held (k := w4.heap.size) (Or.inr rfl)).trans HPB.out)
                  have H6 := Lib.hid (h.free w2)
                  clear h HT H5b HPB
                  have hq1 : (totP L1 != (totP L - V)) = false := by rw [HSUM.out]; simp
                  have hq2 : ¬ (5000000000000 : Int) < (totP L - V) := by rw [HSUM.out]; omega
                  have HFS := Lib.hid (show Value.int .i64 ((totP L - V)) = .int .i64 (totP L1) by rw [HSUM.out])
                  have HASO := HAS.out
                  generalize hT1 : totP L1 = T1
                  rw [hT1] at hq1
                  clear hT10 hT1B HAS hT1 HSUM

                  obtain ⟨g1, g4, g5⟩ := HASO
                  subst g1
                  have hs1 : P.t.toList = an.toList := by rw [g4]
                  have hs2 : (P.s == 2) = true := g5
                  have hs3 : P.s = 2 := by simpa using g5
                  clear g4 g5

                  go_wp2_with fail
                  go_roundw
                  case rel => exact ⟨k + 1, L1, _, _, _, HFS.out, rfl, rfl, rfl, by go_num, by omega, by omega, HI1.out, H6.out⟩
                  case measure => simp [intOf]; omega
              | false =>
                as_aux_lemma =>
                  go_wp2_with fail
                  refine (KL.call HM.out HR.out).mono ?_
                  rintro e w3 ⟨rfl, h⟩
                  have H3 := Lib.hid h
                  obtain ⟨c0, c1, c2, c3⟩ := HCE.out _ _ h
                  clear h HR HM hT0 hTB

                  have HOK1 := Lib.hid (H3.out.ok HK.out)
                  have HAS := Lib.hid (ask_t HI1.out)
                  have hT10 := totP_nn HOK1.out.each
                  have hT1B := HOK1.out.tot
                  have HA1 := Lib.hid (fun O (h : LA w3 L1 O) => HK.out.ask w3 L1 O key h HKEY.out)
                  go_wp2_with fail
                  refine (KL.call H3.out HA1.out).mono ?_
                  rintro e w4 ⟨rfl, h⟩
                  obtain ⟨P, hP⟩ : ∃ P, akP L1 key = P := ⟨_, rfl⟩
                  obtain ⟨Bq, hBq⟩ : ∃ B, akB L1 key = B := ⟨_, rfl⟩
                  first | rw [hP, hBq] at HAS | rw [hBq] at HAS
                  rw [hP, hBq]
                  clear hP hBq HA1 b0 b1 b2 b3
                  have hz := alloc_below w4 (.cells #[.string P.k, .int .i64 P.a, .int .i64 P.s, .string P.t] 31)
                  obtain ⟨u0, u1, u2, u3⟩ := po_cells (heap_alloc_new w4 (.cells #[.string P.k, .int .i64 P.a, .int .i64 P.s, .string P.t] 31))
                  have H5 := Lib.hid (KL.below HK.out h hz)
                  have HPC := Lib.hid (show ∀ W, Below (w4.alloc (.cells #[.string P.k, .int .i64 P.a, .int .i64 P.s, .string P.t] 31)).heap.size (w4.alloc (.cells #[.string P.k, .int .i64 P.a, .int .i64 P.s, .string P.t] 31)) W → True from fun _ _ => trivial)
                  have HT := Lib.hid (fun O (h : LA (w4.alloc (.cells #[.string P.k, .int .i64 P.a, .int .i64 P.s, .string P.t] 31)) L1 O) => HK.out.total _ L1 O h)
                  have H5b := Lib.hid (KL.more (T := fun j => j = w4.heap.size) HK.out h hz (fun j e => by subst e; exact ⟨Nat.le_refl _, by simp⟩))
                  have HPB := Lib.hid (heap_alloc_new w4 (.cells #[.string P.k, .int .i64 P.a, .int .i64 P.s, .string P.t] 31))
                  clear h hz u0 u1 u2 u3 H5 HPC
                  go_wp2_with fail
                  refine (KL.call H5b.out HT.out).mono ?_
                  rintro e w6 ⟨rfl, h⟩
                  obtain ⟨u0, u1, u2, u3⟩ := po_cells ((h.held (k := w4.heap.size) (Or.inr rfl)).trans HPB.out)
                  have H6 := Lib.hid (h.free w2)
                  clear h HT H5b HPB
                  have hq1 : (totP L1 != (totP L - V)) = false := by rw [HSUM.out]; simp
                  have hq2 : ¬ (5000000000000 : Int) < (totP L - V) := by rw [HSUM.out]; omega
                  have HFS := Lib.hid (show Value.int .i64 ((totP L - V)) = .int .i64 (totP L1) by rw [HSUM.out])
                  have HASO := HAS.out
                  generalize hT1 : totP L1 = T1
                  rw [hT1] at hq1
                  clear hT10 hT1B HAS hT1 HSUM

                  obtain ⟨g1, g4, g5⟩ := HASO
                  subst g1
                  have hs1 : P.t.toList = an.toList := by rw [g4]
                  have hs2 : (P.s == 2) = false := g5
                  have hs3 : ¬ P.s = 2 := by simpa using g5
                  clear g4 g5

                  go_wp2_with fail
                  go_roundw
                  case rel => exact ⟨k + 1, L1, _, _, _, HFS.out, rfl, rfl, rfl, by go_num, by omega, by omega, HI1.out, H6.out⟩
                  case measure => simp [intOf]; omega
        · have hN1 : rvN L x.k = L := if_neg hE
          rw [hN1] at HR
          have hEb : (rvE L x.k == 0) = false := by simpa using hE
          have HI1 := HI
          obtain ⟨L1, hL1⟩ : ∃ L1, L1 = L := ⟨_, rfl⟩
          obtain ⟨Ee, hEe⟩ : ∃ E, rvE L x.k = E := ⟨_, rfl⟩
          obtain ⟨V, hV⟩ : ∃ V, rvV L x.k = V := ⟨_, rfl⟩
          rw [hEe, hV] at HR
          rw [hEe] at hEb
          subst hL1
          clear hE hN1 hEe hV
          cases ap with
          | false =>
            cases rv with
            | true => exact absurd HI.out (by rintro (⟨_, h, _⟩ | ⟨_, _, h, _⟩) <;> cases h)
            | false =>
              as_aux_lemma =>
                go_wp2_with fail
                refine (KL.call HM.out HR.out).mono ?_
                rintro e w3 ⟨rfl, h⟩
                have H3 := Lib.hid h
                obtain ⟨c0, c1, c2, c3⟩ := HCE.out _ _ h
                clear h HR HM hT0 hTB

                have HOK1 := Lib.hid (H3.out.ok HK.out)
                have HAS := Lib.hid (ask_f HI1.out)
                have hT10 := totP_nn HOK1.out.each
                have hT1B := HOK1.out.tot
                have HA1 := Lib.hid (fun O (h : LA w3 L1 O) => HK.out.ask w3 L1 O key h HKEY.out)
                go_wp2_with fail
                refine (KL.call H3.out HA1.out).mono ?_
                rintro e w4 ⟨rfl, h⟩
                obtain ⟨P, hP⟩ : ∃ P, akP L1 key = P := ⟨_, rfl⟩
                obtain ⟨Bq, hBq⟩ : ∃ B, akB L1 key = B := ⟨_, rfl⟩
                first | rw [hP, hBq] at HAS | rw [hBq] at HAS
                rw [hP, hBq]
                clear hP hBq HA1 b0 b1 b2 b3
                have hz := alloc_below w4 (.cells #[.string P.k, .int .i64 P.a, .int .i64 P.s, .string P.t] 31)
                obtain ⟨u0, u1, u2, u3⟩ := po_cells (heap_alloc_new w4 (.cells #[.string P.k, .int .i64 P.a, .int .i64 P.s, .string P.t] 31))
                have H5 := Lib.hid (KL.below HK.out h hz)
                have HPC := Lib.hid (show ∀ W, Below (w4.alloc (.cells #[.string P.k, .int .i64 P.a, .int .i64 P.s, .string P.t] 31)).heap.size (w4.alloc (.cells #[.string P.k, .int .i64 P.a, .int .i64 P.s, .string P.t] 31)) W → True from fun _ _ => trivial)
                have HT := Lib.hid (fun O (h : LA (w4.alloc (.cells #[.string P.k, .int .i64 P.a, .int .i64 P.s, .string P.t] 31)) L1 O) => HK.out.total _ L1 O h)
                have H5b := Lib.hid (KL.more (T := fun j => j = w4.heap.size) HK.out h hz (fun j e => by subst e; exact ⟨Nat.le_refl _, by simp⟩))
                have HPB := Lib.hid (heap_alloc_new w4 (.cells #[.string P.k, .int .i64 P.a, .int .i64 P.s, .string P.t] 31))
                clear h hz u0 u1 u2 u3 H5 HPC
                go_wp2_with fail
                refine (KL.call H5b.out HT.out).mono ?_
                rintro e w6 ⟨rfl, h⟩
                obtain ⟨u0, u1, u2, u3⟩ := po_cells ((h.held (k := w4.heap.size) (Or.inr rfl)).trans HPB.out)
                have H6 := Lib.hid (h.free w2)
                clear h HT H5b HPB
                have hq1 : (totP L1 != totP L1) = false := by simp
                have hq2 : ¬ (5000000000000 : Int) < totP L1 := by omega
                have HASO := HAS.out
                clear hT10 hT1B HAS

                subst HASO

                go_wp2_with fail
                go_roundw
                case rel => exact ⟨k + 1, L1, _, _, _, rfl, rfl, rfl, rfl, by go_num, by omega, by omega, HI1.out, H6.out⟩
                case measure => simp [intOf]; omega
          | true =>
            cases rv with
            | true =>
              as_aux_lemma =>
                go_wp2_with fail
                refine (KL.call HM.out HR.out).mono ?_
                rintro e w3 ⟨rfl, h⟩
                have H3 := Lib.hid h
                obtain ⟨c0, c1, c2, c3⟩ := HCE.out _ _ h
                clear h HR HM hT0 hTB

                have HOK1 := Lib.hid (H3.out.ok HK.out)
                have HAS := Lib.hid (ask_t HI1.out)
                have hT10 := totP_nn HOK1.out.each
                have hT1B := HOK1.out.tot
                have HA1 := Lib.hid (fun O (h : LA w3 L1 O) => HK.out.ask w3 L1 O key h HKEY.out)
                go_wp2_with fail
                refine (KL.call H3.out HA1.out).mono ?_
                rintro e w4 ⟨rfl, h⟩
                obtain ⟨P, hP⟩ : ∃ P, akP L1 key = P := ⟨_, rfl⟩
                obtain ⟨Bq, hBq⟩ : ∃ B, akB L1 key = B := ⟨_, rfl⟩
                first | rw [hP, hBq] at HAS | rw [hBq] at HAS
                rw [hP, hBq]
                clear hP hBq HA1 b0 b1 b2 b3
                have hz := alloc_below w4 (.cells #[.string P.k, .int .i64 P.a, .int .i64 P.s, .string P.t] 31)
                obtain ⟨u0, u1, u2, u3⟩ := po_cells (heap_alloc_new w4 (.cells #[.string P.k, .int .i64 P.a, .int .i64 P.s, .string P.t] 31))
                have H5 := Lib.hid (KL.below HK.out h hz)
                have HPC := Lib.hid (show ∀ W, Below (w4.alloc (.cells #[.string P.k, .int .i64 P.a, .int .i64 P.s, .string P.t] 31)).heap.size (w4.alloc (.cells #[.string P.k, .int .i64 P.a, .int .i64 P.s, .string P.t] 31)) W → True from fun _ _ => trivial)
                have HT := Lib.hid (fun O (h : LA (w4.alloc (.cells #[.string P.k, .int .i64 P.a, .int .i64 P.s, .string P.t] 31)) L1 O) => HK.out.total _ L1 O h)
                have H5b := Lib.hid (KL.more (T := fun j => j = w4.heap.size) HK.out h hz (fun j e => by subst e; exact ⟨Nat.le_refl _, by simp⟩))
                have HPB := Lib.hid (heap_alloc_new w4 (.cells #[.string P.k, .int .i64 P.a, .int .i64 P.s, .string P.t] 31))
                clear h hz u0 u1 u2 u3 H5 HPC
                go_wp2_with fail
                refine (KL.call H5b.out HT.out).mono ?_
                rintro e w6 ⟨rfl, h⟩
                obtain ⟨u0, u1, u2, u3⟩ := po_cells ((h.held (k := w4.heap.size) (Or.inr rfl)).trans HPB.out)
                have H6 := Lib.hid (h.free w2)
                clear h HT H5b HPB
                have hq1 : (totP L1 != totP L1) = false := by simp
                have hq2 : ¬ (5000000000000 : Int) < totP L1 := by omega
                have HASO := HAS.out
                clear hT10 hT1B HAS

                obtain ⟨g1, g4, g5⟩ := HASO
                subst g1
                have hs1 : P.t.toList = an.toList := by rw [g4]
                have hs2 : (P.s == 2) = true := g5
                have hs3 : P.s = 2 := by simpa using g5
                clear g4 g5

                go_wp2_with fail
                go_roundw
                case rel => exact ⟨k + 1, L1, _, _, _, rfl, rfl, rfl, rfl, by go_num, by omega, by omega, HI1.out, H6.out⟩
                case measure => simp [intOf]; omega
            | false =>
              as_aux_lemma =>
                go_wp2_with fail
                refine (KL.call HM.out HR.out).mono ?_
                rintro e w3 ⟨rfl, h⟩
                have H3 := Lib.hid h
                obtain ⟨c0, c1, c2, c3⟩ := HCE.out _ _ h
                clear h HR HM hT0 hTB

                have HOK1 := Lib.hid (H3.out.ok HK.out)
                have HAS := Lib.hid (ask_t HI1.out)
                have hT10 := totP_nn HOK1.out.each
                have hT1B := HOK1.out.tot
                have HA1 := Lib.hid (fun O (h : LA w3 L1 O) => HK.out.ask w3 L1 O key h HKEY.out)
                go_wp2_with fail
                refine (KL.call H3.out HA1.out).mono ?_
                rintro e w4 ⟨rfl, h⟩
                obtain ⟨P, hP⟩ : ∃ P, akP L1 key = P := ⟨_, rfl⟩
                obtain ⟨Bq, hBq⟩ : ∃ B, akB L1 key = B := ⟨_, rfl⟩
                first | rw [hP, hBq] at HAS | rw [hBq] at HAS
                rw [hP, hBq]
                clear hP hBq HA1 b0 b1 b2 b3
                have hz := alloc_below w4 (.cells #[.string P.k, .int .i64 P.a, .int .i64 P.s, .string P.t] 31)
                obtain ⟨u0, u1, u2, u3⟩ := po_cells (heap_alloc_new w4 (.cells #[.string P.k, .int .i64 P.a, .int .i64 P.s, .string P.t] 31))
                have H5 := Lib.hid (KL.below HK.out h hz)
                have HPC := Lib.hid (show ∀ W, Below (w4.alloc (.cells #[.string P.k, .int .i64 P.a, .int .i64 P.s, .string P.t] 31)).heap.size (w4.alloc (.cells #[.string P.k, .int .i64 P.a, .int .i64 P.s, .string P.t] 31)) W → True from fun _ _ => trivial)
                have HT := Lib.hid (fun O (h : LA (w4.alloc (.cells #[.string P.k, .int .i64 P.a, .int .i64 P.s, .string P.t] 31)) L1 O) => HK.out.total _ L1 O h)
                have H5b := Lib.hid (KL.more (T := fun j => j = w4.heap.size) HK.out h hz (fun j e => by subst e; exact ⟨Nat.le_refl _, by simp⟩))
                have HPB := Lib.hid (heap_alloc_new w4 (.cells #[.string P.k, .int .i64 P.a, .int .i64 P.s, .string P.t] 31))
                clear h hz u0 u1 u2 u3 H5 HPC
                go_wp2_with fail
                refine (KL.call H5b.out HT.out).mono ?_
                rintro e w6 ⟨rfl, h⟩
                obtain ⟨u0, u1, u2, u3⟩ := po_cells ((h.held (k := w4.heap.size) (Or.inr rfl)).trans HPB.out)
                have H6 := Lib.hid (h.free w2)
                clear h HT H5b HPB
                have hq1 : (totP L1 != totP L1) = false := by simp
                have hq2 : ¬ (5000000000000 : Int) < totP L1 := by omega
                have HASO := HAS.out
                clear hT10 hT1B HAS

                obtain ⟨g1, g4, g5⟩ := HASO
                subst g1
                have hs1 : P.t.toList = an.toList := by rw [g4]
                have hs2 : (P.s == 2) = false := g5
                have hs3 : ¬ P.s = 2 := by simpa using g5
                clear g4 g5

                go_wp2_with fail
                go_roundw
                case rel => exact ⟨k + 1, L1, _, _, _, rfl, rfl, rfl, rfl, by go_num, by omega, by omega, HI1.out, H6.out⟩
                case measure => simp [intOf]; omega
      · rw [hd] at a0 b0 HM HH HCE
        have HC := Lib.hid (fun O (h : LA (wr2.alloc (.cells #[.int .i64 3, .string x.k, .string x.t, .int .i64 x.a] 38)) L O) => HK.out.close _ L O h)
        have HI1 := Lib.hid (show SumI [] key false false an from Or.inl ⟨rfl, rfl, rfl⟩)
        have HSUM := Lib.hid (show (0 : Int) = totP [] from rfl)
        have htt : (totP L != totP L) = false := by simp
        obtain ⟨L1, hL1⟩ : ∃ L1 : List Po, L1 = [] := ⟨_, rfl⟩
        rw [← hL1] at HI1 HSUM HC
        clear hL1
        as_aux_lemma =>
          go_wp2_with fail
          refine (KL.call HM.out HC.out).mono ?_
          rintro e w3 ⟨rfl, h⟩
          have H3 := Lib.hid h
          obtain ⟨c0, c1, c2, c3⟩ := HCE.out _ _ h
          clear h HC HM hT0 hTB

          have HOK1 := Lib.hid (H3.out.ok HK.out)
          have HAS := Lib.hid (ask_f HI1.out)
          have hT10 := totP_nn HOK1.out.each
          have hT1B := HOK1.out.tot
          have HA1 := Lib.hid (fun O (h : LA w3 L1 O) => HK.out.ask w3 L1 O key h HKEY.out)
          go_wp2_with fail
          refine (KL.call H3.out HA1.out).mono ?_
          rintro e w4 ⟨rfl, h⟩
          obtain ⟨P, hP⟩ : ∃ P, akP L1 key = P := ⟨_, rfl⟩
          obtain ⟨Bq, hBq⟩ : ∃ B, akB L1 key = B := ⟨_, rfl⟩
          first | rw [hP, hBq] at HAS | rw [hBq] at HAS
          rw [hP, hBq]
          clear hP hBq HA1 b0 b1 b2 b3
          have hz := alloc_below w4 (.cells #[.string P.k, .int .i64 P.a, .int .i64 P.s, .string P.t] 31)
          obtain ⟨u0, u1, u2, u3⟩ := po_cells (heap_alloc_new w4 (.cells #[.string P.k, .int .i64 P.a, .int .i64 P.s, .string P.t] 31))
          have H5 := Lib.hid (KL.below HK.out h hz)
          have HPC := Lib.hid (show ∀ W, Below (w4.alloc (.cells #[.string P.k, .int .i64 P.a, .int .i64 P.s, .string P.t] 31)).heap.size (w4.alloc (.cells #[.string P.k, .int .i64 P.a, .int .i64 P.s, .string P.t] 31)) W → True from fun _ _ => trivial)
          have HT := Lib.hid (fun O (h : LA (w4.alloc (.cells #[.string P.k, .int .i64 P.a, .int .i64 P.s, .string P.t] 31)) L1 O) => HK.out.total _ L1 O h)
          have H5b := Lib.hid (KL.more (T := fun j => j = w4.heap.size) HK.out h hz (fun j e => by subst e; exact ⟨Nat.le_refl _, by simp⟩))
          have HPB := Lib.hid (heap_alloc_new w4 (.cells #[.string P.k, .int .i64 P.a, .int .i64 P.s, .string P.t] 31))
          clear h hz u0 u1 u2 u3 H5 HPC
          go_wp2_with fail
          refine (KL.call H5b.out HT.out).mono ?_
          rintro e w6 ⟨rfl, h⟩
          obtain ⟨u0, u1, u2, u3⟩ := po_cells ((h.held (k := w4.heap.size) (Or.inr rfl)).trans HPB.out)
          have H6 := Lib.hid (h.free w2)
          clear h HT H5b HPB
          have hq1 : (totP L1 != (0 : Int)) = false := by rw [HSUM.out]; simp
          have hq2 : ¬ (5000000000000 : Int) < (0 : Int) := by rw [HSUM.out]; omega
          have HFS := Lib.hid (show Value.int .i64 ((0 : Int)) = .int .i64 (totP L1) by rw [HSUM.out])
          have HASO := HAS.out
          generalize hT1 : totP L1 = T1
          rw [hT1] at hq1
          clear hT10 hT1B HAS hT1 HSUM

          subst HASO

          go_wp2_with fail
          go_roundw
          case rel => exact ⟨k + 1, L1, _, _, _, HFS.out, rfl, rfl, rfl, by go_num, by omega, by omega, HI1.out, H6.out⟩
          case measure => simp [intOf]; omega
      · have qd0 : (x.d == 0) = false := by simpa using hd0
        have qd1 : (x.d == 1) = false := by simpa using hd1
        have qd3 : (x.d == 3) = false := by simpa using hd3
        have HI1 := HI
        have H3 := HM
        obtain ⟨L1, hL1⟩ : ∃ L1, L1 = L := ⟨_, rfl⟩
        subst hL1
        have HKEY' := HKEY
        clear HM hd0 hd1 hd3
        cases ap with
        | false =>
          cases rv with
          | true => exact absurd HI.out (by rintro (⟨_, h, _⟩ | ⟨_, _, h, _⟩) <;> cases h)
          | false =>
            as_aux_lemma =>
              have HOK1 := Lib.hid (H3.out.ok HK.out)
              have HAS := Lib.hid (ask_f HI1.out)
              have hT10 := totP_nn HOK1.out.each
              have hT1B := HOK1.out.tot
              have HA1 := Lib.hid (fun O (h : LA (wr2.alloc (.cells #[.int .i64 x.d, .string x.k, .string x.t, .int .i64 x.a] 38)) L1 O) => HK.out.ask (wr2.alloc (.cells #[.int .i64 x.d, .string x.k, .string x.t, .int .i64 x.a] 38)) L1 O key h HKEY.out)
              go_wp2_with fail
              refine (KL.call H3.out HA1.out).mono ?_
              rintro e w4 ⟨rfl, h⟩
              obtain ⟨P, hP⟩ : ∃ P, akP L1 key = P := ⟨_, rfl⟩
              obtain ⟨Bq, hBq⟩ : ∃ B, akB L1 key = B := ⟨_, rfl⟩
              first | rw [hP, hBq] at HAS | rw [hBq] at HAS
              rw [hP, hBq]
              clear hP hBq HA1 b0 b1 b2 b3
              have hz := alloc_below w4 (.cells #[.string P.k, .int .i64 P.a, .int .i64 P.s, .string P.t] 31)
              obtain ⟨u0, u1, u2, u3⟩ := po_cells (heap_alloc_new w4 (.cells #[.string P.k, .int .i64 P.a, .int .i64 P.s, .string P.t] 31))
              have H5 := Lib.hid (KL.below HK.out h hz)
              have HPC := Lib.hid (show ∀ W, Below (w4.alloc (.cells #[.string P.k, .int .i64 P.a, .int .i64 P.s, .string P.t] 31)).heap.size (w4.alloc (.cells #[.string P.k, .int .i64 P.a, .int .i64 P.s, .string P.t] 31)) W → True from fun _ _ => trivial)
              have HT := Lib.hid (fun O (h : LA (w4.alloc (.cells #[.string P.k, .int .i64 P.a, .int .i64 P.s, .string P.t] 31)) L1 O) => HK.out.total _ L1 O h)
              have H5b := Lib.hid (KL.more (T := fun j => j = w4.heap.size) HK.out h hz (fun j e => by subst e; exact ⟨Nat.le_refl _, by simp⟩))
              have HPB := Lib.hid (heap_alloc_new w4 (.cells #[.string P.k, .int .i64 P.a, .int .i64 P.s, .string P.t] 31))
              clear h hz u0 u1 u2 u3 H5 HPC
              go_wp2_with fail
              refine (KL.call H5b.out HT.out).mono ?_
              rintro e w6 ⟨rfl, h⟩
              obtain ⟨u0, u1, u2, u3⟩ := po_cells ((h.held (k := w4.heap.size) (Or.inr rfl)).trans HPB.out)
              have H6 := Lib.hid (h.free w2)
              clear h HT H5b HPB
              have hq1 : (totP L1 != totP L1) = false := by simp
              have hq2 : ¬ (5000000000000 : Int) < totP L1 := by omega
              have HASO := HAS.out
              clear hT10 hT1B HAS

              subst HASO

              go_wp2_with fail
              go_roundw
              case rel => exact ⟨k + 1, L1, _, _, _, rfl, rfl, rfl, rfl, by go_num, by omega, by omega, HI1.out, H6.out⟩
              case measure => simp [intOf]; omega
        | true =>
          cases rv with
          | true =>
            as_aux_lemma =>
              have HOK1 := Lib.hid (H3.out.ok HK.out)
              have HAS := Lib.hid (ask_t HI1.out)
              have hT10 := totP_nn HOK1.out.each
              have hT1B := HOK1.out.tot
              have HA1 := Lib.hid (fun O (h : LA (wr2.alloc (.cells #[.int .i64 x.d, .string x.k, .string x.t, .int .i64 x.a] 38)) L1 O) => HK.out.ask (wr2.alloc (.cells #[.int .i64 x.d, .string x.k, .string x.t, .int .i64 x.a] 38)) L1 O key h HKEY.out)
              go_wp2_with fail
              refine (KL.call H3.out HA1.out).mono ?_
              rintro e w4 ⟨rfl, h⟩
              obtain ⟨P, hP⟩ : ∃ P, akP L1 key = P := ⟨_, rfl⟩
              obtain ⟨Bq, hBq⟩ : ∃ B, akB L1 key = B := ⟨_, rfl⟩
              first | rw [hP, hBq] at HAS | rw [hBq] at HAS
              rw [hP, hBq]
              clear hP hBq HA1 b0 b1 b2 b3
              have hz := alloc_below w4 (.cells #[.string P.k, .int .i64 P.a, .int .i64 P.s, .string P.t] 31)
              obtain ⟨u0, u1, u2, u3⟩ := po_cells (heap_alloc_new w4 (.cells #[.string P.k, .int .i64 P.a, .int .i64 P.s, .string P.t] 31))
              have H5 := Lib.hid (KL.below HK.out h hz)
              have HPC := Lib.hid (show ∀ W, Below (w4.alloc (.cells #[.string P.k, .int .i64 P.a, .int .i64 P.s, .string P.t] 31)).heap.size (w4.alloc (.cells #[.string P.k, .int .i64 P.a, .int .i64 P.s, .string P.t] 31)) W → True from fun _ _ => trivial)
              have HT := Lib.hid (fun O (h : LA (w4.alloc (.cells #[.string P.k, .int .i64 P.a, .int .i64 P.s, .string P.t] 31)) L1 O) => HK.out.total _ L1 O h)
              have H5b := Lib.hid (KL.more (T := fun j => j = w4.heap.size) HK.out h hz (fun j e => by subst e; exact ⟨Nat.le_refl _, by simp⟩))
              have HPB := Lib.hid (heap_alloc_new w4 (.cells #[.string P.k, .int .i64 P.a, .int .i64 P.s, .string P.t] 31))
              clear h hz u0 u1 u2 u3 H5 HPC
              go_wp2_with fail
              refine (KL.call H5b.out HT.out).mono ?_
              rintro e w6 ⟨rfl, h⟩
              obtain ⟨u0, u1, u2, u3⟩ := po_cells ((h.held (k := w4.heap.size) (Or.inr rfl)).trans HPB.out)
              have H6 := Lib.hid (h.free w2)
              clear h HT H5b HPB
              have hq1 : (totP L1 != totP L1) = false := by simp
              have hq2 : ¬ (5000000000000 : Int) < totP L1 := by omega
              have HASO := HAS.out
              clear hT10 hT1B HAS

              obtain ⟨g1, g4, g5⟩ := HASO
              subst g1
              have hs1 : P.t.toList = an.toList := by rw [g4]
              have hs2 : (P.s == 2) = true := g5
              have hs3 : P.s = 2 := by simpa using g5
              clear g4 g5

              go_wp2_with fail
              go_roundw
              case rel => exact ⟨k + 1, L1, _, _, _, rfl, rfl, rfl, rfl, by go_num, by omega, by omega, HI1.out, H6.out⟩
              case measure => simp [intOf]; omega
          | false =>
            as_aux_lemma =>
              have HOK1 := Lib.hid (H3.out.ok HK.out)
              have HAS := Lib.hid (ask_t HI1.out)
              have hT10 := totP_nn HOK1.out.each
              have hT1B := HOK1.out.tot
              have HA1 := Lib.hid (fun O (h : LA (wr2.alloc (.cells #[.int .i64 x.d, .string x.k, .string x.t, .int .i64 x.a] 38)) L1 O) => HK.out.ask (wr2.alloc (.cells #[.int .i64 x.d, .string x.k, .string x.t, .int .i64 x.a] 38)) L1 O key h HKEY.out)
              go_wp2_with fail
              refine (KL.call H3.out HA1.out).mono ?_
              rintro e w4 ⟨rfl, h⟩
              obtain ⟨P, hP⟩ : ∃ P, akP L1 key = P := ⟨_, rfl⟩
              obtain ⟨Bq, hBq⟩ : ∃ B, akB L1 key = B := ⟨_, rfl⟩
              first | rw [hP, hBq] at HAS | rw [hBq] at HAS
              rw [hP, hBq]
              clear hP hBq HA1 b0 b1 b2 b3
              have hz := alloc_below w4 (.cells #[.string P.k, .int .i64 P.a, .int .i64 P.s, .string P.t] 31)
              obtain ⟨u0, u1, u2, u3⟩ := po_cells (heap_alloc_new w4 (.cells #[.string P.k, .int .i64 P.a, .int .i64 P.s, .string P.t] 31))
              have H5 := Lib.hid (KL.below HK.out h hz)
              have HPC := Lib.hid (show ∀ W, Below (w4.alloc (.cells #[.string P.k, .int .i64 P.a, .int .i64 P.s, .string P.t] 31)).heap.size (w4.alloc (.cells #[.string P.k, .int .i64 P.a, .int .i64 P.s, .string P.t] 31)) W → True from fun _ _ => trivial)
              have HT := Lib.hid (fun O (h : LA (w4.alloc (.cells #[.string P.k, .int .i64 P.a, .int .i64 P.s, .string P.t] 31)) L1 O) => HK.out.total _ L1 O h)
              have H5b := Lib.hid (KL.more (T := fun j => j = w4.heap.size) HK.out h hz (fun j e => by subst e; exact ⟨Nat.le_refl _, by simp⟩))
              have HPB := Lib.hid (heap_alloc_new w4 (.cells #[.string P.k, .int .i64 P.a, .int .i64 P.s, .string P.t] 31))
              clear h hz u0 u1 u2 u3 H5 HPC
              go_wp2_with fail
              refine (KL.call H5b.out HT.out).mono ?_
              rintro e w6 ⟨rfl, h⟩
              obtain ⟨u0, u1, u2, u3⟩ := po_cells ((h.held (k := w4.heap.size) (Or.inr rfl)).trans HPB.out)
              have H6 := Lib.hid (h.free w2)
              clear h HT H5b HPB
              have hq1 : (totP L1 != totP L1) = false := by simp
              have hq2 : ¬ (5000000000000 : Int) < totP L1 := by omega
              have HASO := HAS.out
              clear hT10 hT1B HAS

              obtain ⟨g1, g4, g5⟩ := HASO
              subst g1
              have hs1 : P.t.toList = an.toList := by rw [g4]
              have hs2 : (P.s == 2) = false := g5
              have hs3 : ¬ P.s = 2 := by simpa using g5
              clear g4 g5

              go_wp2_with fail
              go_roundw
              case rel => exact ⟨k + 1, L1, _, _, _, rfl, rfl, rfl, rfl, by go_num, by omega, by omega, HI1.out, H6.out⟩
              case measure => simp [intOf]; omega
    · have HBE := Lib.hid (HPR.out.bel HK.out)
      have HT := Lib.hid (fun O (h : LA wr2 L O) => HK.out.total wr2 L O h)
      have htt : (totP L == totP L) = true := by simp
      have hend : ¬ (k : Int) < X.length ∨ (k : Int) < X.length ∧ ¬ (k : Int) < 200 := by omega
      rcases hend with hz1 | ⟨hz1, hz2⟩
      all_goals
        go_wp2_with fail
        refine (KL.call HPR.out HT.out).mono ?_
        rintro e w3 ⟨rfl, h⟩
        have HB3 := Lib.hid (h.bel HK.out)
        clear h
        go_wp2_with fail
        go_ret
        exact ⟨rfl, HB3.out⟩
end Go.Proofs.Ytlglkfgephilnaa
