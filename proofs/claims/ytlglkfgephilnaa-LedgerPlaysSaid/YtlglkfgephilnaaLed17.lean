/- Layer 17: the small case; an act on a ledger. Written by specs/mkled17.py. -/
import Derived.Test.YtlglkfgephilnaaLedK
namespace Go.Proofs.Ytlglkfgephilnaa
set_option maxRecDepth 100000
open Go.RowKit
abbrev pa : ByteArray := { data := #[97] }
abbrev pb : ByteArray := { data := #[98] }
abbrev px : ByteArray := { data := #[120] }
abbrev p0 : ByteArray := { data := #[] }
def l17a : List Po := [⟨pa, 60, 1, px⟩]
def l17b : List Po := [⟨pa, 60, 1, px⟩, ⟨pb, 40, 1, p0⟩]
def l17c : List Po := [⟨pa, 60, 2, px⟩, ⟨pb, 40, 1, p0⟩]
theorem small17_facts : (apE [] pa 60 px = 0 ∧ apN [] pa 60 px = l17a) ∧ (apE l17a pb 40 p0 = 0 ∧ apN l17a pb 40 p0 = l17b) ∧ (apE l17b pa 1 p0 = 16 ∧ apN l17b pa 1 p0 = l17b) ∧ totP l17b = 100 ∧
    (rvE l17b pa = 0 ∧ rvV l17b pa = 60 ∧ rvN l17b pa = l17c) ∧ (rvE l17c pa = 20 ∧ rvV l17c pa = 0 ∧ rvN l17c pa = l17c) ∧ (akP l17c pa = ⟨pa, 60, 2, px⟩ ∧ akB l17c pa = true) ∧ totP l17c = 40 ∧ totP [] = 0 := by decide +kernel
set_option maxHeartbeats 3200000 in
theorem small17_any (hN : LgNew) (w : World) : Calls Try.prog 8 #[] w fun e w' => e = .returned (.bool true) ∧ Below w.heap.size w w' := by
  obtain ⟨f1, f2, f3, f4, f5, f6, f7, f8, f9⟩ := small17_facts
  have HN := Lib.hid (hN w w (Below.refl _ _))
  have F1 := Lib.hid f1
  have F2 := Lib.hid f2
  have F3 := Lib.hid f3
  have F4 := Lib.hid f4
  have F5 := Lib.hid f5
  have F6 := Lib.hid f6
  have F7 := Lib.hid f7
  have F8 := Lib.hid f8
  have F9 := Lib.hid f9
  clear f1 f2 f3 f4 f5 f6 f7 f8 f9 hN
  go_enter Try.func8, Try.ntmps8
  go_wp2_with fail
  refine HN.out.mono ?_
  rintro e w1 ⟨G, LA, O, rfl, hkit, ha, _, _⟩
  have HK := Lib.hid hkit
  have A0 := Lib.hid (show KL LA (fun _ => False) w1 w1 [] from ⟨O, ha, fun k hk => absurd hk id⟩)
  clear hkit ha HN
  have C1 := Lib.hid (fun O (h : LA w1 [] O) => HK.out.approve w1 [] O pa 60 px h (by decide) (by decide))
  rw [F1.out.1, F1.out.2] at C1
  go_wp2_with fail
  refine (KL.call A0.out C1.out).mono ?_
  rintro e w2 ⟨rfl, h⟩
  have A1 := Lib.hid h
  clear h C1
  have C2 := Lib.hid (fun O (h : LA w2 l17a O) => HK.out.approve w2 l17a O pb 40 p0 h (by decide) (by decide))
  rw [F2.out.1, F2.out.2] at C2
  go_wp2_with fail
  refine (KL.call A1.out C2.out).mono ?_
  rintro e w3 ⟨rfl, h⟩
  have A2 := Lib.hid h
  clear h C2
  have C3 := Lib.hid (fun O (h : LA w3 l17b O) => HK.out.approve w3 l17b O pa 1 p0 h (by decide) (by decide))
  rw [F3.out.1, F3.out.2] at C3
  go_wp2_with fail
  refine (KL.call A2.out C3.out).mono ?_
  rintro e w4 ⟨rfl, h⟩
  have A3 := Lib.hid h
  clear h C3
  have C4 := Lib.hid (fun O (h : LA w4 l17b O) => HK.out.total w4 l17b O h)
  rw [F4.out] at C4
  go_wp2_with fail
  refine (KL.call A3.out C4.out).mono ?_
  rintro e w5 ⟨rfl, h⟩
  have A4 := Lib.hid h
  clear h C4
  have C5 := Lib.hid (fun O (h : LA w5 l17b O) => HK.out.reverse w5 l17b O pa h (by decide))
  rw [F5.out.1, F5.out.2.1, F5.out.2.2] at C5
  go_wp2_with fail
  refine (KL.call A4.out C5.out).mono ?_
  rintro e w6 ⟨rfl, h⟩
  have A5 := Lib.hid h
  clear h C5
  have C6 := Lib.hid (fun O (h : LA w6 l17c O) => HK.out.reverse w6 l17c O pa h (by decide))
  rw [F6.out.1, F6.out.2.1, F6.out.2.2] at C6
  go_wp2_with fail
  refine (KL.call A5.out C6.out).mono ?_
  rintro e w7 ⟨rfl, h⟩
  have A6 := Lib.hid h
  clear h C6
  have C7 := Lib.hid (fun O (h : LA w7 l17c O) => HK.out.ask w7 l17c O pa h (by decide))
  rw [F7.out.1, F7.out.2] at C7
  go_wp2_with fail
  refine (KL.call A6.out C7.out).mono ?_
  rintro e w8 ⟨rfl, h⟩
  have A7 := Lib.hid h
  clear h C7
  have hz := alloc_below w8 (.cells #[.string pa, .int .i64 60, .int .i64 2, .string px] 31)
  have A8 := Lib.hid (KL.below HK.out A7.out hz)
  have C8 := Lib.hid (fun O (h : LA (w8.alloc (.cells #[.string pa, .int .i64 60, .int .i64 2, .string px] 31)) l17c O) => HK.out.close _ l17c O h)
  rw [F8.out] at C8
  go_wp2_with fail
  refine (KL.call A8.out C8.out).mono ?_
  rintro e w9 ⟨rfl, h⟩
  have A9 := Lib.hid h
  clear h C8 hz
  have C9 := Lib.hid (fun O (h : LA w9 [] O) => HK.out.total w9 [] O h)
  rw [F9.out] at C9
  go_wp2_with fail
  refine (KL.call A9.out C9.out).mono ?_
  rintro e w10 ⟨rfl, h⟩
  have A10 := Lib.hid (KL.bel HK.out h)
  clear h C9
  go_wp2_with fail
  go_ret
  exact ⟨rfl, A10.out⟩
/-! ### an act -/
/-- an act: what to do, a key, an answer, an amount -/
structure Ap where
  d : Int
  k : ByteArray
  t : ByteArray
  a : Int
abbrev apL (x : Ap) : List Value := [.int .i64 x.d, .string x.k, .string x.t, .int .i64 x.a]
abbrev apV (x : Ap) : Value := .agg #[.int .i64 x.d, .string x.k, .string x.t, .int .i64 x.a]
def dvV (L : List Po) (x : Ap) : Int := if x.d = 0 then 0 else if x.d = 1 then rvV L x.k else if x.d = 3 then totP L else 0
def dvE (L : List Po) (x : Ap) : Int := if x.d = 0 then apE L x.k x.a x.t else if x.d = 1 then rvE L x.k else 0
def dvN (L : List Po) (x : Ap) : List Po := if x.d = 0 then apN L x.k x.a x.t else if x.d = 1 then rvN L x.k else if x.d = 3 then [] else L
theorem dv_ok {L : List Po} (h : LgOk L) (x : Ap) : LgOk (dvN L x) := by
  unfold dvN
  split
  · exact ap_ok h _ _ _
  split
  · exact rv_ok h _
  split
  · exact LgOk.nil
  · exact h
theorem LgStep.after {LA : World → List Po → (Nat → Prop) → Prop} {w w2 w' : World} {O : Nat → Prop} {L : List Po} (hb : Below w.heap.size w w2) (h : LgStep LA w2 O w' L) : LgStep LA w O w' L := by
  obtain ⟨O', h1, h2, h3⟩ := h
  exact ⟨O', h1, (ChgS.of_below hb).trans h2, fun k hk => (h3 k hk).imp id fun h => Nat.le_trans hb.size h⟩
theorem LgStep.same {u : World} {G : Nat} {LA : World → List Po → (Nat → Prop) → Prop} (hK : LgKit u G LA) {w w' : World} {O : Nat → Prop} {L : List Po} (h : LA w L O) (hb : Below w.heap.size w w') : LgStep LA w O w' L :=
  ⟨O, hK.below h hb, ChgS.of_below hb, fun _ hk => Or.inl hk⟩
set_option maxHeartbeats 1600000 in
theorem do17_any {u w : World} {G : Nat} {LA : World → List Po → (Nat → Prop) → Prop} {L : List Po} {O : Nat → Prop} (hK : LgKit u G LA) (h : LA w L O) (x : Ap) (hk : x.k.size ≤ maxLen) (ht : x.t.size ≤ maxLen) :
    Calls Try.prog 24 #[.pointer (some ⟨G, 0, none⟩), apV x] w fun e w' => e = .returned (.tuple #[.int .i64 (dvV L x), .int .i64 (dvE L x)]) ∧ LgStep LA w O w' (dvN L x) := by
  have hb := alloc_below w (.cells #[.int .i64 x.d, .string x.k, .string x.t, .int .i64 x.a] 38)
  have HB := Lib.hid hb
  have HA := Lib.hid (hK.approve _ L O x.k x.a x.t (hK.below h hb) hk ht)
  have HR := Lib.hid (hK.reverse _ L O x.k (hK.below h hb) hk)
  have HC := Lib.hid (hK.close _ L O (hK.below h hb))
  have HE := Lib.hid (LgStep.same hK h hb)
  clear hb hk ht h hK
  by_cases h0 : x.d = 0
  · have q := h0
    have e1 : dvV L x = 0 := if_pos h0
    have e2 : dvE L x = apE L x.k x.a x.t := if_pos h0
    have e3 : dvN L x = apN L x.k x.a x.t := if_pos h0
    rw [e1, e2, e3]
    clear q
    obtain ⟨d, k, t, a⟩ := x
    simp only at *
    clear e1 e2 e3 HR HC HE
    subst h0
    go_enter Try.func24, Try.ntmps24
    go_wp2_with fail
    refine HA.out.mono ?_
    rintro e w1 ⟨rfl, h1⟩
    have H1 := Lib.hid h1
    clear h1
    go_wp2_with fail
    go_ret2
    exact ⟨rfl, H1.out.after HB.out⟩
  have q0 : (x.d == 0) = false := by simpa using h0
  by_cases h1 : x.d = 1
  · have q := h1
    have e1 : dvV L x = rvV L x.k := (if_neg h0).trans (if_pos h1)
    have e2 : dvE L x = rvE L x.k := (if_neg h0).trans (if_pos h1)
    have e3 : dvN L x = rvN L x.k := (if_neg h0).trans (if_pos h1)
    rw [e1, e2, e3]
    clear q
    obtain ⟨d, k, t, a⟩ := x
    simp only at *
    clear e1 e2 e3 HA HC HE h0
    subst h1
    go_enter Try.func24, Try.ntmps24
    go_wp2_with fail
    refine HR.out.mono ?_
    rintro e w1 ⟨rfl, h1⟩
    have H1 := Lib.hid h1
    clear h1
    go_wp2_with fail
    go_ret2
    exact ⟨rfl, H1.out.after HB.out⟩
  have q1 : (x.d == 1) = false := by simpa using h1
  by_cases h3 : x.d = 3
  · have q := h3
    have e1 : dvV L x = totP L := (if_neg h0).trans ((if_neg h1).trans (if_pos h3))
    have e2 : dvE L x = 0 := (if_neg h0).trans (if_neg h1)
    have e3 : dvN L x = [] := (if_neg h0).trans ((if_neg h1).trans (if_pos h3))
    rw [e1, e2, e3]
    clear q
    obtain ⟨d, k, t, a⟩ := x
    simp only at *
    clear e1 e2 e3 HA HR HE h0 h1
    subst h3
    go_enter Try.func24, Try.ntmps24
    go_wp2_with fail
    refine HC.out.mono ?_
    rintro e w1 ⟨rfl, h1⟩
    have H1 := Lib.hid h1
    clear h1
    go_wp2_with fail
    go_ret2
    exact ⟨rfl, H1.out.after HB.out⟩
  · have q : (x.d == 3) = false := by simpa using h3
    have e1 : dvV L x = 0 := (if_neg h0).trans ((if_neg h1).trans (if_neg h3))
    have e2 : dvE L x = 0 := (if_neg h0).trans (if_neg h1)
    have e3 : dvN L x = L := (if_neg h0).trans ((if_neg h1).trans (if_neg h3))
    rw [e1, e2, e3]
    obtain ⟨d, k, t, a⟩ := x
    simp only at *
    clear e1 e2 e3 HA HR HC h0 h1 h3
    go_enter Try.func24, Try.ntmps24
    go_wp2_with fail
    go_ret2
    exact ⟨rfl, HE.out⟩
end Go.Proofs.Ytlglkfgephilnaa
