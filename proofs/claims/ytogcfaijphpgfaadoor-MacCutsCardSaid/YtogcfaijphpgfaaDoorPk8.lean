/- 1 texts in one, in their order. -/
import Derived.Test.YtogcfaijphpgfaaDoorPk7
/- Law MacCuts (layer 6): every way. -/
namespace Go.Proofs.YtogcfaijphpgfaaDoor
open Go.RowKit
theorem mcuts_all (A : Option Addr) (n c : Nat) (f : Nat → Nat) (B : Option Addr) (m cb : Nat) (g : Nat → Nat) (a : Int) (z : Int) (AL : Option Addr) (L cL : Nat) (s : Nat → ByteArray) (t : Int) (w0 : World) (hn : n ≤ 140737488351232) (hm : m ≤ 140737488351232) (hL : L ≤ 140737488351232) (hc : n ≤ c) (hcb : m ≤ cb) (hcL : L ≤ cL)
    (hA : SlB w0 A n f) (hnA : A = none → n = 0 ∧ c = 0) (hB : SlB w0 B m g) (hS : SlS w0 AL L s) (ht : GT w0) :
    Calls Tryd.prog 6 #[.slice A n c, .slice B m cb, .int .i64 a, .int .i64 z, .slice AL L cL, .int .i64 t] w0 fun e w' => e = .returned (.bool true) ∧ Below w0.heap.size w0 w' := by
  by_cases h1 : 4096 < n
  · have hd1 : decide (4096 < (n : Int)) = true := decide_eq_true (by omega)
    have HT := Lib.hid ht
    clear hA hB hS hnA ht
    go_enter Tryd.func6, Tryd.ntmps6
    go_wp2_with fail
    refine (small6_any w0 HT.out).mono ?_
    rintro e w1 ⟨rfl, hb⟩
    have HB1 := Lib.hid hb
    clear hb
    go_wp2_with fail
    go_ret
    exact ⟨rfl, HB1.out⟩
  · have hd1 : decide (4096 < (n : Int)) = false := decide_eq_false (by omega)
    by_cases h2 : 4096 < m
    · have hd2 : decide (4096 < (m : Int)) = true := decide_eq_true (by omega)
      have HT := Lib.hid ht
      clear hA hB hS hnA ht
      go_enter Tryd.func6, Tryd.ntmps6
      go_wp2_with fail
      refine (small6_any w0 HT.out).mono ?_
      rintro e w1 ⟨rfl, hb⟩
      have HB1 := Lib.hid hb
      clear hb
      go_wp2_with fail
      go_ret
      exact ⟨rfl, HB1.out⟩
    · have hd2 : decide (4096 < (m : Int)) = false := decide_eq_false (by omega)
      by_cases h3 : 8 < L
      · have hd3 : decide (8 < (L : Int)) = true := decide_eq_true (by omega)
        have HT := Lib.hid ht
        clear hA hB hS hnA ht
        go_enter Tryd.func6, Tryd.ntmps6
        go_wp2_with fail
        refine (small6_any w0 HT.out).mono ?_
        rintro e w1 ⟨rfl, hb⟩
        have HB1 := Lib.hid hb
        clear hb
        go_wp2_with fail
        go_ret
        exact ⟨rfl, HB1.out⟩
      · have hd3 : decide (8 < (L : Int)) = false := decide_eq_false (by omega)
        by_cases h4 : a < 0
        · have hd4 : decide (a < 0) = true := decide_eq_true (by omega)
          have HT := Lib.hid ht
          clear hA hB hS hnA ht
          go_enter Tryd.func6, Tryd.ntmps6
          go_wp2_with fail
          refine (small6_any w0 HT.out).mono ?_
          rintro e w1 ⟨rfl, hb⟩
          have HB1 := Lib.hid hb
          clear hb
          go_wp2_with fail
          go_ret
          exact ⟨rfl, HB1.out⟩
        · have hd4 : decide (a < 0) = false := decide_eq_false (by omega)
          by_cases h5 : (m : Int) < a
          · have hd5 : decide ((m : Int) < a) = true := decide_eq_true (by omega)
            have HT := Lib.hid ht
            clear hA hB hS hnA ht
            go_enter Tryd.func6, Tryd.ntmps6
            go_wp2_with fail
            refine (small6_any w0 HT.out).mono ?_
            rintro e w1 ⟨rfl, hb⟩
            have HB1 := Lib.hid hb
            clear hb
            go_wp2_with fail
            go_ret
            exact ⟨rfl, HB1.out⟩
          · have hd5 : decide ((m : Int) < a) = false := decide_eq_false (by omega)
            by_cases h6 : t < 0
            · have hd6 : decide (t < 0) = true := decide_eq_true (by omega)
              have HT := Lib.hid ht
              clear hA hB hS hnA ht
              go_enter Tryd.func6, Tryd.ntmps6
              go_wp2_with fail
              refine (small6_any w0 HT.out).mono ?_
              rintro e w1 ⟨rfl, hb⟩
              have HB1 := Lib.hid hb
              clear hb
              go_wp2_with fail
              go_ret
              exact ⟨rfl, HB1.out⟩
            · have hd6 : decide (t < 0) = false := decide_eq_false (by omega)
              by_cases h7 : (L : Int) < t
              · have hd7 : decide ((L : Int) < t) = true := decide_eq_true (by omega)
                have HT := Lib.hid ht
                clear hA hB hS hnA ht
                go_enter Tryd.func6, Tryd.ntmps6
                go_wp2_with fail
                refine (small6_any w0 HT.out).mono ?_
                rintro e w1 ⟨rfl, hb⟩
                have HB1 := Lib.hid hb
                clear hb
                go_wp2_with fail
                go_ret
                exact ⟨rfl, HB1.out⟩
              · have hd7 : decide ((L : Int) < t) = false := decide_eq_false (by omega)
                obtain ⟨p, rfl⟩ : ∃ p : Nat, a = p := ⟨a.toNat, by omega⟩
                obtain ⟨q, rfl⟩ : ∃ q : Nat, t = q := ⟨t.toNat, by omega⟩
                exact mcuts_any A n c f B m cb g p z AL L cL s q w0 (by omega) (by omega) (by omega) (by omega) (by omega) hc hcb hcL hA hnA hB hS ht
end Go.Proofs.YtogcfaijphpgfaaDoor
