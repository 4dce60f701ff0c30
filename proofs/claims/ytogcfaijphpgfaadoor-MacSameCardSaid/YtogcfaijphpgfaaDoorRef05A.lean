/- The reference: turned right; the constants. -/
import Derived.Test.YtogcfaijphpgfaaDoorShaX
import Derived.Test.YtogcfaijphpgfaaDoorBits
namespace Go.Proofs.YtogcfaijphpgfaaDoor
open Go.RowKit
theorem shl_lt (n x : Nat) (hx : x < 4294967296) (h1 : 1 ≤ n) : x * 2 ^ (32 - n) < 9223372036854775808 := by
  have hp : 2 ^ (32 - n) ≤ 2 ^ 31 := Nat.pow_le_pow_right (by decide) (by omega)
  calc x * 2 ^ (32 - n) ≤ x * 2 ^ 31 := Nat.mul_le_mul_left _ hp
    _ < _ := by omega
theorem rr_i64 (n x : Nat) (hx : x < 4294967296) (h1 : 1 ≤ n) : bits BinOp.or .i64 ((x : Int) / 2 ^ n) ((wrap64 ((x : Int) * 2 ^ (32 - n))).tmod 4294967296) = ((rr n x : Nat) : Int) := by
  have hl := shl_lt n x hx h1
  have e1 : (x : Int) / 2 ^ n = ((x / 2 ^ n : Nat) : Int) := by simp
  have e2 : (x : Int) * 2 ^ (32 - n) = ((x * 2 ^ (32 - n) : Nat) : Int) := by simp
  have e3 : wrap64 ((x * 2 ^ (32 - n) : Nat) : Int) = ((x * 2 ^ (32 - n) : Nat) : Int) := by unfold wrap64; omega
  rw [e1, e2, e3, Int.tmod_eq_emod_of_nonneg (by omega), show ((x * 2 ^ (32 - n) : Nat) : Int) % 4294967296 = ((x * 2 ^ (32 - n) % 4294967296 : Nat) : Int) by omega]
  have hx2 : x / 2 ^ n ≤ x := Nat.div_le_self _ _
  rw [i64_or_nat _ _ (by omega) (by omega)]
  rfl
theorem rright_any (n x : Nat) (w : World) (hx : x < 4294967296) (h1 : 1 ≤ n) (h2 : n ≤ 31) :
    Calls Tryd.prog 45 #[.int .i64 x, .int .i64 n] w fun e w' => e = .returned (.int .i64 (rr n x : Nat)) ∧ ∃ n, w' = w.drewN n := by
  have hn1 : (1 : Int) ≤ n := by omega
  have hn2 : (n : Int) ≤ 31 := by omega
  have HR := Lib.hid (rr_i64 n x hx h1)
  go_enter Tryd.func45, Tryd.ntmps45
  go_wp2_with fail
  go_quiet (fail)
  go_wp2_with fail
  go_ret
  exact ⟨ret_int HR.out, nq, rfl⟩
/-- ints, by number -/
abbrev ints (f : Nat → Nat) (j : Nat) : Value := .int .i64 (f j : Nat)
theorem arrV_new {W : World} {c : Array Value} {t : TypeId} {n g : Nat} {f : Nat → Value} (hc : c = (valsL n f).toArray) (hg : g = W.heap.size) : ArrV (W.alloc (.cells c t)) g 0 n f := by
  subst hg; exact arrV_made W c t n f hc
theorem words_lit : (#[.int .i64 1116352408, .int .i64 1899447441, .int .i64 3049323471, .int .i64 3921009573, .int .i64 961987163, .int .i64 1508970993, .int .i64 2453635748, .int .i64 2870763221, .int .i64 3624381080, .int .i64 310598401, .int .i64 607225278, .int .i64 1426881987, .int .i64 1925078388, .int .i64 2162078206, .int .i64 2614888103, .int .i64 3248222580, .int .i64 3835390401, .int .i64 4022224774, .int .i64 264347078, .int .i64 604807628, .int .i64 770255983, .int .i64 1249150122, .int .i64 1555081692, .int .i64 1996064986, .int .i64 2554220882, .int .i64 2821834349, .int .i64 2952996808, .int .i64 3210313671, .int .i64 3336571891, .int .i64 3584528711, .int .i64 113926993, .int .i64 338241895, .int .i64 666307205, .int .i64 773529912, .int .i64 1294757372, .int .i64 1396182291, .int .i64 1695183700, .int .i64 1986661051, .int .i64 2177026350, .int .i64 2456956037, .int .i64 2730485921, .int .i64 2820302411, .int .i64 3259730800, .int .i64 3345764771, .int .i64 3516065817, .int .i64 3600352804, .int .i64 4094571909, .int .i64 275423344, .int .i64 430227734, .int .i64 506948616, .int .i64 659060556, .int .i64 883997877, .int .i64 958139571, .int .i64 1322822218, .int .i64 1537002063, .int .i64 1747873779, .int .i64 1955562222, .int .i64 2024104815, .int .i64 2227730452, .int .i64 2361852424, .int .i64 2428436474, .int .i64 2756734187, .int .i64 3204031479, .int .i64 3329325298] : Array Value) = (valsL 64 (ints kc)).toArray := by kernel_rfl
theorem first_lit : (#[.int .i64 1779033703, .int .i64 3144134277, .int .i64 1013904242, .int .i64 2773480762, .int .i64 1359893119, .int .i64 2600822924, .int .i64 528734635, .int .i64 1541459225] : Array Value) = (valsL 8 (ints (at8 st0))).toArray := rfl
set_option maxRecDepth 100000 in
theorem words_any (w : World) : Calls Tryd.prog 35 #[] w fun e w' => e = .returned (.slice (some ⟨w.heap.size, 0, none⟩) 64 64) ∧ ArrV w' w.heap.size 0 64 (ints kc) ∧ Below w.heap.size w w' := by
  go_enter Tryd.func35, Tryd.ntmps35
  go_wp2_with fail
  go_ret
  exact ⟨rfl, arrV_new words_lit rfl, (Below.refl _ _).alloc (Nat.le_refl _) _⟩
set_option maxRecDepth 100000 in
theorem first_any (w : World) : Calls Tryd.prog 36 #[] w fun e w' => e = .returned (.slice (some ⟨w.heap.size, 0, none⟩) 8 8) ∧ ArrV w' w.heap.size 0 8 (ints (at8 st0)) ∧ Below w.heap.size w w' := by
  go_enter Tryd.func36, Tryd.ntmps36
  go_wp2_with fail
  go_ret
  exact ⟨rfl, arrV_new first_lit rfl, (Below.refl _ _).alloc (Nat.le_refl _) _⟩
end Go.Proofs.YtogcfaijphpgfaaDoor
