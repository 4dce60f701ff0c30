/- Contracts of the reference's aes: mixing, the map back. -/
import Derived.Test.YtgfdnhpfdbaddaaRef04B
import Derived.Test.YtgfdnhpfdbaddaaBase
namespace Go.Proofs.Ytgfdnhpfdbaddaa
open Go.RowKit

def psum (F s : Nat → Nat) (i : Nat) : Nat → Nat
  | 0 => 0
  | k + 1 => psum F s i k ^^^ gm (F k) (s (4 * (i / 4) + (i + k) % 4))
theorem psum_lt {F s : Nat → Nat} (hF : By 4 F) (hs : By 16 s) {i : Nat} (hi : i < 16) : ∀ k, k ≤ 4 → psum F s i k < 256
  | 0, _ => (by decide : 0 < 256)
  | k + 1, hk => xor8 (psum_lt hF hs hi k (by omega)) (gm_lt _ (hF k (by omega)))
def fac (a b c d : Nat) (k : Nat) : Nat := if k = 0 then a else if k = 1 then b else if k = 2 then c else d
theorem psum_imix (s : Nat → Nat) (i : Nat) : psum (fac 14 11 13 9) s i 4 = imixc s i := by
  show (((0 ^^^ gm 14 (s (4 * (i / 4) + (i + 0) % 4))) ^^^ gm 11 (s (4 * (i / 4) + (i + 1) % 4))) ^^^ gm 13 (s (4 * (i / 4) + (i + 2) % 4))) ^^^ gm 9 (s (4 * (i / 4) + (i + 3) % 4)) = _
  rw [Nat.zero_xor, Nat.add_zero]
  unfold imixc imx
  ac_rfl
theorem psum_mix {s : Nat → Nat} (hs : By 16 s) {i : Nat} (hi : i < 16) : psum (fac 2 3 1 1) s i 4 = mixc s i := by
  show (((0 ^^^ gm 2 (s (4 * (i / 4) + (i + 0) % 4))) ^^^ gm 3 (s (4 * (i / 4) + (i + 1) % 4))) ^^^ gm 1 (s (4 * (i / 4) + (i + 2) % 4))) ^^^ gm 1 (s (4 * (i / 4) + (i + 3) % 4)) = _
  have h2 : ∀ a, a < 256 → gm 2 a = dbl a := by decide +kernel
  have h3 : ∀ a, a < 256 → gm 3 a = dbl a ^^^ a := by decide +kernel
  rw [Nat.zero_xor, Nat.add_zero, h2 _ (hs _ (by omega)), h3 _ (hs _ (by omega)), one_gm (hs _ (by omega)), one_gm (hs _ (by omega))]
  unfold mixc mx
  ac_rfl

set_option maxHeartbeats 1600000 in
theorem rmix_any (A1 : Option Addr) (c1 c2 B2 o2 : Nat) (a F : Nat → Nat) (w : World) (h1 : SlB w A1 16 a) (hB2 : B2 < w.heap.size) (hF : ∀ k, k < 4 → F k < 256 ∧ w.cell? ⟨B2, o2 + k, none⟩ = some (.int .i64 (F k : Nat))) :
    Calls Try.prog 31 #[.slice A1 16 c1, .slice (some ⟨B2, o2, none⟩) 4 c2] w (NewRow 16 (fun i => psum F a i 4) w) := by
  obtain ⟨B1, o1, rfl, l1, e1⟩ := h1 (by decide)
  have E1 := Lib.hid e1
  have L1 := Lib.hid l1
  have E2 := Lib.hid hF
  have L2 := Lib.hid hB2
  have HBY := Lib.hid (show By 16 a from fun j hj => (e1 j hj).1)
  have HBF := Lib.hid (show By 4 F from fun j hj => (hF j hj).1)
  have hmk := mk16
  clear h1 e1 l1 hF hB2
  go_enter Try.func31, Try.ntmps31
  go_wp2_with fail
  clear hmk
  go_loopw [6] (fun v wr => ∃ q : Nat, q ≤ 4 ∧ v = .int .i64 q ∧ RowB wr w.heap.size 16 (fun j => if j < 4 * q then psum F a j 4 else 0) ∧ Below w.heap.size w wr) (fun v _ => 4 - (intOf v).toNat)
  case atStart => exact ⟨0, by decide, rfl, (rowB_made w 16).congr fun j _ => (if_neg (Nat.not_lt_zero _)).symm, (Below.refl _ _).alloc (Nat.le_refl _) _⟩
  case round =>
    obtain ⟨q, hq, rfl, h1, h2⟩ := hrel
    have H1 := Lib.hid h1
    have H2 := Lib.hid h2
    clear h1 h2
    by_cases hlt : q < 4
    · go_wp2_with fail
      go_loopw [7] (fun v wx => ∃ r : Nat, r ≤ 4 ∧ v = .int .i64 r ∧ RowB wx w.heap.size 16 (fun j => if j < 4 * q + r then psum F a j 4 else 0) ∧ Below w.heap.size w wx) (fun v _ => 4 - (intOf v).toNat)
      case atStart => exact ⟨0, by decide, rfl, H1.out, H2.out⟩
      case round =>
        obtain ⟨r, hr, rfl, h1, h2⟩ := hrel
        have H3 := Lib.hid h1
        have H4 := Lib.hid h2
        clear h1 h2
        by_cases hlr : r < 4
        · go_wp2_with fail
          go_loopw [8, 9] (fun x v wy => ∃ k : Nat, k ≤ 4 ∧ v = .int .i64 k ∧ x = .int .u8 (psum F a (4 * q + r) k : Nat) ∧ RowB wy w.heap.size 16 (fun j => if j < 4 * q + r then psum F a j 4 else 0) ∧ Below w.heap.size w wy) (fun _ v _ => 4 - (intOf v).toNat)
          case atStart => exact ⟨0, by decide, rfl, rfl, H3.out, H4.out⟩
          case round =>
            obtain ⟨k, hk, rfl, rfl, h1, h2⟩ := hrel
            have H5 := Lib.hid h1
            have H6 := Lib.hid h2
            clear h1 h2
            have h16 : 4 * q + r < 16 := by omega
            have hpl := psum_lt HBF.out HBY.out h16 k hk
            by_cases hlk : k < 4
            · obtain ⟨e, he⟩ : ∃ e, 4 * q + (r + k) % 4 = e := ⟨_, rfl⟩
              have hel : e < 16 := by omega
              have hc1 := (H6.out.cell (p := ⟨B1, o1 + e, none⟩) L1.out).trans (E1.out e hel).2
              have hc2 := (H6.out.cell (p := ⟨B2, o2 + k, none⟩) L2.out).trans (E2.out k hlk).2
              have hal := HBY.out e hel
              have hfl := HBF.out k hlk
              have HN := Lib.hid (show psum F a (4 * q + r) k ^^^ gm (F k) (a e) = psum F a (4 * q + r) (k + 1) by
                show _ = psum F a (4 * q + r) k ^^^ gm (F k) (a (4 * ((4 * q + r) / 4) + (4 * q + r + k) % 4))
                congr 3
                omega)
              obtain ⟨u, hu⟩ : ∃ u, 4 * q = u := ⟨_, rfl⟩
              obtain ⟨s, hs⟩ : ∃ s, r + k = s := ⟨_, rfl⟩
              obtain ⟨x, hx⟩ : ∃ x, s % 4 = x := ⟨_, rfl⟩
              have v1 : IntKind.i64.wrap (4 * (q : Int)) = (u : Nat) := by rw [IntWalk.i64_in _ (by omega)]; omega
              have v2 : IntKind.i64.wrap ((r : Int) + (k : Nat)) = (s : Nat) := by rw [IntWalk.i64_in _ (by omega)]; omega
              have v3 : ((s : Nat) : Int) % 4 = (x : Nat) := by omega
              have v3' : ((s : Nat) : Int).tmod 4 = (x : Nat) := by rw [Int.tmod_eq_emod_of_nonneg (by omega)]; omega
              have v4 : IntKind.i64.wrap (((u : Nat) : Int) + (x : Nat)) = (e : Nat) := by rw [IntWalk.i64_in _ (by omega)]; omega
              have he1 : (0 : Int) ≤ (e : Nat) := by omega
              have he2 : ((e : Nat) : Int) < 16 := by omega
              have hk2 : ((k : Nat) : Int) < 4 := by omega
              have HT := Lib.hid fun w => rtimes_any (F k) (a e) w hfl hal
              have hgl := gm_lt (a e) hfl
              have HIX := Lib.hid (show 4 * q + r < 16 ∧ r + k = s from ⟨h16, hs⟩)
              clear hu hs hx he
              generalize psum F a (4 * q + r) k = p at *
              generalize hgm : gm (F k) (a e) = z at *
              generalize F k = f0 at *
              generalize a e = a0 at *
              have hpz : bits BinOp.xor .u8 (p : Int) (z : Int) = ((p ^^^ z : Nat) : Int) := u8_xor_nat _ _ hpl hgl
              clear hgm
              go_wp2_with fail
              go_quiet ((go_at_call 41; exact Calls.quiet_of_same (same_flip (HT.out _))))
              have H7 := Lib.hid (H5.out.drewN nq)
              have H8 := Lib.hid (drawn H6.out nq)
              generalize wr.drewN nq = W at *
              clear hc1 hc2 v1 v2 v3 v3' v4
              go_wp2_with fail
              go_roundw
              case rel => exact ⟨k + 1, by omega, by go_num, by rw [HN.out], H7.out, H8.out⟩
              case measure => simp [intOf]; omega
            · obtain rfl : k = 4 := by omega
              have hc3 := H5.out.cell h16
              have hf3 := H5.out.frozen (4 * q + r)
              rw [if_neg (Nat.lt_irrefl _)] at hc3
              have HR := Lib.hid ((H5.out.set (4 * q + r) (psum F a (4 * q + r) 4) _ rfl).congr fun j _ => upto_row (fun j => psum F a j 4) (4 * q + r) _ rfl j)
              have HB := Lib.hid (H6.out.setCell (p := ⟨w.heap.size, 4 * q + r, none⟩) (Nat.le_refl _) (.int .u8 ((psum F a (4 * q + r) 4 : Nat) : Int)))
              generalize psum F a (4 * q + r) 4 = y at *
              go_wp2_with fail
              go_roundw
              case rel => exact ⟨r + 1, by omega, by go_num, HR.out, HB.out⟩
              case measure => simp [intOf]; omega
        · obtain rfl : r = 4 := by omega
          go_wp2_with fail
          go_roundw
          case rel => exact ⟨q + 1, by omega, by go_num, H3.out.congr fun j _ => by rw [show 4 * (q + 1) = 4 * q + 4 by omega], H4.out⟩
          case measure => simp [intOf]; omega
    · obtain rfl : q = 4 := by omega
      go_wp2_with fail
      go_ret
      exact ⟨rfl, H1.out.congr fun j hj => if_pos (show j < 4 * 4 from hj), H2.out⟩
end Go.Proofs.Ytgfdnhpfdbaddaa
