/- Contracts of package mac: the length of a label, Fold. -/
import Derived.Test.YtogcfaijphpgfaaDoorMacE
namespace Go.Proofs.YtogcfaijphpgfaaDoor
open Go.RowKit
/-- a number in eight bytes -/
def len8 (n j : Nat) : Nat := n / 2 ^ (8 * (7 - j)) % 256
theorem len8_lt (n j : Nat) : len8 n j < 256 := Nat.mod_lt _ (by decide)
theorem size8b : (Tryd.prog.info? 60).map (·.size) = some 8 := by kernel_rfl
abbrev z8 : Array Value := #[.int .u8 0, .int .u8 0, .int .u8 0, .int .u8 0, .int .u8 0, .int .u8 0, .int .u8 0, .int .u8 0]
theorem made8 (w : World) : Arr (w.alloc (.cells z8 60)) w.heap.size 0 8 (fun _ => 0) := arr_made w _ _ 8 _ rfl
set_option maxRecDepth 100000 in
set_option maxHeartbeats 1600000 in
theorem length_any (s : ByteArray) (w : World) (hs : s.size ≤ 140737488351232) :
    Calls Tryd.prog 28 #[.string s] w fun e w' => e = .returned (aggB 8 (len8 s.size)) ∧ Below w.heap.size w w' := by
  have HO := Lib.hid ((made8 w).alloc (.cells z8 60))
  have HM := Lib.hid (made8 (w.alloc (.cells z8 60)))
  have hs1 : (w.alloc (.cells z8 60)).heap.size = w.heap.size + 1 := by simp
  rw [hs1] at HM
  have HB := Lib.hid (((Below.refl w.heap.size w).alloc (Nat.le_refl _) (.cells z8 60)).alloc (by simp) (.cells z8 60))
  clear hs1
  go_enter Tryd.func28, Tryd.ntmps28
  go_wp2_with fail
  generalize hW : (w.alloc (.cells z8 60)).alloc (.cells z8 60) = W at *
  clear hW
  obtain ⟨x, hx⟩ : ∃ x, s.size = x := ⟨_, rfl⟩
  rw [hx] at hs
  go_loopw [5] (fun v wr => ∃ k : Nat, k ≤ 8 ∧ v = .int .i64 k ∧ Arr wr (w.heap.size + 1) 0 8 (fun j => if j < k then len8 x j else 0) ∧ Arr wr w.heap.size 0 8 (fun _ => 0) ∧ Below w.heap.size w wr) (fun v _ => 8 - (intOf v).toNat)
  case atStart => exact ⟨0, by decide, rfl, HM.out.congr fun j _ => (if_neg (Nat.not_lt_zero _)).symm, HO.out, HB.out⟩
  case round =>
    obtain ⟨k, hk, rfl, h1, h2, h3⟩ := hrel
    have H1 := Lib.hid h1
    have H2 := Lib.hid h2
    have H3 := Lib.hid h3
    clear h1 h2 h3
    by_cases hlt : k < 8
    · obtain ⟨q, hq⟩ : ∃ q, q = 7 - k := ⟨_, rfl⟩
      obtain ⟨q8, hq8⟩ : ∃ q8, q8 = 8 * q := ⟨_, rfl⟩
      have eq : (7 : Int) - k = q := by omega
      have eq8 : (8 : Int) * q = q8 := by omega
      have hqi : (q : Int) ≤ 7 := by omega
      have hq8i : (q8 : Int) ≤ 56 := by omega
      have hxi : (x : Int) ≤ 140737488351232 := by omega
      obtain ⟨y, hy⟩ : ∃ y, y = x / 2 ^ q8 := ⟨_, rfl⟩
      have hyx : y ≤ x := by rw [hy]; exact Nat.div_le_self _ _
      have ey : (x : Int) / 2 ^ q8 = y := by rw [hy]; simp
      obtain ⟨z, hz⟩ : ∃ z, z = y % 256 := ⟨_, rfl⟩
      have ez : (y : Int) % 256 = z := by omega
      have lz : z < 256 := by omega
      have hyi : (y : Int) ≤ 140737488351232 := by omega
      have HZ := Lib.hid (show len8 x k = z by unfold len8; rw [hz, hy, hq8, hq])
      have hc3 := H1.out.cell hlt (Nat.zero_add k).symm
      have hf3 := H1.out.frozen hlt (Nat.zero_add k).symm
      rw [if_neg (Nat.lt_irrefl k)] at hc3
      have HM1 := Lib.hid ((H1.out.set hlt (Nat.zero_add k).symm z rfl).congr fun j _ => upto_step (fun _ => 0) (len8 x) k _ HZ.out j)
      have HB1 := Lib.hid (H3.out.setCell (p := ⟨w.heap.size + 1, k, none⟩) (Nat.le_succ _) (.int .u8 (z : Nat)))
      have HO1 := Lib.hid (H2.out.setOther (a := ⟨w.heap.size + 1, k, none⟩) (Nat.ne_of_lt (Nat.lt_succ_self _)) (.int .u8 (z : Nat)))
      clear hq hq8 hy hz
      go_wp2_with fail
      go_roundw
      case rel => exact ⟨k + 1, by omega, by go_num, HM1.out, HO1.out, HB1.out⟩
      case measure => simp [intOf]; omega
    · obtain rfl : k = 8 := by omega
      have HR := Lib.hid (H1.out.congr (f := len8 x) fun j hj => if_pos hj)
      go_wp2_with (first | (refine wpList_loadB rfl 60 (.tmp 3) rfl (w.heap.size + 1) 0 8 rfl _ HR.out _ Tryd.underlying60 rfl size8b ?_) | (refine wpList_storeB rfl 60 (.tmp 2) (.tmp 18) rfl w.heap.size 0 8 _ _ rfl rfl H2.out size8b ?_; intro w2 h1 h2; have HR2 := Lib.hid h1; have HC2 := Lib.hid h2; clear h1 h2))
      exact bodyPost_ret (results_cellB rfl _ _ w.heap.size 0 8 _ rfl HR2.out _ Tryd.underlying60 rfl size8b) rfl ⟨by rw [hx], H3.out.trans (HC2.out.below H3.out.size (Nat.le_refl _))⟩
/-- strings, known by a row -/
def StrsAt (w : World) (B o L : Nat) (s : Nat → ByteArray) : Prop := ∀ j, j < L → w.cell? ⟨B, o + j, none⟩ = some (.string (s j))
theorem StrsAt.keep {w w' : World} {B o L : Nat} {s : Nat → ByteArray} (h : StrsAt w B o L s) (hb : Below w.heap.size w w') : StrsAt w' B o L s := fun j hj => (hb.cell (p := ⟨B, o + j, none⟩) (block_lt (a := ⟨B, o + j, none⟩) (h j hj))).trans (h j hj)
theorem StrsAt.drewN {w : World} {B o L : Nat} {s : Nat → ByteArray} (h : StrsAt w B o L s) (n : Nat) : StrsAt (w.drewN n) B o L s := h
/-- the strings of a slice that came in -/
def SlS (w : World) (A : Option Addr) (L : Nat) (s : Nat → ByteArray) : Prop := 0 < L → ∃ B o, A = some ⟨B, o, none⟩ ∧ B < w.heap.size ∧ StrsAt w B o L s
theorem SlS.keep {w w' : World} {A : Option Addr} {L : Nat} {s : Nat → ByteArray} (h : SlS w A L s) (hb : Below w.heap.size w w') : SlS w' A L s := fun hL => by
  obtain ⟨B, o, hA, hB, hs⟩ := h hL
  exact ⟨B, o, hA, Nat.lt_of_lt_of_le hB hb.size, hs.keep hb⟩
/-- what a row of labels makes of a key: how long it is, and its bytes -/
def fkN (n : Nat) : Nat → Nat
  | 0 => n
  | _ + 1 => 32
def fkF (n : Nat) (key : Nat → Nat) (s : Nat → ByteArray) : Nat → Nat → Nat
  | 0 => key
  | i + 1 => tag (fkN n i) (fkF n key s i) (8 + (s i).size) (catB 8 (len8 (s i).size) (by_ (s i)))
theorem fkF_by {n : Nat} {key : Nat → Nat} {s : Nat → ByteArray} (hk : By n key) : ∀ i, By (fkN n i) (fkF n key s i)
  | 0 => hk
  | _ + 1 => fun _ _ => tag_lt _ _ _ _ _
theorem fkN_le {n K : Nat} (hn : n ≤ K) (h : 32 ≤ K) : ∀ i, fkN n i ≤ K
  | 0 => hn
  | _ + 1 => h
/-- []byte(s), with what its capacity is -/
theorem bytesOf' (s : ByteArray) (w : World) : ∃ cap W, (convert 9 22 (.string s)).run Tryd.prog w = .ok (.slice (some ⟨w.heap.size, 0, none⟩) s.size cap) W ∧
    Below w.heap.size w W ∧ s.size ≤ cap ∧ SlB W (some ⟨w.heap.size, 0, none⟩) s.size (by_ s) := by
  obtain ⟨cap, W, h1, h2, _, h4⟩ := bytesOf s w
  have h5 := run_bytes_of_string w _ _ _ s Tryd.underlying9 Tryd.underlying22 Tryd.underlying5
  have h6 := h1.symm.trans h5
  injection h6 with h6 h7
  injection h6 with _ _ h8
  exact ⟨cap, W, h1, h2, by rw [h8]; exact grownCap_ge _ _ _ _, SlB.of_rowX h4 fun j _ => ⟨by_lt s j, rfl⟩⟩
end Go.Proofs.YtogcfaijphpgfaaDoor
