/- The mathematics of layer 6: a tag. Contracts of package mac: a Maker in memory, its halves. -/
import Derived.Test.YtogcfaijphpgfaaDoorArrM
import Derived.Test.YtogcfaijphpgfaaDoorOnceM
import Derived.Test.YtogcfaijphpgfaaDoorLaw05e
namespace Go.Proofs.YtogcfaijphpgfaaDoor
open Go.RowKit

theorem xor_lt8 {a b : Nat} (ha : a < 256) (hb : b < 256) : a ^^^ b < 256 := Nat.xor_lt_two_pow (n := 8) ha hb
/-- a key with its noughts -/
def kf (n : Nat) (key : Nat → Nat) (j : Nat) : Nat := if n ≤ 64 then (if j < n then key j else 0) else if j < 32 then sha n key j else 0
theorem kf_by {n : Nat} {key : Nat → Nat} (hk : By n key) : By 64 (kf n key) := fun j _ => by
  unfold kf
  by_cases h : n ≤ 64
  · rw [if_pos h]
    by_cases h2 : j < n
    · rw [if_pos h2]; exact hk j h2
    · rw [if_neg h2]; decide
  · rw [if_neg h]
    by_cases h2 : j < 32
    · rw [if_pos h2]; exact sha_lt _ _ _
    · rw [if_neg h2]; decide
theorem kf_congr {n : Nat} {key key' : Nat → Nat} (h : ∀ j, j < n → key j = key' j) (j : Nat) : kf n key j = kf n key' j := by
  unfold kf
  by_cases h1 : n ≤ 64
  · rw [if_pos h1, if_pos h1]
    by_cases h2 : j < n
    · rw [if_pos h2, if_pos h2]; exact h j h2
    · rw [if_neg h2, if_neg h2]
  · rw [if_neg h1, if_neg h1, sha_congr h j]
/-- one of the two halves -/
def xf (c n : Nat) (key : Nat → Nat) (j : Nat) : Nat := kf n key j ^^^ c
theorem xf_by {c n : Nat} {key : Nat → Nat} (hc : c < 256) (hk : By n key) : By 64 (xf c n key) := fun j hj => xor_lt8 (kf_by hk j hj) hc
/-- the tag -/
def tag (n : Nat) (key : Nat → Nat) (m : Nat) (b : Nat → Nat) : Nat → Nat := sha 96 (catB 64 (xf 92 n key) (sha (64 + m) (catB 64 (xf 54 n key) b)))
theorem tag_lt (n : Nat) (key : Nat → Nat) (m : Nat) (b : Nat → Nat) (j : Nat) : tag n key m b j < 256 := sha_lt _ _ _
theorem catB_congr {n m : Nat} {f f' g g' : Nat → Nat} (hf : ∀ j, j < n → f j = f' j) (hg : ∀ j, j < m → g j = g' j) (j : Nat) (hj : j < n + m) : catB n f g j = catB n f' g' j := by
  unfold catB
  by_cases h : j < n
  · rw [if_pos h, if_pos h]; exact hf j h
  · rw [if_neg h, if_neg h]; exact hg _ (by omega)
theorem tag_halves {n n' : Nat} {key key' : Nat → Nat} (h : ∀ j, j < 64 → kf n key j = kf n' key' j) {m : Nat} {b b' : Nat → Nat} (hb : ∀ j, j < m → b j = b' j) (j : Nat) : tag n key m b j = tag n' key' m b' j := by
  unfold tag
  refine sha_congr (fun i hi => catB_congr (m := 32) (fun i hi => ?_) (fun i hi => ?_) i hi) j
  · unfold xf; rw [h i hi]
  · refine sha_congr (fun i hi => catB_congr (fun i hi => ?_) hb i hi) i
    unfold xf; rw [h i hi]
theorem tag_congr {n : Nat} {key key' : Nat → Nat} (hk : ∀ j, j < n → key j = key' j) {m : Nat} {b b' : Nat → Nat} (hb : ∀ j, j < m → b j = b' j) (j : Nat) : tag n key m b j = tag n key' m b' j :=
  tag_halves (fun j _ => kf_congr hk j) hb j

/-- a Maker in block g -/
structure MakMem (w : World) (g : Nat) (d m : Int) (K X Y : Nat → Nat) : Prop where
  key : Arr w g 0 64 K
  once : OnceAt w g 64 d m
  inner : Arr w g 67 64 X
  outer : Arr w g 131 64 Y
theorem once_block {w w' : World} {g o : Nat} {d m : Int} (h : OnceAt w g o d m) (e : w'.heap[g]? = w.heap[g]?) : OnceAt w' g o d m :=
  ⟨(World.cell?_of_block e).trans h.done, (World.cell?_of_block e).trans h.lock, (World.frozen?_of_block e).trans h.fdone, (World.frozen?_of_block e).trans h.flock⟩
theorem once_off {w : World} {g o k : Nat} {d m : Int} (h : OnceAt w g o d m) (h1 : k ≠ o) (h2 : k ≠ o + 1) (v : Value) : OnceAt (w.setCell ⟨g, k, none⟩ v) g o d m :=
  ⟨(cell_off h1 v).trans h.done, (cell_off h2 v).trans h.lock, by rw [World.frozen?_setCell]; exact h.fdone, by rw [World.frozen?_setCell]; exact h.flock⟩
namespace MakMem
variable {w w' : World} {g : Nat} {d m : Int} {K X Y : Nat → Nat}
theorem lt (h : MakMem w g d m K X Y) : g < w.heap.size := h.key.lt (by decide)
theorem of_block (h : MakMem w g d m K X Y) (e : w'.heap[g]? = w.heap[g]?) : MakMem w' g d m K X Y := ⟨h.key.of_block e, once_block h.once e, h.inner.of_block e, h.outer.of_block e⟩
theorem keep (h : MakMem w g d m K X Y) (hb : Below w.heap.size w w') : MakMem w' g d m K X Y := h.of_block (hb.block g h.lt)
theorem chg {L : Nat} (h : MakMem w g d m K X Y) (hc : Chg L w w') (hL : g ≠ L) : MakMem w' g d m K X Y := h.of_block (hc.block g h.lt hL)
theorem congr {K' X' Y' : Nat → Nat} (h : MakMem w g d m K X Y) (h1 : ∀ j, j < 64 → K j = K' j) (h2 : ∀ j, j < 64 → X j = X' j) (h3 : ∀ j, j < 64 → Y j = Y' j) : MakMem w g d m K' X' Y' :=
  ⟨h.key.congr h1, h.once, h.inner.congr h2, h.outer.congr h3⟩
theorem setInner (h : MakMem w g d m K X Y) {i k : Nat} (hi : i < 64) (hk : k = 67 + i) (x : Nat) {v : Value} (hv : v = .int .u8 (x : Nat)) : MakMem (w.setCell ⟨g, k, none⟩ v) g d m K (fun j => if j = i then x else X j) Y :=
  ⟨h.key.setApart (by omega) v, once_off h.once (by omega) (by omega) v, h.inner.set hi hk x hv, h.outer.setApart (by omega) v⟩
theorem setOuter (h : MakMem w g d m K X Y) {i k : Nat} (hi : i < 64) (hk : k = 131 + i) (x : Nat) {v : Value} (hv : v = .int .u8 (x : Nat)) : MakMem (w.setCell ⟨g, k, none⟩ v) g d m K X (fun j => if j = i then x else Y j) :=
  ⟨h.key.setApart (by omega) v, once_off h.once (by omega) (by omega) v, h.inner.setApart (by omega) v, h.outer.set hi hk x hv⟩
theorem setLock (h : MakMem w g d m K X Y) (m' : Int) {v : Value} (hv : v = .int .i32 m') : MakMem (w.setCell ⟨g, 65, none⟩ v) g d m' K X Y := by
  subst hv
  exact ⟨h.key.setApart (by omega) _, ⟨(cell_off (by omega) _).trans h.once.done, World.cell?_setCell_same w ⟨g, 65, none⟩ _ h.once.lock, by rw [World.frozen?_setCell]; exact h.once.fdone, by rw [World.frozen?_setCell]; exact h.once.flock⟩, h.inner.setApart (by omega) _, h.outer.setApart (by omega) _⟩
theorem setDone (h : MakMem w g d m K X Y) (d' : Int) {v : Value} (hv : v = .int .u32 d') : MakMem (w.setCell ⟨g, 64, none⟩ v) g d' m K X Y := by
  subst hv
  exact ⟨h.key.setApart (by omega) _, ⟨World.cell?_setCell_same w ⟨g, 64, none⟩ _ h.once.done, (cell_off (by omega) _).trans h.once.lock, by rw [World.frozen?_setCell]; exact h.once.fdone, by rw [World.frozen?_setCell]; exact h.once.flock⟩, h.inner.setApart (by omega) _, h.outer.setApart (by omega) _⟩
theorem drew (h : MakMem w g d m K X Y) : MakMem w.drew g d m K X Y := h.of_block rfl
theorem drewN (h : MakMem w g d m K X Y) (k : Nat) : MakMem (w.drewN k) g d m K X Y := h.of_block rfl
theorem alloc (h : MakMem w g d m K X Y) (o : Obj) : MakMem (w.alloc o) g d m K X Y := h.keep ((Below.refl _ _).alloc (Nat.le_refl _) o)
end MakMem
abbrev MakReady (w : World) (g n : Nat) (key : Nat → Nat) : Prop := MakMem w g 1 0 (kf n key) (xf 54 n key) (xf 92 n key)
/-- a Maker that was made, asked or not -/
def MakAt (w : World) (g n : Nat) (key : Nat → Nat) : Prop := MakMem w g 0 0 (kf n key) (fun _ => 0) (fun _ => 0) ∨ MakReady w g n key
theorem MakAt.of_block {w w' : World} {g n : Nat} {key : Nat → Nat} (h : MakAt w g n key) (e : w'.heap[g]? = w.heap[g]?) : MakAt w' g n key := h.imp (·.of_block e) (·.of_block e)
theorem MakAt.lt {w : World} {g n : Nat} {key : Nat → Nat} (h : MakAt w g n key) : g < w.heap.size := h.elim (·.lt) (·.lt)
theorem MakAt.keep {w w' : World} {g n : Nat} {key : Nat → Nat} (h : MakAt w g n key) (hb : Below w.heap.size w w') : MakAt w' g n key := h.of_block (hb.block g h.lt)
theorem MakAt.chg {w w' : World} {g n K : Nat} {key : Nat → Nat} (h : MakAt w g n key) (hb : Chg K w w') (hK : g ≠ K) : MakAt w' g n key := h.of_block (hb.block g h.lt hK)

theorem sizeA64 : (Tryd.prog.info? 40).map (·.size) = some 64 := by kernel_rfl
set_option maxRecDepth 100000 in
set_option maxHeartbeats 1600000 in
theorem halves_any (g n : Nat) (key : Nat → Nat) (w : World) (hkey : By n key) (hk : MakMem w g 0 1 (kf n key) (fun _ => 0) (fun _ => 0)) :
    Calls Tryd.prog 22 #[.pointer (some ⟨g, 0, none⟩)] w fun e w' => e = .returned (.tuple #[]) ∧ (MakMem w' g 0 1 (kf n key) (xf 54 n key) (xf 92 n key) ∧ Chg g w w') := by
  have HK := Lib.hid hk
  have HY := Lib.hid (kf_by hkey)
  clear hk hkey
  go_enter Tryd.func22, Tryd.ntmps22
  go_wp2_with (refine wpList_loadB rfl 40 (.tmp 6) rfl g 0 64 rfl _ HK.out.key _ Tryd.underlying40 rfl sizeA64 ?_)
  go_loopw [8] (fun v wr => ∃ k : Nat, k ≤ 64 ∧ v = .int .i64 k ∧ MakMem wr g 0 1 (kf n key) (fun j => if j < k then xf 54 n key j else 0) (fun j => if j < k then xf 92 n key j else 0) ∧ Chg g w wr) (fun v _ => 64 - (intOf v).toNat)
  case atStart => exact ⟨0, by decide, rfl, HK.out.congr (fun _ _ => rfl) (fun j _ => (if_neg (Nat.not_lt_zero _)).symm) (fun j _ => (if_neg (Nat.not_lt_zero _)).symm), Chg.refl _ _⟩
  case round =>
    obtain ⟨k, hk, rfl, h1, h2⟩ := hrel
    have H1 := Lib.hid h1
    have H2 := Lib.hid h2
    clear h1 h2
    by_cases hlt : k < 64
    · obtain ⟨x, hx⟩ : ∃ x, kf n key k = x := ⟨_, rfl⟩
      have hxl : x < 256 := by rw [← hx]; exact HY.out k hlt
      have hix := index_arr 40 64 (kf n key) k x Tryd.underlying40 hlt hx
      have b1 : bits BinOp.xor .u8 (x : Int) 54 = ((x ^^^ 54 : Nat) : Int) := u8_xor_nat x 54 hxl (by decide)
      have b2 : bits BinOp.xor .u8 (x : Int) 92 = ((x ^^^ 92 : Nat) : Int) := u8_xor_nat x 92 hxl (by decide)
      have HX1 := Lib.hid (show xf 54 n key k = x ^^^ 54 by unfold xf; rw [hx])
      have HX2 := Lib.hid (show xf 92 n key k = x ^^^ 92 by unfold xf; rw [hx])
      clear hx
      have hc1 := H1.out.inner.cell hlt rfl
      have hf1 := H1.out.inner.frozen hlt rfl
      rw [if_neg (Nat.lt_irrefl k)] at hc1
      have HM1 := Lib.hid ((H1.out.setInner hlt (k := 67 + k) rfl (x ^^^ 54) rfl).congr (fun _ _ => rfl) (fun j _ => upto_step (fun _ => 0) (xf 54 n key) k _ HX1.out j) (fun _ _ => rfl))
      have hc2 := HM1.out.outer.cell hlt rfl
      have hf2 := HM1.out.outer.frozen hlt rfl
      rw [if_neg (Nat.lt_irrefl k)] at hc2
      have HM2 := Lib.hid ((HM1.out.setOuter hlt (k := 131 + k) rfl (x ^^^ 92) rfl).congr (fun _ _ => rfl) (fun _ _ => rfl) (fun j _ => upto_step (fun _ => 0) (xf 92 n key) k _ HX2.out j))
      have HC := Lib.hid ((H2.out.setCell (a := ⟨g, 67 + k, none⟩) (Or.inl rfl) (.int .u8 (x ^^^ 54 : Nat))).setCell (a := ⟨g, 131 + k, none⟩) (Or.inl rfl) (.int .u8 (x ^^^ 92 : Nat)))
      generalize x ^^^ 54 = y1 at *
      generalize x ^^^ 92 = y2 at *
      go_wp2_with fail
      go_roundw
      case rel => exact ⟨k + 1, by omega, by go_num, HM2.out, HC.out⟩
      case measure => simp [intOf]; omega
    · have HR := Lib.hid (H1.out.congr (K' := kf n key) (X' := xf 54 n key) (Y' := xf 92 n key) (fun _ _ => rfl) (fun j hj => if_pos (by omega)) (fun j hj => if_pos (by omega)))
      go_wp2_with fail
      go_end0
      exact ⟨rfl, HR.out, H2.out⟩
theorem once_mac (g n : Nat) (key : Nat → Nat) (w : World) (hkey : By n key) (hk : MakAt w g n key) :
    Calls Tryd.prog 21 #[.pointer (some ⟨g, 64, none⟩), .func (.func 22) #[.pointer (some ⟨g, 0, none⟩)] #[]] w fun e w' => e = .returned (.tuple #[]) ∧ MakReady w' g n key ∧ Chg g w w' := by
  rcases hk with hk | hk
  · refine (do_first_mac g 64 (.pointer (some ⟨g, 0, none⟩)) w hk.once (fun w1 => MakMem w1 g 0 1 (kf n key) (xf 54 n key) (xf 92 n key) ∧ Chg g (w.setCell ⟨g, 65, none⟩ (.int .i32 1)) w1) (halves_any g n key _ hkey (hk.setLock 1 rfl)) fun w1 h => h.1.once).mono ?_
    rintro e w' ⟨he, w1, ⟨h1, h2⟩, rfl⟩
    exact ⟨he, (h1.drew.setDone 1 rfl).setLock 0 rfl, ((((Chg.refl g w).setCell (a := ⟨g, 65, none⟩) (Or.inl rfl) _).trans h2).drew.setCell (a := ⟨g, 64, none⟩) (Or.inl rfl) _).setCell (a := ⟨g, 65, none⟩) (Or.inl rfl) _⟩
  · refine (do_done g 64 _ 0 w hk.once).mono ?_
    rintro e w' ⟨he, rfl⟩
    exact ⟨he, hk, Chg.refl _ _⟩
end Go.Proofs.YtogcfaijphpgfaaDoor
