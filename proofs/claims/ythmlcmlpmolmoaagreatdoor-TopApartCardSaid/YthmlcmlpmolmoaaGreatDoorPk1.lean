/- 10 texts in one, in their order. -/
import Derived.Test.YthmlcmlpmolmoaaGreatDoorPk0
import Derived.Laws.AppendOwnNone
import Derived.Laws.CopyOwn
import Derived.Lib.SmallJoins
import Derived.Deep.MidRow
import Derived.Laws.BitsAllLaws
import Derived.Laws.BitsLemmas
import Derived.Test.YthmlcmlpmolmoaaGreatDoorRows
import Derived.WalkKit
import Derived.ProofKit
import Derived.Lib.Hide
import Derived.WalkMore
import Derived.Conc.MuLone
import Derived.Laws.NewBlocks
import Derived.Deep.WholeRow
import Derived.RegionCalls
/- Mathematics of layer 10: headers, inputs, chains of blocks, masks, rounds. -/
namespace Go.Proofs.YthmlcmlpmolmoaaGreatDoor
open Go.RowKit

/-- how many digits the half has that round i changes, of n numerals -/
def fd (n i : Nat) : Nat := if i % 2 = 0 then n / 2 else n - n / 2
theorem fd_le {n : Nat} (i : Nat) (h : 6 ≤ n) (h2 : n ≤ 32) : 3 ≤ fd n i ∧ fd n i ≤ 16 := by unfold fd; split <;> omega
theorem fd_two (n i : Nat) : fd n (i + 2) = fd n i := by unfold fd; rw [Nat.add_mod_right]
theorem fd_next (n i : Nat) : fd n (i + 1) = n - fd n i := by
  unfold fd
  by_cases h : i % 2 = 0
  · rw [if_neg (by omega), if_pos h]
  · rw [if_pos (by omega), if_neg h]; omega

/-- the header: half, numerals, bytes of the tweak -/
def fhd (u n t j : Nat) : Nat := [1, 2, 1, 0, 0, 10, 10, u, 0, 0, 0, n, 0, 0, 0, t].getD j 0
theorem fhd_lt {u n t : Nat} (hu : u < 256) (hn : n < 256) (ht : t < 256) {j : Nat} (hj : j < 16) : fhd u n t j < 256 := by
  have h : ∀ j, j < 16 → fhd u n t j < 256 := by
    intro j hj
    match j, hj with
    | 0, _ | 1, _ | 2, _ | 3, _ | 4, _ | 5, _ | 6, _ | 8, _ | 9, _ | 10, _ | 12, _ | 13, _ | 14, _ => first | exact (by decide : (0 : Nat) < 256) | exact (by decide : (1 : Nat) < 256) | exact (by decide : (2 : Nat) < 256) | exact (by decide : (10 : Nat) < 256)
    | 7, _ => exact hu
    | 11, _ => exact hn
    | 15, _ => exact ht
    | j + 16, h => omega
  exact h j hj

/-- how many bytes the input has -/
def finL (t w : Nat) : Nat := 16 + (t + 1 + w + 15) / 16 * 16
theorem finL_ge (t w : Nat) : 16 + t + 1 + w ≤ finL t w := by unfold finL; omega
theorem finL_le {t w : Nat} (ht : t ≤ 16) (hw : w ≤ 8) : finL t w ≤ 48 := by unfold finL; omega
theorem finL_mul (t w : Nat) : 16 * (finL t w / 16) = finL t w := by unfold finL; omega
/-- the bytes of which a round's mask is made -/
def finp (u n t : Nat) (T : Nat → Nat) (r x w j : Nat) : Nat :=
  if j < 16 then fhd u n t j else if j < 16 + t then T (j - 16) else if j < finL t w - 1 - w then 0 else if j = finL t w - 1 - w then r else x / 256 ^ (finL t w - 1 - j) % 256
theorem finp_by {u n t : Nat} {T : Nat → Nat} {r x w : Nat} (hu : u < 256) (hn : n < 256) (ht : t < 256) (hT : By t T) (hr : r < 256) : By (finL t w) (finp u n t T r x w) := fun j _ => by
  unfold finp
  split
  · exact fhd_lt hu hn ht (by omega)
  · split
    · exact hT _ (by omega)
    · split
      · decide
      · split
        · exact hr
        · exact Nat.mod_lt _ (by decide)

/-- a chain of blocks: what is behind k of them -/
def xch (E : (Nat → Nat) → Nat → Nat) (p : Nat → Nat) : Nat → Nat → Nat
  | 0 => fun _ => 0
  | k + 1 => E fun j => xch E p k j ^^^ p (16 * k + j)
theorem xch_by {n : Nat} {key p : Nat → Nat} {L : Nat} (hn : n = 4 ∨ n = 8) (hkey : By (4 * n) key) (hp : By L p) : ∀ k, 16 * k ≤ L → By 16 (xch (enc n (ks n key)) p k)
  | 0, _ => fun _ _ => by show 0 < 256; decide
  | k + 1, h => enc_by (fun j _ => ks_by (by omega) hkey j) fun j hj => by
      exact Nat.xor_lt_two_pow (n := 8) (xch_by hn hkey hp k (by omega) j hj) (hp (16 * k + j) (by omega))
theorem xch_congr {n : Nat} {S p q : Nat → Nat} {k : Nat} (h : ∀ j, j < 16 * k → p j = q j) : Eq16 (xch (enc n S) p k) (xch (enc n S) q k) := by
  induction k with
  | zero => exact fun _ _ => rfl
  | succ k ih => 
    refine enc_congr fun j hj => ?_
    show xch (enc n S) p k j ^^^ p (16 * k + j) = _
    rw [ih (fun j hj => h j (by omega)) j hj, h (16 * k + j) (by omega)]

/-- the width of a half's value -/
def fw (N : Nat) : Nat := wd ((N - N / 2 : Nat) : Int)
theorem fw_le (N : Nat) : fw N ≤ 8 := wd_le
/-- a round's mask -/
def fmk (n : Nat) (key : Nat → Nat) (t : Nat) (T : Nat → Nat) (N i x : Nat) : Nat :=
  restN (10 ^ fd N i) (xch (enc n (ks n key)) (finp (N / 2) N t T i x (fw N)) (finL t (fw N) / 16)) ((fw N + 3) / 4 * 4 + 4)
theorem fmk_lt (n : Nat) (key : Nat → Nat) (t : Nat) (T : Nat → Nat) (N i x : Nat) : fmk n key t T N i x < 10 ^ fd N i := restN_lt (ten_pos _) _ _
/-- a mask is a value of its half -/
def fM (n : Nat) (key : Nat → Nat) (t : Nat) (T : Nat → Nat) (N i : Nat) (x : Int) : Int := (fmk n key t T N i x.toNat : Nat)
theorem inP_nat {k x : Nat} (h1 : 1 ≤ k) (h2 : k ≤ 16) : inP (x : Nat) (k : Nat) = true ↔ x < 10 ^ k := by
  rw [inP_iff, pw_at h1 h2]; omega
theorem fM_in {n : Nat} {key : Nat → Nat} {t : Nat} {T : Nat → Nat} {N : Nat} (h : 6 ≤ N) (h2 : N ≤ 32) (i : Nat) (x : Int) : inP (fM n key t T N i x) (fd N i : Nat) = true := by
  have := fd_le i h h2
  exact (inP_nat (by omega) (by omega)).2 (fmk_lt ..)

theorem sV_in {a b m : Int} (h : inP a m = true) (h' : inP b m = true) : inP (sV a b m) m = true := by
  have hp := inP_pos h
  have e : sV a b m = (a - b + (pw m : Int)) % (pw m : Int) := by unfold sV; rw [if_pos (tE_pos h h')]
  rw [inP_iff, e]
  exact ⟨Int.emod_nonneg _ (by omega), Int.emod_lt_of_pos _ (by omega)⟩
theorem back_mod2 {x y p : Int} (x0 : 0 ≤ x) (x1 : x < p) : ((x - y + p) % p + y) % p = x := by
  rw [Int.emod_add_emod, show x - y + p + y = x + p by omega, Int.add_emod_right, Int.emod_eq_of_lt x0 x1]
theorem back_diff {x y m : Int} (h : inP x m = true) (h' : inP y m = true) : aV (sV x y m) y m = x := by
  obtain ⟨x0, x1⟩ := (inP_iff x m).1 h
  rw [(aV_in (sV_in h h') h').1]
  unfold sV
  rw [if_pos (tE_pos h h')]
  exact back_mod2 x0 x1

/-- the halves' values behind k rounds -/
def fgo (M : Nat → Int → Int) (N : Nat) (a b : Int) : Nat → Int × Int
  | 0 => (a, b)
  | k + 1 => ((fgo M N a b k).2, aV (fgo M N a b k).1 (M k (fgo M N a b k).2) (fd N k : Nat))
/-- .. and k rounds undone -/
def fbk (M : Nat → Int → Int) (N : Nat) : Nat → Int → Int → Int × Int
  | 0, a, b => (a, b)
  | k + 1, a, b => fbk M N k (sV b (M k a) (fd N k : Nat)) a
/-- masks are values of their halves -/
def MIn (M : Nat → Int → Int) (N : Nat) : Prop := ∀ k x, inP (M k x) (fd N k : Nat) = true
theorem fgo_in {M : Nat → Int → Int} {N : Nat} (hM : MIn M N) {a b : Int} (ha : inP a (fd N 0 : Nat) = true) (hb : inP b (fd N 1 : Nat) = true) : ∀ k, inP (fgo M N a b k).1 (fd N k : Nat) = true ∧ inP (fgo M N a b k).2 (fd N (k + 1) : Nat) = true
  | 0 => ⟨ha, hb⟩
  | k + 1 => by
    obtain ⟨h1, h2⟩ := fgo_in hM ha hb k
    exact ⟨h2, by rw [fd_two]; exact (aV_in h1 (hM k _)).2⟩
theorem fbk_in {M : Nat → Int → Int} {N : Nat} (hM : MIn M N) : ∀ k (a b : Int), inP a (fd N k : Nat) = true → inP b (fd N (k + 1) : Nat) = true → inP (fbk M N k a b).1 (fd N 0 : Nat) = true ∧ inP (fbk M N k a b).2 (fd N 1 : Nat) = true
  | 0, _, _, ha, hb => ⟨ha, hb⟩
  | k + 1, a, b, ha, hb => by
    rw [fd_two] at hb
    exact fbk_in hM k _ _ (sV_in hb (hM k a)) ha
theorem fbk_fgo {M : Nat → Int → Int} {N : Nat} (hM : MIn M N) {a b : Int} (ha : inP a (fd N 0 : Nat) = true) (hb : inP b (fd N 1 : Nat) = true) : ∀ k, fbk M N k (fgo M N a b k).1 (fgo M N a b k).2 = (a, b)
  | 0 => rfl
  | k + 1 => by
    show fbk M N k (sV (aV (fgo M N a b k).1 (M k (fgo M N a b k).2) (fd N k : Nat)) (M k (fgo M N a b k).2) (fd N k : Nat)) (fgo M N a b k).2 = _
    rw [back_sum (fgo_in hM ha hb k).1 (hM k _)]
    exact fbk_fgo hM ha hb k
theorem fgo_fbk {M : Nat → Int → Int} {N : Nat} (hM : MIn M N) : ∀ k (a b : Int), inP a (fd N k : Nat) = true → inP b (fd N (k + 1) : Nat) = true → fgo M N (fbk M N k a b).1 (fbk M N k a b).2 k = (a, b)
  | 0, _, _, _, _ => rfl
  | k + 1, a, b, ha, hb => by
    rw [fd_two] at hb
    have h := fgo_fbk hM k (sV b (M k a) (fd N k : Nat)) a (sV_in hb (hM k a)) ha
    show (_, aV _ _ _) = _
    rw [show fbk M N (k + 1) a b = fbk M N k (sV b (M k a) (fd N k : Nat)) a from rfl, h]
    exact Prod.ext rfl (back_diff hb (hM k a))
end Go.Proofs.YthmlcmlpmolmoaaGreatDoor
/- append of bytes that came in to a row of the call's own; []byte parameters, opened. -/
namespace Go.Proofs.YthmlcmlpmolmoaaGreatDoor
set_option maxRecDepth 100000
open Go.RowKit

/-- two rows of bytes, one behind the other -/
def catB (n : Nat) (f g : Nat → Nat) (j : Nat) : Nat := if j < n then f j else g (j - n)
def bytesL (n : Nat) (f : Nat → Nat) : List Value := (List.range n).map fun j => .int .u8 (f j : Nat)
theorem catB_lt {n m : Nat} {f g : Nat → Nat} (hf : ∀ j, j < n → f j < 256) (hg : ∀ j, j < m → g j < 256) (j : Nat) (hj : j < n + m) : catB n f g j < 256 := by
  unfold catB; split
  · exact hf j (by omega)
  · exact hg _ (by omega)
theorem bytesL_cat (n m : Nat) (f g : Nat → Nat) : bytesL n f ++ bytesL m g = bytesL (n + m) (catB n f g) := by
  unfold bytesL
  rw [List.range_add, List.map_append, List.map_map]
  congr 1
  · apply List.map_congr_left
    intro j hj
    rw [catB, if_pos (List.mem_range.1 hj)]
  · apply List.map_congr_left
    intro j _
    show _ = Value.int .u8 ((catB n f g (n + j) : Nat) : Int)
    rw [catB, if_neg (by omega), Nat.add_sub_cancel_left]
theorem bytesL_get (n : Nat) (f : Nat → Nat) (j : Nat) (u : Value) (h : (bytesL n f)[j]? = some u) : j < n ∧ u = .int .u8 (f j : Nat) := by
  unfold bytesL at h
  rw [List.getElem?_map] at h
  rcases Nat.lt_or_ge j n with hj | hj
  · rw [List.getElem?_range hj] at h
    simp only [Option.map_some, Option.some.injEq] at h
    exact ⟨hj, h.symm⟩
  · rw [List.getElem?_eq_none (by simpa using hj)] at h; simp at h

theorem wpList_appB {ops : Array Oper} {rest : List Oper} {o : Oper} {a : Act} {Q : Exit → Act → World → Prop} {w : World} (hgd : o.guard = none) (s x : Operand)
    (ho : o.op = .call { callee := .builtin .append, args := #[s, x], argTypes := #[22, 22] })
    (base : Nat) (v : Value) (n : Nat) (f : Nat → Nat) (hs : a.eval s = v) (hown : w.ownsRow base 5 1 v n (bytesL n f))
    (A : Option Addr) (m cap : Nat) (g : Nat → Nat) (hx : a.eval x = .slice A m cap) (hA : SlB w A m g) (hnil : A = none → m = 0 ∧ cap = 0) (hn : n + m ≤ 100000000000000) (hbase : base ≤ w.heap.size)
    (h : ∀ v' w', w'.ownsRow base 5 1 v' (n + m) (bytesL (n + m) (catB n f g)) → Below base w w' → wpList Tryz.prog ops Q rest (a.put o.dst v') w') : wpList Tryz.prog ops Q (o :: rest) a w := by
  obtain ⟨i, hi, hz, hsz, hb⟩ := info_parts info8
  cases A with
  | none =>
    obtain ⟨rfl, rfl⟩ := hnil rfl
    refine wpList_append_own_none hgd s x 22 ho base 5 i 1 Tryz.underlying22 hi v n _ hs hown hx ?_
    refine h v w ?_ (Below.refl _ _)
    have := bytesL_cat n 0 f g
    rw [show bytesL 0 g = [] from rfl, List.append_nil] at this
    rw [← this]
    exact hown
  | some ad =>
    refine wpList_append_own w hgd s x 22 ho base 5 i (.int .u8 0) 1 1 Tryz.underlying22 hi hz hsz hb rfl (by decide) v n _ hs hown ad m cap (bytesL m g) hx (by simp [bytesL]) ?_ ?_ (by unfold maxLen; omega) (by omega) hbase ?_
    · intro j u hj
      obtain ⟨hjm, rfl⟩ := bytesL_get m g j u hj
      obtain ⟨B, off, e, _, hc⟩ := hA (by omega)
      obtain rfl : ad = ⟨B, off, none⟩ := Option.some.inj e
      rw [Go.WideShapes.add_plain]
      exact (hc j hjm).2
    · intro u hu
      obtain ⟨j, hj⟩ := List.getElem?_of_mem hu
      obtain ⟨_, rfl⟩ := bytesL_get m g j u hj
      rfl
    · intro v' w' h1 h2 _
      rw [bytesL_cat] at h1
      exact h v' w' h1 ((Below.refl base w).grown h2 hbase fun k hk => (hown.lt k hk).1)

theorem bytesL_first (n : Nat) (f g : Nat → Nat) : bytesL (0 + n) (catB 0 f g) = bytesL n g := by
  rw [Nat.zero_add]
  unfold bytesL
  apply List.map_congr_left
  intro j _
  rw [catB, if_neg (by omega), Nat.sub_zero]
/-- []byte{} -/
theorem own_empty (w : World) : (w.alloc (.cells #[] 5)).ownsRow w.heap.size 5 1 (.slice (some ⟨w.heap.size, 0, none⟩) 0 0) 0 (bytesL 0 (fun _ => 0)) :=
  World.ownsRow_made w #[] 0 (Nat.le_refl _) (by unfold maxLen; omega) rfl
/-- an owned row of bytes, as a slice that came in -/
theorem own_slB {w : World} {base : Nat} {v : Value} {n : Nat} {f : Nat → Nat} (h : w.ownsRow base 5 1 v n (bytesL n f)) (hf : ∀ j, j < n → f j < 256) : ∃ A c, v = .slice A n c ∧ SlB w A n f := by
  rcases h.2 with ⟨rfl, hx⟩ | ⟨g, cap, cur, rfl, hg, hh, r⟩
  · subst hx
    exact ⟨none, 0, rfl, SlB.nil _ _⟩
  · refine ⟨some ⟨g, 0, none⟩, cap, rfl, fun hn => ⟨g, 0, rfl, ?_, fun j hj => ⟨hf j hj, ?_⟩⟩⟩
    · obtain ⟨hlt, _⟩ := Array.getElem?_eq_some_iff.1 hh
      exact hlt
    · rw [Nat.zero_add, h.cellAt j (by omega)]
      unfold bytesL
      rw [List.getElem?_map, List.getElem?_range hj]; rfl

open Go.ChangeShapes Go.WideShapes Go.ChangeAt in
/-- a []byte parameter, opened -/
theorem open_bytes {H : Type} {enc : TypeId × Value → H} {W : World} {base : Nat} {v : Value} {d : DataW H} {p : List MemPlace}
    (hval : Value.okWide Tryz.prog W .any base 22 v) (h : DataW.Trod enc Tryz.prog W 0 (fun _ => true) true 22 v d p) :
    ∃ A n c bs, v = .slice A n c ∧ SlB W A n bs ∧ (n ≤ c ∧ (A = none → n = 0 ∧ c = 0) ∧ ∃ els sp, (d = .slice els sp ∧ els.length + sp.length = c) ∨ (d = .nil ∧ c = 0)) := by
  obtain ⟨a0, len, cap, rfl⟩ := okWide_slice Tryz.underlying22 hval
  obtain ⟨fuel, hf⟩ := h
  rcases open_ints Tryz.underlying22 Tryz.underlying5 (show Tryz.prog.cellsOf 5 = 1 by kernel_rfl) hf with ⟨hcs, hx⟩ | ⟨a, len', cap', zs, hcs, _, hl, hm, hz, hx, hcell, hwz⟩
  · simp only [Value.cells] at hcs
    injection hcs with hcs
    injection hcs with h1 h2 h3
    subst h1 h2 h3
    injection hx with hd _
    exact ⟨none, 0, 0, fun _ => 0, rfl, SlB.nil _ _, Nat.le_refl _, fun _ => ⟨rfl, rfl⟩, [], [], Or.inr ⟨hd, rfl⟩⟩
  · simp only [Value.cells] at hcs
    injection hcs with hcs
    injection hcs with h1 h2 h3
    subst h1 h2 h3
    injection hx with hd _
    have hz' : zs.length = cap := by simpa using hz
    have hsl : SlB W (some a) len (fun j => (zs.getD j 0).toNat) := by
      intro hn
      obtain ⟨b, off, rfl, hc⟩ := ints_at hcell (by omega)
      have hb0 : b < W.heap.size := block_lt (hc 0 (by omega))
      refine ⟨b, off, rfl, hb0, fun j hj => ?_⟩
      have hr := range_u8 hwz j
      rw [← List.getD_eq_getElem?_getD] at hr
      refine ⟨by show (zs.getD j 0).toNat < 256; omega, ?_⟩
      show _ = some (Value.int .u8 ((zs.getD j 0).toNat : Nat))
      rw [hc j (by omega), Int.toNat_of_nonneg hr.1]
    exact ⟨some a, len, cap, _, rfl, hsl, hl, (fun h => by cases h), lits .u8 (zs.take len), lits .u8 (zs.drop len), Or.inl ⟨hd, by simp [lits]; omega⟩⟩
/-- how long a []byte parameter is at most -/
theorem slice_len {H : Type} {ts : List TypeId} {ds : List (DataW H)} (h : (DataW.weightsEach Tryz.prog ts ds).all (· ≤ reachBytes) = true) {j : Nat} {d : DataW H} (ht : ts[j]? = some 22) (hd : ds[j]? = some d)
    {n c : Nat} {X : Prop} (z : n ≤ c ∧ X ∧ ∃ els sp, (d = .slice els sp ∧ els.length + sp.length = c) ∨ (d = .nil ∧ c = 0)) : n ≤ 140737488351232 := by
  obtain ⟨h1, _, els, sp, h2⟩ := z
  rcases h2 with ⟨rfl, h2⟩ | ⟨_, h2⟩
  · have h3 := sized_slice h ht hd Tryz.underlying22
    rw [show Tryz.prog.bytesOf 5 = 1 by kernel_rfl, Nat.mul_one] at h3
    have : reachBytes = 140737488351232 := rfl
    omega
  · omega
end Go.Proofs.YthmlcmlpmolmoaaGreatDoor
/- A row of bytes known whole; copy into it; bytes.Equal's text of two rows. -/
namespace Go.Proofs.YthmlcmlpmolmoaaGreatDoor
open Go.RowKit

/-- block g is a row of m bytes of the call's own -/
def RowB (w : World) (g m : Nat) (cur : Nat → Nat) : Prop := w.heap[g]? = some (.cells (bytesL m cur).toArray 5 (0, 0))
namespace RowB
variable {w w' : World} {g m : Nat} {cur f : Nat → Nat}
theorem lt (h : RowB w g m cur) : g < w.heap.size := (Array.getElem?_eq_some_iff.1 h).1
theorem of_block (h : RowB w g m cur) (e : w'.heap[g]? = w.heap[g]?) : RowB w' g m cur := e.trans h
theorem drewN (h : RowB w g m cur) (k : Nat) : RowB (w.drewN k) g m cur := h
theorem drew (h : RowB w g m cur) : RowB w.drew g m cur := h
theorem below (h : RowB w g m cur) {B : Nat} (hb : Below B w w') (hB : g < B) : RowB w' g m cur := h.of_block (hb.block g hB)
theorem keep (h : RowB w g m cur) (hb : Below w.heap.size w w') : RowB w' g m cur := h.below hb h.lt
theorem alloc (h : RowB w g m cur) (o : Obj) : RowB (w.alloc o) g m cur := h.of_block (Below.heap_alloc w o g h.lt)
theorem congr (h : RowB w g m cur) (e : ∀ j, j < m → cur j = f j) : RowB w g m f := by
  have : bytesL m cur = bytesL m f := List.map_congr_left fun j hj => by rw [e j (List.mem_range.1 hj)]
  unfold RowB at *; rw [← this]; exact h
theorem rowIs (h : RowB w g m cur) : w.rowIs g 5 m (fun j => .int .u8 (cur j : Nat)) := by
  refine ⟨_, h, by simp [bytesL], fun i hi => ?_⟩
  rw [List.getElem?_toArray]
  unfold bytesL
  rw [List.getElem?_map, List.getElem?_range hi]; rfl
theorem rowX (h : RowB w g m cur) : RowX w g 5 m (fun j => .int .u8 (cur j : Nat)) := RowX.of_rowIs h.rowIs
theorem cell (h : RowB w g m cur) {i : Nat} (hi : i < m) : w.cell? ⟨g, i, none⟩ = some (.int .u8 (cur i : Nat)) := h.rowIs.cell hi
theorem frozen (h : RowB w g m cur) (i : Nat) : w.frozen? ⟨g, i, none⟩ = false := h.rowIs.frozen i
theorem slB (h : RowB w g m cur) {off n : Nat} (hn : off + n ≤ m) (hc : ∀ j, j < m → cur j < 256) : SlB w (some ⟨g, off, none⟩) n (fun j => cur (off + j)) := fun _ =>
  ⟨g, off, rfl, h.lt, fun j hj => ⟨hc _ (by omega), h.cell (by omega)⟩⟩
theorem slB0 (h : RowB w g m cur) {n : Nat} (hn : n ≤ m) (hc : ∀ j, j < m → cur j < 256) : SlB w (some ⟨g, 0, none⟩) n cur := fun _ =>
  ⟨g, 0, rfl, h.lt, fun j hj => ⟨hc _ (by omega), by rw [Nat.zero_add]; exact h.cell (by omega)⟩⟩
theorem set (h : RowB w g m cur) (i : Nat) (x : Nat) (v : Value) (hv : v = .int .u8 (x : Nat)) : RowB (w.setCell ⟨g, i, none⟩ v) g m (fun j => if j = i then x else cur j) := by
  subst hv
  unfold RowB at *
  rw [show (w.setCell ⟨g, i, none⟩ (.int .u8 (x : Nat))).heap[g]? = some (.cells ((bytesL m cur).toArray.setIfInBounds i (.int .u8 (x : Nat))) 5 (0, 0)) by simp [World.setCell, Array.getElem?_modify, h]]
  congr 2
  apply Array.ext'
  apply List.ext_getElem?
  intro j
  simp only [List.setIfInBounds_toArray, List.getElem?_set]
  unfold bytesL
  by_cases hj : j < m
  · rw [List.getElem?_map, List.getElem?_range hj, List.getElem?_map, List.getElem?_range hj]
    by_cases e : i = j
    · subst e; simp [hj]
    · have e2 : ¬ j = i := fun h => e h.symm
      simp [e, e2]
  · rw [List.getElem?_map, List.getElem?_eq_none (by simpa using hj), List.getElem?_map, List.getElem?_eq_none (by simpa using hj)]
    by_cases e : i = j
    · subst e; simp [hj]
    · simp [e]
end RowB
theorem rowB_made (w : World) (n : Nat) : RowB (w.alloc (.cells (madeCells #[.int .u8 0] n) 5)) w.heap.size n (fun _ => 0) := by
  unfold RowB
  rw [heap_alloc_new]
  congr 2
  apply Array.ext'
  rw [toList_madeCells_one]
  unfold bytesL
  show List.replicate n (Value.int .u8 0) = (List.range n).map fun _ => Value.int .u8 0
  rw [List.map_const', List.length_range]

/-- k bytes laid over a row from a place on -/
def putB (off k : Nat) (f cur : Nat → Nat) (j : Nat) : Nat := if off ≤ j ∧ j < off + k then f (j - off) else cur j
theorem putB_lt {off k m : Nat} {f cur : Nat → Nat} (hf : ∀ j, j < k → f j < 256) (hc : ∀ j, j < m → cur j < 256) (j : Nat) (hj : j < m) : putB off k f cur j < 256 := by
  unfold putB; split
  · exact hf _ (by omega)
  · exact hc j hj
theorem splice_bytes (m off k : Nat) (f cur : Nat → Nat) (h : off + k ≤ m) : splice (bytesL m cur) off (bytesL k f) = bytesL m (putB off k f cur) := by
  unfold splice bytesL
  apply List.ext_getElem?
  intro j
  simp only [List.length_map, List.length_range, List.getElem?_append, List.getElem?_take, List.getElem?_drop, List.length_take, List.getElem?_map]
  rw [Nat.min_eq_left (show off ≤ m by omega)]
  unfold putB
  by_cases h1 : j < off
  · rw [if_pos h1, if_pos h1, List.getElem?_range (by omega)]
    simp only [Option.map_some]
    rw [if_neg (by omega)]
  · rw [if_neg h1]
    by_cases h2 : j < off + k
    · rw [if_pos (by omega), List.getElem?_range (by omega), List.getElem?_range (by omega)]
      simp only [Option.map_some]
      rw [if_pos ⟨by omega, h2⟩]
    · rw [if_neg (by omega), show off + k + (j - off - k) = j by omega]
      by_cases hj : j < m
      · rw [List.getElem?_range hj]
        simp only [Option.map_some]
        rw [if_neg (by omega)]
      · rw [List.getElem?_eq_none (by simpa using hj)]; rfl

theorem sizeOf8 : (Tryz.prog.info? 5).map (·.size) = some 1 := by kernel_rfl
theorem copy_parts {w : World} {A : Option Addr} {sLen k : Nat} {f : Nat → Nat} (hA : SlB w A sLen f) (hk : k ≤ sLen) {dp : Option Addr} {g off : Nat} (hd : 0 < k → dp = some ⟨g, off, none⟩) :
    0 < (bytesL k f).length → dp = some ⟨g, off, none⟩ ∧ ∃ ad, A = some ad ∧ ∀ j v, (bytesL k f)[j]? = some v → w.cell? (ad.add j) = some v := fun h => by
  have h0 : 0 < k := by simpa [bytesL] using h
  obtain ⟨B, o, hA', _, hc⟩ := hA (by omega)
  refine ⟨hd h0, _, hA', fun j v hj => ?_⟩
  obtain ⟨hjl, rfl⟩ := bytesL_get _ _ j v hj
  rw [Go.WideShapes.add_plain]
  exact (hc j (by omega)).2
theorem bytes_one (k : Nat) (f : Nat → Nat) : ∀ v ∈ bytesL k f, v.oneCell' = true := by
  intro u hu
  obtain ⟨j, hj⟩ := List.getElem?_of_mem hu
  obtain ⟨_, rfl⟩ := bytesL_get _ _ j u hj
  rfl
theorem wpList_copyB {ops : Array Oper} {rest : List Oper} {o : Oper} {a : Act} {Q : Exit → Act → World → Prop} {w : World} (hgd : o.guard = none) (d s : Operand)
    (ho : o.op = .call { callee := .builtin .copy, args := #[d, s], argTypes := #[22, 22] })
    (dp : Option Addr) (dLen dCap : Nat) (A : Option Addr) (sLen sCap : Nat) (hd : a.eval d = .slice dp dLen dCap) (hs : a.eval s = .slice A sLen sCap)
    (g off m : Nat) (cur : Nat → Nat) (hg : RowB w g m cur) (f : Nat → Nat) (hA : SlB w A sLen f) (k : Nat) (hk : k = Nat.min sLen dLen) (hdp : 0 < k → dp = some ⟨g, off, none⟩) (hfit : off + k ≤ m)
    (B : Nat) (w0 : World) (hb : Below B w0 w) (hBg : B ≤ g)
    (h : ∀ w', RowB w' g m (putB off k f cur) → Below B w0 w' → wpList Tryz.prog ops Q rest (a.put o.dst (goInt k)) w') : wpList Tryz.prog ops Q (o :: rest) a w := by
  have hl : (bytesL k f).length = k := by simp [bytesL]
  refine wpList_copy_splice hgd d s 22 22 ho 5 Tryz.underlying22 sizeOf8 dp A dLen dCap sLen sCap hd hs g off (bytesL m cur) 5 hg (bytesL k f) (by rw [hl, hk])
    (copy_parts hA (by rw [hk]; exact Nat.min_le_left _ _) hdp) (by rw [hl]; simpa [bytesL] using hfit) (bytes_one k f) B w0 hb hBg ?_
  intro w' hr hb'
  rw [hl]
  refine h w' ?_ hb'
  unfold RowB
  rw [← splice_bytes m off k f cur hfit]
  exact hr.out
theorem step_copyB {ops : Array Oper} {o : Oper} {a : Act} {w : World} {K : Act → World → Prop} {Q : Exit → Act → World → Prop} {E : Prop} (hgd : o.guard = none) (d s : Operand)
    (ho : o.op = .call { callee := .builtin .copy, args := #[d, s], argTypes := #[22, 22] })
    (dp : Option Addr) (dLen dCap : Nat) (A : Option Addr) (sLen sCap : Nat) (hd : a.eval d = .slice dp dLen dCap) (hs : a.eval s = .slice A sLen sCap)
    (g off m : Nat) (cur : Nat → Nat) (hg : RowB w g m cur) (f : Nat → Nat) (hA : SlB w A sLen f) (k : Nat) (hk : k = Nat.min sLen dLen) (hdp : 0 < k → dp = some ⟨g, off, none⟩) (hfit : off + k ≤ m)
    (B : Nat) (w0 : World) (hb : Below B w0 w) (hBg : B ≤ g)
    (h : ∀ w', RowB w' g m (putB off k f cur) → Below B w0 w' → K (a.put o.dst (goInt k)) w') : if Region.wanted o (yielded ops a.tmps) = true then Oper.wp Tryz.prog o a w K Q else E := by
  have hl : (bytesL k f).length = k := by simp [bytesL]
  refine step_copy_splice hgd d s 22 22 ho 5 Tryz.underlying22 sizeOf8 dp A dLen dCap sLen sCap hd hs g off (bytesL m cur) 5 hg (bytesL k f) (by rw [hl, hk])
    (copy_parts hA (by rw [hk]; exact Nat.min_le_left _ _) hdp) (by rw [hl]; simpa [bytesL] using hfit) (bytes_one k f) B w0 hb hBg ?_
  intro w' hr hb'
  rw [hl]
  refine h w' ?_ hb'
  unfold RowB
  rw [← splice_bytes m off k f cur hfit]
  exact hr.out

/-- a row of bytes that grows by append -/
def OwnB (w : World) (base : Nat) (v : Value) (n : Nat) (f : Nat → Nat) : Prop := w.ownsRow base 5 1 v n (bytesL n f)
def lenOf : Value → Nat
  | .slice _ n _ => n
  | _ => 0
namespace OwnB
variable {w w' : World} {base n : Nat} {v : Value} {f g : Nat → Nat}
theorem nil (w : World) (base : Nat) (f : Nat → Nat) : OwnB w base (.slice none 0 0) 0 f := World.ownsRow_nil w base _ 1
theorem empty (w : World) (base : Nat) (f : Nat → Nat) (hb : base ≤ w.heap.size) : OwnB (w.alloc (.cells #[] 5)) base (.slice (some ⟨w.heap.size, 0, none⟩) 0 0) 0 f :=
  World.ownsRow_made w #[] 0 hb (by unfold maxLen; omega) rfl
theorem congr (h : OwnB w base v n f) (e : ∀ j, j < n → f j = g j) : OwnB w base v n g := by
  have : bytesL n f = bytesL n g := List.map_congr_left fun j hj => by rw [e j (List.mem_range.1 hj)]
  unfold OwnB at *; rw [← this]; exact h
theorem alloc (h : OwnB w base v n f) (o : Obj) : OwnB (w.alloc o) base v n f := World.ownsRow.alloc h o
theorem drewN (h : OwnB w base v n f) (k : Nat) : OwnB (w.drewN k) base v n f := h
theorem slice (h : OwnB w base v n f) (hf : ∀ j, j < n → f j < 256) : ∃ A c, v = .slice A n c ∧ SlB w A n f := own_slB h hf
/-- the row's own block, and what is known of it -/
theorem cap_le (h : OwnB w base v n f) : ∃ A c, v = .slice A n c ∧ n ≤ c ∧ c ≤ maxLen ∧ (A = none → n = 0 ∧ c = 0) := by
  rcases h.2 with ⟨rfl, hn⟩ | ⟨g, cap, cur, rfl, _, _, h1, h2, _⟩
  · subst hn; exact ⟨none, 0, rfl, Nat.le_refl _, by unfold maxLen; omega, fun _ => ⟨rfl, rfl⟩⟩
  · exact ⟨_, cap, rfl, h1, h2, fun h => by cases h⟩
theorem keep (h : OwnB w base v n f) (hb : Below w.heap.size w w') : OwnB w' base v n f := by
  rcases h with ⟨h1, h2 | ⟨g, cap, cur, e, hg, hh, r⟩⟩
  · exact ⟨h1, Or.inl h2⟩
  · exact ⟨h1, Or.inr ⟨g, cap, cur, e, hg, (hb.block g (Array.getElem?_eq_some_iff.1 hh).1).trans hh, r⟩⟩
end OwnB
theorem one_slB (w : World) (t : TypeId) (x : Nat) (hx : x < 256) : SlB (w.alloc (.cells #[.int .u8 (x : Nat)] t)) (some ⟨w.heap.size, 0, none⟩) 1 (fun _ => x) := fun _ =>
  ⟨w.heap.size, 0, rfl, by simp, fun j hj => ⟨hx, by
    obtain rfl : j = 0 := by omega
    exact (World.cell?_alloc_at _ _ _ _ rfl).trans rfl⟩⟩
theorem four_slB (w : World) (t : TypeId) (g : Nat → Nat) (hg : ∀ j, g j < 256) : SlB (w.alloc (.cells #[.int .u8 (g 0 : Nat), .int .u8 (g 1 : Nat), .int .u8 (g 2 : Nat), .int .u8 (g 3 : Nat)] t)) (some ⟨w.heap.size, 0, none⟩) 4 g := fun _ =>
  ⟨w.heap.size, 0, rfl, by simp, fun j hj => ⟨hg j, by
    rcases (show j = 0 ∨ j = 1 ∨ j = 2 ∨ j = 3 by omega) with rfl | rfl | rfl | rfl <;> exact (World.cell?_alloc_at _ _ _ _ rfl).trans rfl⟩⟩
/-- a literal's bytes -/
theorem lit_slB (w : World) (t : TypeId) (fr : Nat × Nat) (L : List Nat) (hL : ∀ j, L.getD j 0 < 256) : SlB (w.alloc (.cells (L.map fun x => Value.int .u8 (x : Nat)).toArray t fr)) (some ⟨w.heap.size, 0, none⟩) L.length (fun j => L.getD j 0) := fun _ =>
  ⟨w.heap.size, 0, rfl, by simp, fun j hj => ⟨hL j, by
    refine (Joins.cell_alloc_mark_at w _ t fr _ _ rfl).trans ?_
    show (L.map fun x => Value.int .u8 (x : Nat)).toArray[0 + j]? = some (Value.int .u8 ((L.getD j 0 : Nat) : Int))
    rw [Nat.zero_add, List.getElem?_toArray, List.getElem?_map, List.getD_eq_getElem?_getD, List.getElem?_eq_getElem hj]
    rfl⟩⟩
/-- []byte of a constant -/
theorem kconv (w : World) (C : Array Value) (n c g : Nat) (hg : g = w.heap.size) :
    (convert 22 22 (.slice (some ⟨g, 0, none⟩) n c)).run Tryz.prog (w.alloc (.cells C 5)) = .ok (.slice (some ⟨g, 0, none⟩) n c) (w.alloc (.cells C 5 (C.size, C.size + 1))) :=
  Joins.run_convert_bytes_const_at (P := Tryz.prog) w 22 5 C n c g hg Tryz.underlying22 Tryz.underlying5
theorem wpList_appO {ops : Array Oper} {rest : List Oper} {o : Oper} {a : Act} {Q : Exit → Act → World → Prop} {w : World} (hgd : o.guard = none) (s x : Operand)
    (ho : o.op = .call { callee := .builtin .append, args := #[s, x], argTypes := #[22, 22] })
    (base : Nat) (v : Value) (n : Nat) (f : Nat → Nat) (hs : a.eval s = v) (hown : OwnB w base v n f)
    (A : Option Addr) (m cap : Nat) (g : Nat → Nat) (hx : a.eval x = .slice A m cap) (hA : SlB w A m g) (hnil : A = none → m = 0 ∧ cap = 0) (hn : n + m ≤ 100000000000000) (hbase : base ≤ w.heap.size)
    (hf : ∀ j, j < n → f j < 256) (hg : ∀ j, j < m → g j < 256)
    (h : ∀ A' c' w', OwnB w' base (.slice A' (n + m) c') (n + m) (catB n f g) → SlB w' A' (n + m) (catB n f g) → n + m ≤ c' ∧ c' ≤ maxLen ∧ (A' = none → n + m = 0 ∧ c' = 0) → Below base w w' → wpList Tryz.prog ops Q rest (a.put o.dst (.slice A' (n + m) c')) w') : wpList Tryz.prog ops Q (o :: rest) a w := by
  refine wpList_appB hgd s x ho base v n f hs hown A m cap g hx hA hnil hn hbase ?_
  intro v' w' h1 h2
  obtain ⟨A', c', rfl, hsl⟩ := own_slB h1 (catB_lt hf hg)
  obtain ⟨A2, c2, e, h3⟩ := OwnB.cap_le h1
  cases e
  exact h A' c' w' h1 hsl h3 h2
/-- append, as a run: for a place that is guarded -/
theorem run_appO (w : World) (base : Nat) (v : Value) (n : Nat) (f : Nat → Nat) (hown : OwnB w base v n f) (A : Option Addr) (m cap : Nat) (g : Nat → Nat) (hA : SlB w A m g) (hnil : A = none → m = 0 ∧ cap = 0)
    (hn : n + m ≤ 100000000000000) (hbase : base ≤ w.heap.size) (hf : ∀ j, j < n → f j < 256) (hg : ∀ j, j < m → g j < 256) :
    ∃ A' c' w', (Builtin.append_ #[22, 22] 22 #[v, .slice A m cap]).run Tryz.prog w = .ok (.slice A' (n + m) c') w' ∧ OwnB w' base (.slice A' (n + m) c') (n + m) (catB n f g) ∧ SlB w' A' (n + m) (catB n f g) ∧
      (n + m ≤ c' ∧ c' ≤ maxLen ∧ (A' = none → n + m = 0 ∧ c' = 0)) ∧ Below base w w' := by
  obtain ⟨i, hi, hz, hsz, hb⟩ := info_parts info8
  have fin : ∀ v' w', (Builtin.append_ #[22, 22] 22 #[v, .slice A m cap]).run Tryz.prog w = .ok v' w' → OwnB w' base v' (n + m) (catB n f g) → Below base w w' →
      ∃ A' c' w', (Builtin.append_ #[22, 22] 22 #[v, .slice A m cap]).run Tryz.prog w = .ok (.slice A' (n + m) c') w' ∧ OwnB w' base (.slice A' (n + m) c') (n + m) (catB n f g) ∧ SlB w' A' (n + m) (catB n f g) ∧
      (n + m ≤ c' ∧ c' ≤ maxLen ∧ (A' = none → n + m = 0 ∧ c' = 0)) ∧ Below base w w' := fun v' w' h1 h2 h3 => by
    obtain ⟨A', c', rfl, hsl⟩ := OwnB.slice h2 (catB_lt hf hg)
    obtain ⟨A2, c2, e, h4⟩ := OwnB.cap_le h2
    cases e
    exact ⟨A', c', w', h1, h2, hsl, h4, h3⟩
  cases A with
  | none =>
    obtain ⟨rfl, rfl⟩ := hnil rfl
    refine fin v w (run_append_owned_none (P := Tryz.prog) (w := w) base 22 22 5 i 1 Tryz.underlying22 hi v n _ hown) ?_ (Below.refl _ _)
    exact OwnB.congr hown fun j hj => by unfold catB; rw [if_pos (show j < n from hj)]
  | some ad =>
    obtain ⟨v', w', hr, h1, h2, _⟩ := run_append_own (P := Tryz.prog) w base 22 22 5 i (.int .u8 0) 1 1 Tryz.underlying22 hi hz hsz hb rfl (by decide) v n _ hown ad m cap (bytesL m g) (by simp [bytesL])
      (fun j u hj => by
        obtain ⟨hjm, rfl⟩ := bytesL_get m g j u hj
        obtain ⟨B, off, e, _, hc⟩ := hA (by omega)
        obtain rfl : ad = ⟨B, off, none⟩ := Option.some.inj e
        rw [Go.WideShapes.add_plain]
        exact (hc j hjm).2) (bytes_one m g) (by unfold maxLen; omega) (by omega) hbase
    rw [bytesL_cat] at h1
    exact fin v' w' hr h1 ((Below.refl base w).grown h2 hbase fun k hk => (hown.lt k hk).1)
/-- append where its run is known, guarded or not -/
theorem wpList_runA {ops : Array Oper} {rest : List Oper} {o : Oper} {a : Act} {Q : Exit → Act → World → Prop} {w : World} (s x : Operand)
    (ho : o.op = .call { callee := .builtin .append, args := #[s, x], argTypes := #[22, 22] }) (ht : o.type = 22) (hw : Region.wanted o (yielded ops a.tmps) = true)
    {v xv v' : Value} {w' : World} (hs : a.eval s = v) (hx : a.eval x = xv) (hrun : (Builtin.append_ #[22, 22] 22 #[v, xv]).run Tryz.prog w = .ok v' w')
    (h : wpList Tryz.prog ops Q rest (a.put o.dst v') w') : wpList Tryz.prog ops Q (o :: rest) a w := by
  refine wpList_step fun K hK => ?_
  rw [if_pos hw]
  unfold Oper.wp
  simp [execOp, ho, ht, resolve, invoke, builtin, hs, hx, hrun, Result.andThen]
  exact hK _ _ h
/-- append in a region that draws its order -/
theorem step_appO {ops : Array Oper} {o : Oper} {a : Act} {w : World} {K : Act → World → Prop} {Q : Exit → Act → World → Prop} {E : Prop} (s x : Operand)
    (ho : o.op = .call { callee := .builtin .append, args := #[s, x], argTypes := #[22, 22] }) (ht : o.type = 22) (hw : Region.wanted o (yielded ops a.tmps) = true)
    (base : Nat) (v : Value) (n : Nat) (f : Nat → Nat) (hs : a.eval s = v) (hown : OwnB w base v n f)
    (A : Option Addr) (m cap : Nat) (g : Nat → Nat) (hx : a.eval x = .slice A m cap) (hA : SlB w A m g) (hnil : A = none → m = 0 ∧ cap = 0) (hn : n + m ≤ 100000000000000) (hbase : base ≤ w.heap.size)
    (hf : ∀ j, j < n → f j < 256) (hg : ∀ j, j < m → g j < 256)
    (h : ∀ A' c' w', OwnB w' base (.slice A' (n + m) c') (n + m) (catB n f g) → SlB w' A' (n + m) (catB n f g) → n + m ≤ c' ∧ c' ≤ maxLen ∧ (A' = none → n + m = 0 ∧ c' = 0) → Below base w w' → K (a.put o.dst (.slice A' (n + m) c')) w') :
    if Region.wanted o (yielded ops a.tmps) = true then Oper.wp Tryz.prog o a w K Q else E := by
  rw [if_pos hw]
  obtain ⟨A', c', w', hr, h1, h2, h3, h4⟩ := run_appO w base v n f hown A m cap g hA hnil hn hbase hf hg
  unfold Oper.wp
  simp [execOp, ho, ht, resolve, invoke, builtin, hs, hx, hr, Result.andThen]
  exact h A' c' w' h1 h2 h3 h4
end Go.Proofs.YthmlcmlpmolmoaaGreatDoor
/- Rows of bytes in the middle of a block; worlds that differ in one block. -/
namespace Go.Proofs.YthmlcmlpmolmoaaGreatDoor
open Go.RowKit

/-- n bytes lie in block g from o on, and may be written -/
def Arr (w : World) (g o n : Nat) (cur : Nat → Nat) : Prop := ∀ j, j < n → w.cell? ⟨g, o + j, none⟩ = some (.int .u8 (cur j : Nat)) ∧ w.frozen? ⟨g, o + j, none⟩ = false
/-- w' is w but for block K and what is new -/
structure Chg (K : Nat) (w w' : World) : Prop where
  os : w'.os = w.os
  tape : w'.tape = w.tape
  output : w'.output = w.output
  size : w.heap.size ≤ w'.heap.size
  block : ∀ k, k < w.heap.size → k ≠ K → w'.heap[k]? = w.heap[k]?
namespace Chg
variable {K : Nat} {w w' w'' : World}
theorem refl (K : Nat) (w : World) : Chg K w w := ⟨rfl, rfl, rfl, Nat.le_refl _, fun _ _ _ => rfl⟩
theorem of_below (h : Below w.heap.size w w') : Chg K w w' := ⟨h.os, h.tape, h.output, h.size, fun k hk _ => h.block k hk⟩
theorem trans (h : Chg K w w') (h' : Chg K w' w'') : Chg K w w'' :=
  ⟨h'.os.trans h.os, h'.tape.trans h.tape, h'.output.trans h.output, Nat.le_trans h.size h'.size, fun k hk hn => (h'.block k (Nat.lt_of_lt_of_le hk h.size) hn).trans (h.block k hk hn)⟩
theorem thenNew {L : Nat} (h : Chg K w w') (h' : Chg L w' w'') (hL : w.heap.size ≤ L) : Chg K w w'' :=
  ⟨h'.os.trans h.os, h'.tape.trans h.tape, h'.output.trans h.output, Nat.le_trans h.size h'.size, fun k hk hn => (h'.block k (Nat.lt_of_lt_of_le hk h.size) (by omega)).trans (h.block k hk hn)⟩
theorem thenBelow (h : Chg K w w') (h' : Below w'.heap.size w' w'') : Chg K w w'' := h.trans (of_below h')
theorem below {B : Nat} (h : Chg K w w') (hB : B ≤ w.heap.size) (hK : B ≤ K) : Below B w w' := ⟨h.os, h.tape, h.output, h.size, fun k hk => h.block k (by omega) (by omega)⟩
theorem alloc (h : Chg K w w') (o : Obj) : Chg K w (w'.alloc o) := h.thenBelow ((Below.refl _ _).alloc (Nat.le_refl _) o)
theorem drew (h : Chg K w w') : Chg K w w'.drew := ⟨h.os, h.tape, h.output, h.size, h.block⟩
theorem drewN (h : Chg K w w') (n : Nat) : Chg K w (w'.drewN n) := ⟨h.os, h.tape, h.output, h.size, h.block⟩
theorem setCell (h : Chg K w w') {a : Addr} (ha : a.block = K ∨ w.heap.size ≤ a.block) (v : Value) : Chg K w (w'.setCell a v) := by
  refine ⟨h.os, h.tape, h.output, ?_, fun k hk hn => (Below.heap_setCell w' a v k (by omega)).trans (h.block k hk hn)⟩
  have := h.size
  simpa [World.setCell] using this
theorem setCells (b : Nat) (hb : b = K ∨ w.heap.size ≤ b) : ∀ (vs : List Value) (o : Nat) (w' : World), Chg K w w' → Chg K w (w'.setCells b o vs)
  | [], _, _, h => h
  | v :: r, o, w', h => by
    rw [World.setCells]
    exact setCells b hb r (o + 1) _ (h.setCell (a := ⟨b, o, none⟩) hb v)
theorem cell (h : Chg K w w') {g o : Nat} (hg : g < w.heap.size) (hK : g ≠ K) : w'.cell? ⟨g, o, none⟩ = w.cell? ⟨g, o, none⟩ := World.cell?_of_block (h.block g hg hK)
theorem frozen (h : Chg K w w') {g o : Nat} (hg : g < w.heap.size) (hK : g ≠ K) : w'.frozen? ⟨g, o, none⟩ = w.frozen? ⟨g, o, none⟩ := World.frozen?_of_block (h.block g hg hK)
end Chg
theorem size_setCell (w : World) (a : Addr) (v : Value) : (w.setCell a v).heap.size = w.heap.size := by simp [World.setCell]
theorem size_setCells (b : Nat) : ∀ (vs : List Value) (o : Nat) (w : World), (w.setCells b o vs).heap.size = w.heap.size
  | [], _, _ => rfl
  | v :: r, o, w => by rw [World.setCells, size_setCells b r (o + 1), size_setCell]
theorem bytesL_length (n : Nat) (f : Nat → Nat) : (bytesL n f).length = n := by simp [bytesL]
theorem bytesL_at {n : Nat} {f : Nat → Nat} {j : Nat} (hj : j < n) : (bytesL n f)[j]? = some (.int .u8 (f j : Nat)) := by
  unfold bytesL
  rw [List.getElem?_map, List.getElem?_range hj]; rfl
theorem bytesL_congr {n : Nat} {f g : Nat → Nat} (h : ∀ j, j < n → f j = g j) : bytesL n f = bytesL n g := List.map_congr_left fun j hj => by rw [h j (List.mem_range.1 hj)]
namespace Arr
variable {w w' : World} {g o n : Nat} {cur f : Nat → Nat}
theorem congr (h : Arr w g o n cur) (e : ∀ j, j < n → cur j = f j) : Arr w g o n f := fun j hj => by rw [← e j hj]; exact h j hj
theorem cell (h : Arr w g o n cur) {j k : Nat} (hj : j < n) (hk : k = o + j) : w.cell? ⟨g, k, none⟩ = some (.int .u8 (cur j : Nat)) := by subst hk; exact (h j hj).1
theorem frozen (h : Arr w g o n cur) {j k : Nat} (hj : j < n) (hk : k = o + j) : w.frozen? ⟨g, k, none⟩ = false := by subst hk; exact (h j hj).2
theorem lt (h : Arr w g o n cur) (hn : 0 < n) : g < w.heap.size := block_lt (h 0 hn).1
theorem of_block (h : Arr w g o n cur) (e : w'.heap[g]? = w.heap[g]?) : Arr w' g o n cur := fun j hj => ⟨(World.cell?_of_block e).trans (h j hj).1, (World.frozen?_of_block e).trans (h j hj).2⟩
theorem drewN (h : Arr w g o n cur) (k : Nat) : Arr (w.drewN k) g o n cur := h
theorem drew (h : Arr w g o n cur) : Arr w.drew g o n cur := h
theorem keep (h : Arr w g o n cur) (hb : Below w.heap.size w w') : Arr w' g o n cur := fun j hj => (h.of_block (hb.block g (h.lt (by omega)))) j hj
theorem alloc (h : Arr w g o n cur) (ob : Obj) : Arr (w.alloc ob) g o n cur := h.keep ((Below.refl _ _).alloc (Nat.le_refl _) ob)
theorem chg {K : Nat} (h : Arr w g o n cur) (hc : Chg K w w') (hK : g ≠ K) : Arr w' g o n cur := fun j hj => (h.of_block (hc.block g (h.lt (by omega)) hK)) j hj
theorem setOther (h : Arr w g o n cur) {a : Addr} (ha : g ≠ a.block) (v : Value) : Arr (w.setCell a v) g o n cur := h.of_block (Below.heap_setCell w a v g ha)
theorem setApart (h : Arr w g o n cur) {k : Nat} (hk : k < o ∨ o + n ≤ k) (v : Value) : Arr (w.setCell ⟨g, k, none⟩ v) g o n cur := fun j hj =>
  ⟨(World.cell?_setCell_other w ⟨g, k, none⟩ ⟨g, o + j, none⟩ v (fun e => by have := congrArg Addr.off e; simp at this; omega)).trans (h j hj).1, by rw [World.frozen?_setCell]; exact (h j hj).2⟩
theorem set (h : Arr w g o n cur) {k i : Nat} (hi : i < n) (hk : k = o + i) (x : Nat) {v : Value} (hv : v = .int .u8 (x : Nat)) : Arr (w.setCell ⟨g, k, none⟩ v) g o n (fun j => if j = i then x else cur j) := fun j hj => by
  subst hk hv
  refine ⟨?_, by rw [World.frozen?_setCell]; exact (h j hj).2⟩
  by_cases e : j = i
  · subst e
    rw [World.cell?_setCell_same w _ _ (h j hj).1]
    show _ = some (Value.int .u8 ((if j = j then x else cur j : Nat) : Int))
    rw [if_pos rfl]
  · refine (World.cell?_setCell_other w ⟨g, o + i, none⟩ ⟨g, o + j, none⟩ _ (fun e' => by have := congrArg Addr.off e'; simp at this; omega)).trans ?_
    show _ = some (Value.int .u8 ((if j = i then x else cur j : Nat) : Int))
    rw [if_neg e]; exact (h j hj).1
theorem range (h : Arr w g o n cur) : w.rangeAt g o (bytesL n cur) := fun j v hv => by
  obtain ⟨hj, rfl⟩ := bytesL_get _ _ j v hv
  exact (h j hj).1
theorem sub (h : Arr w g o n cur) {a m o' : Nat} (ha : a + m ≤ n) (ho : o' = o + a) : Arr w g o' m (fun j => cur (a + j)) := fun j hj => by
  subst ho
  rw [Nat.add_assoc]
  exact h (a + j) (by omega)
theorem there (h : Arr w g o n cur) : w.there g o n := fun j hj => ⟨by rw [(h j hj).1]; rfl, (h j hj).2⟩
theorem there' (h : Arr w g o n cur) (f : Nat → Nat) : w.there g o (bytesL n f).toArray.size := by
  rw [List.size_toArray, bytesL_length]; exact h.there
theorem slB (h : Arr w g o n cur) (hb : By n cur) : SlB w (some ⟨g, o, none⟩) n cur := fun hn => ⟨g, o, rfl, h.lt hn, fun j hj => ⟨hb j hj, (h j hj).1⟩⟩
/-- a whole row laid -/
theorem setCells (h : Arr w g o n cur) (f : Nat → Nat) : Arr (w.setCells g o (bytesL n f)) g o n f := fun j hj => by
  refine ⟨?_, ?_⟩
  · exact World.rangeAt_setCells_same w g o (bytesL n f) (by rw [bytesL_length]; exact h.there) j _ (bytesL_at hj)
  · rw [World.frozen?_setCells]; exact (h j hj).2
theorem setCellsOther (h : Arr w g o n cur) {b : Nat} (hb : g ≠ b) (k : Nat) (vs : List Value) : Arr (w.setCells b k vs) g o n cur := fun j hj => by
  have hc : Chg b w (w.setCells b k vs) := Chg.setCells b (Or.inl rfl) vs k w (Chg.refl _ _)
  exact h.chg hc hb j hj
end Arr
theorem setCells_below (w0 w : World) (B b : Nat) (hB : B ≤ b) (vs : List Value) (o : Nat) (h : Below B w0 w) : Below B w0 (w.setCells b o vs) := by
  induction vs generalizing o w with
  | nil => exact h
  | cons v r ih => rw [World.setCells]; exact ih _ _ (h.setCell (p := ⟨b, o, none⟩) hB v)
/-- a block that is made -/
theorem arr_made (w : World) (c : Array Value) (t : TypeId) (n : Nat) (f : Nat → Nat) (hc : c = (bytesL n f).toArray) : Arr (w.alloc (.cells c t)) w.heap.size 0 n f := fun j hj => by
  subst hc
  refine ⟨(World.cell?_alloc_at _ _ _ _ rfl).trans ?_, World.frozen?_alloc_at _ _ _ _ rfl⟩
  show (bytesL n f).toArray[0 + j]? = _
  rw [Nat.zero_add, List.getElem?_toArray]
  exact bytesL_at hj
/-- an array's value -/
abbrev aggB (n : Nat) (f : Nat → Nat) : Value := .agg (bytesL n f).toArray
theorem aggB_congr {n : Nat} {f g : Nat → Nat} (h : ∀ j, j < n → f j = g j) : aggB n f = aggB n g := by unfold aggB; rw [bytesL_congr h]
theorem bytes_one' (k : Nat) (f : Nat → Nat) : (bytesL k f).toArray.all (·.oneCell') = true := all_oneCell_toArray (bytes_one k f)
/-- the load of an array of bytes -/
theorem wpList_loadR {ops : Array Oper} {rest : List Oper} {op : Oper} {a : Act} {w : World} {Q : Exit → Act → World → Prop} (hgd : op.guard = none) (ty : TypeId) (x : Operand) (ho : op.op = .load ty x)
    (b o n : Nat) (hx : a.eval x = .pointer (some ⟨b, o, none⟩)) (f : Nat → Nat) (hc : w.rangeAt b o (bytesL n f)) (d : TypeDesc) (hu : Tryz.prog.underlying ty = some d) (hd : d.isRow = true) (hi : (Tryz.prog.info? ty).map (·.size) = some n)
    (h : wpList Tryz.prog ops Q rest (a.put op.dst (aggB n f)) w) : wpList Tryz.prog ops Q (op :: rest) a w :=
  wpList_load_mid hgd ty x ho b o hx _ d hc hu hd (by rw [bytesL_length]; exact hi) h
theorem wpList_loadB {ops : Array Oper} {rest : List Oper} {op : Oper} {a : Act} {w : World} {Q : Exit → Act → World → Prop} (hgd : op.guard = none) (ty : TypeId) (x : Operand) (ho : op.op = .load ty x)
    (b o n : Nat) (hx : a.eval x = .pointer (some ⟨b, o, none⟩)) (f : Nat → Nat) (hc : Arr w b o n f) (d : TypeDesc) (hu : Tryz.prog.underlying ty = some d) (hd : d.isRow = true) (hi : (Tryz.prog.info? ty).map (·.size) = some n)
    (h : wpList Tryz.prog ops Q rest (a.put op.dst (aggB n f)) w) : wpList Tryz.prog ops Q (op :: rest) a w :=
  wpList_load_mid hgd ty x ho b o hx _ d hc.range hu hd (by rw [bytesL_length]; exact hi) h
/-- the store of an array of bytes -/
theorem wpList_storeB {ops : Array Oper} {rest : List Oper} {op : Oper} {a : Act} {w : World} {Q : Exit → Act → World → Prop} (hgd : op.guard = none) (ty : TypeId) (x y : Operand) (ho : op.op = .store ty x y)
    (b o n : Nat) (f cur : Nat → Nat) (hx : a.eval x = .pointer (some ⟨b, o, none⟩)) (hy : a.eval y = aggB n f) (hc : Arr w b o n cur) (hi : (Tryz.prog.info? ty).map (·.size) = some n)
    (h : ∀ w', Arr w' b o n f → Chg b w w' → wpList Tryz.prog ops Q rest (a.put op.dst undef) w') : wpList Tryz.prog ops Q (op :: rest) a w := by
  refine wpList_store_mid hgd ty x y ho b o (bytesL n f).toArray hx hy (hc.there' f) (by rw [List.size_toArray, bytesL_length]; exact hi) (bytes_one' _ _) ?_
  rw [List.toList_toArray]
  exact h _ (hc.setCells f) (Chg.setCells b (Or.inl rfl) _ _ w (Chg.refl _ _))
/-- a result that is an array of bytes -/
theorem results_cellB {fn : Func} {p : Tmp} {ty : TypeId} (h : fn.results = #[.cell p ty]) (tmps : Array Value) (w : World) (b o n : Nat) (f : Nat → Nat) (hp : tmps.getD p undef = .pointer (some ⟨b, o, none⟩)) (hc : Arr w b o n f)
    (d : TypeDesc) (hu : Tryz.prog.underlying ty = some d) (hd : d.isRow = true) (hi : (Tryz.prog.info? ty).map (·.size) = some n) : (results fn tmps).run Tryz.prog w = .ok (aggB n f) w := by
  have hp' : tmps[p]?.getD undef = .pointer (some ⟨b, o, none⟩) := by simpa using hp
  have hl := run_loadVar_mid (P := Tryz.prog) w b o ty (bytesL n f) d hc.range hu hd (by rw [bytesL_length]; exact hi)
  simp [results, h, hp', asAddr, hl, aggB]
theorem sizeU8 (w : World) : (sizeOf 5).run Tryz.prog w = .ok 1 w := by
  obtain ⟨i, hi, _, hs, _⟩ := info_parts info8
  simp [sizeOf, typeInfo, hi, hs]
/-- a[k] of an array's value -/
theorem index_arr (t : TypeId) (n : Nat) (f : Nat → Nat) (k x : Nat) (hu : Tryz.prog.underlying t = some (.array n 5)) (hk : k < n) (hx : f k = x) (w : World) :
    (Instr.index t (aggB n f) (.int .i64 (k : Nat))).run Tryz.prog w = .ok (.int .u8 (x : Nat)) w := by
  subst hx
  have hz := sizeU8 w
  unfold Instr.index
  simp [asIntOf, Sem.run_bind, run_underlying hu w, hz, part]
  rw [if_pos hk, bytesL_at hk]
  rfl
/-- p[l:h] of an array of bytes behind a pointer -/
theorem sl_arr (t : TypeId) (n g o l h : Nat) (hu : Tryz.prog.underlying t = some (.array n 5)) (hlh : l ≤ h) (hl : l < n) (hh : h ≤ n) (li hi : Int) (el : li = (l : Nat)) (eh : hi = (h : Nat)) (w : World) :
    (Instr.sliceAt t (.pointer (some ⟨g, o, none⟩)) (some (.int .i64 li)) (some (.int .i64 hi)) none).run Tryz.prog w = .ok (.slice (some ⟨g, o + l, none⟩) (h - l) (n - l)) w := by
  subst el eh
  have he : Tryz.prog.elem t = 5 := by simp [Program.elem, hu]
  have hn : Tryz.prog.arrayLen t = n := by simp [Program.arrayLen, hu]
  rw [run_sliceAt_array_lh (h0 := by omega) (h1 := by omega) (h2 := by rw [hn]; omega) (ht := by rw [hn, he]; exact hu), he, sizeU8]
  show Result.ok (slicedAt ⟨g, o, none⟩ _ _ _ 1) w = _
  rw [hn, Int.toNat_natCast, Int.toNat_natCast]
  unfold slicedAt
  rw [if_neg (by omega), Go.WideShapes.add_plain, Nat.mul_one]
/-- (*[n]byte)(b) -/
theorem to_arr (t : TypeId) (n : Nat) (e : TypeId) (hu : Tryz.prog.underlying t = some (.array n e)) (a : Option Addr) (len c : Nat) (hl : n ≤ len) (w : World) :
    (Instr.arrayAt t (.slice a len c)).run Tryz.prog w = .ok (.pointer a) w := by
  unfold Instr.arrayAt
  rw [Sem.run_bind, run_underlying hu w]
  simp [Nat.not_lt.2 hl]
end Go.Proofs.YthmlcmlpmolmoaaGreatDoor
/- Bits of int: nothing here hangs on the program. -/
namespace Go.Proofs.YthmlcmlpmolmoaaGreatDoor

theorem i64_and_nat (a b : Nat) (ha : a < 9223372036854775808) (hb : b < 9223372036854775808) : bits .and .i64 (a : Int) (b : Int) = ((a &&& b : Nat) : Int) := by
  have hx : a &&& b < 2 ^ 63 := Nat.and_lt_two_pow _ (by omega)
  show IntKind.i64.wrap ((BitVec.ofInt 64 (a : Int) &&& BitVec.ofInt 64 (b : Int)).toNat : Int) = _
  rw [BitVec.toNat_and, ofInt_u64 a (by omega), ofInt_u64 b (by omega), IntKind.wrap_i64]
  omega
theorem i64_or_nat (a b : Nat) (ha : a < 9223372036854775808) (hb : b < 9223372036854775808) : bits .or .i64 (a : Int) (b : Int) = ((a ||| b : Nat) : Int) := by
  have hx : a ||| b < 2 ^ 63 := Nat.or_lt_two_pow (by omega) (by omega)
  show IntKind.i64.wrap ((BitVec.ofInt 64 (a : Int) ||| BitVec.ofInt 64 (b : Int)).toNat : Int) = _
  rw [BitVec.toNat_or, ofInt_u64 a (by omega), ofInt_u64 b (by omega), IntKind.wrap_i64]
  omega
theorem i64_xor_nat (a b : Nat) (ha : a < 9223372036854775808) (hb : b < 9223372036854775808) : bits .xor .i64 (a : Int) (b : Int) = ((a ^^^ b : Nat) : Int) := by
  have hx : a ^^^ b < 2 ^ 63 := Nat.xor_lt_two_pow (by omega) (by omega)
  show IntKind.i64.wrap ((BitVec.ofInt 64 (a : Int) ^^^ BitVec.ofInt 64 (b : Int)).toNat : Int) = _
  rw [BitVec.toNat_xor, ofInt_u64 a (by omega), ofInt_u64 b (by omega), IntKind.wrap_i64]
  omega
/-- a mask of k bits, of any int -/
theorem i64_mask (k m : Nat) (hk : k ≤ 62) (hm : m = 2 ^ k - 1) (n : Int) : bits .and .i64 n (m : Int) = n % ((2 ^ k : Nat) : Int) := by
  have hp : 2 ^ k ≤ 2 ^ 62 := Nat.pow_le_pow_right (by decide) hk
  have hp0 : 0 < 2 ^ k := Nat.two_pow_pos k
  have key : (BitVec.ofInt 64 n &&& BitVec.ofInt 64 (m : Int)).toNat = (n % ((2 ^ 64 : Nat) : Int)).toNat % 2 ^ k := by
    rw [BitVec.toNat_and, BitVec.toNat_ofInt, ofInt_u64 m (by omega), hm, Nat.and_two_pow_sub_one_eq_mod]
  show IntKind.i64.wrap ((BitVec.ofInt 64 n &&& BitVec.ofInt 64 (m : Int)).toNat : Nat) = _
  rw [key]
  have hd : (n % ((2 ^ 64 : Nat) : Int)).toNat % 2 ^ k = (n % ((2 ^ k : Nat) : Int)).toNat := by
    apply Int.natCast_inj.1
    have h0 : 0 ≤ n % ((2 ^ 64 : Nat) : Int) := Int.emod_nonneg _ (by decide)
    have h1 : 0 ≤ n % ((2 ^ k : Nat) : Int) := Int.emod_nonneg _ (by omega)
    rw [Int.natCast_emod, Int.toNat_of_nonneg h0, Int.toNat_of_nonneg h1]
    refine Int.emod_emod_of_dvd n ?_
    exact Int.natCast_dvd_natCast.2 (Nat.pow_dvd_pow 2 (by omega))
  rw [hd]
  have h1 : 0 ≤ n % ((2 ^ k : Nat) : Int) := Int.emod_nonneg _ (by omega)
  have h2 : n % ((2 ^ k : Nat) : Int) < ((2 ^ k : Nat) : Int) := Int.emod_lt_of_pos _ (by omega)
  rw [Int.toNat_of_nonneg h1, IntKind.wrap_i64]
  omega
end Go.Proofs.YthmlcmlpmolmoaaGreatDoor
/- Contracts of package field. -/
namespace Go.Proofs.YthmlcmlpmolmoaaGreatDoor
open Go.RowKit

theorem and128 : ∀ a, a < 256 → (a &&& 128) = if a < 128 then 0 else 128 := by decide +kernel
theorem and7 : ∀ a, a < 8 → (a &&& 7) = a := by decide +kernel
theorem ret_u8 {a b : Nat} (h : a = b) : Ending.returned (.int .u8 (a : Int)) = .returned (.int .u8 (b : Int)) := by rw [h]
theorem ret_u8' {a : Int} {b : Nat} (h : a = (b : Int)) : Ending.returned (.int .u8 a) = .returned (.int .u8 (b : Int)) := by rw [h]

theorem gmk_done : ∀ (k a p : Nat), gmk k a 0 p = p
  | 0, _, _ => rfl
  | k + 1, a, p => by
    simp only [gmk]
    rw [if_neg (by decide)]
    exact gmk_done k _ _

theorem double_any (a : Nat) (w : World) (ha : a < 256) :
    Calls Tryz.prog 224 #[.int .u8 a] w fun e w' => e = .returned (.int .u8 (dbl a : Nat)) ∧ w = w' := by
  have hand : bits BinOp.and .u8 (a : Int) 128 = (((a &&& 128) : Nat) : Int) := u8_and_nat a 128 ha (by decide)
  rw [and128 a ha] at hand
  by_cases h : a < 128
  · rw [if_pos h] at hand
    have HD := Lib.hid (show dbl a = 2 * a from if_pos h)
    go_enter Tryz.func224, Tryz.ntmps224
    go_wp2
    go_ret
    exact ⟨ret_u8' (by rw [HD.out]; omega), rfl⟩
  · rw [if_neg h] at hand
    have HD := Lib.hid (show dbl a = (2 * a - 256) ^^^ 27 from if_neg h)
    have HX := Lib.hid (show bits BinOp.xor .u8 ((a : Int) * 2 % 256) 27 = ((dbl a : Nat) : Int) by
      rw [HD.out, show (a : Int) * 2 % 256 = ((2 * a - 256 : Nat) : Int) by omega]
      exact u8_xor_nat _ 27 (by omega) (by decide))
    go_enter Tryz.func224, Tryz.ntmps224
    go_wp2
    go_ret
    exact ⟨ret_u8' HX.out, rfl⟩

theorem mul_any (a b : Nat) (w : World) (ha : a < 256) (hb : b < 256) :
    Calls Tryz.prog 202 #[.int .u8 a, .int .u8 b] w fun e w' => e = .returned (.int .u8 (gm a b : Nat)) ∧ w = w' := by
  go_enter Tryz.func202, Tryz.ntmps202
  go_wp2_with fail
  go_loop [0, 1, 5] (fun x y p => ∃ k a' b' p' : Nat, k ≤ 8 ∧ b' < 2 ^ k ∧ a' < 256 ∧ p' < 256 ∧ gmk k a' b' p' = gm a b ∧ x = .int .u8 a' ∧ y = .int .u8 b' ∧ p = .int .u8 p') (fun _ y _ => (intOf y).toNat)
  case atStart => exact ⟨8, a, b, 0, Nat.le_refl _, hb, ha, by decide, rfl, rfl, rfl, rfl⟩
  case round =>
    obtain ⟨k, a', b', p', hk, hb', ha', hp', hg, rfl, rfl, rfl⟩ := hrel
    have HG := Lib.hid hg
    clear hg
    have hand : bits BinOp.and .u8 (b' : Int) 1 = (((b' &&& 1) : Nat) : Int) := u8_and_nat b' 1 (Nat.lt_of_lt_of_le hb' (Nat.le_trans (Nat.pow_le_pow_right (by decide) hk) (by decide))) (by decide)
    rw [Nat.and_one_is_mod] at hand
    by_cases h0 : 0 < b'
    · have hxl := xor8 hp' ha'
      have hx : bits BinOp.xor .u8 (p' : Int) (a' : Int) = ((p' ^^^ a' : Nat) : Int) := u8_xor_nat p' a' hp' ha'
      obtain ⟨k, rfl⟩ : ∃ j, k = j + 1 := by
        cases k with
        | zero => exact absurd hb' (by simp; omega)
        | succ j => exact ⟨j, rfl⟩
      have hb2 : b' / 2 < 2 ^ k := by rw [Nat.pow_succ] at hb'; omega
      have HB := Lib.hid hb2
      clear hb2 hb'
      by_cases hodd : b' % 2 = 1
      · have HG2 := Lib.hid (show gmk k (dbl a') (b' / 2) (p' ^^^ a') = gm a b by rw [← HG.out]; simp only [gmk, if_pos hodd])
        go_wp2_with (go_at_call 224; refine (double_any _ _ (by assumption)).mono ?_; rintro e w' ⟨rfl, rfl⟩)
        go_round
        case rel => exact ⟨k, dbl a', b' / 2, p' ^^^ a', by omega, HB.out, dbl_lt ha', hxl, HG2.out, rfl, by go_num, rfl⟩
        case measure => simp [intOf]; omega
      · have HG2 := Lib.hid (show gmk k (dbl a') (b' / 2) p' = gm a b by rw [← HG.out]; simp only [gmk, if_neg hodd])
        have hev : ((b' : Int) % 2 == 1) = false := by rw [beq_eq_false_iff_ne]; omega
        go_wp2_with (go_at_call 224; refine (double_any _ _ (by assumption)).mono ?_; rintro e w' ⟨rfl, rfl⟩)
        go_round
        case rel => exact ⟨k, dbl a', b' / 2, p', by omega, HB.out, dbl_lt ha', hp', HG2.out, rfl, by go_num, rfl⟩
        case measure => simp [intOf]; omega
    · obtain rfl : b' = 0 := by omega
      rw [gmk_done] at HG
      clear hand hb' h0
      go_wp2_with fail
      go_ret
      exact ⟨ret_u8 HG.out, rfl⟩
theorem rot_any (a n : Nat) (w : World) (ha : a < 256) (hn : n < 8) :
    Calls Tryz.prog 238 #[.int .u8 a, .int .i64 n] w fun e w' => e = .returned (.int .u8 (rotl a n : Nat)) ∧ w = w' := by
  have hand : bits BinOp.and .u64 (n : Int) 7 = ((n &&& 7 : Nat) : Int) := u64_and_nat n 7 (by omega) (by decide)
  rw [and7 n hn] at hand
  have HX := Lib.hid (show bits BinOp.or .u8 ((a : Int) * 2 ^ n % 256) ((a : Int) / 2 ^ (8 - n)) = ((rotl a n : Nat) : Int) by
    have h1 : (a : Int) * 2 ^ n % 256 = ((a * 2 ^ n % 256 : Nat) : Int) := by simp
    have h2 : (a : Int) / 2 ^ (8 - n) = ((a / 2 ^ (8 - n) : Nat) : Int) := by simp
    rw [h1, h2]
    exact u8_or_nat _ _ (Nat.mod_lt _ (by decide)) (Nat.lt_of_le_of_lt (Nat.div_le_self _ _) ha))
  go_enter Tryz.func238, Tryz.ntmps238
  go_wp2
  go_ret
  exact ⟨ret_u8' HX.out, rfl⟩

theorem left_any (a n : Nat) (t : Int) (w : World) (ha : a < 256) (hn : n < 8) (ht : t = (n : Int)) :
    Calls Tryz.prog 223 #[.int .u8 a, .int .i64 t] w fun e w' => e = .returned (.int .u8 (rotl a n : Nat)) ∧ w = w' := by
  subst ht
  go_enter Tryz.func223, Tryz.ntmps223
  go_wp2_with (go_at_call 238; refine (rot_any _ _ _ (by assumption) (by assumption)).mono ?_; rintro e w' ⟨rfl, rfl⟩)
  go_ret
  exact ⟨rfl, rfl⟩

theorem pow_any (a : Nat) (n : Int) (w : World) (ha : a < 256) (hn : n ≤ 9223372036854775807) :
    Calls Tryz.prog 227 #[.int .u8 a, .int .i64 n] w fun e w' => e = .returned (.int .u8 (gpow a n.toNat : Nat)) ∧ w = w' := by
  go_enter Tryz.func227, Tryz.ntmps227
  go_wp2_with fail
  go_step3
  go_wp2_with fail
  go_step3
  go_wp2_with fail
  go_loop [1, 5, 6] (fun x p s => ∃ (m : Int) (p' s' : Nat), m ≤ 9223372036854775807 ∧ p' < 256 ∧ s' < 256 ∧ gm p' (gpow s' m.toNat) = gpow a n.toNat ∧ x = .int .i64 m ∧ p = .int .u8 p' ∧ s = .int .u8 s') (fun x _ _ => (intOf x).toNat)
  case atStart => exact ⟨n, 1, a, hn, by decide, ha, one_gm (gpow_lt ha _), rfl, rfl, rfl⟩
  case round =>
    obtain ⟨m, p', s', hm, hp', hs', hg, rfl, rfl, rfl⟩ := hrel
    have HG := Lib.hid hg
    clear hg
    by_cases h0 : 0 < m
    · obtain ⟨k, rfl⟩ := Int.eq_ofNat_of_zero_le (show 0 ≤ m by omega)
      have hk : k ≤ 9223372036854775807 := by omega
      have hand : bits BinOp.and .i64 (k : Int) 1 = (((k &&& 1) : Nat) : Int) := i64_and_nat k 1 (by omega) (by decide)
      rw [Nat.and_one_is_mod] at hand
      have HT := Lib.hid (show ((k : Int) / 2).toNat = k / 2 by omega)
      have hsl := gm_lt s' hs'
      by_cases hodd : k % 2 = 1
      · have hpl := gm_lt s' hp'
        have HG2 := Lib.hid (show gm (gm p' s') (gpow (gm s' s') ((k : Int) / 2).toNat) = gpow a n.toNat by
          rw [← HG.out, HT.out, gpow_sq hs', gm_assoc hp' hs' (gpow_lt hs' _)]
          rw [show gm s' (gpow s' (2 * (k / 2))) = gpow s' (1 + 2 * (k / 2)) by rw [gpow_add hs']; congr 1; exact (one_gm hs').symm]
          congr 2
          omega)
        have hev : ((k : Int) % 2 == 0) = false := by rw [beq_eq_false_iff_ne]; omega
        go_wp2_with (go_at_call 202; refine (mul_any _ _ _ (by assumption) (by assumption)).mono ?_; rintro e w' ⟨rfl, rfl⟩)
        go_round
        case rel => exact ⟨(k : Int) / 2, _, _, by omega, hpl, hsl, HG2.out, rfl, rfl, rfl⟩
        case measure => simp [intOf]; omega
      · have HG2 := Lib.hid (show gm p' (gpow (gm s' s') ((k : Int) / 2).toNat) = gpow a n.toNat by
          rw [← HG.out, HT.out, gpow_sq hs']
          congr 2
          omega)
        have hev : ((k : Int) % 2 == 0) = true := by rw [beq_iff_eq]; omega
        go_wp2_with (go_at_call 202; refine (mul_any _ _ _ (by assumption) (by assumption)).mono ?_; rintro e w' ⟨rfl, rfl⟩)
        go_round
        case rel => exact ⟨(k : Int) / 2, _, _, by omega, hp', hsl, HG2.out, rfl, rfl, rfl⟩
        case measure => simp [intOf]; omega
    · rw [show m.toNat = 0 by omega] at HG
      have HP := Lib.hid (show p' = gpow a n.toNat by rw [← HG.out]; exact (gm_one hp').symm)
      clear HG
      go_wp2_with fail
      go_ret
      exact ⟨ret_u8 HP.out, rfl⟩

theorem inv_any (a : Nat) (w : World) (ha : a < 256) :
    Calls Tryz.prog 222 #[.int .u8 a] w fun e w' => e = .returned (.int .u8 (ginv a : Nat)) ∧ w = w' := by
  go_enter Tryz.func222, Tryz.ntmps222
  go_wp2_with (go_at_call 227; refine (pow_any _ _ _ (by assumption) (by decide)).mono ?_; rintro e w' ⟨rfl, rfl⟩)
  go_ret
  exact ⟨rfl, rfl⟩

theorem x8 {a b : Nat} (ha : a < 256) (hb : b < 256) : bits BinOp.xor .u8 (a : Int) (b : Int) = ((a ^^^ b : Nat) : Int) := u8_xor_nat a b ha hb
theorem rotl_lt {a n : Nat} (ha : a < 256) (hn : n < 8) : rotl a n < 256 := by
  have : ∀ n, n < 8 → ∀ a, a < 256 → rotl a n < 256 := by decide +kernel
  exact this n hn a ha

set_option maxHeartbeats 800000 in
theorem box_any (a : Nat) (w : World) (ha : a < 256) :
    Calls Tryz.prog 201 #[.int .u8 a] w fun e w' => e = .returned (.int .u8 (box a : Nat)) ∧ w = w' := by
  have HB := Lib.hid (show gbox (ginv a) = box a from rfl)
  have hi := ginv_lt ha
  have HI := Lib.hid (inv_any a w ha)
  generalize ginv a = i at *
  have l1 := rotl_lt (n := 1) hi (by decide)
  have l2 := rotl_lt (n := 2) hi (by decide)
  have l3 := rotl_lt (n := 3) hi (by decide)
  have l4 := rotl_lt (n := 4) hi (by decide)
  have e1 := x8 hi l1
  have k1 := xor8 hi l1
  have e2 := x8 k1 l2
  have k2 := xor8 k1 l2
  have e3 := x8 k2 l3
  have k3 := xor8 k2 l3
  have e4 := x8 k3 l4
  have k4 := xor8 k3 l4
  have e5 : bits BinOp.xor .u8 ((i ^^^ rotl i 1 ^^^ rotl i 2 ^^^ rotl i 3 ^^^ rotl i 4 : Nat) : Int) 99 = ((i ^^^ rotl i 1 ^^^ rotl i 2 ^^^ rotl i 3 ^^^ rotl i 4 ^^^ 99 : Nat) : Int) := x8 k4 (show 99 < 256 by decide)
  have HB2 := Lib.hid (show (i ^^^ rotl i 1 ^^^ rotl i 2 ^^^ rotl i 3 ^^^ rotl i 4 ^^^ 99) = box a from HB.out)
  clear HB
  go_enter Tryz.func201, Tryz.ntmps201
  go_wp2_with (first | (go_at_call 222; refine HI.out.mono ?_; rintro e w' ⟨rfl, rfl⟩) | (go_at_call 223; (first | (with_reducible refine (left_any i 1 1 w hi (by decide) (by decide)).mono ?_) | (with_reducible refine (left_any i 2 2 w hi (by decide) (by decide)).mono ?_) | (with_reducible refine (left_any i 3 3 w hi (by decide) (by decide)).mono ?_) | (with_reducible refine (left_any i 4 4 w hi (by decide) (by decide)).mono ?_)); rintro e w' ⟨rfl, rfl⟩))
  go_ret
  exact ⟨ret_u8 HB2.out, rfl⟩
end Go.Proofs.YthmlcmlpmolmoaaGreatDoor
/- sync.Once, one goroutine: Do with a method value, by that method's contract. -/
namespace Go.Proofs.YthmlcmlpmolmoaaGreatDoor
open Go.MuLone

noncomputable abbrev muLink : Go.Conc.Locks.MuLink := { lock := 150, unlock := 151, ilock := 184, iunlock := 185, lockSlow := 213, unlockSlow := 216, disable := 209, enable := 211, acquire := 212, relMerge := 214, cas32 := 210, add32 := 215, tMutex := 81, tIMutex := 79, tPMutex := Tryz.f150.params.getD 0 0, tPIMutex := Tryz.f184.params.getD 0 0, tPI32 := 258, tUP := 219, tNoCopy := 74, tU32 := 75 }
/-- what a pointer's type says -/
theorem ptr_facts {p t : TypeId} (hu : Tryz.prog.underlying p = some (.pointer t)) (hi : (Tryz.prog.info? p).map (fun i => (i.zero, i.size)) = some (some (.pointer none), 1)) :
    (∀ w, Sem.run Tryz.prog (underlying p) w = .ok (.pointer t) w) ∧ (∀ w, Sem.run Tryz.prog (Go.sizeOf p) w = .ok 1 w) ∧ (∀ w, Sem.run Tryz.prog (isAgg p) w = .ok false w) ∧ (∀ w, Sem.run Tryz.prog (zeroValue p) w = .ok (.pointer none) w) := by
  have h1 : ∀ w, Sem.run Tryz.prog (underlying p) w = .ok (.pointer t) w := run_underlying hu
  refine ⟨h1, fun w => ?_, fun w => ?_, (zero_of_info hi).1⟩
  · have := (zero_of_info hi).2
    cases hq : Tryz.prog.info? p with
    | none => simp [hq] at this
    | some i => simp [hq] at this; simp [sizeOf, typeInfo, hq, this]
  · unfold isAgg
    rw [Sem.run_bind, h1]
    rfl
theorem muLib : Go.Conc.Locks.MuLib Tryz.prog muLink := by
  have pM := ptr_facts (p := muLink.tPMutex) (t := 81) (by kernel_rfl) (by kernel_rfl)
  have pIM := ptr_facts (p := muLink.tPIMutex) (t := 79) (by kernel_rfl) (by kernel_rfl)
  exact ⟨Tryz.func150, Tryz.func151, Tryz.func184, Tryz.func185, Tryz.func209, Tryz.func211, Tryz.func212, Tryz.func214, Tryz.func210, Tryz.func215, Tryz.underlying79, Tryz.runUnderlying79, Tryz.sizeOf79, Tryz.isAgg79, Tryz.zeroValue79, Tryz.underlying81, Tryz.runUnderlying81, Tryz.sizeOf81, Tryz.isAgg81, Tryz.zeroValue81, (by kernel_rfl), pM.1, pM.2.1, pM.2.2.1, pM.2.2.2, (by kernel_rfl), pIM.1, pIM.2.1, pIM.2.2.1, pIM.2.2.2, Tryz.underlying258, Tryz.runUnderlying258, Tryz.sizeOf258, Tryz.isAgg258, Tryz.zeroValue258, Tryz.underlying219, Tryz.runUnderlying219, Tryz.sizeOf219, Tryz.isAgg219, Tryz.zeroValue219, Tryz.underlying74, Tryz.runUnderlying74, Tryz.sizeOf74, Tryz.isAgg74, Tryz.zeroValue74, Tryz.underlying21, Tryz.runUnderlying21, Tryz.sizeOf21, Tryz.isAgg21, Tryz.zeroValue21, (by kernel_rfl)⟩

/-- '(*sync/atomic.Bool).Store(true)', entered as a deferred call -/
theorem store_deferred (a : Addr) (x : Value) (u : FrameMode) (w : World) (hc : w.cell? a = some x) (hz : w.frozen? a = false) :
    CallsD Tryz.prog 152 #[.pointer (some a), .bool true] u w fun e u' w' => u' = u ∧ (e = .returned (.tuple #[]) ∧ w' = w.drew.setCell a (.int .u32 1)) := by
  have hc' : w.drew.cell? a = some x := by go_simp
  have hz' : w.drew.frozen? a = false := by go_simp
  have hst := run_call_store (P := Tryz.prog) Tryz.func186 (by kernel_rfl) (by kernel_rfl) (by kernel_rfl) (by kernel_rfl) (k := .u32) (y := 1) hc' hz'
  go_enter_d Tryz.func152, Tryz.ntmps152
  go_wp2
  go_region_calls
  all_goals (go_end0; exact ⟨rfl, rfl⟩)

/-- what a world must have of a Once: its word and its lock -/
structure OnceAt (w : World) (b off : Nat) (d m : Int) : Prop where
  done : w.cell? ⟨b, off, none⟩ = some (.int .u32 d)
  lock : w.cell? ⟨b, off + 1, none⟩ = some (.int .i32 m)
  fdone : w.frozen? ⟨b, off, none⟩ = false
  flock : w.frozen? ⟨b, off + 1, none⟩ = false

/-- '(*sync.Once).Do', done already -/
theorem do_done (b off : Nat) (fv : Value) (m : Int) (w : World) (h : OnceAt w b off 1 m) :
    Calls Tryz.prog 78 #[.pointer (some ⟨b, off, none⟩), fv] w fun e w' => e = .returned (.tuple #[]) ∧ w' = w := by
  have hl := run_call_load (P := Tryz.prog) Tryz.func149 (by kernel_rfl) (by kernel_rfl) (by kernel_rfl) .u32 (by kernel_rfl) h.done
  have hnot : ∀ (x : Bool) (w : World), (Op.unary .not (.bool x)).run Tryz.prog w = .ok (.bool (!x)) w := fun _ _ => rfl
  go_enter Tryz.func78, Tryz.ntmps78
  go_wp2
  go_end0
  exact ⟨rfl, rfl⟩
end Go.Proofs.YthmlcmlpmolmoaaGreatDoor
/- sync.Once's slow road with a method, by that method's contract. -/
namespace Go.Proofs.YthmlcmlpmolmoaaGreatDoor
open Go.MuLone

set_option maxRecDepth 100000 in
set_option maxHeartbeats 1600000 in
theorem slow_any (b off : Nat) (rv : Value) (w : World) (h : OnceAt w b off 0 0) (R : World → Prop)
    (hF : Calls Tryz.prog 171 #[rv] (w.setCell ⟨b, off + 1, none⟩ (.int .i32 1)) fun e w' => e = .returned (.tuple #[]) ∧ R w') (hR : ∀ w', R w' → OnceAt w' b off 0 1) :
    Calls Tryz.prog 119 #[.pointer (some ⟨b, off, none⟩), .func (.func 171) #[rv] #[]] w fun e w' => e = .returned (.tuple #[]) ∧
      ∃ w1, R w1 ∧ w' = (w1.drew.setCell ⟨b, off, none⟩ (.int .u32 1)).setCell ⟨b, off + 1, none⟩ (.int .i32 0) := by
  have hl := run_call_load (P := Tryz.prog) Tryz.func149 (by kernel_rfl) (by kernel_rfl) (by kernel_rfl) .u32 (by kernel_rfl) (w := w.setCell ⟨b, off + 1, none⟩ (.int .i32 1)) (a := ⟨b, off, none⟩) (x := 0) ((World.cell?_setCell_other _ ⟨b, off + 1, none⟩ ⟨b, off, none⟩ _ (by simp)).trans h.done)
  have hnot : ∀ (x : Bool) (w : World), (Op.unary .not (.bool x)).run Tryz.prog w = .ok (.bool (!x)) w := fun _ _ => rfl
  have HR := Lib.hid hR
  have HF := Lib.hid hF
  have H := Lib.hid h
  clear hR hF h
  go_enter_defers Tryz.func119, Tryz.ntmps119
  go_wp2_with (first | (go_at_call 150; refine (lock_free muLib ⟨b, off + 1, none⟩ _ H.out.lock H.out.flock).mono ?_; rintro e w' ⟨rfl, rfl⟩) | (go_at_call 118; go_in) | (go_at_call 171; refine HF.out.mono ?_; rintro e w' ⟨rfl, hw⟩; have HW := Lib.hid hw; clear hw))
  have h1 := HR.out _ HW.out
  -- the door: two deferred calls, the last laid first
  refine leaves_cons (f := 152) (args := #[.pointer (some ⟨b, off, none⟩), .bool true]) (by simp) (by simp [go_sem]) ?_
  refine (store_deferred ⟨b, off, none⟩ (.int .u32 0) .returning _ h1.done h1.fdone).mono ?_
  rintro e u' w'' ⟨rfl, rfl, rfl⟩
  refine leaves_cons (f := 151) (args := #[.pointer (some ⟨b, off + 1, none⟩)]) (by simp [settle]) (by simp [go_sem]) ?_
  refine (unlock_deferred muLib ⟨b, off + 1, none⟩ _ _ ?_ (by simp [h1.flock])).mono ?_
  · refine (World.cell?_setCell_other _ ⟨b, off, none⟩ ⟨b, off + 1, none⟩ _ (by simp)).trans ?_
    rw [World.cell?_drew]
    exact h1.lock
  rintro e u' w'' ⟨rfl, rfl, rfl⟩
  exact ⟨_, results_none rfl _ _ _, rfl, w', HW.out, rfl⟩

/-- '(*sync.Once).Do', not yet done, the lock free -/
theorem do_first (b off : Nat) (rv : Value) (w : World) (h : OnceAt w b off 0 0) (R : World → Prop)
    (hF : Calls Tryz.prog 171 #[rv] (w.setCell ⟨b, off + 1, none⟩ (.int .i32 1)) fun e w' => e = .returned (.tuple #[]) ∧ R w') (hR : ∀ w', R w' → OnceAt w' b off 0 1) :
    Calls Tryz.prog 78 #[.pointer (some ⟨b, off, none⟩), .func (.func 171) #[rv] #[]] w fun e w' => e = .returned (.tuple #[]) ∧
      ∃ w1, R w1 ∧ w' = (w1.drew.setCell ⟨b, off, none⟩ (.int .u32 1)).setCell ⟨b, off + 1, none⟩ (.int .i32 0) := by
  have hl := run_call_load (P := Tryz.prog) Tryz.func149 (by kernel_rfl) (by kernel_rfl) (by kernel_rfl) .u32 (by kernel_rfl) h.done
  have hnot : ∀ (x : Bool) (w : World), (Op.unary .not (.bool x)).run Tryz.prog w = .ok (.bool (!x)) w := fun _ _ => rfl
  have HS := Lib.hid (slow_any b off rv w h R hF hR)
  clear hR hF h
  go_enter Tryz.func78, Tryz.ntmps78
  go_wp2_with (first | (go_at_call 119; refine HS.out.mono ?_; rintro e w' ⟨rfl, hw⟩; have HW := Lib.hid hw; clear hw) | (go_at_call 118; go_in))
  go_end0
  exact ⟨rfl, HW.out⟩
end Go.Proofs.YthmlcmlpmolmoaaGreatDoor
/- Contracts of package aes: the key in memory; words of the schedule. -/
namespace Go.Proofs.YthmlcmlpmolmoaaGreatDoor
open Go.RowKit

/-- a key in block g -/
structure KeyMem (w : World) (g n : Nat) (d m : Int) (S B U D : Nat → Nat) : Prop where
  words : w.cell? ⟨g, 0, none⟩ = some (.int .i64 (n : Nat))
  sch : Arr w g 1 240 S
  once : OnceAt w g 241 d m
  box : Arr w g 244 256 B
  unbox : Arr w g 500 256 U
  dbl : Arr w g 756 256 D
namespace KeyMem
variable {w w' : World} {g n : Nat} {d m : Int} {S B U D : Nat → Nat}
theorem lt (h : KeyMem w g n d m S B U D) : g < w.heap.size := block_lt h.words
theorem of_block (h : KeyMem w g n d m S B U D) (e : w'.heap[g]? = w.heap[g]?) : KeyMem w' g n d m S B U D :=
  ⟨(World.cell?_of_block e).trans h.words, h.sch.of_block e, ⟨(World.cell?_of_block e).trans h.once.done, (World.cell?_of_block e).trans h.once.lock, (World.frozen?_of_block e).trans h.once.fdone, (World.frozen?_of_block e).trans h.once.flock⟩,
    h.box.of_block e, h.unbox.of_block e, h.dbl.of_block e⟩
theorem keep (h : KeyMem w g n d m S B U D) (hb : Below w.heap.size w w') : KeyMem w' g n d m S B U D := h.of_block (hb.block g h.lt)
theorem chg {K : Nat} (h : KeyMem w g n d m S B U D) (hc : Chg K w w') (hK : g ≠ K) : KeyMem w' g n d m S B U D := h.of_block (hc.block g h.lt hK)
theorem congr {S' B' U' D' : Nat → Nat} (h : KeyMem w g n d m S B U D) (h1 : ∀ j, j < 240 → S j = S' j) (h2 : ∀ j, j < 256 → B j = B' j) (h3 : ∀ j, j < 256 → U j = U' j) (h4 : ∀ j, j < 256 → D j = D' j) : KeyMem w g n d m S' B' U' D' :=
  ⟨h.words, h.sch.congr h1, h.once, h.box.congr h2, h.unbox.congr h3, h.dbl.congr h4⟩
theorem cell_apart {w : World} {g k j : Nat} (hkj : k ≠ j) (v : Value) : (w.setCell ⟨g, k, none⟩ v).cell? ⟨g, j, none⟩ = w.cell? ⟨g, j, none⟩ :=
  World.cell?_setCell_other w ⟨g, k, none⟩ ⟨g, j, none⟩ v (fun e => hkj (congrArg Addr.off e))
theorem once_apart {w : World} {g o k : Nat} {d m : Int} (h : OnceAt w g o d m) (h1 : k ≠ o) (h2 : k ≠ o + 1) (v : Value) : OnceAt (w.setCell ⟨g, k, none⟩ v) g o d m :=
  ⟨(cell_apart h1 v).trans h.done, (cell_apart h2 v).trans h.lock, by rw [World.frozen?_setCell]; exact h.fdone, by rw [World.frozen?_setCell]; exact h.flock⟩
theorem setSch (h : KeyMem w g n d m S B U D) {i k : Nat} (hi : i < 240) (hk : k = 1 + i) (x : Nat) {v : Value} (hv : v = .int .u8 (x : Nat)) : KeyMem (w.setCell ⟨g, k, none⟩ v) g n d m (fun j => if j = i then x else S j) B U D :=
  ⟨(cell_apart (by omega) v).trans h.words, h.sch.set hi hk x hv, once_apart h.once (by omega) (by omega) v, h.box.setApart (by omega) v, h.unbox.setApart (by omega) v, h.dbl.setApart (by omega) v⟩
theorem setBox (h : KeyMem w g n d m S B U D) {i k : Nat} (hi : i < 256) (hk : k = 244 + i) (x : Nat) {v : Value} (hv : v = .int .u8 (x : Nat)) : KeyMem (w.setCell ⟨g, k, none⟩ v) g n d m S (fun j => if j = i then x else B j) U D :=
  ⟨(cell_apart (by omega) v).trans h.words, h.sch.setApart (by omega) v, once_apart h.once (by omega) (by omega) v, h.box.set hi hk x hv, h.unbox.setApart (by omega) v, h.dbl.setApart (by omega) v⟩
theorem setUnbox (h : KeyMem w g n d m S B U D) {i k : Nat} (hi : i < 256) (hk : k = 500 + i) (x : Nat) {v : Value} (hv : v = .int .u8 (x : Nat)) : KeyMem (w.setCell ⟨g, k, none⟩ v) g n d m S B (fun j => if j = i then x else U j) D :=
  ⟨(cell_apart (by omega) v).trans h.words, h.sch.setApart (by omega) v, once_apart h.once (by omega) (by omega) v, h.box.setApart (by omega) v, h.unbox.set hi hk x hv, h.dbl.setApart (by omega) v⟩
theorem setDbl (h : KeyMem w g n d m S B U D) {i k : Nat} (hi : i < 256) (hk : k = 756 + i) (x : Nat) {v : Value} (hv : v = .int .u8 (x : Nat)) : KeyMem (w.setCell ⟨g, k, none⟩ v) g n d m S B U (fun j => if j = i then x else D j) :=
  ⟨(cell_apart (by omega) v).trans h.words, h.sch.setApart (by omega) v, once_apart h.once (by omega) (by omega) v, h.box.setApart (by omega) v, h.unbox.setApart (by omega) v, h.dbl.set hi hk x hv⟩
theorem setLock (h : KeyMem w g n d m S B U D) (m' : Int) {v : Value} (hv : v = .int .i32 m') : KeyMem (w.setCell ⟨g, 242, none⟩ v) g n d m' S B U D := by
  subst hv
  exact ⟨(cell_apart (by omega) _).trans h.words, h.sch.setApart (by omega) _, ⟨(cell_apart (by omega) _).trans h.once.done, World.cell?_setCell_same w ⟨g, 242, none⟩ _ h.once.lock, by rw [World.frozen?_setCell]; exact h.once.fdone, by rw [World.frozen?_setCell]; exact h.once.flock⟩,
    h.box.setApart (by omega) _, h.unbox.setApart (by omega) _, h.dbl.setApart (by omega) _⟩
theorem setDone (h : KeyMem w g n d m S B U D) (d' : Int) {v : Value} (hv : v = .int .u32 d') : KeyMem (w.setCell ⟨g, 241, none⟩ v) g n d' m S B U D := by
  subst hv
  exact ⟨(cell_apart (by omega) _).trans h.words, h.sch.setApart (by omega) _, ⟨World.cell?_setCell_same w ⟨g, 241, none⟩ _ h.once.done, (cell_apart (by omega) _).trans h.once.lock, by rw [World.frozen?_setCell]; exact h.once.fdone, by rw [World.frozen?_setCell]; exact h.once.flock⟩,
    h.box.setApart (by omega) _, h.unbox.setApart (by omega) _, h.dbl.setApart (by omega) _⟩
theorem drew (h : KeyMem w g n d m S B U D) : KeyMem w.drew g n d m S B U D := h.of_block rfl
theorem drewN (h : KeyMem w g n d m S B U D) (k : Nat) : KeyMem (w.drewN k) g n d m S B U D := h.of_block rfl
theorem alloc (h : KeyMem w g n d m S B U D) (o : Obj) : KeyMem (w.alloc o) g n d m S B U D := h.keep ((Below.refl _ _).alloc (Nat.le_refl _) o)
end KeyMem

theorem last_any (g n : Nat) (w : World) (hn : n ≤ 8) (hw : w.cell? ⟨g, 0, none⟩ = some (.int .i64 (n : Nat))) :
    Calls Tryz.prog 173 #[.pointer (some ⟨g, 0, none⟩)] w fun e w' => e = .returned (.int .i64 ((n + 6 : Nat) : Int)) ∧ w = w' := by
  go_enter Tryz.func173, Tryz.ntmps173
  go_wp2
  go_ret
  exact ⟨ret_int (by omega), rfl⟩

theorem size88 : (Tryz.prog.info? 267).map (·.size) = some 4 := by kernel_rfl
theorem size65 : (Tryz.prog.info? 228).map (·.size) = some 16 := by kernel_rfl
set_option maxRecDepth 100000 in
set_option maxHeartbeats 800000 in
theorem word_any (g i : Nat) (S : Nat → Nat) (w : World) (hi : i < 60) (hS : Arr w g 1 240 S) :
    Calls Tryz.prog 225 #[.pointer (some ⟨g, 0, none⟩), .int .i64 (i : Nat)] w fun e w' => e = .returned (aggB 4 (fun j => S (4 * i + j))) ∧ Below w.heap.size w w' := by
  have hsl := sl_arr 167 240 g 1 (4 * i) (4 * i + 4) Tryz.underlying167 (by omega) (by omega) (by omega) ((i : Int) * 4) (((i : Int) + 1) * 4) (by omega) (by omega)
  rw [show 4 * i + 4 - 4 * i = 4 by omega] at hsl
  have hpa := to_arr 267 4 5 Tryz.underlying267 (some ⟨g, 1 + 4 * i, none⟩) 4 (240 - 4 * i) (Nat.le_refl _)
  have HL := Lib.hid ((hS.alloc (.cells #[.int .u8 0, .int .u8 0, .int .u8 0, .int .u8 0] 267)).sub (a := 4 * i) (m := 4) (by omega) rfl)
  have HN := Lib.hid (arr_made w #[.int .u8 0, .int .u8 0, .int .u8 0, .int .u8 0] 267 4 (fun _ => 0) rfl)
  have HB := Lib.hid ((Chg.refl w.heap.size w).alloc (.cells #[.int .u8 0, .int .u8 0, .int .u8 0, .int .u8 0] 267))
  clear hS
  go_enter Tryz.func225, Tryz.ntmps225
  go_wp2_with (first | (refine wpList_loadB rfl 267 (.tmp 14) rfl g (1 + 4 * i) 4 rfl _ HL.out _ Tryz.underlying267 rfl size88 ?_) | (refine wpList_storeB rfl 267 (.tmp 4) (.tmp 15) rfl w.heap.size 0 4 _ _ rfl rfl HN.out size88 ?_; intro w2 h1 h2; have HR := Lib.hid h1; have HC := Lib.hid h2; clear h1 h2))
  exact bodyPost_ret (results_cellB rfl _ _ w.heap.size 0 4 _ rfl HR.out _ Tryz.underlying267 rfl size88) rfl ⟨rfl, (HB.out.trans HC.out).below (Nat.le_refl _) (Nat.le_refl _)⟩

/-- the words' bytes, by the box -/
theorem boxed_any (g : Nat) (B f : Nat → Nat) (w : World) (hB : Arr w g 244 256 B) (hf : By 4 f) :
    Calls Tryz.prog 226 #[.pointer (some ⟨g, 0, none⟩), aggB 4 f] w fun e w' => e = .returned (aggB 4 (fun j => B (f j))) ∧ Below w.heap.size w w' := by
  have HF := Lib.hid hf
  have HBX := Lib.hid ((hB.alloc (.cells (bytesL 4 f).toArray 267)).alloc (.cells #[.int .u8 0, .int .u8 0, .int .u8 0, .int .u8 0] 267))
  have HL := Lib.hid ((arr_made w _ 267 4 f rfl).alloc (.cells #[.int .u8 0, .int .u8 0, .int .u8 0, .int .u8 0] 267))
  have HN := Lib.hid (arr_made (w.alloc (.cells (bytesL 4 f).toArray 267)) #[.int .u8 0, .int .u8 0, .int .u8 0, .int .u8 0] 267 4 (fun _ => 0) rfl)
  have HC := Lib.hid (((Below.refl w.heap.size w).alloc (Nat.le_refl _) (.cells (bytesL 4 f).toArray 267)).alloc (by simp) (.cells #[.int .u8 0, .int .u8 0, .int .u8 0, .int .u8 0] 267))
  have hs1 : (w.alloc (.cells (bytesL 4 f).toArray 267)).heap.size = w.heap.size + 1 := by simp
  rw [hs1] at HN
  have HG := Lib.hid (hB.lt (by decide))
  clear hf hB hs1
  go_enter Tryz.func226, Tryz.ntmps226
  go_wp2_with ((refine wpList_loadB rfl 267 (.tmp 3) rfl w.heap.size 0 4 rfl _ HL.out _ Tryz.underlying267 rfl size88 ?_))
  generalize hW : (w.alloc (.cells (bytesL 4 f).toArray 267)).alloc (.cells #[.int .u8 0, .int .u8 0, .int .u8 0, .int .u8 0] 267) = W at *
  clear hW
  go_wp2_with fail
  go_loopw [8] (fun i wr => ∃ k : Nat, k ≤ 4 ∧ i = .int .i64 k ∧ Arr wr w.heap.size 0 4 (fun j => if j < k then B (f j) else f j) ∧ Arr wr (w.heap.size + 1) 0 4 (fun _ => 0) ∧ Arr wr g 244 256 B ∧ Below w.heap.size w wr) (fun i _ => 4 - (intOf i).toNat)
  case atStart => exact ⟨0, by decide, rfl, HL.out, HN.out, HBX.out, HC.out⟩
  case round =>
    obtain ⟨k, hk, rfl, h1, h2, h3, h4⟩ := hrel
    have H1 := Lib.hid h1
    have H2 := Lib.hid h2
    have H3 := Lib.hid h3
    have H4 := Lib.hid h4
    clear h1 h2 h3 h4
    by_cases hlt : k < 4
    · have hfk := HF.out k hlt
      obtain ⟨x, hx⟩ : ∃ x, f k = x := ⟨_, rfl⟩
      have hix := index_arr 267 4 f k x Tryz.underlying267 hlt hx
      rw [hx] at hfk
      have hc1 := H3.out.cell hfk rfl
      have hc2 := H1.out.cell hlt (Nat.zero_add k).symm
      have hf2 := H1.out.frozen hlt (Nat.zero_add k).symm
      rw [if_neg (Nat.lt_irrefl k), hx] at hc2
      have HX := Lib.hid hx
      clear hx
      go_wp2_with fail
      have hn2 : w.heap.size + 1 ≠ w.heap.size := by omega
      go_roundw
      case rel => exact ⟨k + 1, by omega, by go_num, (H1.out.set hlt (Nat.zero_add k).symm (B x) rfl).congr fun j _ => by
          by_cases e : j = k
          · subst e; rw [if_pos rfl, if_pos (Nat.lt_succ_self _), HX.out]
          · rw [if_neg e]
            by_cases h : j < k
            · rw [if_pos h, if_pos (by omega)]
            · rw [if_neg h, if_neg (by omega)], H2.out.setOther hn2 _, H3.out.setOther (Nat.ne_of_lt HG.out) _, H4.out.setCell (p := ⟨w.heap.size, k, none⟩) (Nat.le_refl _) _⟩
      case measure => simp [intOf]; omega
    · obtain rfl : k = 4 := by omega
      have HR := Lib.hid (H1.out.congr (f := fun j => B (f j)) fun j hj => by rw [if_pos hj])
      go_wp2_with (first | (refine wpList_loadB rfl 267 (.tmp 3) rfl w.heap.size 0 4 rfl _ HR.out _ Tryz.underlying267 rfl size88 ?_) | (refine wpList_storeB rfl 267 (.tmp 4) (.tmp 21) rfl (w.heap.size + 1) 0 4 _ _ rfl rfl H2.out size88 ?_; intro w2 h1 h2; have HR2 := Lib.hid h1; have HC2 := Lib.hid h2; clear h1 h2))
      exact bodyPost_ret (results_cellB rfl _ _ (w.heap.size + 1) 0 4 _ rfl HR2.out _ Tryz.underlying267 rfl size88) rfl ⟨rfl, H4.out.trans (HC2.out.below H4.out.size (Nat.le_succ _))⟩
end Go.Proofs.YthmlcmlpmolmoaaGreatDoor
/- Contracts of package aes: one word more of the schedule. -/
namespace Go.Proofs.YthmlcmlpmolmoaaGreatDoor
open Go.RowKit

theorem aggB4 (f : Nat → Nat) : aggB 4 f = .agg #[.int .u8 (f 0 : Nat), .int .u8 (f 1 : Nat), .int .u8 (f 2 : Nat), .int .u8 (f 3 : Nat)] := rfl
/-- the schedule with word i put in -/
def putW (n i : Nat) (S : Nat → Nat) (x : Nat) : Nat := if x / 4 = i then nxt n S i (x % 4) else S x
/-- behind j bytes of word i -/
def putWj (n i j : Nat) (S : Nat → Nat) (x : Nat) : Nat := if x / 4 = i ∧ x % 4 < j then nxt n S i (x % 4) else S x
theorem putWj_zero (n i : Nat) (S : Nat → Nat) (x : Nat) : S x = putWj n i 0 S x := by unfold putWj; rw [if_neg (by omega)]
theorem putWj_four (n i : Nat) (S : Nat → Nat) (x : Nat) : putWj n i 4 S x = putW n i S x := by
  unfold putWj putW
  by_cases h : x / 4 = i
  · rw [if_pos ⟨h, by omega⟩, if_pos h]
  · rw [if_neg (fun e => h e.1), if_neg h]
theorem putWj_step (n i j : Nat) (S : Nat → Nat) (hj : j < 4) (x : Nat) : (if x = 4 * i + j then nxt n S i j else putWj n i j S x) = putWj n i (j + 1) S x := by
  unfold putWj
  by_cases h : x = 4 * i + j
  · rw [if_pos h, if_pos (by omega), show x % 4 = j by omega]
  · rw [if_neg h]
    by_cases h2 : x / 4 = i ∧ x % 4 < j
    · rw [if_pos h2, if_pos (by omega)]
    · rw [if_neg h2, if_neg (by omega)]
theorem kt_by {n i j : Nat} {S : Nat → Nat} (hn : 0 < n) (hi : n ≤ i) (hj : j < 4) (h : By (4 * i) S) : kt n S i j < 256 := by
  unfold kt
  split
  · refine xor8 (box_lt (h _ (by omega))) ?_
    split
    · exact gpow_lt (by decide) _
    · decide
  · split
    · exact box_lt (h _ (by omega))
    · exact h _ (by omega)
set_option maxHeartbeats 1600000 in
theorem make_any (g n i : Nat) (m : Int) (S U D : Nat → Nat) (w : World) (hn : n = 4 ∨ n = 8) (hi : n ≤ i) (hi2 : i < 60) (hS : By 240 S) (hk : KeyMem w g n 0 m S box U D) :
    Calls Tryz.prog 203 #[.pointer (some ⟨g, 0, none⟩), .int .i64 (i : Nat)] w fun e w' => e = .returned (.tuple #[]) ∧ KeyMem w' g n 0 m (putW n i S) box U D ∧ Chg g w w' := by
  have HW1 := Lib.hid fun i1 (h : i = i1 + 1) => word_any g i1 S w (by omega) hk.sch
  have HK := Lib.hid hk
  have HS := Lib.hid hS
  have HG := Lib.hid hk.lt
  obtain ⟨i1, hi1⟩ : ∃ i1, i = i1 + 1 := ⟨i - 1, by omega⟩
  obtain ⟨i2, hi3⟩ : ∃ i2, i = i2 + n := ⟨i - n, by omega⟩
  have HI1 := Lib.hid hi1
  have HI2 := Lib.hid hi3
  have hs1 : (i : Int) - 1 = (i1 : Nat) := by omega
  have hs2 : (i : Int) - (n : Nat) = (i2 : Nat) := by omega
  have hn4 : (4 : Int) ≤ (n : Nat) := by omega
  have hn8 : ((n : Nat) : Int) ≤ 8 := by omega
  have hn0 : ¬ ((n : Nat) : Int) = 0 := by omega
  have hway : ((((i : Int) % (n : Nat) == 0) = false ∧ ((n : Int) == 8) = false ∧ ∀ j, kt n S i j = S (4 * i1 + j)) ∨ (((i : Int) % (n : Nat) == 0) = false ∧ ((n : Int) == 8) = true ∧ ((i : Int) % 8 == 4) = false ∧ ∀ j, kt n S i j = S (4 * i1 + j))) ∨
      (((i : Int) % (n : Nat) == 0) = false ∧ ((n : Int) == 8) = true ∧ ((i : Int) % 8 == 4) = true ∧ ∀ j, kt n S i j = box (S (4 * i1 + j))) ∨
      (((i : Int) % (n : Nat) == 0) = true ∧ ∀ j, kt n S i j = box (S (4 * i1 + (j + 1) % 4)) ^^^ (if j = 0 then gpow 2 (i / n - 1) else 0)) := by
    have e1 : i - 1 = i1 := by omega
    by_cases hm : i % n = 0
    · right; right
      refine ⟨by rw [beq_iff_eq]; omega, fun j => ?_⟩
      unfold kt
      rw [if_pos hm, e1]
    · have hm' : ((i : Int) % (n : Nat) == 0) = false := by rw [beq_eq_false_iff_ne]; omega
      by_cases h8 : n = 8
      · have h8' : ((n : Int) == 8) = true := by rw [beq_iff_eq]; omega
        by_cases h4 : i % 8 = 4
        · right; left
          refine ⟨hm', h8', by rw [beq_iff_eq]; omega, fun j => ?_⟩
          unfold kt
          rw [if_neg hm, if_pos ⟨h8, h4⟩, e1]
        · left; right
          refine ⟨hm', h8', by rw [beq_eq_false_iff_ne]; omega, fun j => ?_⟩
          unfold kt
          rw [if_neg hm, if_neg (fun e => h4 e.2), e1]
      · left; left
        refine ⟨hm', by rw [beq_eq_false_iff_ne]; omega, fun j => ?_⟩
        unfold kt
        rw [if_neg hm, if_neg (fun e => h8 e.1), e1]
  have HN := Lib.hid hn
  clear hk hS hi1 hi3 hn
  go_enter Tryz.func203, Tryz.ntmps203
  go_wp2_with fail
  refine (HW1.out i1 HI1.out).mono ?_
  rintro e w1 ⟨rfl, hb1⟩
  have HK1 := Lib.hid (HK.out.keep hb1)
  have HB1 := Lib.hid hb1
  clear hb1
  have HA1 := Lib.hid (arr_made w1 #[.int .u8 0, .int .u8 0, .int .u8 0, .int .u8 0] 267 4 (fun _ => 0) rfl)
  have HTB := Lib.hid (Nat.ne_of_lt HK1.out.lt)
  generalize htb : w1.heap.size = tb at HTB
  have HTE := Lib.hid htb
  clear htb
  rcases hway with (⟨ht1, ht2, ht3⟩ | ⟨ht1, ht2, ht4, ht3⟩) | ⟨ht1, ht2, ht4, ht3⟩ | ⟨ht1, ht3⟩
  all_goals
    have HKT := Lib.hid ht3
    clear ht3
  focus
    -- each way ends in the same facts: w2, its word tb
    go_wp2_with ((refine wpList_storeB rfl 267 (.tmp 4) (.tmp 10) rfl w1.heap.size 0 4 _ _ rfl rfl HA1.out size88 ?_; intro w2 h1 h2; have HR2 := Lib.hid h1; have HC2 := Lib.hid h2; clear h1 h2; have HK2 := Lib.hid ((HK1.out.alloc _).chg HC2.out (Nat.ne_of_lt HK1.out.lt)); have hw2 := HK2.out.words; have HB2 := Lib.hid (HB1.out.trans (((Chg.refl w1.heap.size w1).alloc _).trans HC2.out |>.below HB1.out.size HB1.out.size))))
    have HT := Lib.hid (HR2.out.congr (f := kt n S i) fun j _ => (HKT.out j).symm)
    rw [HTE.out] at HT ⊢
    have HB := HB2
    clear HR2 HC2 HA1 HK1 HB1 HKT HTE HB2 ht1 ht2
  rotate_left
  focus
    go_wp2_with ((refine wpList_storeB rfl 267 (.tmp 4) (.tmp 10) rfl w1.heap.size 0 4 _ _ rfl rfl HA1.out size88 ?_; intro w2 h1 h2; have HR2 := Lib.hid h1; have HC2 := Lib.hid h2; clear h1 h2; have HK2 := Lib.hid ((HK1.out.alloc _).chg HC2.out (Nat.ne_of_lt HK1.out.lt)); have hw2 := HK2.out.words; have HB2 := Lib.hid (HB1.out.trans (((Chg.refl w1.heap.size w1).alloc _).trans HC2.out |>.below HB1.out.size HB1.out.size))))
    have HT := Lib.hid (HR2.out.congr (f := kt n S i) fun j _ => (HKT.out j).symm)
    rw [HTE.out] at HT ⊢
    have HB := HB2
    clear HR2 HC2 HA1 HK1 HB1 HKT HTE HB2 ht1 ht2 ht4
  rotate_left
  focus
    go_wp2_with (first | (refine wpList_storeB rfl 267 (.tmp 4) (.tmp 10) rfl w1.heap.size 0 4 _ _ rfl rfl HA1.out size88 ?_; intro w2 h1 h2; have HR2 := Lib.hid h1; have HC2 := Lib.hid h2; clear h1 h2; have HK2 := Lib.hid ((HK1.out.alloc _).chg HC2.out (Nat.ne_of_lt HK1.out.lt)); have hw2 := HK2.out.words; have HB2 := Lib.hid (HB1.out.trans (((Chg.refl w1.heap.size w1).alloc _).trans HC2.out |>.below HB1.out.size HB1.out.size))) | (refine wpList_loadB rfl 267 (.tmp 4) rfl w1.heap.size 0 4 rfl _ HR2.out _ Tryz.underlying267 rfl size88 ?_))
    refine (boxed_any g box _ w2 HK2.out.box (fun j hj => HS.out _ (by have := HI1.out; omega))).mono ?_
    rintro e w3 ⟨rfl, hb3⟩
    have HK3 := Lib.hid (HK2.out.keep hb3)
    have HR3 := Lib.hid (HR2.out.keep hb3)
    have HB3 := Lib.hid (HB2.out.trans (hb3.mono HB2.out.size))
    clear hb3
    go_wp2_with ((refine wpList_storeB rfl 267 (.tmp 4) (.tmp 55) rfl w1.heap.size 0 4 _ _ rfl rfl HR3.out size88 ?_; intro w4 h1 h2; have HR4 := Lib.hid h1; have HC4 := Lib.hid h2; clear h1 h2; have HK4 := Lib.hid (HK3.out.chg HC4.out (Nat.ne_of_lt HK1.out.lt)); have hw4 := HK4.out.words; have HB4 := Lib.hid (HB3.out.trans (HC4.out.below HB3.out.size HB1.out.size))))
    have HT := Lib.hid (HR4.out.congr (f := kt n S i) fun j _ => (HKT.out j).symm)
    rw [HTE.out] at HT ⊢
    have HB := HB4
    clear HR2 HC2 HA1 HK1 HB1 HKT HTE HB2 HR3 HB3 HR4 HC4 HB4 HK2 HK3 ht1 ht2 ht4 hw2
    generalize w4 = w2 at *
    have HK2 := HK4
    clear HK4
  rotate_left
  focus
    go_wp2_with (first | ((refine wpList_storeB rfl 267 (.tmp 4) (.tmp 10) rfl w1.heap.size 0 4 _ _ rfl rfl HA1.out size88 ?_; intro w2 h1 h2; have HR2 := Lib.hid h1; have HC2 := Lib.hid h2; clear h1 h2; have HK2 := Lib.hid ((HK1.out.alloc _).chg HC2.out (Nat.ne_of_lt HK1.out.lt)); have hw2 := HK2.out.words; have HB2 := Lib.hid (HB1.out.trans (((Chg.refl w1.heap.size w1).alloc _).trans HC2.out |>.below HB1.out.size HB1.out.size))); have hc0 := HR2.out.cell (j := 0) (by decide) rfl; have hc1 := HR2.out.cell (j := 1) (by decide) rfl; have hc2 := HR2.out.cell (j := 2) (by decide) rfl; have hc3 := HR2.out.cell (j := 3) (by decide) rfl))
    refine (boxed_any g box (fun j => S (4 * i1 + (j + 1) % 4)) w2 HK2.out.box (fun j hj => HS.out _ (by have := HI1.out; omega))).mono ?_
    rintro e w3 ⟨rfl, hb3⟩
    have HK3 := Lib.hid (HK2.out.keep hb3)
    have HR3 := Lib.hid (HR2.out.keep hb3)
    have HB3 := Lib.hid (HB2.out.trans (hb3.mono HB2.out.size))
    clear hb3
    go_wp2_with ((refine wpList_storeB rfl 267 (.tmp 4) (.tmp 29) rfl w1.heap.size 0 4 _ _ rfl rfl HR3.out size88 ?_; intro w4 h1 h2; have HR4 := Lib.hid h1; have HC4 := Lib.hid h2; clear h1 h2; have HK4 := Lib.hid (HK3.out.chg HC4.out (Nat.ne_of_lt HK1.out.lt)); have hw4 := HK4.out.words; have HB4 := Lib.hid (HB3.out.trans (HC4.out.below HB3.out.size HB1.out.size)); have hd0 := HR4.out.cell (j := 0) (by decide) rfl; have hf0 := HR4.out.frozen (j := 0) (by decide) rfl))
    have hxl := box_lt (HS.out (4 * i1 + (0 + 1) % 4) (by have := HI1.out; omega))
    have HP0 := Lib.hid (show box (S (4 * i1 + (0 + 1) % 4)) ^^^ gpow 2 (i / n - 1) = kt n S i 0 by rw [HKT.out 0, if_pos rfl])
    have HPj := Lib.hid (show ∀ j, j ≠ 0 → box (S (4 * i1 + (j + 1) % 4)) = kt n S i j from fun j hj => by rw [HKT.out j, if_neg hj, Nat.xor_zero])
    have HR5 := Lib.hid (((HR4.out.set (k := 0) (i := 0) (by decide) rfl (box (S (4 * i1 + (0 + 1) % 4)) ^^^ gpow 2 (i / n - 1)) rfl).congr (f := kt n S i) fun j _ => by
      by_cases e : j = 0
      · subst e; rw [if_pos rfl, HP0.out]
      · rw [if_neg e, HPj.out j e]).drew)
    have HK5 := Lib.hid ((HK4.out.chg ((Chg.refl w1.heap.size w4).setCell (a := ⟨w1.heap.size, 0, none⟩) (Or.inl rfl) (.int .u8 ((box (S (4 * i1 + (0 + 1) % 4)) ^^^ gpow 2 (i / n - 1) : Nat) : Int))) (Nat.ne_of_lt HK1.out.lt)).drew)
    have HB5 := Lib.hid ((HB4.out.setCell (p := ⟨w1.heap.size, 0, none⟩) HB1.out.size (.int .u8 ((box (S (4 * i1 + (0 + 1) % 4)) ^^^ gpow 2 (i / n - 1) : Nat) : Int))).drew)
    obtain ⟨q, hq⟩ : ∃ q, i / n - 1 = q := ⟨_, rfl⟩
    rw [hq] at HR5 HK5 HB5
    have hdv : ((i / n : Nat) : Int) = (i : Int) / (n : Nat) := by simp
    have hq1 : 1 ≤ i / n := by
      rcases HN.out with h | h <;> subst h <;> omega
    have hq2 : i / n ≤ 60 := Nat.le_trans (Nat.div_le_self _ _) (by omega)
    have HE := Lib.hid (show IntKind.i64.wrap (wrap64 ((i : Int) / (n : Nat)) - 1) = (q : Nat) by
      rw [← hdv, show wrap64 ((i / n : Nat) : Int) = ((q + 1 : Nat) : Int) by unfold wrap64; omega, IntWalk.i64_in _ (by omega)]; omega)
    have hpl : gpow 2 q < 256 := gpow_lt (by decide) q
    have HPW := Lib.hid fun (t : Int) (ht : t = (q : Nat)) w => (show Calls Tryz.prog 227 #[.int .u8 2, .int .i64 t] w fun e w' => e = .returned (.int .u8 (gpow 2 q : Nat)) ∧ w = w' by subst ht; exact pow_any 2 (q : Nat) w (by decide) (by omega))
    generalize box (S (4 * i1 + (0 + 1) % 4)) = x at *
    generalize hgp : gpow 2 q = y at *
    have hx := x8 hxl hpl
    clear hdv hq1 hq2 hq hgp hc0 hc1 hc2 hc3
    go_region_with (go_at_call 227; refine (HPW.out _ HE.out _).mono ?_; rintro e w' ⟨rfl, rfl⟩)
    all_goals
      generalize hw2' : (w4.setCell ⟨w1.heap.size, 0, none⟩ (.int .u8 ((x ^^^ y : Nat) : Int))).drew = wc at *
      rw [HTE.out] at HR5 ⊢
      have HT := HR5
      have HB := HB5
      clear HR2 HC2 HA1 HK1 HB1 HKT HTE HB2 HR3 HB3 HR4 HC4 HB4 HK2 HK3 HK4 hw4 hf0 hd0 HPW HP0 HPj HR5 HB5 ht1 hw2 HE hx hw2' w4 w3 w2
      have HK2 := HK5
      clear HK5
      have hw2 := HK2.out.words
  all_goals
    go_wp2_with fail
    refine (word_any g i2 S _ (by omega) HK2.out.sch).mono ?_
    rintro e w3 ⟨rfl, hb3⟩
    have HK3 := Lib.hid ((HK2.out.keep hb3).alloc (.cells #[.int .u8 0, .int .u8 0, .int .u8 0, .int .u8 0] 267))
    have HT3 := Lib.hid ((HT.out.keep hb3).alloc (.cells #[.int .u8 0, .int .u8 0, .int .u8 0, .int .u8 0] 267))
    have HB3 := Lib.hid (((HB.out.trans (hb3.mono HB.out.size))).alloc (Nat.le_trans HB.out.size hb3.size) (.cells #[.int .u8 0, .int .u8 0, .int .u8 0, .int .u8 0] 267))
    have HA3 := Lib.hid (arr_made w3 #[.int .u8 0, .int .u8 0, .int .u8 0, .int .u8 0] 267 4 (fun _ => 0) rfl)
    have HL3 := Lib.hid (show tb < w3.heap.size ∧ g < w3.heap.size ∧ w.heap.size ≤ w3.heap.size from ⟨Nat.lt_of_lt_of_le (HT.out.lt (by decide)) hb3.size, Nat.lt_of_lt_of_le HK2.out.lt hb3.size, Nat.le_trans HB.out.size hb3.size⟩)
    clear hb3 HK2 HT HB
    go_wp2_with ((refine wpList_storeB rfl 267 (.tmp 5) (.tmp 63) rfl w3.heap.size 0 4 _ _ rfl rfl HA3.out size88 ?_; intro w4 h1 h2; have HO4 := Lib.hid h1; have HC4 := Lib.hid h2; clear h1 h2; have HK4 := Lib.hid (HK3.out.chg HC4.out (Nat.ne_of_lt HL3.out.2.1)); have HT4 := Lib.hid (HT3.out.chg HC4.out (Nat.ne_of_lt HL3.out.1)); have HB4 := Lib.hid (HB3.out.trans (HC4.out.below HB3.out.size HL3.out.2.2))))
    generalize hob : w3.heap.size = ob at *
    clear HC4 HA3 HB3 HT3 HK3
    go_loopw [64] (fun v wr => ∃ k : Nat, k ≤ 4 ∧ v = .int .i64 k ∧ KeyMem wr g n 0 m (putWj n i k S) box U D ∧ Arr wr tb 0 4 (kt n S i) ∧ Arr wr ob 0 4 (fun j => S (4 * i2 + j)) ∧ Chg g w wr) (fun v _ => 4 - (intOf v).toNat)
    case atStart => exact ⟨0, by decide, rfl, HK4.out.congr (fun j _ => putWj_zero n i S j) (fun _ _ => rfl) (fun _ _ => rfl) (fun _ _ => rfl), HT4.out, HO4.out, Chg.of_below HB4.out⟩
    case round =>
      obtain ⟨k, hk, rfl, h1, h2, h3, h4⟩ := hrel
      have H1 := Lib.hid h1
      have H2 := Lib.hid h2
      have H3 := Lib.hid h3
      have H4 := Lib.hid h4
      clear h1 h2 h3 h4
      by_cases hlt : k < 4
      · have hc1 := H2.out.cell hlt (Nat.zero_add k).symm
        have hc2 := H3.out.cell hlt (Nat.zero_add k).symm
        have hi4 : 4 * i + k < 240 := by omega
        have hc3 := H1.out.sch.cell hi4 (show 1 + (i * 4 + k) = 1 + (4 * i + k) by omega)
        have hf3 := H1.out.sch.frozen hi4 (show 1 + (i * 4 + k) = 1 + (4 * i + k) by omega)
        have hw5 : 1 + (i * 4 + k) = 1 + (4 * i + k) := by omega
        have HM5 := Lib.hid ((H1.out.setSch (k := 1 + (i * 4 + k)) hi4 (by omega) (S (4 * i2 + k) ^^^ kt n S i k) rfl).drew)
        have HC5 := Lib.hid ((H4.out.setCell (a := ⟨g, 1 + (i * 4 + k), none⟩) (Or.inl rfl) (.int .u8 ((S (4 * i2 + k) ^^^ kt n S i k : Nat) : Int))).drew)
        have HT5 := Lib.hid ((H2.out.setOther (a := ⟨g, 1 + (i * 4 + k), none⟩) HTB.out.symm (.int .u8 ((S (4 * i2 + k) ^^^ kt n S i k : Nat) : Int))).drew)
        have HO5 := Lib.hid ((H3.out.setOther (a := ⟨g, 1 + (i * 4 + k), none⟩) (Nat.ne_of_gt HL3.out.2.1) (.int .u8 ((S (4 * i2 + k) ^^^ kt n S i k : Nat) : Int))).drew)
        clear hw5
        have htl : kt n S i k < 256 := kt_by (by have := HN.out; omega) hi hlt (fun x hx => HS.out x (by omega))
        have hol : S (4 * i2 + k) < 256 := HS.out _ (by have := HI2.out; omega)
        have HX := Lib.hid (show S (4 * i2 + k) ^^^ kt n S i k = nxt n S i k by unfold nxt; rw [show i - n = i2 by have := HI2.out; omega])
        generalize kt n S i k = y at *
        generalize S (4 * i2 + k) = x at *
        have hx := x8 hol htl
        go_wp2_with fail
        go_region
        all_goals
          generalize (wr.setCell ⟨g, 1 + (i * 4 + k), none⟩ (.int .u8 ((x ^^^ y : Nat) : Int))).drew = W5 at *
          clear hc1 hc2 hc3 hf3
          go_wp2_with fail
          go_roundw
          case rel => exact ⟨k + 1, by omega, by go_num, HM5.out.congr (fun j _ => by rw [HX.out]; exact putWj_step n i k S hlt j) (fun _ _ => rfl) (fun _ _ => rfl) (fun _ _ => rfl), HT5.out, HO5.out, HC5.out⟩
          case measure => simp [intOf]; omega
      · obtain rfl : k = 4 := by omega
        go_wp2_with fail
        go_end0
        exact ⟨rfl, H1.out.congr (fun j _ => putWj_four n i S j) (fun _ _ => rfl) (fun _ _ => rfl) (fun _ _ => rfl), H4.out⟩
end Go.Proofs.YthmlcmlpmolmoaaGreatDoor
