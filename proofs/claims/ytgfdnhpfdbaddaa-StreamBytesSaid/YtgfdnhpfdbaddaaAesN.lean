/- AES reckoned in numbers: for small cases, by the kernel. Nothing here hangs on the program. -/
import Derived.Test.YtgfdnhpfdbaddaaAes
namespace Go.Proofs.Ytgfdnhpfdbaddaa

/-- byte j of a number -/
def nb (N j : Nat) : Nat := N / 256 ^ j % 256
theorem nb_lt (N j : Nat) : nb N j < 256 := Nat.mod_lt _ (by decide)
/-- bytes, as a number -/
def npack : Nat → (Nat → Nat) → Nat
  | 0, _ => 0
  | m + 1, f => npack m f + f m * 256 ^ m
theorem npack_lt {f : Nat → Nat} : ∀ m, By m f → npack m f < 256 ^ m
  | 0, _ => Nat.zero_lt_one
  | m + 1, h => by
    have ih := npack_lt m (fun j hj => h j (by omega))
    have h1 : f m * 256 ^ m ≤ 255 * 256 ^ m := Nat.mul_le_mul_right _ (by have := h m (Nat.lt_succ_self m); omega)
    have e : 256 ^ (m + 1) = 256 * 256 ^ m := by rw [Nat.pow_succ, Nat.mul_comm]
    show npack m f + f m * 256 ^ m < _
    rw [e]
    omega
theorem nb_lo {A B m j : Nat} (hj : j < m) : nb (A + B * 256 ^ m) j = nb A j := by
  unfold nb
  have e : B * 256 ^ m = B * 256 ^ (m - j - 1) * 256 * 256 ^ j := by
    rw [Nat.mul_assoc, Nat.mul_assoc, ← Nat.pow_succ', ← Nat.pow_add]
    congr 2
    omega
  rw [e, Nat.add_mul_div_right _ _ (Nat.pow_pos (by decide)), Nat.add_mul_mod_self_right]
theorem nb_hi {A B m j : Nat} (hA : A < 256 ^ m) : nb (A + B * 256 ^ m) (m + j) = nb B j := by
  unfold nb
  rw [Nat.pow_add, ← Nat.div_div_eq_div_mul, Nat.add_mul_div_right _ _ (Nat.pow_pos (by decide)), Nat.div_eq_of_lt hA, Nat.zero_add]
theorem nb_npack {f : Nat → Nat} : ∀ m, By m f → ∀ j, j < m → nb (npack m f) j = f j
  | 0, _, _, hj => absurd hj (Nat.not_lt_zero _)
  | m + 1, h, j, hj => by
    show nb (npack m f + f m * 256 ^ m) j = f j
    by_cases e : j < m
    · rw [nb_lo e]
      exact nb_npack m (fun i hi => h i (by omega)) j e
    · obtain rfl : j = m := by omega
      have := nb_hi (B := f j) (j := 0) (npack_lt j (fun i hi => h i (by omega)))
      rw [Nat.add_zero] at this
      rw [this]
      unfold nb
      rw [Nat.pow_zero, Nat.div_one, Nat.mod_eq_of_lt (h j (Nat.lt_succ_self j))]
/-- a number, reckoned before it is used -/
def force (x : Nat) (k : Nat → Nat) : Nat :=
  match x with
  | 0 => k 0
  | m + 1 => k (m + 1)
theorem force_eq (x : Nat) (k : Nat → Nat) : force x k = k x := by cases x <;> rfl
/-- the box of each byte -/
def sbN : Nat := 2869618975290639062594974519597816386035077209210385677284518162336985023502962151465775969507961862820568736543004676439868535775640188584098917533413284844376797297285941524888791401501466624530423689326528054213168201056672989590893583853414110162539122864583953358348775951166211353578440977400428507475679327181038682772945817200201960445064847785221508011893952350688324234443749897213621340677040612747745615276448919507935121141307752692835344166708617454322778699219895865633266409040561742768581056182730443599545881830075941537620590442514083341749674612746994879540562701631131184186066652929592955206755
def sbx (a : Nat) : Nat := nb sbN a
set_option maxRecDepth 100000 in
theorem sbx_box {a : Nat} (h : a < 256) : box a = sbx a := by
  have key : ∀ a, a < 256 → gbox (gfast a) = sbx a := by decide +kernel
  unfold box
  rw [ginv_fast h]
  exact key a h
def wN (n S i j : Nat) : Nat :=
  nb S (4 * (i - n) + j) ^^^ (if i % n = 0 then sbx (nb S (4 * (i - 1) + (j + 1) % 4)) ^^^ (if j = 0 then gpow 2 (i / n - 1) else 0)
    else if n = 8 ∧ i % 8 = 4 then sbx (nb S (4 * (i - 1) + j)) else nb S (4 * (i - 1) + j))
theorem wN_nxt (n S i j : Nat) : wN n S i j = nxt n (nb S) i j := by
  unfold wN nxt kt
  rw [sbx_box (nb_lt _ _), sbx_box (nb_lt _ _)]
def sGo (n : Nat) : Nat → Nat → Nat → Nat
  | 0, _, S => S
  | f + 1, i, S => force (S + npack 4 (wN n S i) * 256 ^ (4 * i)) fun S' => sGo n f (i + 1) S'
theorem sGo_ok {n : Nat} {key : Nat → Nat} (hn : 0 < n) : ∀ f i S, n ≤ i → i + f ≤ 4 * (n + 7) → S < 256 ^ (4 * i) → (∀ x, x < 4 * i → nb S x = ks n key x) → ∀ x, x < 4 * (i + f) → nb (sGo n f i S) x = ks n key x
  | 0, _, _, _, _, _, h, x, hx => h x hx
  | f + 1, i, S, hi, hf, hS, h, x, hx => by
    show nb (force _ _) x = _
    rw [force_eq]
    have hw : By 4 (wN n S i) := fun j hj => by
      rw [wN_nxt]
      exact nxt_by hn hi hj (fun y _ => nb_lt S y)
    have hlt : S + npack 4 (wN n S i) * 256 ^ (4 * i) < 256 ^ (4 * (i + 1)) := by
      have h1 := npack_lt 4 hw
      have h2 : npack 4 (wN n S i) * 256 ^ (4 * i) ≤ (256 ^ 4 - 1) * 256 ^ (4 * i) := Nat.mul_le_mul_right _ (by omega)
      have e : 256 ^ (4 * (i + 1)) = 256 ^ 4 * 256 ^ (4 * i) := by rw [← Nat.pow_add, show 4 + 4 * i = 4 * (i + 1) by omega]
      rw [e]
      have e2 : 256 ^ 4 * 256 ^ (4 * i) = (256 ^ 4 - 1) * 256 ^ (4 * i) + 256 ^ (4 * i) := by
        conv => lhs; rw [show (256 ^ 4 : Nat) = (256 ^ 4 - 1) + 1 by decide, Nat.add_mul, Nat.one_mul]
      omega
    refine sGo_ok hn f (i + 1) _ (by omega) (by omega) hlt (fun y hy => ?_) x (by omega)
    by_cases e : y < 4 * i
    · rw [nb_lo e]
      exact h y e
    · obtain ⟨j, rfl⟩ : ∃ j, y = 4 * i + j := ⟨y - 4 * i, by omega⟩
      have hj : j < 4 := by omega
      rw [nb_hi hS, nb_npack 4 hw j hj, wN_nxt, ks_next hn hi (by omega) hj]
      exact nxt_congr hn hi hj h
def ksN (n K : Nat) : Nat := sGo n (3 * n + 28) n K
theorem ksN_ok {n : Nat} {key : Nat → Nat} (hn : 0 < n) (hkey : By (4 * n) key) {x : Nat} (hx : x < 16 * (n + 7)) : nb (ksN n (npack (4 * n) key)) x = ks n key x :=
  sGo_ok hn (3 * n + 28) n _ (Nat.le_refl n) (by omega) (npack_lt _ hkey) (fun y hy => by rw [nb_npack _ hkey y hy, ks_key hy]) x (by omega)
def rN (n S r s : Nat) : Nat := npack 16 fun i => (if r < n + 6 then mixc (subs sbx 4 (nb s)) i else subs sbx 4 (nb s) i) ^^^ nb S (16 * r + i)
def eGo (n S : Nat) : Nat → Nat → Nat → Nat
  | 0, _, s => s
  | f + 1, r, s => force (rN n S r s) fun s' => eGo n S f (r + 1) s'
theorem subs_box (s : Nat) : subs sbx 4 (nb s) = subs box 4 (nb s) := funext fun _ => (sbx_box (nb_lt _ _)).symm
theorem rN_by (n S r s : Nat) : By 16 fun i => (if r < n + 6 then mixc (subs sbx 4 (nb s)) i else subs sbx 4 (nb s) i) ^^^ nb S (16 * r + i) := fun i hi => by
  have h1 : By 16 (subs sbx 4 (nb s)) := fun _ _ => nb_lt _ _
  refine xor8 ?_ (nb_lt _ _)
  split
  · exact mixc_by h1 i hi
  · exact h1 i hi
theorem eGo_ok {n S : Nat} {T b : Nat → Nat} (hS : ∀ x, x < 16 * (n + 7) → nb S x = T x) : ∀ f r s, r + f = n + 6 → (∀ i, i < 16 → nb s i = est n T b r i) → ∀ i, i < 16 → nb (eGo n S f (r + 1) s) i = est n T b (n + 6) i
  | 0, r, s, hr, h, i, hi => by
    obtain rfl : r = n + 6 := by omega
    exact h i hi
  | f + 1, r, s, hr, h, i, hi => by
    show nb (force _ _) i = _
    rw [force_eq]
    refine eGo_ok hS f (r + 1) _ (by omega) (fun j hj => ?_) i hi
    rw [show rN n S (r + 1) s = npack 16 _ from rfl, nb_npack 16 (rN_by n S (r + 1) s) j hj, subs_box, hS _ (by omega)]
    have hs : Eq16 (subs box 4 (nb s)) (subs box 4 (est n T b r)) := subs_congr box 4 h
    show _ = (if r + 1 < n + 6 then mixc (subs box 4 (est n T b r)) else subs box 4 (est n T b r)) j ^^^ T (16 * (r + 1) + j)
    by_cases e : r + 1 < n + 6
    · rw [if_pos e, if_pos e, mixc_congr hs j hj]
    · rw [if_neg e, if_neg e, hs j hj]
def encN (n K b : Nat) : Nat := force (ksN n K) fun S => force (npack 16 fun i => nb b i ^^^ nb S i) fun s => eGo n S (n + 6) 1 s
/-- a block encrypted, in numbers -/
theorem encN_ok {n : Nat} {key b : Nat → Nat} (hn : 0 < n) (hkey : By (4 * n) key) (hb : By 16 b) {i : Nat} (hi : i < 16) : enc n (ks n key) b i = nb (encN n (npack (4 * n) key) (npack 16 b)) i := by
  unfold encN
  rw [force_eq, force_eq]
  refine (eGo_ok (T := ks n key) (b := b) (fun x hx => ksN_ok hn hkey hx) (n + 6) 0 _ (by omega) (fun j hj => ?_) i hi).symm
  rw [nb_npack 16 (fun j _ => xor8 (nb_lt _ _) (nb_lt _ _)) j hj, nb_npack 16 hb j hj, ksN_ok hn hkey (by omega)]
  show _ = b j ^^^ ks n key (16 * 0 + j)
  rw [Nat.mul_zero, Nat.zero_add]
end Go.Proofs.Ytgfdnhpfdbaddaa
