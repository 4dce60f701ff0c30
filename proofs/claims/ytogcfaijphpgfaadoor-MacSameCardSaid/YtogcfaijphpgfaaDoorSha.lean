/- SHA-256, over numbers: nothing here hangs on the program. -/
namespace Go.Proofs.YtogcfaijphpgfaaDoor

/-- rotated right -/
def rr (n x : Nat) : Nat := x / 2 ^ n ||| x * 2 ^ (32 - n) % 4294967296
def chn (e f g : Nat) : Nat := (e &&& f) ^^^ ((4294967295 - e) &&& g)
def maj (a b c : Nat) : Nat := ((a &&& b) ^^^ (a &&& c)) ^^^ (b &&& c)
def bs1 (e : Nat) : Nat := (rr 6 e ^^^ rr 11 e) ^^^ rr 25 e
def bs0 (a : Nat) : Nat := (rr 2 a ^^^ rr 13 a) ^^^ rr 22 a
def ls0 (x : Nat) : Nat := (rr 7 x ^^^ rr 18 x) ^^^ x / 8
def ls1 (x : Nat) : Nat := (rr 17 x ^^^ rr 19 x) ^^^ x / 1024

theorem rr_lt {n x : Nat} (hx : x < 4294967296) : rr n x < 4294967296 := by
  refine Nat.or_lt_two_pow (n := 32) ?_ (Nat.mod_lt _ (by decide))
  exact Nat.lt_of_le_of_lt (Nat.div_le_self _ _) hx
theorem xor32 {a b : Nat} (ha : a < 4294967296) (hb : b < 4294967296) : a ^^^ b < 4294967296 := Nat.xor_lt_two_pow (n := 32) ha hb
theorem or32 {a b : Nat} (ha : a < 4294967296) (hb : b < 4294967296) : a ||| b < 4294967296 := Nat.or_lt_two_pow (n := 32) ha hb
theorem and32 {a b : Nat} (ha : a < 4294967296) : a &&& b < 4294967296 := Nat.lt_of_le_of_lt Nat.and_le_left ha
theorem and32' {a b : Nat} (hb : b < 4294967296) : a &&& b < 4294967296 := Nat.lt_of_le_of_lt Nat.and_le_right hb
theorem chn_lt {e f g : Nat} (hf : f < 4294967296) (hg : g < 4294967296) : chn e f g < 4294967296 := xor32 (and32' hf) (and32' hg)
theorem maj_lt {a b c : Nat} (ha : a < 4294967296) (hb : b < 4294967296) : maj a b c < 4294967296 := xor32 (xor32 (and32 ha) (and32 ha)) (and32 hb)
theorem bs1_lt {x : Nat} (h : x < 4294967296) : bs1 x < 4294967296 := xor32 (xor32 (rr_lt h) (rr_lt h)) (rr_lt h)
theorem bs0_lt {x : Nat} (h : x < 4294967296) : bs0 x < 4294967296 := xor32 (xor32 (rr_lt h) (rr_lt h)) (rr_lt h)
theorem ls0_lt {x : Nat} (h : x < 4294967296) : ls0 x < 4294967296 := xor32 (xor32 (rr_lt h) (rr_lt h)) (by omega)
theorem ls1_lt {x : Nat} (h : x < 4294967296) : ls1 x < 4294967296 := xor32 (xor32 (rr_lt h) (rr_lt h)) (by omega)
theorem not_bit (e i : Nat) (he : e < 4294967296) : (4294967295 - e).testBit i = (decide (i < 32) && !e.testBit i) := by
  have := Nat.testBit_two_pow_sub_succ (n := 32) he i
  rw [show 4294967295 - e = 2 ^ 32 - (e + 1) by omega]
  exact this
/-- the reference's forms -/
theorem chn_or {e f g : Nat} (he : e < 4294967296) : ((e &&& f) ||| ((4294967295 - e) &&& g)) = chn e f g := by
  unfold chn
  apply Nat.eq_of_testBit_eq
  intro i
  rw [Nat.testBit_or, Nat.testBit_xor, Nat.testBit_and, Nat.testBit_and, not_bit e i he]
  cases e.testBit i <;> cases f.testBit i <;> cases g.testBit i <;> simp
theorem maj_or (a b c : Nat) : ((a &&& b) ||| (a &&& c) ||| (b &&& c)) = maj a b c := by
  unfold maj
  apply Nat.eq_of_testBit_eq
  intro i
  simp only [Nat.testBit_or, Nat.testBit_xor, Nat.testBit_and]
  cases a.testBit i <;> cases b.testBit i <;> cases c.testBit i <;> rfl

/-- the eight words -/
structure S8 where
  a : Nat
  b : Nat
  c : Nat
  d : Nat
  e : Nat
  f : Nat
  g : Nat
  h : Nat
theorem S8.ext' {s t : S8} (ha : s.a = t.a) (hb : s.b = t.b) (hc : s.c = t.c) (hd : s.d = t.d) (he : s.e = t.e) (hf : s.f = t.f) (hg : s.g = t.g) (hh : s.h = t.h) : s = t := by
  cases s; cases t; simp_all
instance : DecidableEq S8 := fun s t =>
  decidable_of_iff ((s.a = t.a ∧ s.b = t.b) ∧ (s.c = t.c ∧ s.d = t.d) ∧ (s.e = t.e ∧ s.f = t.f) ∧ (s.g = t.g ∧ s.h = t.h))
    ⟨fun ⟨⟨a, b⟩, ⟨c, d⟩, ⟨e, f⟩, ⟨g, h⟩⟩ => S8.ext' a b c d e f g h, fun h => h ▸ ⟨⟨rfl, rfl⟩, ⟨rfl, rfl⟩, ⟨rfl, rfl⟩, ⟨rfl, rfl⟩⟩⟩
structure S8.ok (s : S8) : Prop where
  a : s.a < 4294967296
  b : s.b < 4294967296
  c : s.c < 4294967296
  d : s.d < 4294967296
  e : s.e < 4294967296
  f : s.f < 4294967296
  g : s.g < 4294967296
  h : s.h < 4294967296
def kcL : List Nat := [1116352408, 1899447441, 3049323471, 3921009573, 961987163, 1508970993, 2453635748, 2870763221, 3624381080, 310598401, 607225278, 1426881987, 1925078388, 2162078206, 2614888103, 3248222580, 3835390401, 4022224774, 264347078, 604807628, 770255983, 1249150122, 1555081692, 1996064986, 2554220882, 2821834349, 2952996808, 3210313671, 3336571891, 3584528711, 113926993, 338241895, 666307205, 773529912, 1294757372, 1396182291, 1695183700, 1986661051, 2177026350, 2456956037, 2730485921, 2820302411, 3259730800, 3345764771, 3516065817, 3600352804, 4094571909, 275423344, 430227734, 506948616, 659060556, 883997877, 958139571, 1322822218, 1537002063, 1747873779, 1955562222, 2024104815, 2227730452, 2361852424, 2428436474, 2756734187, 3204031479, 3329325298]
def kc (t : Nat) : Nat := kcL.getD t 0
def st0 : S8 := ⟨1779033703, 3144134277, 1013904242, 2773480762, 1359893119, 2600822924, 528734635, 1541459225⟩
theorem kc_lt (t : Nat) : kc t < 4294967296 := by
  unfold kc
  rcases Nat.lt_or_ge t 64 with h | h
  · exact (show ∀ t, t < 64 → kcL.getD t 0 < 4294967296 by decide +kernel) t h
  · rw [List.getD_eq_getElem?_getD, List.getElem?_eq_none (by exact h)]; decide
theorem st0_ok : st0.ok := ⟨by decide, by decide, by decide, by decide, by decide, by decide, by decide, by decide⟩
def tx (s : S8) (k w : Nat) : Nat := s.h + bs1 s.e + chn s.e s.f s.g + k + w
def ty (s : S8) : Nat := bs0 s.a + maj s.a s.b s.c
def rnd (s : S8) (k w : Nat) : S8 := ⟨(tx s k w + ty s) % 4294967296, s.a, s.b, s.c, (s.d + tx s k w) % 4294967296, s.e, s.f, s.g⟩
theorem rnd_ok {s : S8} (h : s.ok) (k w : Nat) : (rnd s k w).ok := ⟨Nat.mod_lt _ (by decide), h.a, h.b, h.c, Nat.mod_lt _ (by decide), h.e, h.f, h.g⟩
def rs (W : Nat → Nat) (s : S8) : Nat → S8
  | 0 => s
  | t + 1 => rnd (rs W s t) (kc t) (W t)
theorem rs_ok {W : Nat → Nat} {s : S8} (h : s.ok) : ∀ t, (rs W s t).ok
  | 0 => h
  | t + 1 => rnd_ok (rs_ok h t) _ _
theorem rs_congr {W V : Nat → Nat} {s : S8} : ∀ t, (∀ j, j < t → W j = V j) → rs W s t = rs V s t
  | 0, _ => rfl
  | t + 1, h => by rw [rs, rs, rs_congr t (fun j hj => h j (by omega)), h t (Nat.lt_succ_self t)]
/-- four bytes as a word -/
def be (b : Nat → Nat) (o : Nat) : Nat := b o * 16777216 + b (o + 1) * 65536 + b (o + 2) * 256 + b (o + 3)
/-- the words of a block: those of its bytes, and n that are made of them -/
def wn (b : Nat → Nat) : Nat → Nat → Nat
  | 0, j => if j < 16 then be b (4 * j) else 0
  | n + 1, j => if j = 16 + n then (wn b n n + ls0 (wn b n (n + 1)) + wn b n (n + 9) + ls1 (wn b n (n + 14))) % 4294967296 else wn b n j
theorem be_lt {b : Nat → Nat} {o : Nat} (h0 : b o < 256) (h1 : b (o + 1) < 256) (h2 : b (o + 2) < 256) (h3 : b (o + 3) < 256) : be b o < 4294967296 := by unfold be; omega
theorem wn_lt {b : Nat → Nat} (hb : ∀ j, j < 64 → b j < 256) : ∀ n j, wn b n j < 4294967296
  | 0, j => by
    rw [wn]; split
    · exact be_lt (hb _ (by omega)) (hb _ (by omega)) (hb _ (by omega)) (hb _ (by omega))
    · decide
  | n + 1, j => by
    rw [wn]; split
    · exact Nat.mod_lt _ (by decide)
    · exact wn_lt hb n j
theorem wn_congr {b c : Nat → Nat} (h : ∀ j, j < 64 → b j = c j) : ∀ n j, wn b n j = wn c n j
  | 0, j => by
    rw [wn, wn]; split
    · unfold be; rw [h _ (by omega), h _ (by omega), h _ (by omega), h _ (by omega)]
    · rfl
  | n + 1, j => by
    rw [wn, wn, wn_congr h n, wn_congr h n, wn_congr h n, wn_congr h n, wn_congr h n]
def add8 (s t : S8) : S8 := ⟨(s.a + t.a) % 4294967296, (s.b + t.b) % 4294967296, (s.c + t.c) % 4294967296, (s.d + t.d) % 4294967296, (s.e + t.e) % 4294967296, (s.f + t.f) % 4294967296, (s.g + t.g) % 4294967296, (s.h + t.h) % 4294967296⟩
theorem add8_ok (s t : S8) : (add8 s t).ok := ⟨Nat.mod_lt _ (by decide), Nat.mod_lt _ (by decide), Nat.mod_lt _ (by decide), Nat.mod_lt _ (by decide), Nat.mod_lt _ (by decide), Nat.mod_lt _ (by decide), Nat.mod_lt _ (by decide), Nat.mod_lt _ (by decide)⟩
/-- the state behind a block -/
def comp (s : S8) (b : Nat → Nat) : S8 := add8 s (rs (wn b 48) s 64)
theorem comp_congr {s : S8} {b c : Nat → Nat} (h : ∀ j, j < 64 → b j = c j) : comp s b = comp s c := by
  unfold comp
  rw [rs_congr 64 fun j _ => wn_congr h 48 j]
/-- the state behind i blocks -/
def hs (f : Nat → Nat) : Nat → S8
  | 0 => st0
  | i + 1 => comp (hs f i) (fun j => f (64 * i + j))
theorem hs_ok (f : Nat → Nat) : ∀ i, (hs f i).ok
  | 0 => st0_ok
  | _ + 1 => add8_ok _ _
theorem hs_congr {f g : Nat → Nat} : ∀ i, (∀ j, j < 64 * i → f j = g j) → hs f i = hs g i
  | 0, _ => rfl
  | i + 1, h => by
    rw [hs, hs, hs_congr i fun j hj => h j (by omega)]
    exact comp_congr fun j hj => h _ (by omega)
/-- one of the eight -/
def at8 (s : S8) (j : Nat) : Nat := [s.a, s.b, s.c, s.d, s.e, s.f, s.g, s.h].getD j 0
theorem at8_lt {s : S8} (h : s.ok) (j : Nat) : at8 s j < 4294967296 := by
  rcases Nat.lt_or_ge j 8 with hj | hj
  · match j, hj with
    | 0, _ => exact h.a
    | 1, _ => exact h.b
    | 2, _ => exact h.c
    | 3, _ => exact h.d
    | 4, _ => exact h.e
    | 5, _ => exact h.f
    | 6, _ => exact h.g
    | 7, _ => exact h.h
  · unfold at8; rw [List.getD_eq_getElem?_getD, List.getElem?_eq_none (by exact hj)]; decide
theorem at8_add (s t : S8) (j : Nat) (hj : j < 8) : at8 (add8 s t) j = (at8 s j + at8 t j) % 4294967296 := by
  match j, hj with
  | 0, _ => rfl
  | 1, _ => rfl
  | 2, _ => rfl
  | 3, _ => rfl
  | 4, _ => rfl
  | 5, _ => rfl
  | 6, _ => rfl
  | 7, _ => rfl
/-- how long the padded bytes are, and what they are -/
def padL (n : Nat) : Nat := 64 * ((n + 72) / 64)
def padf (n : Nat) (f : Nat → Nat) (j : Nat) : Nat := if j < n then f j else if j = n then 128 else if j < padL n - 8 then 0 else 8 * n / 256 ^ (padL n - 1 - j) % 256
def dig (s : S8) (j : Nat) : Nat := at8 s (j / 4) / 256 ^ (3 - j % 4) % 256
theorem dig_lt (s : S8) (j : Nat) : dig s j < 256 := Nat.mod_lt _ (by decide)
/-- the digest -/
def sha (n : Nat) (f : Nat → Nat) (j : Nat) : Nat := dig (hs (padf n f) ((n + 72) / 64)) j
theorem sha_lt (n : Nat) (f : Nat → Nat) (j : Nat) : sha n f j < 256 := dig_lt _ _
theorem padf_congr {n : Nat} {f g : Nat → Nat} (h : ∀ j, j < n → f j = g j) (j : Nat) : padf n f j = padf n g j := by
  unfold padf
  by_cases e : j < n
  · rw [if_pos e, if_pos e, h j e]
  · rw [if_neg e, if_neg e]
theorem sha_congr {n : Nat} {f g : Nat → Nat} (h : ∀ j, j < n → f j = g j) (j : Nat) : sha n f j = sha n g j := by
  unfold sha
  rw [hs_congr _ fun j _ => padf_congr h j]
end Go.Proofs.YtogcfaijphpgfaaDoor
