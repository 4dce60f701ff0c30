/- The block cipher on natural numbers: nothing here hangs on the program. -/
import Derived.Test.YtgfdnhpfdbaddaaGf
import Derived.Test.YtgfdnhpfdbaddaaByN
namespace Go.Proofs.Ytgfdnhpfdbaddaa

/-! ### columns -/
def mx (a b c d : Nat) : Nat := (dbl a ^^^ (dbl b ^^^ b)) ^^^ (c ^^^ d)
def imx (a b c d : Nat) : Nat := (gm 14 a ^^^ gm 11 b) ^^^ (gm 13 c ^^^ gm 9 d)
theorem xxab (a b c d e : Nat) : a ^^^ ((((a ^^^ b) ^^^ c) ^^^ d) ^^^ e) = e ^^^ (b ^^^ (c ^^^ d)) := by
  have h1 : a ^^^ ((((a ^^^ b) ^^^ c) ^^^ d) ^^^ e) = (a ^^^ a) ^^^ (e ^^^ (b ^^^ (c ^^^ d))) := by ac_rfl
  rw [h1, Nat.xor_self, Nat.zero_xor]
/-- as the program has it -/
theorem mx_code {a b : Nat} (c d : Nat) (ha : a < 256) (hb : b < 256) : a ^^^ ((((a ^^^ b) ^^^ c) ^^^ d) ^^^ dbl (a ^^^ b)) = mx a b c d := by
  rw [xxab, dbl_lin a ha b hb]
  unfold mx
  ac_rfl
structure Lin4 (f : Nat → Nat → Nat → Nat → Nat) : Prop where
  lt : ∀ a b c d, a < 256 → b < 256 → c < 256 → d < 256 → f a b c d < 256
  add : ∀ a b c d a' b' c' d', a < 256 → b < 256 → c < 256 → d < 256 → a' < 256 → b' < 256 → c' < 256 → d' < 256 → f (a ^^^ a') (b ^^^ b') (c ^^^ c') (d ^^^ d') = f a b c d ^^^ f a' b' c' d'
namespace Lin4
variable {f g h k : Nat → Nat → Nat → Nat → Nat}
theorem p1 : Lin4 (fun a _ _ _ => a) := ⟨fun _ _ _ _ h _ _ _ => h, fun _ _ _ _ _ _ _ _ _ _ _ _ _ _ _ _ => rfl⟩
theorem p2 : Lin4 (fun _ a _ _ => a) := ⟨fun _ _ _ _ _ h _ _ => h, fun _ _ _ _ _ _ _ _ _ _ _ _ _ _ _ _ => rfl⟩
theorem p3 : Lin4 (fun _ _ a _ => a) := ⟨fun _ _ _ _ _ _ h _ => h, fun _ _ _ _ _ _ _ _ _ _ _ _ _ _ _ _ => rfl⟩
theorem p4 : Lin4 (fun _ _ _ a => a) := ⟨fun _ _ _ _ _ _ _ h => h, fun _ _ _ _ _ _ _ _ _ _ _ _ _ _ _ _ => rfl⟩
theorem xor (hf : Lin4 f) (hg : Lin4 g) : Lin4 (fun a b c d => f a b c d ^^^ g a b c d) :=
  ⟨fun a b c d h1 h2 h3 h4 => xor8 (hf.lt a b c d h1 h2 h3 h4) (hg.lt a b c d h1 h2 h3 h4), fun a b c d a' b' c' d' h1 h2 h3 h4 h5 h6 h7 h8 => by
    show f _ _ _ _ ^^^ g _ _ _ _ = _
    rw [hf.add a b c d a' b' c' d' h1 h2 h3 h4 h5 h6 h7 h8, hg.add a b c d a' b' c' d' h1 h2 h3 h4 h5 h6 h7 h8, x4]⟩
theorem dbl (hf : Lin4 f) : Lin4 (fun a b c d => Go.Proofs.Ytgfdnhpfdbaddaa.dbl (f a b c d)) :=
  ⟨fun a b c d h1 h2 h3 h4 => dbl_lt (hf.lt a b c d h1 h2 h3 h4), fun a b c d a' b' c' d' h1 h2 h3 h4 h5 h6 h7 h8 => by
    show Go.Proofs.Ytgfdnhpfdbaddaa.dbl (f _ _ _ _) = _
    rw [hf.add a b c d a' b' c' d' h1 h2 h3 h4 h5 h6 h7 h8, dbl_lin _ (hf.lt a b c d h1 h2 h3 h4) _ (hf.lt a' b' c' d' h5 h6 h7 h8)]⟩
theorem gm {m : Nat} (hm : m < 256) (hf : Lin4 f) : Lin4 (fun a b c d => Go.Proofs.Ytgfdnhpfdbaddaa.gm m (f a b c d)) :=
  ⟨fun a b c d _ _ _ _ => gm_lt _ hm, fun a b c d a' b' c' d' h1 h2 h3 h4 h5 h6 h7 h8 => by
    show Go.Proofs.Ytgfdnhpfdbaddaa.gm m (f _ _ _ _) = _
    rw [hf.add a b c d a' b' c' d' h1 h2 h3 h4 h5 h6 h7 h8, gm_xor2]⟩
theorem mx (hf : Lin4 f) (hg : Lin4 g) (hh : Lin4 h) (hk : Lin4 k) : Lin4 (fun a b c d => Go.Proofs.Ytgfdnhpfdbaddaa.mx (f a b c d) (g a b c d) (h a b c d) (k a b c d)) :=
  (hf.dbl.xor (hg.dbl.xor hg)).xor (hh.xor hk)
theorem imx (hf : Lin4 f) (hg : Lin4 g) (hh : Lin4 h) (hk : Lin4 k) : Lin4 (fun a b c d => Go.Proofs.Ytgfdnhpfdbaddaa.imx (f a b c d) (g a b c d) (h a b c d) (k a b c d)) :=
  ((hf.gm (by decide)).xor (hg.gm (by decide))).xor ((hh.gm (by decide)).xor (hk.gm (by decide)))
theorem parts (hf : Lin4 f) {a b c d : Nat} (ha : a < 256) (hb : b < 256) (hc : c < 256) (hd : d < 256) : f a b c d = (f a 0 0 0 ^^^ f 0 b 0 0) ^^^ (f 0 0 c 0 ^^^ f 0 0 0 d) := by
  have z : (0 : Nat) < 256 := by decide
  rw [← hf.add a 0 0 0 0 b 0 0 ha z z z z hb z z, ← hf.add 0 0 c 0 0 0 0 d z z hc z z z z hd, ← hf.add _ _ _ _ _ _ _ _ (xor8 ha z) (xor8 z hb) (xor8 z z) (xor8 z z) (xor8 z z) (xor8 z z) (xor8 hc z) (xor8 z hd)]
  simp
theorem eq (hf : Lin4 f) (hg : Lin4 g) (h1 : ∀ x, x < 256 → f x 0 0 0 = g x 0 0 0) (h2 : ∀ x, x < 256 → f 0 x 0 0 = g 0 x 0 0) (h3 : ∀ x, x < 256 → f 0 0 x 0 = g 0 0 x 0) (h4 : ∀ x, x < 256 → f 0 0 0 x = g 0 0 0 x)
    {a b c d : Nat} (ha : a < 256) (hb : b < 256) (hc : c < 256) (hd : d < 256) : f a b c d = g a b c d := by
  rw [hf.parts ha hb hc hd, hg.parts ha hb hc hd, h1 a ha, h2 b hb, h3 c hc, h4 d hd]
end Lin4
theorem mx_lt {a b c d : Nat} (ha : a < 256) (hb : b < 256) (hc : c < 256) (hd : d < 256) : mx a b c d < 256 := (Lin4.mx .p1 .p2 .p3 .p4).lt a b c d ha hb hc hd
theorem imx_lt {a b c d : Nat} (ha : a < 256) (hb : b < 256) (hc : c < 256) (hd : d < 256) : imx a b c d < 256 := (Lin4.imx .p1 .p2 .p3 .p4).lt a b c d ha hb hc hd
section
variable {a b c d : Nat} (ha : a < 256) (hb : b < 256) (hc : c < 256) (hd : d < 256)
include ha hb hc hd
theorem imx_mx : imx (mx a b c d) (mx b c d a) (mx c d a b) (mx d a b c) = a :=
  Lin4.eq (.imx (.mx .p1 .p2 .p3 .p4) (.mx .p2 .p3 .p4 .p1) (.mx .p3 .p4 .p1 .p2) (.mx .p4 .p1 .p2 .p3)) .p1 (by decide +kernel) (by decide +kernel) (by decide +kernel) (by decide +kernel) ha hb hc hd
theorem mx_imx : mx (imx a b c d) (imx b c d a) (imx c d a b) (imx d a b c) = a :=
  Lin4.eq (.mx (.imx .p1 .p2 .p3 .p4) (.imx .p2 .p3 .p4 .p1) (.imx .p3 .p4 .p1 .p2) (.imx .p4 .p1 .p2 .p3)) .p1 (by decide +kernel) (by decide +kernel) (by decide +kernel) (by decide +kernel) ha hb hc hd
/-- mixed four times is not mixed -/
theorem mx_mx : mx (mx a b c d) (mx b c d a) (mx c d a b) (mx d a b c) = imx (imx a b c d) (imx b c d a) (imx c d a b) (imx d a b c) :=
  Lin4.eq (.mx (.mx .p1 .p2 .p3 .p4) (.mx .p2 .p3 .p4 .p1) (.mx .p3 .p4 .p1 .p2) (.mx .p4 .p1 .p2 .p3)) (.imx (.imx .p1 .p2 .p3 .p4) (.imx .p2 .p3 .p4 .p1) (.imx .p3 .p4 .p1 .p2) (.imx .p4 .p1 .p2 .p3))
    (by decide +kernel) (by decide +kernel) (by decide +kernel) (by decide +kernel) ha hb hc hd
end

/-! ### blocks -/
def mixc (s : Nat → Nat) (i : Nat) : Nat := mx (s (4 * (i / 4) + i % 4)) (s (4 * (i / 4) + (i + 1) % 4)) (s (4 * (i / 4) + (i + 2) % 4)) (s (4 * (i / 4) + (i + 3) % 4))
def imixc (s : Nat → Nat) (i : Nat) : Nat := imx (s (4 * (i / 4) + i % 4)) (s (4 * (i / 4) + (i + 1) % 4)) (s (4 * (i / 4) + (i + 2) % 4)) (s (4 * (i / 4) + (i + 3) % 4))
def subs (t : Nat → Nat) (k : Nat) (s : Nat → Nat) (i : Nat) : Nat := t (s ((i + k * (i % 4)) % 16))
def addk (S : Nat → Nat) (r : Nat) (s : Nat → Nat) (i : Nat) : Nat := s i ^^^ S (16 * r + i)
/-- alike on a block -/
def Eq16 (s t : Nat → Nat) : Prop := ∀ i, i < 16 → s i = t i
variable {s t : Nat → Nat}
theorem Eq16.refl (s : Nat → Nat) : Eq16 s s := fun _ _ => rfl
theorem Eq16.symm (h : Eq16 s t) : Eq16 t s := fun i hi => (h i hi).symm
theorem Eq16.trans {u : Nat → Nat} (h : Eq16 s t) (h' : Eq16 t u) : Eq16 s u := fun i hi => (h i hi).trans (h' i hi)
theorem By.congr (h : By 16 s) (e : Eq16 s t) : By 16 t := fun i hi => e i hi ▸ h i hi
theorem mixc_congr (h : Eq16 s t) : Eq16 (mixc s) (mixc t) := fun i hi => by
  unfold mixc
  rw [h _ (by omega), h (4 * (i / 4) + (i + 1) % 4) (by omega), h (4 * (i / 4) + (i + 2) % 4) (by omega), h (4 * (i / 4) + (i + 3) % 4) (by omega)]
theorem imixc_congr (h : Eq16 s t) : Eq16 (imixc s) (imixc t) := fun i hi => by
  unfold imixc
  rw [h _ (by omega), h (4 * (i / 4) + (i + 1) % 4) (by omega), h (4 * (i / 4) + (i + 2) % 4) (by omega), h (4 * (i / 4) + (i + 3) % 4) (by omega)]
theorem subs_congr (f : Nat → Nat) (k : Nat) (h : Eq16 s t) : Eq16 (subs f k s) (subs f k t) := fun i _ => by unfold subs; rw [h _ (Nat.mod_lt _ (by decide))]
theorem addk_congr (S : Nat → Nat) (r : Nat) (h : Eq16 s t) : Eq16 (addk S r s) (addk S r t) := fun i hi => by unfold addk; rw [h i hi]
theorem mixc_by (h : By 16 s) : By 16 (mixc s) := fun i hi => mx_lt (h _ (by omega)) (h _ (by omega)) (h _ (by omega)) (h _ (by omega))
theorem imixc_by (h : By 16 s) : By 16 (imixc s) := fun i hi => imx_lt (h _ (by omega)) (h _ (by omega)) (h _ (by omega)) (h _ (by omega))
theorem subs_by {f : Nat → Nat} (hf : By 256 f) (k : Nat) (h : By 16 s) : By 16 (subs f k s) := fun i _ => hf _ (h _ (Nat.mod_lt _ (by decide)))
theorem addk_by {S : Nat → Nat} {r : Nat} (hS : By (16 * (r + 1)) S) (h : By 16 s) : By 16 (addk S r s) := fun i hi => xor8 (h i hi) (hS _ (by omega))
theorem box_by : By 256 box := fun _ h => box_lt h
theorem unbox_by : By 256 unbox := fun _ h => unbox_lt h
theorem col_at (s : Nat → Nat) (i j : Nat) : (fun (f : Nat → Nat) (i : Nat) => f (4 * (i / 4) + (i + j) % 4)) s i = s (4 * (i / 4) + (i + j) % 4) := rfl
/-- what a column's function sees at its own places -/
theorem col4 (i : Nat) : ∀ j, j < 4 → ∀ l, 4 * ((4 * (i / 4) + (i + j) % 4) / 4) + (4 * (i / 4) + (i + j) % 4 + l) % 4 = 4 * (i / 4) + (i + j + l) % 4 := fun j _ l => by omega
theorem mixc_at (s : Nat → Nat) (i j : Nat) : mixc s (4 * (i / 4) + (i + j) % 4) = mx (s (4 * (i / 4) + (i + j) % 4)) (s (4 * (i / 4) + (i + j + 1) % 4)) (s (4 * (i / 4) + (i + j + 2) % 4)) (s (4 * (i / 4) + (i + j + 3) % 4)) := by
  unfold mixc
  rw [show 4 * ((4 * (i / 4) + (i + j) % 4) / 4) = 4 * (i / 4) by omega, show (4 * (i / 4) + (i + j) % 4) % 4 = (i + j) % 4 by omega, show (4 * (i / 4) + (i + j) % 4 + 1) % 4 = (i + j + 1) % 4 by omega,
    show (4 * (i / 4) + (i + j) % 4 + 2) % 4 = (i + j + 2) % 4 by omega, show (4 * (i / 4) + (i + j) % 4 + 3) % 4 = (i + j + 3) % 4 by omega]
theorem imixc_at (s : Nat → Nat) (i j : Nat) : imixc s (4 * (i / 4) + (i + j) % 4) = imx (s (4 * (i / 4) + (i + j) % 4)) (s (4 * (i / 4) + (i + j + 1) % 4)) (s (4 * (i / 4) + (i + j + 2) % 4)) (s (4 * (i / 4) + (i + j + 3) % 4)) := by
  unfold imixc
  rw [show 4 * ((4 * (i / 4) + (i + j) % 4) / 4) = 4 * (i / 4) by omega, show (4 * (i / 4) + (i + j) % 4) % 4 = (i + j) % 4 by omega, show (4 * (i / 4) + (i + j) % 4 + 1) % 4 = (i + j + 1) % 4 by omega,
    show (4 * (i / 4) + (i + j) % 4 + 2) % 4 = (i + j + 2) % 4 by omega, show (4 * (i / 4) + (i + j) % 4 + 3) % 4 = (i + j + 3) % 4 by omega]
theorem cyc (i j k : Nat) (s : Nat → Nat) (h : (i + j) % 4 = (i + k) % 4) : s (4 * (i / 4) + (i + j) % 4) = s (4 * (i / 4) + (i + k) % 4) := by rw [h]
/-- one column of a block, from its byte i on -/
theorem four (s : Nat → Nat) (i : Nat) : ∃ a b c d, s (4 * (i / 4) + i % 4) = a ∧ s (4 * (i / 4) + (i + 1) % 4) = b ∧ s (4 * (i / 4) + (i + 2) % 4) = c ∧ s (4 * (i / 4) + (i + 3) % 4) = d ∧
    mixc s (4 * (i / 4) + i % 4) = mx a b c d ∧ mixc s (4 * (i / 4) + (i + 1) % 4) = mx b c d a ∧ mixc s (4 * (i / 4) + (i + 2) % 4) = mx c d a b ∧ mixc s (4 * (i / 4) + (i + 3) % 4) = mx d a b c ∧
    imixc s (4 * (i / 4) + i % 4) = imx a b c d ∧ imixc s (4 * (i / 4) + (i + 1) % 4) = imx b c d a ∧ imixc s (4 * (i / 4) + (i + 2) % 4) = imx c d a b ∧ imixc s (4 * (i / 4) + (i + 3) % 4) = imx d a b c := by
  refine ⟨_, _, _, _, rfl, rfl, rfl, rfl, ?_, ?_, ?_, ?_, ?_, ?_, ?_, ?_⟩
  · exact mixc_at s i 0
  · rw [mixc_at s i 1, show (i + 1 + 1) % 4 = (i + 2) % 4 by omega, show (i + 1 + 2) % 4 = (i + 3) % 4 by omega, show (i + 1 + 3) % 4 = i % 4 by omega]
  · rw [mixc_at s i 2, show (i + 2 + 1) % 4 = (i + 3) % 4 by omega, show (i + 2 + 2) % 4 = i % 4 by omega, show (i + 2 + 3) % 4 = (i + 1) % 4 by omega]
  · rw [mixc_at s i 3, show (i + 3 + 1) % 4 = i % 4 by omega, show (i + 3 + 2) % 4 = (i + 1) % 4 by omega, show (i + 3 + 3) % 4 = (i + 2) % 4 by omega]
  · exact imixc_at s i 0
  · rw [imixc_at s i 1, show (i + 1 + 1) % 4 = (i + 2) % 4 by omega, show (i + 1 + 2) % 4 = (i + 3) % 4 by omega, show (i + 1 + 3) % 4 = i % 4 by omega]
  · rw [imixc_at s i 2, show (i + 2 + 1) % 4 = (i + 3) % 4 by omega, show (i + 2 + 2) % 4 = i % 4 by omega, show (i + 2 + 3) % 4 = (i + 1) % 4 by omega]
  · rw [imixc_at s i 3, show (i + 3 + 1) % 4 = i % 4 by omega, show (i + 3 + 2) % 4 = (i + 1) % 4 by omega, show (i + 3 + 3) % 4 = (i + 2) % 4 by omega]
theorem own_place (i : Nat) : 4 * (i / 4) + i % 4 = i := by omega
theorem imixc_mixc (h : By 16 s) : Eq16 (imixc (mixc s)) s := fun i hi => by
  obtain ⟨a, b, c, d, ea, eb, ec, ed, m1, m2, m3, m4, _⟩ := four s i
  have ha := h (4 * (i / 4) + i % 4) (by omega)
  have hb := h (4 * (i / 4) + (i + 1) % 4) (by omega)
  have hc := h (4 * (i / 4) + (i + 2) % 4) (by omega)
  have hd := h (4 * (i / 4) + (i + 3) % 4) (by omega)
  rw [ea] at ha; rw [eb] at hb; rw [ec] at hc; rw [ed] at hd
  unfold imixc
  rw [m1, m2, m3, m4, imx_mx ha hb hc hd, ← ea, own_place]
theorem mixc_imixc (h : By 16 s) : Eq16 (mixc (imixc s)) s := fun i hi => by
  obtain ⟨a, b, c, d, ea, eb, ec, ed, _, _, _, _, m1, m2, m3, m4⟩ := four s i
  have ha := h (4 * (i / 4) + i % 4) (by omega)
  have hb := h (4 * (i / 4) + (i + 1) % 4) (by omega)
  have hc := h (4 * (i / 4) + (i + 2) % 4) (by omega)
  have hd := h (4 * (i / 4) + (i + 3) % 4) (by omega)
  rw [ea] at ha; rw [eb] at hb; rw [ec] at hc; rw [ed] at hd
  unfold mixc
  rw [m1, m2, m3, m4, mx_imx ha hb hc hd, ← ea, own_place]
theorem mixc_two (h : By 16 s) : Eq16 (mixc (mixc s)) (imixc (imixc s)) := fun i hi => by
  obtain ⟨a, b, c, d, ea, eb, ec, ed, m1, m2, m3, m4, n1, n2, n3, n4⟩ := four s i
  have ha := h (4 * (i / 4) + i % 4) (by omega)
  have hb := h (4 * (i / 4) + (i + 1) % 4) (by omega)
  have hc := h (4 * (i / 4) + (i + 2) % 4) (by omega)
  have hd := h (4 * (i / 4) + (i + 3) % 4) (by omega)
  rw [ea] at ha; rw [eb] at hb; rw [ec] at hc; rw [ed] at hd
  have e1 : mixc (mixc s) i = mx (mx a b c d) (mx b c d a) (mx c d a b) (mx d a b c) := by
    show mx _ _ _ _ = _
    rw [m1, m2, m3, m4]
  have e2 : imixc (imixc s) i = imx (imx a b c d) (imx b c d a) (imx c d a b) (imx d a b c) := by
    show imx _ _ _ _ = _
    rw [n1, n2, n3, n4]
  rw [e1, e2, mx_mx ha hb hc hd]
/-- three times mixed is unmixed -/
theorem mixc_three (h : By 16 s) : Eq16 (mixc (mixc (mixc s))) (imixc s) :=
  (mixc_congr (mixc_two h)).trans (mixc_imixc (imixc_by h))
theorem subs_back {f g : Nat → Nat} {k l : Nat} (hfg : ∀ x, x < 256 → f (g x) = x) (hkl : ∀ i, i < 16 → ((i + k * (i % 4)) % 16 + l * ((i + k * (i % 4)) % 16 % 4)) % 16 = i) (h : By 16 s) : Eq16 (subs f k (subs g l s)) s := fun i hi => by
  unfold subs
  rw [hkl i hi, hfg _ (h i hi)]
theorem unsub_sub (h : By 16 s) : Eq16 (subs unbox 12 (subs box 4 s)) s := subs_back (fun _ h => unbox_box h) (by decide) h
theorem sub_unsub (h : By 16 s) : Eq16 (subs box 4 (subs unbox 12 s)) s := subs_back (fun _ h => box_unbox h) (by decide) h
theorem addk_addk (S : Nat → Nat) (r : Nat) (s : Nat → Nat) : Eq16 (addk S r (addk S r s)) s := fun i _ => by
  unfold addk
  rw [Nat.xor_assoc, Nat.xor_self, Nat.xor_zero]

/-! ### there and back -/
def est (n : Nat) (S b : Nat → Nat) : Nat → Nat → Nat
  | 0 => addk S 0 b
  | r + 1 => addk S (r + 1) (if r + 1 < n + 6 then mixc (subs box 4 (est n S b r)) else subs box 4 (est n S b r))
def enc (n : Nat) (S b : Nat → Nat) : Nat → Nat := est n S b (n + 6)
def dst (n : Nat) (S b : Nat → Nat) : Nat → Nat → Nat
  | 0 => b
  | k + 1 => subs unbox 12 (if 0 < k then imixc (addk S (n + 6 - k) (dst n S b k)) else addk S (n + 6 - k) (dst n S b k))
def dec (n : Nat) (S b : Nat → Nat) : Nat → Nat := addk S 0 (dst n S b (n + 6))
variable {n : Nat} {S b : Nat → Nat}
theorem est_by (hS : By (16 * (n + 7)) S) (hb : By 16 b) : ∀ r, r ≤ n + 6 → By 16 (est n S b r)
  | 0, _ => addk_by (fun i hi => hS i (by omega)) hb
  | r + 1, hr => by
    have ih := subs_by box_by 4 (est_by hS hb r (by omega))
    refine addk_by (fun i hi => hS i (by omega)) ?_
    split
    · exact mixc_by ih
    · exact ih
theorem dst_by (hS : By (16 * (n + 7)) S) (hb : By 16 b) : ∀ k, k ≤ n + 6 → By 16 (dst n S b k)
  | 0, _ => hb
  | k + 1, hk => by
    have ih := addk_by (S := S) (r := n + 6 - k) (fun i hi => hS i (by omega)) (dst_by hS hb k (by omega))
    refine subs_by unbox_by 12 ?_
    split
    · exact imixc_by ih
    · exact ih
theorem enc_by (hS : By (16 * (n + 7)) S) (hb : By 16 b) : By 16 (enc n S b) := est_by hS hb _ (Nat.le_refl _)
theorem dec_by (hS : By (16 * (n + 7)) S) (hb : By 16 b) : By 16 (dec n S b) := addk_by (fun i hi => hS i (by omega)) (dst_by hS hb _ (Nat.le_refl _))
theorem dst_enc (hS : By (16 * (n + 7)) S) (hb : By 16 b) : ∀ k, k ≤ n + 6 → Eq16 (dst n S (enc n S b) k) (est n S b (n + 6 - k))
  | 0, _ => Eq16.refl _
  | k + 1, hk => by
    have ih := dst_enc hS hb k (by omega)
    obtain ⟨r, hr⟩ : ∃ r, n + 6 - k = r + 1 := ⟨n + 6 - (k + 1), by omega⟩
    have e1 : Eq16 (addk S (n + 6 - k) (dst n S (enc n S b) k)) (if 0 < k then mixc (subs box 4 (est n S b r)) else subs box 4 (est n S b r)) := by
      refine (addk_congr S _ ih).trans ?_
      rw [hr]
      show Eq16 (addk S (r + 1) (addk S (r + 1) _)) _
      refine (addk_addk _ _ _).trans ?_
      by_cases h0 : 0 < k
      · rw [if_pos h0, if_pos (by omega)]; exact Eq16.refl _
      · rw [if_neg h0, if_neg (by omega)]; exact Eq16.refl _
    have hby := est_by hS hb r (by omega)
    have hsb := subs_by box_by 4 hby
    rw [show n + 6 - (k + 1) = r by omega]
    show Eq16 (subs unbox 12 (if 0 < k then imixc (addk S (n + 6 - k) (dst n S (enc n S b) k)) else addk S (n + 6 - k) (dst n S (enc n S b) k))) _
    by_cases h0 : 0 < k
    · rw [if_pos h0]
      rw [if_pos h0] at e1
      exact (subs_congr unbox 12 ((imixc_congr e1).trans (imixc_mixc hsb))).trans (unsub_sub hby)
    · rw [if_neg h0]
      rw [if_neg h0] at e1
      exact (subs_congr unbox 12 e1).trans (unsub_sub hby)
/-- what was encrypted is decrypted -/
theorem dec_enc (hS : By (16 * (n + 7)) S) (hb : By 16 b) : Eq16 (dec n S (enc n S b)) b := by
  have h := dst_enc hS hb (n + 6) (Nat.le_refl _)
  rw [Nat.sub_self] at h
  exact (addk_congr S 0 h).trans (addk_addk S 0 b)
theorem est_dec (hS : By (16 * (n + 7)) S) (hb : By 16 b) : ∀ r, r ≤ n + 6 → Eq16 (est n S (dec n S b) r) (dst n S b (n + 6 - r))
  | 0, _ => addk_addk S 0 _
  | r + 1, hr => by
    have ih := est_dec hS hb r (by omega)
    obtain ⟨k, hk⟩ : ∃ k, n + 6 - r = k + 1 := ⟨n + 6 - (r + 1), by omega⟩
    have hrk : n + 6 - k = r + 1 := by omega
    have hby := addk_by (S := S) (r := r + 1) (fun i hi => hS i (by omega)) (dst_by hS hb k (by omega))
    rw [show n + 6 - (r + 1) = k by omega]
    rw [hk] at ih
    have ih2 : Eq16 (est n S (dec n S b) r) (subs unbox 12 (if 0 < k then imixc (addk S (r + 1) (dst n S b k)) else addk S (r + 1) (dst n S b k))) := by
      refine ih.trans ?_
      show Eq16 (subs unbox 12 (if 0 < k then imixc (addk S (n + 6 - k) (dst n S b k)) else addk S (n + 6 - k) (dst n S b k))) _
      rw [hrk]; exact Eq16.refl _
    refine Eq16.trans (t := addk S (r + 1) (addk S (r + 1) (dst n S b k))) ?_ (addk_addk _ _ _)
    refine addk_congr S (r + 1) ?_
    by_cases h0 : 0 < k
    · rw [if_pos h0] at ih2
      rw [if_pos (by omega)]
      exact (mixc_congr ((subs_congr box 4 ih2).trans (sub_unsub (imixc_by hby)))).trans (mixc_imixc hby)
    · rw [if_neg h0] at ih2
      rw [if_neg (by omega)]
      exact (subs_congr box 4 ih2).trans (sub_unsub hby)
/-- and the other way round -/
theorem enc_dec (hS : By (16 * (n + 7)) S) (hb : By 16 b) : Eq16 (enc n S (dec n S b)) b := by
  have h := est_dec hS hb (n + 6) (Nat.le_refl _)
  rw [Nat.sub_self] at h
  exact h
theorem est_congr {c : Nat → Nat} (h : Eq16 b c) : ∀ r, Eq16 (est n S b r) (est n S c r)
  | 0 => addk_congr S 0 h
  | r + 1 => by
    have ih := subs_congr box 4 (est_congr h r)
    refine addk_congr S (r + 1) ?_
    split
    · exact mixc_congr ih
    · exact ih
theorem dst_congr {c : Nat → Nat} (h : Eq16 b c) : ∀ k, Eq16 (dst n S b k) (dst n S c k)
  | 0 => h
  | k + 1 => by
    have ih := addk_congr S (n + 6 - k) (dst_congr h k)
    refine subs_congr unbox 12 ?_
    split
    · exact imixc_congr ih
    · exact ih
theorem enc_congr {c : Nat → Nat} (h : Eq16 b c) : Eq16 (enc n S b) (enc n S c) := est_congr h _
theorem dec_congr {c : Nat → Nat} (h : Eq16 b c) : Eq16 (dec n S b) (dec n S c) := addk_congr S 0 (dst_congr h _)
theorem enc_inj {c : Nat → Nat} (hS : By (16 * (n + 7)) S) (hb : By 16 b) (hc : By 16 c) (h : Eq16 (enc n S b) (enc n S c)) : Eq16 b c :=
  ((dec_enc hS hb).symm.trans (dec_congr h)).trans (dec_enc hS hc)

/-! ### round keys -/
def kt (n : Nat) (S : Nat → Nat) (i j : Nat) : Nat :=
  if i % n = 0 then box (S (4 * (i - 1) + (j + 1) % 4)) ^^^ (if j = 0 then gpow 2 (i / n - 1) else 0)
  else if n = 8 ∧ i % 8 = 4 then box (S (4 * (i - 1) + j)) else S (4 * (i - 1) + j)
def nxt (n : Nat) (S : Nat → Nat) (i j : Nat) : Nat := S (4 * (i - n) + j) ^^^ kt n S i j
/-- the schedule behind k words that were made -/
def sch (n : Nat) (key : Nat → Nat) : Nat → Nat → Nat
  | 0 => fun x => if x < 4 * n then key x else 0
  | k + 1 => fun x => if x / 4 = n + k then nxt n (sch n key k) (n + k) (x % 4) else sch n key k x
def ks (n : Nat) (key : Nat → Nat) : Nat → Nat := sch n key (3 * n + 28)
theorem nxt_by {i j : Nat} (hn : 0 < n) (hi : n ≤ i) (hj : j < 4) (h : By (4 * i) S) : nxt n S i j < 256 := by
  unfold nxt kt
  refine xor8 (h _ (by omega)) ?_
  split
  · refine xor8 (box_lt (h _ (by omega))) ?_
    split
    · exact gpow_lt (by decide) _
    · decide
  · split
    · exact box_lt (h _ (by omega))
    · exact h _ (by omega)
theorem sch_by {key : Nat → Nat} (hn : 0 < n) (hk : By (4 * n) key) : ∀ k x, sch n key k x < 256
  | 0, x => by
    show (if x < 4 * n then key x else 0) < 256
    split
    · exact hk x ‹_›
    · decide
  | k + 1, x => by
    show (if x / 4 = n + k then nxt n (sch n key k) (n + k) (x % 4) else sch n key k x) < 256
    split
    · exact nxt_by hn (by omega) (by omega) fun i _ => sch_by hn hk k i
    · exact sch_by hn hk k x
theorem ks_by {key : Nat → Nat} (hn : 0 < n) (hk : By (4 * n) key) (x : Nat) : ks n key x < 256 := sch_by hn hk _ x
/-- what was made stays -/
theorem sch_stay {key : Nat → Nat} (k : Nat) : ∀ m x, x / 4 < n + k → sch n key (k + m) x = sch n key k x
  | 0, _, _ => rfl
  | m + 1, x, hx => by
    show (if x / 4 = n + (k + m) then _ else sch n key (k + m) x) = _
    rw [if_neg (by omega), sch_stay k m x hx]
theorem ks_key {key : Nat → Nat} {x : Nat} (hx : x < 4 * n) : ks n key x = key x := by
  unfold ks
  rw [← Nat.zero_add (3 * n + 28), sch_stay 0 _ x (by omega)]
  show (if x < 4 * n then key x else 0) = _
  rw [if_pos hx]
theorem kt_congr {T : Nat → Nat} {i j : Nat} (hn : 0 < n) (hi : n ≤ i) (hj : j < 4) (h : ∀ x, x < 4 * i → S x = T x) : kt n S i j = kt n T i j := by
  unfold kt
  rw [h _ (by omega), h (4 * (i - 1) + j) (by omega)]
theorem nxt_congr {T : Nat → Nat} {i j : Nat} (hn : 0 < n) (hi : n ≤ i) (hj : j < 4) (h : ∀ x, x < 4 * i → S x = T x) : nxt n S i j = nxt n T i j := by
  unfold nxt
  rw [kt_congr hn hi hj h, h _ (by omega)]
/-- the round keys say each other -/
theorem ks_next {key : Nat → Nat} {i j : Nat} (hn : 0 < n) (hi : n ≤ i) (hi2 : i < 4 * (n + 7)) (hj : j < 4) : ks n key (4 * i + j) = nxt n (ks n key) i j := by
  obtain ⟨k, rfl⟩ : ∃ k, i = n + k := ⟨i - n, by omega⟩
  obtain ⟨m, hm⟩ : ∃ m, 3 * n + 28 = k + 1 + m := ⟨3 * n + 28 - (k + 1), by omega⟩
  have e1 : ks n key (4 * (n + k) + j) = nxt n (sch n key k) (n + k) j := by
    unfold ks
    rw [hm, sch_stay (k + 1) m _ (by omega)]
    show (if (4 * (n + k) + j) / 4 = n + k then nxt n (sch n key k) (n + k) ((4 * (n + k) + j) % 4) else _) = _
    rw [if_pos (by omega), show (4 * (n + k) + j) % 4 = j by omega]
  rw [e1]
  refine nxt_congr hn hi hj fun x hx => ?_
  unfold ks
  rw [show 3 * n + 28 = k + (3 * n + 28 - k) by omega, sch_stay k _ x (by omega)]
theorem sch_congr {key key' : Nat → Nat} (hn : 0 < n) (h : ∀ x, x < 4 * n → key x = key' x) : ∀ k x, sch n key k x = sch n key' k x
  | 0, x => by
    show (if x < 4 * n then key x else 0) = (if x < 4 * n then key' x else 0)
    split
    · exact h x ‹_›
    · rfl
  | k + 1, x => by
    show (if x / 4 = n + k then nxt n (sch n key k) (n + k) (x % 4) else sch n key k x) = (if x / 4 = n + k then nxt n (sch n key' k) (n + k) (x % 4) else sch n key' k x)
    rw [sch_congr hn h k x, nxt_congr hn (Nat.le_add_right n k) (Nat.mod_lt x (by decide)) fun y _ => sch_congr hn h k y]
theorem ks_congr {key key' : Nat → Nat} (hn : 0 < n) (h : ∀ x, x < 4 * n → key x = key' x) (x : Nat) : ks n key x = ks n key' x := sch_congr hn h _ x
end Go.Proofs.Ytgfdnhpfdbaddaa
