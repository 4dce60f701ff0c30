/- Contracts of the reference's aes: keys and blocks. -/
import Derived.Test.YtgfdnhpfdbaddaaRef04E
namespace Go.Proofs.Ytgfdnhpfdbaddaa
open Go.RowKit

/-- a key of the reference's, at g -/
structure RKey (w : World) (g n : Nat) (key : Nat → Nat) : Prop where
  rounds : ∃ (L cap : Nat) (G C : Nat → Nat), w.cell? ⟨g, 0, none⟩ = some (.slice (some ⟨L, 0, none⟩) (n + 7) cap) ∧ L < w.heap.size ∧ ∀ j, j < n + 7 → w.cell? ⟨L, j, none⟩ = some (.slice (some ⟨G j, 0, none⟩) 16 (C j)) ∧ RowX w (G j) 5 16 (fun t => .int .u8 (ks n key (16 * j + t) : Nat))
  box : ∃ B, w.cell? ⟨g, 1, none⟩ = some (.slice (some ⟨B, 0, none⟩) 256 256) ∧ RowB w B 256 box
  unbox : ∃ U, w.cell? ⟨g, 2, none⟩ = some (.slice (some ⟨U, 0, none⟩) 256 256) ∧ RowB w U 256 unbox
theorem RKey.lt {w : World} {g n : Nat} {key : Nat → Nat} (h : RKey w g n key) : g < w.heap.size := by
  obtain ⟨B, hb, _⟩ := h.box
  exact block_lt hb
theorem RKey.keep {w w' : World} {g n : Nat} {key : Nat → Nat} (h : RKey w g n key) (hb : Below w.heap.size w w') : RKey w' g n key := by
  have hg := h.lt
  obtain ⟨⟨L, cap, G, C, h1, h2, h3⟩, ⟨B, h4, h5⟩, ⟨U, h6, h7⟩⟩ := h
  exact ⟨⟨L, cap, G, C, (hb.cell (p := ⟨g, 0, none⟩) hg).trans h1, Nat.lt_of_lt_of_le h2 hb.size, fun j hj => ⟨(hb.cell (p := ⟨L, j, none⟩) h2).trans (h3 j hj).1, (h3 j hj).2.keep hb⟩⟩,
    ⟨B, (hb.cell (p := ⟨g, 1, none⟩) hg).trans h4, h5.keep hb⟩, ⟨U, (hb.cell (p := ⟨g, 2, none⟩) hg).trans h6, h7.keep hb⟩⟩
theorem rnew_short (A : Option Addr) (len cap : Nat) (w : World) (hl : len ≠ 16) (hl2 : len ≠ 32) (_hl3 : len ≤ 140737488351232) :
    Calls Try.prog 18 #[.slice A len cap] w fun e w' => e = .returned (.tuple #[.pointer none, .int .i64 1]) ∧ w = w' := by
  have hb : ((len : Int) != 16) = true := by simp; omega
  have hb2 : ((len : Int) != 32) = true := by simp; omega
  go_enter Try.func18, Try.ntmps18
  go_wp2_with fail
  go_ret2
  exact ⟨rfl, rfl⟩
def RNewP (n : Nat) (key : Nat → Nat) (w : World) (e : Ending) (w' : World) : Prop :=
  ∃ g, e = .returned (.tuple #[.pointer (some ⟨g, 0, none⟩), .int .i64 0]) ∧ w.heap.size ≤ g ∧ RKey w' g n key ∧ Below w.heap.size w w'
set_option maxHeartbeats 800000 in
theorem rnew_any (A : Option Addr) (n cap : Nat) (key : Nat → Nat) (w : World) (hn : n = 4 ∨ n = 8) (hc : 4 * n ≤ cap) (hA : SlB w A (4 * n) key) :
    Calls Try.prog 18 #[.slice A (4 * n) cap] w (RNewP n key w) := by
  have HA := Lib.hid hA
  have HN := Lib.hid hn
  have HC := Lib.hid hc
  have HB0 := Lib.hid fun w => rboxes_any w
  obtain ⟨l, hl⟩ : ∃ l, 4 * n = l := ⟨_, rfl⟩
  have HL := Lib.hid hl
  have hb : (((l : Int) != 16) = true ∧ ((l : Int) != 32) = false) ∨ ((l : Int) != 16) = false := by
    rcases hn with rfl | rfl
    · right; simp; omega
    · left; constructor <;> simp <;> omega
  rw [hl]
  clear hA hn hl hc
  go_enter Try.func18, Try.ntmps18
  rcases hb with ⟨hb1, hb2⟩ | hb1
  all_goals
    go_wp2_with (first | (go_at_call 25; go_must (refine (HB0.out _).mono ?_); rintro e w1 ⟨rfl, h1, h2⟩; have H1 := Lib.hid h1; have H2 := Lib.hid h2; clear h1 h2) | (go_at_call 26; go_must (have hr := rrounds_any A (some ⟨w.heap.size, 0, none⟩) n cap 256 key w1 HN.out HC.out (HA.out.keep H2.out) (H1.out.slB0 (Nat.le_refl _) box_by)); rw [HL.out] at hr; refine hr.mono ?_; clear hr; rintro e w2 ⟨v, G, C, rfl, h3, h4⟩; obtain ⟨A3, cap3, rfl, _, hsl⟩ := h3.slice; obtain ⟨L, rfl, hL, hcl⟩ := hsl (by omega); have HCL := Lib.hid hcl; have HLL := Lib.hid hL; clear hsl hcl hL; have H3 := Lib.hid h3; have H4 := Lib.hid h4; clear h3 h4) | (go_at_call 27; go_must (refine (rback_any (some ⟨w.heap.size, 0, none⟩) 256 w2 ((H1.out.keep H4.out).slB0 (Nat.le_refl _) box_by)).mono ?_); rintro e w3 ⟨rfl, h5, h6⟩; have H5 := Lib.hid h5; have H6 := Lib.hid h6; clear h5 h6))
    have HR := Lib.hid (show ∀ o, RKey (w3.alloc (.cells #[.slice (some ⟨L, 0, none⟩) (n + 7) cap3, .slice (some ⟨w.heap.size, 0, none⟩) 256 256, .slice (some ⟨w2.heap.size, 0, none⟩) 256 256] o)) w3.heap.size n key from fun o => by
      have hk := (H6.out.trans (((Below.refl w3.heap.size w3).alloc (Nat.le_refl _) (.cells #[.slice (some ⟨L, 0, none⟩) (n + 7) cap3, .slice (some ⟨w.heap.size, 0, none⟩) 256 256, .slice (some ⟨w2.heap.size, 0, none⟩) 256 256] o)).mono H6.out.size))
      exact ⟨⟨L, cap3, G, C, (World.cell?_alloc_at _ _ _ _ rfl).trans rfl, Nat.lt_of_lt_of_le HLL.out hk.size, fun j hj => ⟨(hk.cell (p := ⟨L, j, none⟩) HLL.out).trans (HCL.out j hj), (H3.out.rows j hj).keep hk⟩⟩,
        ⟨w.heap.size, (World.cell?_alloc_at _ _ _ _ rfl).trans rfl, (H1.out.keep H4.out).keep hk⟩, ⟨w2.heap.size, (World.cell?_alloc_at _ _ _ _ rfl).trans rfl, H5.out.alloc _⟩⟩)
    have HBW := Lib.hid (show Below w.heap.size w w3 from H2.out.trans ((H4.out.mono H2.out.size).trans (H6.out.mono (Nat.le_trans H2.out.size H4.out.size))))
    go_ret2
    exact ⟨w3.heap.size, rfl, HBW.out.size, HR.out _, HBW.out.alloc HBW.out.size _⟩

/-- what the reference's encryption leaves -/
def RBlkP (r : Nat → Nat) (w : World) (e : Ending) (w' : World) : Prop :=
  ∃ st, e = .returned (.tuple #[.slice (some ⟨st, 0, none⟩) 16 16, .int .i64 0]) ∧ w.heap.size ≤ st ∧ RowB w' st 16 r ∧ Below w.heap.size w w'
theorem renc_short (g : Nat) (A : Option Addr) (len cap : Nat) (w : World) (hl : len ≠ 16) (_hl2 : len ≤ 140737488351232) :
    Calls Try.prog 19 #[.pointer (some ⟨g, 0, none⟩), .slice A len cap] w fun e w' => e = .returned (.tuple #[.slice none 0 0, .int .i64 1]) ∧ w = w' := by
  have hb : ((len : Int) != 16) = true := by simp; omega
  go_enter Try.func19, Try.ntmps19
  go_wp2_with fail
  go_ret2
  exact ⟨rfl, rfl⟩
theorem size_alloc1 (w : World) (o : Obj) : (w.alloc o).heap.size = w.heap.size + 1 := by simp
/-- four factors in memory -/
theorem four_fac (w : World) (t : TypeId) (a b c d : Nat) (ai bi ci di : Int) (ha : ai = (a : Nat)) (hb : bi = (b : Nat)) (hc : ci = (c : Nat)) (hd : di = (d : Nat)) (h : a < 256 ∧ b < 256 ∧ c < 256 ∧ d < 256) :
    ∀ k, k < 4 → fac a b c d k < 256 ∧ (w.alloc (.cells #[.int .i64 ai, .int .i64 bi, .int .i64 ci, .int .i64 di] t)).cell? ⟨w.heap.size, 0 + k, none⟩ = some (.int .i64 (fac a b c d k : Nat)) := fun k hk => by
  subst ha hb hc hd
  rcases (show k = 0 ∨ k = 1 ∨ k = 2 ∨ k = 3 by omega) with rfl | rfl | rfl | rfl
  · exact ⟨h.1, (World.cell?_alloc_at _ _ _ _ rfl).trans rfl⟩
  · exact ⟨h.2.1, (World.cell?_alloc_at _ _ _ _ rfl).trans rfl⟩
  · exact ⟨h.2.2.1, (World.cell?_alloc_at _ _ _ _ rfl).trans rfl⟩
  · exact ⟨h.2.2.2, (World.cell?_alloc_at _ _ _ _ rfl).trans rfl⟩
theorem rkey_bytes {n : Nat} {key : Nat → Nat} (hn : n = 4 ∨ n = 8) (hkey : By (4 * n) key) (j : Nat) : By 16 (fun t => ks n key (16 * j + t)) := fun _ _ => ks_by (by omega) hkey _
/-- the facts of a key at a later world -/
theorem RKey.at {w : World} {g n : Nat} {key : Nat → Nat} (h : RKey w g n key) : ∃ (L cap B U : Nat) (G C : Nat → Nat), ∀ w', Below w.heap.size w w' →
    w'.cell? ⟨g, 0, none⟩ = some (.slice (some ⟨L, 0, none⟩) (n + 7) cap) ∧ w'.cell? ⟨g, 1, none⟩ = some (.slice (some ⟨B, 0, none⟩) 256 256) ∧ w'.cell? ⟨g, 2, none⟩ = some (.slice (some ⟨U, 0, none⟩) 256 256) ∧
      RowB w' B 256 Go.Proofs.Ytgfdnhpfdbaddaa.box ∧ RowB w' U 256 Go.Proofs.Ytgfdnhpfdbaddaa.unbox ∧ ∀ j, j < n + 7 → w'.cell? ⟨L, j, none⟩ = some (.slice (some ⟨G j, 0, none⟩) 16 (C j)) ∧ RowX w' (G j) 5 16 (fun t => .int .u8 (ks n key (16 * j + t) : Nat)) := by
  have hg := h.lt
  obtain ⟨⟨L, cap, G, C, h1, h2, h3⟩, ⟨B, h4, h5⟩, ⟨U, h6, h7⟩⟩ := h
  exact ⟨L, cap, B, U, G, C, fun w' hb => ⟨(hb.cell (p := ⟨g, 0, none⟩) hg).trans h1, (hb.cell (p := ⟨g, 1, none⟩) hg).trans h4, (hb.cell (p := ⟨g, 2, none⟩) hg).trans h6, h5.keep hb, h7.keep hb, fun j hj => ⟨(hb.cell (p := ⟨L, j, none⟩) h2).trans (h3 j hj).1, (h3 j hj).2.keep hb⟩⟩⟩
set_option maxRecDepth 100000 in
set_option maxHeartbeats 1600000 in
theorem renc_any (g n : Nat) (key b : Nat → Nat) (A : Option Addr) (cap : Nat) (w : World) (hn : n = 4 ∨ n = 8) (hkey : By (4 * n) key) (hk : RKey w g n key) (hA : SlB w A 16 b) :
    Calls Try.prog 19 #[.pointer (some ⟨g, 0, none⟩), .slice A 16 cap] w (RBlkP (enc n (ks n key) b) w) := by
  have HKB := Lib.hid fun j => rkey_bytes hn hkey j
  have HSK := Lib.hid (show By (16 * (n + 7)) (ks n key) from fun j _ => ks_by (by omega) hkey j)
  have HBB := Lib.hid (show By 16 b from fun j hj => hA.byte hj)
  obtain ⟨L, capL, B, U, G, C, hat⟩ := hk.at
  have HAT := Lib.hid hat
  have HN := Lib.hid hn
  have HA := Lib.hid hA
  obtain ⟨f0, f1, f2, _, _, f3⟩ := hat w (Below.refl _ _)
  have f4 := (f3 0 (by omega)).1
  have HF4 := Lib.hid ((f3 0 (by omega)).2.slB (HKB.out 0))
  have hn7 : (0 : Int) < (n : Int) + 7 := by omega
  clear hn hkey hk hA hat f3
  go_enter Try.func19, Try.ntmps19
  go_wp2_with ((go_at_call 28; go_must (refine (rlay_any4 A (some ⟨G 0, 0, none⟩) cap (C 0) b _ w HA.out HF4.out).mono ?_); rintro e w1 ⟨rfl, h1, h2⟩; have H1 := Lib.hid h1; have H2 := Lib.hid h2; clear h1 h2))
  clear f0 f1 f2 f4 hn7
  go_loopw [6, 7] (fun v6 v7 wr => ∃ r st : Nat, r ≤ n + 6 ∧ v7 = .int .i64 ((r + 1 : Nat) : Int) ∧ v6 = .slice (some ⟨st, 0, none⟩) 16 16 ∧ w.heap.size ≤ st ∧ RowB wr st 16 (est n (ks n key) b r) ∧ Below w.heap.size w wr) (fun _ v7 _ => 30 - (intOf v7).toNat)
  case atStart => exact ⟨0, w.heap.size, by omega, rfl, rfl, Nat.le_refl _, H1.out, H2.out⟩
  case round =>
    obtain ⟨r, st, hr, rfl, rfl, hst, h1, h2⟩ := hrel
    have H1 := Lib.hid h1
    have H2 := Lib.hid h2
    have HST := Lib.hid hst
    have HBY := Lib.hid (est_by HSK.out HBB.out r hr)
    have HSB := Lib.hid (subs_by box_by 4 HBY.out)
    obtain ⟨f0, f1, f2, fb, _, f3⟩ := HAT.out wr h2
    have HBX := Lib.hid (fb.slB0 (Nat.le_refl _) box_by)
    clear h1 h2 fb f3 hst
    have hn8 : ((n : Nat) : Int) ≤ 8 := by have := HN.out; omega
    have hn0 : (0 : Int) ≤ (n : Nat) := by omega
    obtain ⟨q, hq⟩ : ∃ q, r + 1 = q := ⟨_, rfl⟩
    rw [hq]
    by_cases hlt : q < n + 7
    · have hqi : (q : Int) < (n : Int) + 7 := by omega
      have hq0 : (0 : Int) ≤ (q : Nat) := by omega
      have HQ := Lib.hid hq
      have HQ7 := Lib.hid hlt
      clear hq
      by_cases hmx : q < n + 6
      · have hmi : (q : Int) < (n : Int) + 7 - 1 := by omega
        have hmi2 : (q : Int) < (n : Int) + 6 := by omega
        have HE := Lib.hid (show ∀ j, mixc (subs box 4 (est n (ks n key) b r)) j ^^^ ks n key (16 * q + j) = est n (ks n key) b q j from fun j => by rw [← HQ.out]; show _ = addk _ _ (if r + 1 < n + 6 then _ else _) j; rw [if_pos (by have := HQ.out; omega)]; rfl)
        go_wp2_with (first | (go_at_call 30; go_must (refine (rswap_any (some ⟨st, 0, none⟩) (some ⟨B, 0, none⟩) 16 256 _ box wr (H1.out.slB0 (Nat.le_refl _) HBY.out) HBX.out).mono ?_); rintro e w2 ⟨rfl, h1, h2⟩; have H3 := Lib.hid h1; have H4 := Lib.hid (H2.out.trans (h2.mono H2.out.size)); clear h1 h2) | (go_at_call 29; go_must (refine (rshift_any (some ⟨wr.heap.size, 0, none⟩) 16 1 1 _ w2 (Or.inl ⟨rfl, rfl⟩) (H3.out.slB0 (Nat.le_refl _) (fun j hj => box_lt (HBY.out j hj)))).mono ?_); rintro e w3 ⟨rfl, h1, h2⟩; have H5 := Lib.hid (show RowB w3 w2.heap.size 16 (subs box 4 (est n (ks n key) b r)) from h1.congr fun j _ => rfl); have H6 := Lib.hid (H4.out.trans (h2.mono H4.out.size)); obtain ⟨a0, a1, a2, _, _, a3⟩ := HAT.out w3 H6.out; have aq := (a3 q HQ7.out).1; have HAQ := Lib.hid ((a3 q HQ7.out).2.slB (HKB.out q)); clear h1 h2 a3) | (go_at_call 31; go_must (refine (rmix_any (some ⟨w2.heap.size, 0, none⟩) 16 4 w3.heap.size 0 _ (fac 2 3 1 1) _ ((H5.out.alloc _).slB0 (Nat.le_refl _) HSB.out) (by simp) (four_fac w3 _ 2 3 1 1 2 3 1 1 rfl rfl rfl rfl ⟨by decide, by decide, by decide, by decide⟩)).mono ?_); rintro e w4 ⟨rfl, h1, h2⟩; rw [size_alloc1] at h1; have H7 := Lib.hid (h1.congr (f := mixc (subs box 4 (est n (ks n key) b r))) fun j hj => psum_mix HSB.out hj); have H8 := Lib.hid ((H6.out.alloc H6.out.size _).trans (h2.mono (Nat.le_trans H6.out.size (by simp)))); obtain ⟨c0, c1, c2, _, _, c3⟩ := HAT.out w4 H8.out; have cq := (c3 q HQ7.out).1; have HCQ := Lib.hid ((c3 q HQ7.out).2.slB (HKB.out q)); clear h1 h2 c3) | (go_at_call 28; go_must (refine (rlay_any4 _ (some ⟨G q, 0, none⟩) 16 (C q) (mixc (subs box 4 (est n (ks n key) b r))) _ w4 (H7.out.slB0 (Nat.le_refl _) (mixc_by HSB.out)) HCQ.out).mono ?_); rintro e w5 ⟨rfl, h1, h2⟩; have H9 := Lib.hid h1; have H10 := Lib.hid (H8.out.trans (h2.mono H8.out.size)); have HZ := Lib.hid H8.out.size; clear h1 h2))
        go_roundw
        case rel => exact ⟨q, w4.heap.size, by omega, by go_num, rfl, HZ.out, H9.out.congr fun j _ => HE.out j, H10.out⟩
        case measure => simp [intOf]; omega
      · have hmi : ¬ (q : Int) < (n : Int) + 7 - 1 := by omega
        have hmi2 : ¬ (q : Int) < (n : Int) + 6 := by omega
        have HE := Lib.hid (show ∀ j, subs box 4 (est n (ks n key) b r) j ^^^ ks n key (16 * q + j) = est n (ks n key) b q j from fun j => by rw [← HQ.out]; show _ = addk _ _ (if r + 1 < n + 6 then _ else _) j; rw [if_neg (by have := HQ.out; omega)]; rfl)
        go_wp2_with (first | (go_at_call 30; go_must (refine (rswap_any (some ⟨st, 0, none⟩) (some ⟨B, 0, none⟩) 16 256 _ box wr (H1.out.slB0 (Nat.le_refl _) HBY.out) HBX.out).mono ?_); rintro e w2 ⟨rfl, h1, h2⟩; have H3 := Lib.hid h1; have H4 := Lib.hid (H2.out.trans (h2.mono H2.out.size)); clear h1 h2) | (go_at_call 29; go_must (refine (rshift_any (some ⟨wr.heap.size, 0, none⟩) 16 1 1 _ w2 (Or.inl ⟨rfl, rfl⟩) (H3.out.slB0 (Nat.le_refl _) (fun j hj => box_lt (HBY.out j hj)))).mono ?_); rintro e w3 ⟨rfl, h1, h2⟩; have H5 := Lib.hid (show RowB w3 w2.heap.size 16 (subs box 4 (est n (ks n key) b r)) from h1.congr fun j _ => rfl); have H6 := Lib.hid (H4.out.trans (h2.mono H4.out.size)); obtain ⟨a0, a1, a2, _, _, a3⟩ := HAT.out w3 H6.out; have aq := (a3 q HQ7.out).1; have HAQ := Lib.hid ((a3 q HQ7.out).2.slB (HKB.out q)); clear h1 h2 a3) | (go_at_call 28; go_must (refine (rlay_any4 _ (some ⟨G q, 0, none⟩) 16 (C q) (subs box 4 (est n (ks n key) b r)) _ w3 (H5.out.slB0 (Nat.le_refl _) HSB.out) HAQ.out).mono ?_); rintro e w5 ⟨rfl, h1, h2⟩; have H9 := Lib.hid h1; have H10 := Lib.hid (H6.out.trans (h2.mono H6.out.size)); have HZ := Lib.hid H6.out.size; clear h1 h2))
        go_roundw
        case rel => exact ⟨q, w3.heap.size, by omega, by go_num, rfl, HZ.out, H9.out.congr fun j _ => HE.out j, H10.out⟩
        case measure => simp [intOf]; omega
    · obtain rfl : r = n + 6 := by omega
      have hqi : ¬ (q : Int) < (n : Int) + 7 := by omega
      clear hq
      go_wp2_with fail
      go_ret2
      exact ⟨st, rfl, HST.out, H1.out, H2.out⟩
end Go.Proofs.Ytgfdnhpfdbaddaa
