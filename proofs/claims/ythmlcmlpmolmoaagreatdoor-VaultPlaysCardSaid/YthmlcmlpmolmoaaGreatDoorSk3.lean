/- 17 texts in one, in their order: what the cards need of them. -/
import Derived.Test.YthmlcmlpmolmoaaGreatDoorSk2
import Derived.RangeFuncNested
import Derived.RangeFuncBound
import Derived.RangeFuncCalls
import Derived.RangeFuncLeaves
import Derived.Shelf.Abstract
import Derived.Shelf.RegionOpen
import Derived.OwnWalkIn
import Derived.TacticsInMore
import Derived.LoopNIn
import Derived.LoopIn
import Derived.Lib.BitFns
namespace Go.Proofs.YthmlcmlpmolmoaaGreatDoor
open Go.RowKit
structure RKey (w : World) (g n : Nat) (key : Nat → Nat) : Prop where
  rounds : ∃ (L cap : Nat) (G C : Nat → Nat), w.cell? ⟨g, 0, none⟩ = some (.slice (some ⟨L, 0, none⟩) (n + 7) cap) ∧ L < w.heap.size ∧ ∀ j, j < n + 7 → w.cell? ⟨L, j, none⟩ = some (.slice (some ⟨G j, 0, none⟩) 16 (C j)) ∧ RowX w (G j) 5 16 (fun t => .int .u8 (ks n key (16 * j + t) : Nat))
  box : ∃ B, w.cell? ⟨g, 1, none⟩ = some (.slice (some ⟨B, 0, none⟩) 256 256) ∧ RowB w B 256 box
  unbox : ∃ U, w.cell? ⟨g, 2, none⟩ = some (.slice (some ⟨U, 0, none⟩) 256 256) ∧ RowB w U 256 unbox
theorem RKey.lt {w : World} {g n : Nat} {key : Nat → Nat} (h : RKey w g n key) : g < w.heap.size := by
  obtain ⟨B, hb, _⟩ := h.box
  exact block_lt hb
theorem RKey.keep {w w' : World} {g n : Nat} {key : Nat → Nat} (h : RKey w g n key) (hb : Below w.heap.size w w') : RKey w' g n key := by
  have hg := h.lt
  obtain ⟨⟨L, cap, G, C, h1, h2, h3⟩, ⟨B, h4, h5⟩, ⟨U, h6, h7⟩⟩ := h
  exact ⟨⟨L, cap, G, C, (hb.cell (p := ⟨g, 0, none⟩) hg).trans h1, Nat.lt_of_lt_of_le h2 hb.size, fun j hj => ⟨(hb.cell (p := ⟨L, j, none⟩) h2).trans (h3 j hj).1, (h3 j hj).2.keep hb⟩⟩,
    ⟨B, (hb.cell (p := ⟨g, 1, none⟩) hg).trans h4, h5.keep hb⟩, ⟨U, (hb.cell (p := ⟨g, 2, none⟩) hg).trans h6, h7.keep hb⟩⟩
def RNewP (n : Nat) (key : Nat → Nat) (w : World) (e : Ending) (w' : World) : Prop :=
  ∃ g, e = .returned (.tuple #[.pointer (some ⟨g, 0, none⟩), .int .i64 0]) ∧ w.heap.size ≤ g ∧ RKey w' g n key ∧ Below w.heap.size w w'
set_option maxHeartbeats 800000 in
theorem rnew_any (A : Option Addr) (n cap : Nat) (key : Nat → Nat) (w : World) (hn : n = 4 ∨ n = 8) (hc : 4 * n ≤ cap) (hA : SlB w A (4 * n) key) :
    Calls Tryz.prog 121 #[.slice A (4 * n) cap] w (RNewP n key w) := by
  have HA := Lib.hid hA
  have HN := Lib.hid hn
  have HC := Lib.hid hc
  have HB0 := Lib.hid fun w => rboxes_any w
  obtain ⟨l, hl⟩ : ∃ l, 4 * n = l := ⟨_, rfl⟩
  have HL := Lib.hid hl
  have hb : (((l : Int) != 16) = true ∧ ((l : Int) != 32) = false) ∨ ((l : Int) != 16) = false := by
    rcases hn with rfl | rfl
    · right; simp; omega
    · left; constructor <;> simp <;> omega
  rw [hl]
  clear hA hn hl hc
  go_enter Tryz.func121, Tryz.ntmps121
  rcases hb with ⟨hb1, hb2⟩ | hb1
  all_goals
    go_wp2_with (first | (go_at_call 153; go_must (refine (HB0.out _).mono ?_); rintro e w1 ⟨rfl, h1, h2⟩; have H1 := Lib.hid h1; have H2 := Lib.hid h2; clear h1 h2) | (go_at_call 154; go_must (have hr := rrounds_any A (some ⟨w.heap.size, 0, none⟩) n cap 256 key w1 HN.out HC.out (HA.out.keep H2.out) (H1.out.slB0 (Nat.le_refl _) box_by)); rw [HL.out] at hr; refine hr.mono ?_; clear hr; rintro e w2 ⟨v, G, C, rfl, h3, h4⟩; obtain ⟨A3, cap3, rfl, _, hsl⟩ := h3.slice; obtain ⟨L, rfl, hL, hcl⟩ := hsl (by omega); have HCL := Lib.hid hcl; have HLL := Lib.hid hL; clear hsl hcl hL; have H3 := Lib.hid h3; have H4 := Lib.hid h4; clear h3 h4) | (go_at_call 155; go_must (refine (rback_any (some ⟨w.heap.size, 0, none⟩) 256 w2 ((H1.out.keep H4.out).slB0 (Nat.le_refl _) box_by)).mono ?_); rintro e w3 ⟨rfl, h5, h6⟩; have H5 := Lib.hid h5; have H6 := Lib.hid h6; clear h5 h6))
    have HR := Lib.hid (show ∀ o, RKey (w3.alloc (.cells #[.slice (some ⟨L, 0, none⟩) (n + 7) cap3, .slice (some ⟨w.heap.size, 0, none⟩) 256 256, .slice (some ⟨w2.heap.size, 0, none⟩) 256 256] o)) w3.heap.size n key from fun o => by
      have hk := (H6.out.trans (((Below.refl w3.heap.size w3).alloc (Nat.le_refl _) (.cells #[.slice (some ⟨L, 0, none⟩) (n + 7) cap3, .slice (some ⟨w.heap.size, 0, none⟩) 256 256, .slice (some ⟨w2.heap.size, 0, none⟩) 256 256] o)).mono H6.out.size))
      exact ⟨⟨L, cap3, G, C, (World.cell?_alloc_at _ _ _ _ rfl).trans rfl, Nat.lt_of_lt_of_le HLL.out hk.size, fun j hj => ⟨(hk.cell (p := ⟨L, j, none⟩) HLL.out).trans (HCL.out j hj), (H3.out.rows j hj).keep hk⟩⟩,
        ⟨w.heap.size, (World.cell?_alloc_at _ _ _ _ rfl).trans rfl, (H1.out.keep H4.out).keep hk⟩, ⟨w2.heap.size, (World.cell?_alloc_at _ _ _ _ rfl).trans rfl, H5.out.alloc _⟩⟩)
    have HBW := Lib.hid (show Below w.heap.size w w3 from H2.out.trans ((H4.out.mono H2.out.size).trans (H6.out.mono (Nat.le_trans H2.out.size H4.out.size))))
    go_ret2
    exact ⟨w3.heap.size, rfl, HBW.out.size, HR.out _, HBW.out.alloc HBW.out.size _⟩
def RBlkP (r : Nat → Nat) (w : World) (e : Ending) (w' : World) : Prop :=
  ∃ st, e = .returned (.tuple #[.slice (some ⟨st, 0, none⟩) 16 16, .int .i64 0]) ∧ w.heap.size ≤ st ∧ RowB w' st 16 r ∧ Below w.heap.size w w'
theorem size_alloc1 (w : World) (o : Obj) : (w.alloc o).heap.size = w.heap.size + 1 := by simp
theorem four_fac (w : World) (t : TypeId) (a b c d : Nat) (ai bi ci di : Int) (ha : ai = (a : Nat)) (hb : bi = (b : Nat)) (hc : ci = (c : Nat)) (hd : di = (d : Nat)) (h : a < 256 ∧ b < 256 ∧ c < 256 ∧ d < 256) :
    ∀ k, k < 4 → fac a b c d k < 256 ∧ (w.alloc (.cells #[.int .i64 ai, .int .i64 bi, .int .i64 ci, .int .i64 di] t)).cell? ⟨w.heap.size, 0 + k, none⟩ = some (.int .i64 (fac a b c d k : Nat)) := fun k hk => by
  subst ha hb hc hd
  rcases (show k = 0 ∨ k = 1 ∨ k = 2 ∨ k = 3 by omega) with rfl | rfl | rfl | rfl
  · exact ⟨h.1, (World.cell?_alloc_at _ _ _ _ rfl).trans rfl⟩
  · exact ⟨h.2.1, (World.cell?_alloc_at _ _ _ _ rfl).trans rfl⟩
  · exact ⟨h.2.2.1, (World.cell?_alloc_at _ _ _ _ rfl).trans rfl⟩
  · exact ⟨h.2.2.2, (World.cell?_alloc_at _ _ _ _ rfl).trans rfl⟩
theorem rkey_bytes {n : Nat} {key : Nat → Nat} (hn : n = 4 ∨ n = 8) (hkey : By (4 * n) key) (j : Nat) : By 16 (fun t => ks n key (16 * j + t)) := fun _ _ => ks_by (by omega) hkey _
theorem RKey.at {w : World} {g n : Nat} {key : Nat → Nat} (h : RKey w g n key) : ∃ (L cap B U : Nat) (G C : Nat → Nat), ∀ w', Below w.heap.size w w' →
    w'.cell? ⟨g, 0, none⟩ = some (.slice (some ⟨L, 0, none⟩) (n + 7) cap) ∧ w'.cell? ⟨g, 1, none⟩ = some (.slice (some ⟨B, 0, none⟩) 256 256) ∧ w'.cell? ⟨g, 2, none⟩ = some (.slice (some ⟨U, 0, none⟩) 256 256) ∧
      RowB w' B 256 Go.Proofs.YthmlcmlpmolmoaaGreatDoor.box ∧ RowB w' U 256 Go.Proofs.YthmlcmlpmolmoaaGreatDoor.unbox ∧ ∀ j, j < n + 7 → w'.cell? ⟨L, j, none⟩ = some (.slice (some ⟨G j, 0, none⟩) 16 (C j)) ∧ RowX w' (G j) 5 16 (fun t => .int .u8 (ks n key (16 * j + t) : Nat)) := by
  have hg := h.lt
  obtain ⟨⟨L, cap, G, C, h1, h2, h3⟩, ⟨B, h4, h5⟩, ⟨U, h6, h7⟩⟩ := h
  exact ⟨L, cap, B, U, G, C, fun w' hb => ⟨(hb.cell (p := ⟨g, 0, none⟩) hg).trans h1, (hb.cell (p := ⟨g, 1, none⟩) hg).trans h4, (hb.cell (p := ⟨g, 2, none⟩) hg).trans h6, h5.keep hb, h7.keep hb, fun j hj => ⟨(hb.cell (p := ⟨L, j, none⟩) h2).trans (h3 j hj).1, (h3 j hj).2.keep hb⟩⟩⟩
set_option maxRecDepth 100000 in
set_option maxHeartbeats 1600000 in
theorem renc_any (g n : Nat) (key b : Nat → Nat) (A : Option Addr) (cap : Nat) (w : World) (hn : n = 4 ∨ n = 8) (hkey : By (4 * n) key) (hk : RKey w g n key) (hA : SlB w A 16 b) :
    Calls Tryz.prog 160 #[.pointer (some ⟨g, 0, none⟩), .slice A 16 cap] w (RBlkP (enc n (ks n key) b) w) := by
  have HKB := Lib.hid fun j => rkey_bytes hn hkey j
  have HSK := Lib.hid (show By (16 * (n + 7)) (ks n key) from fun j _ => ks_by (by omega) hkey j)
  have HBB := Lib.hid (show By 16 b from fun j hj => hA.byte hj)
  obtain ⟨L, capL, B, U, G, C, hat⟩ := hk.at
  have HAT := Lib.hid hat
  have HN := Lib.hid hn
  have HA := Lib.hid hA
  obtain ⟨f0, f1, f2, _, _, f3⟩ := hat w (Below.refl _ _)
  have f4 := (f3 0 (by omega)).1
  have HF4 := Lib.hid ((f3 0 (by omega)).2.slB (HKB.out 0))
  have hn7 : (0 : Int) < (n : Int) + 7 := by omega
  clear hn hkey hk hA hat f3
  go_enter Tryz.func160, Tryz.ntmps160
  go_wp2_with ((go_at_call 191; go_must (refine (rlay_any4 A (some ⟨G 0, 0, none⟩) cap (C 0) b _ w HA.out HF4.out).mono ?_); rintro e w1 ⟨rfl, h1, h2⟩; have H1 := Lib.hid h1; have H2 := Lib.hid h2; clear h1 h2))
  clear f0 f1 f2 f4 hn7
  go_loopw [6, 7] (fun v6 v7 wr => ∃ r st : Nat, r ≤ n + 6 ∧ v7 = .int .i64 ((r + 1 : Nat) : Int) ∧ v6 = .slice (some ⟨st, 0, none⟩) 16 16 ∧ w.heap.size ≤ st ∧ RowB wr st 16 (est n (ks n key) b r) ∧ Below w.heap.size w wr) (fun _ v7 _ => 30 - (intOf v7).toNat)
  case atStart => exact ⟨0, w.heap.size, by omega, rfl, rfl, Nat.le_refl _, H1.out, H2.out⟩
  case round =>
    obtain ⟨r, st, hr, rfl, rfl, hst, h1, h2⟩ := hrel
    have H1 := Lib.hid h1
    have H2 := Lib.hid h2
    have HST := Lib.hid hst
    have HBY := Lib.hid (est_by HSK.out HBB.out r hr)
    have HSB := Lib.hid (subs_by box_by 4 HBY.out)
    obtain ⟨f0, f1, f2, fb, _, f3⟩ := HAT.out wr h2
    have HBX := Lib.hid (fb.slB0 (Nat.le_refl _) box_by)
    clear h1 h2 fb f3 hst
    have hn8 : ((n : Nat) : Int) ≤ 8 := by have := HN.out; omega
    have hn0 : (0 : Int) ≤ (n : Nat) := by omega
    obtain ⟨q, hq⟩ : ∃ q, r + 1 = q := ⟨_, rfl⟩
    rw [hq]
    by_cases hlt : q < n + 7
    · have hqi : (q : Int) < (n : Int) + 7 := by omega
      have hq0 : (0 : Int) ≤ (q : Nat) := by omega
      have HQ := Lib.hid hq
      have HQ7 := Lib.hid hlt
      clear hq
      by_cases hmx : q < n + 6
      · have hmi : (q : Int) < (n : Int) + 7 - 1 := by omega
        have hmi2 : (q : Int) < (n : Int) + 6 := by omega
        have HE := Lib.hid (show ∀ j, mixc (subs box 4 (est n (ks n key) b r)) j ^^^ ks n key (16 * q + j) = est n (ks n key) b q j from fun j => by rw [← HQ.out]; show _ = addk _ _ (if r + 1 < n + 6 then _ else _) j; rw [if_pos (by have := HQ.out; omega)]; rfl)
        go_wp2_with (first | (go_at_call 193; go_must (refine (rswap_any (some ⟨st, 0, none⟩) (some ⟨B, 0, none⟩) 16 256 _ box wr (H1.out.slB0 (Nat.le_refl _) HBY.out) HBX.out).mono ?_); rintro e w2 ⟨rfl, h1, h2⟩; have H3 := Lib.hid h1; have H4 := Lib.hid (H2.out.trans (h2.mono H2.out.size)); clear h1 h2) | (go_at_call 192; go_must (refine (rshift_any (some ⟨wr.heap.size, 0, none⟩) 16 1 1 _ w2 (Or.inl ⟨rfl, rfl⟩) (H3.out.slB0 (Nat.le_refl _) (fun j hj => box_lt (HBY.out j hj)))).mono ?_); rintro e w3 ⟨rfl, h1, h2⟩; have H5 := Lib.hid (show RowB w3 w2.heap.size 16 (subs box 4 (est n (ks n key) b r)) from h1.congr fun j _ => rfl); have H6 := Lib.hid (H4.out.trans (h2.mono H4.out.size)); obtain ⟨a0, a1, a2, _, _, a3⟩ := HAT.out w3 H6.out; have aq := (a3 q HQ7.out).1; have HAQ := Lib.hid ((a3 q HQ7.out).2.slB (HKB.out q)); clear h1 h2 a3) | (go_at_call 194; go_must (refine (rmix_any (some ⟨w2.heap.size, 0, none⟩) 16 4 w3.heap.size 0 _ (fac 2 3 1 1) _ ((H5.out.alloc _).slB0 (Nat.le_refl _) HSB.out) (by simp) (four_fac w3 _ 2 3 1 1 2 3 1 1 rfl rfl rfl rfl ⟨by decide, by decide, by decide, by decide⟩)).mono ?_); rintro e w4 ⟨rfl, h1, h2⟩; rw [size_alloc1] at h1; have H7 := Lib.hid (h1.congr (f := mixc (subs box 4 (est n (ks n key) b r))) fun j hj => psum_mix HSB.out hj); have H8 := Lib.hid ((H6.out.alloc H6.out.size _).trans (h2.mono (Nat.le_trans H6.out.size (by simp)))); obtain ⟨c0, c1, c2, _, _, c3⟩ := HAT.out w4 H8.out; have cq := (c3 q HQ7.out).1; have HCQ := Lib.hid ((c3 q HQ7.out).2.slB (HKB.out q)); clear h1 h2 c3) | (go_at_call 191; go_must (refine (rlay_any4 _ (some ⟨G q, 0, none⟩) 16 (C q) (mixc (subs box 4 (est n (ks n key) b r))) _ w4 (H7.out.slB0 (Nat.le_refl _) (mixc_by HSB.out)) HCQ.out).mono ?_); rintro e w5 ⟨rfl, h1, h2⟩; have H9 := Lib.hid h1; have H10 := Lib.hid (H8.out.trans (h2.mono H8.out.size)); have HZ := Lib.hid H8.out.size; clear h1 h2))
        go_roundw
        case rel => exact ⟨q, w4.heap.size, by omega, by go_num, rfl, HZ.out, H9.out.congr fun j _ => HE.out j, H10.out⟩
        case measure => simp [intOf]; omega
      · have hmi : ¬ (q : Int) < (n : Int) + 7 - 1 := by omega
        have hmi2 : ¬ (q : Int) < (n : Int) + 6 := by omega
        have HE := Lib.hid (show ∀ j, subs box 4 (est n (ks n key) b r) j ^^^ ks n key (16 * q + j) = est n (ks n key) b q j from fun j => by rw [← HQ.out]; show _ = addk _ _ (if r + 1 < n + 6 then _ else _) j; rw [if_neg (by have := HQ.out; omega)]; rfl)
        go_wp2_with (first | (go_at_call 193; go_must (refine (rswap_any (some ⟨st, 0, none⟩) (some ⟨B, 0, none⟩) 16 256 _ box wr (H1.out.slB0 (Nat.le_refl _) HBY.out) HBX.out).mono ?_); rintro e w2 ⟨rfl, h1, h2⟩; have H3 := Lib.hid h1; have H4 := Lib.hid (H2.out.trans (h2.mono H2.out.size)); clear h1 h2) | (go_at_call 192; go_must (refine (rshift_any (some ⟨wr.heap.size, 0, none⟩) 16 1 1 _ w2 (Or.inl ⟨rfl, rfl⟩) (H3.out.slB0 (Nat.le_refl _) (fun j hj => box_lt (HBY.out j hj)))).mono ?_); rintro e w3 ⟨rfl, h1, h2⟩; have H5 := Lib.hid (show RowB w3 w2.heap.size 16 (subs box 4 (est n (ks n key) b r)) from h1.congr fun j _ => rfl); have H6 := Lib.hid (H4.out.trans (h2.mono H4.out.size)); obtain ⟨a0, a1, a2, _, _, a3⟩ := HAT.out w3 H6.out; have aq := (a3 q HQ7.out).1; have HAQ := Lib.hid ((a3 q HQ7.out).2.slB (HKB.out q)); clear h1 h2 a3) | (go_at_call 191; go_must (refine (rlay_any4 _ (some ⟨G q, 0, none⟩) 16 (C q) (subs box 4 (est n (ks n key) b r)) _ w3 (H5.out.slB0 (Nat.le_refl _) HSB.out) HAQ.out).mono ?_); rintro e w5 ⟨rfl, h1, h2⟩; have H9 := Lib.hid h1; have H10 := Lib.hid (H6.out.trans (h2.mono H6.out.size)); have HZ := Lib.hid H6.out.size; clear h1 h2))
        go_roundw
        case rel => exact ⟨q, w3.heap.size, by omega, by go_num, rfl, HZ.out, H9.out.congr fun j _ => HE.out j, H10.out⟩
        case measure => simp [intOf]; omega
    · obtain rfl : r = n + 6 := by omega
      have hqi : ¬ (q : Int) < (n : Int) + 7 := by omega
      clear hq
      go_wp2_with fail
      go_ret2
      exact ⟨st, rfl, HST.out, H1.out, H2.out⟩
end Go.Proofs.YthmlcmlpmolmoaaGreatDoor
namespace Go.Proofs.YthmlcmlpmolmoaaGreatDoor
open Go.RowKit
structure ChgS (S : Nat → Prop) (w w' : World) : Prop where
  os : w'.os = w.os
  tape : w'.tape = w.tape
  output : w'.output = w.output
  size : w.heap.size ≤ w'.heap.size
  block : ∀ k, k < w.heap.size → ¬ S k → w'.heap[k]? = w.heap[k]?
namespace ChgS
variable {S : Nat → Prop} {w w' : World}
theorem refl (S : Nat → Prop) (w : World) : ChgS S w w := ⟨rfl, rfl, rfl, Nat.le_refl _, fun _ _ _ => rfl⟩
theorem drewN (h : ChgS S w w') (n : Nat) : ChgS S w (w'.drewN n) := ⟨h.os, h.tape, h.output, h.size, h.block⟩
theorem setCell (h : ChgS S w w') {a : Addr} (ha : S a.block) (v : Value) : ChgS S w (w'.setCell a v) := by
  refine ⟨h.os, h.tape, h.output, ?_, fun k hk hn => (Below.heap_setCell w' a v k (fun e => hn (e ▸ ha))).trans (h.block k hk hn)⟩
  have := h.size
  simpa [World.setCell] using this
theorem below {B : Nat} (h : ChgS S w w') (hB : B ≤ w.heap.size) (hS : ∀ k, S k → B ≤ k) : Below B w w' := ⟨h.os, h.tape, h.output, h.size, fun k hk => h.block k (by omega) (fun e => by have := hS k e; omega)⟩
end ChgS
end Go.Proofs.YthmlcmlpmolmoaaGreatDoor
namespace Go.Proofs.YthmlcmlpmolmoaaGreatDoor
open Go.RowKit
namespace ChgS
variable {S : Nat → Prop} {w w' w'' : World}
theorem trans (h : ChgS S w w') (h' : ChgS S w' w'') : ChgS S w w'' :=
  ⟨h'.os.trans h.os, h'.tape.trans h.tape, h'.output.trans h.output, Nat.le_trans h.size h'.size, fun k hk hn => (h'.block k (Nat.lt_of_lt_of_le hk h.size) hn).trans (h.block k hk hn)⟩
theorem of_below (h : Below w.heap.size w w') : ChgS S w w' := ⟨h.os, h.tape, h.output, h.size, fun k hk _ => h.block k hk⟩
theorem of_chg {K : Nat} (h : Chg K w w') (hK : S K) : ChgS S w w' := ⟨h.os, h.tape, h.output, h.size, fun k hk hn => h.block k hk (fun e => hn (e ▸ hK))⟩
theorem cell (h : ChgS S w w') {g o : Nat} (hg : g < w.heap.size) (hK : ¬ S g) : w'.cell? ⟨g, o, none⟩ = w.cell? ⟨g, o, none⟩ := World.cell?_of_block (h.block g hg hK)
theorem of_drew (h : ChgS S w.drew w') : ChgS S w w' := ⟨h.os, h.tape, h.output, h.size, h.block⟩
end ChgS
def OffS (S : Nat → Prop) (A : Option Addr) (n : Nat) : Prop := 0 < n → ∀ B o, A = some ⟨B, o, none⟩ → ¬ S B
theorem SlB.chgS {S : Nat → Prop} {w w' : World} {A : Option Addr} {n : Nat} {f : Nat → Nat} (h : SlB w A n f) (hc : ChgS S w w') (hO : OffS S A n) : SlB w' A n f := fun hn => by
  obtain ⟨B, o, hA, hB, h⟩ := h hn
  exact ⟨B, o, hA, Nat.lt_of_lt_of_le hB hc.size, fun j hj => ⟨(h j hj).1, (hc.cell hB (hO hn B o hA)).trans (h j hj).2⟩⟩
theorem Arr.chgS {S : Nat → Prop} {w w' : World} {g o n : Nat} {f : Nat → Nat} (h : Arr w g o n f) (hc : ChgS S w w') (hg : ¬ S g) : Arr w' g o n f := fun j hj => (h.of_block (hc.block g (h.lt (by omega)) hg)) j hj
end Go.Proofs.YthmlcmlpmolmoaaGreatDoor
namespace Go.Proofs.YthmlcmlpmolmoaaGreatDoor
open Go.RowKit
theorem KeyAt.words {w : World} {g n : Nat} {key : Nat → Nat} (h : KeyAt w g n key) : w.cell? ⟨g, 0, none⟩ = some (.int .i64 (n : Nat)) := h.elim (fun h => KeyMem.words h) (fun h => KeyMem.words h)
theorem RKey.chg {w w' : World} {g n K : Nat} {z : Int} {key : Nat → Nat} (h : RKey w g n key) (hc : Chg K w w') (hK : w.cell? ⟨K, 0, none⟩ = some (.int .i64 z)) : RKey w' g n key := by
  have hg := h.lt
  obtain ⟨⟨L, cap, G, C, h1, h2, h3⟩, ⟨B, h4, h5⟩, ⟨U, h6, h7⟩⟩ := h
  have n1 : g ≠ K := fun e => by subst e; rw [hK] at h1; cases h1
  have n2 : L ≠ K := fun e => by subst e; have := (h3 0 (by omega)).1; rw [hK] at this; cases this
  have n3 : B ≠ K := fun e => by subst e; have := h5.cell (i := 0) (by decide); rw [hK] at this; cases this
  have n4 : U ≠ K := fun e => by subst e; have := h7.cell (i := 0) (by decide); rw [hK] at this; cases this
  have n5 : ∀ j, j < n + 7 → G j ≠ K := fun j hj e => by subst e; have := (h3 j hj).2.cell (i := 0) (by decide); rw [hK] at this; cases this
  exact ⟨⟨L, cap, G, C, (hc.cell hg n1).trans h1, Nat.lt_of_lt_of_le h2 hc.size, fun j hj => ⟨(hc.cell h2 n2).trans (h3 j hj).1, (h3 j hj).2.of_block (hc.block _ (h3 j hj).2.lt (n5 j hj))⟩⟩,
    ⟨B, (hc.cell hg n1).trans h4, (hc.block B h5.lt n3).trans h5⟩, ⟨U, (hc.cell hg n1).trans h6, (hc.block U h7.lt n4).trans h7⟩⟩
theorem rnew_at (A : Option Addr) (len n cap : Nat) (key : Nat → Nat) (w : World) (hl : 4 * n = len) (hn : n = 4 ∨ n = 8) (hc : len ≤ cap) (hA : SlB w A len key) :
    Calls Tryz.prog 121 #[.slice A len cap] w fun e w' => ∃ g, e = .returned (.tuple #[.pointer (some ⟨g, 0, none⟩), .int .i64 0]) ∧ w.heap.size ≤ g ∧ RKey w' g n key ∧ Below w.heap.size w w' := by
  subst hl
  exact rnew_any A n cap key w hn hc hA
theorem KeyAt.ne {w : World} {g n B : Nat} {key : Nat → Nat} {v : Value} (h : KeyAt w g n key) (hB : w.cell? ⟨B, 0, none⟩ = some v) (hv : ∀ z, v ≠ .int .i64 z) : B ≠ g := fun e => by
  subst e
  rw [h.words] at hB
  exact hv _ (Option.some.inj hB).symm
end Go.Proofs.YthmlcmlpmolmoaaGreatDoor
namespace Go.Proofs.YthmlcmlpmolmoaaGreatDoor
set_option maxRecDepth 100000
open Go.RowKit
theorem sizes_any (n i : Nat) (w : World) (hn : n ≤ 1000000) (hi : i ≤ 1000000) :
    Calls Tryz.prog 65 #[.int .i64 (n : Nat), .int .i64 (i : Nat)] w fun e w' => e = .returned (.tuple #[.int .i64 (fd n i : Nat), .int .i64 (fd n (i + 1) : Nat)]) ∧ w = w' := by
  have hni : (n : Int) ≤ 1000000 := by omega
  have hii : (i : Int) ≤ 1000000 := by omega
  by_cases h : i % 2 = 0
  · have hb : ((i : Int) % 2 == 0) = true := by simp; omega
    have e1 : fd n i = n / 2 := if_pos h
    have e2 : fd n (i + 1) = n - n / 2 := by rw [fd_next, e1]
    have E1 := Lib.hid e1
    have E2 := Lib.hid e2
    clear h e1 e2
    go_enter Tryz.func65, Tryz.ntmps65
    go_wp2_with fail
    go_ret2
    exact ⟨by rw [E1.out, E2.out]; simp; omega, rfl⟩
  · have hb : ((i : Int) % 2 == 0) = false := by simp; omega
    have e1 : fd n i = n - n / 2 := if_neg h
    have e2 : fd n (i + 1) = n / 2 := by rw [fd_next, e1]; omega
    have E1 := Lib.hid e1
    have E2 := Lib.hid e2
    clear h e1 e2
    go_enter Tryz.func65, Tryz.ntmps65
    go_wp2_with fail
    go_ret2
    exact ⟨by rw [E1.out, E2.out]; simp; omega, rfl⟩
theorem wrongL_any (n : Int) (w : World) :
    Calls Tryz.prog 106 #[.int .i64 n] w fun e w' => e = .returned (.bool (decide (n < 6) || decide (32 < n))) ∧ w = w' := by
  by_cases h1 : n < 6
  · have hb : decide (n < 6) = true := by simpa using h1
    clear h1
    go_enter Tryz.func106, Tryz.ntmps106
    go_wp2_with fail
    go_ret
    exact ⟨by simp [hb], rfl⟩
  · have hb : decide (n < 6) = false := by simpa using h1
    clear h1
    go_enter Tryz.func106, Tryz.ntmps106
    go_wp2_with fail
    go_ret
    exact ⟨by simp [hb], rfl⟩
theorem fclone_any (A : Option Addr) (t cap : Nat) (T : Nat → Nat) (w : World) (ht : t ≤ 1000000) (hA : SlB w A t T) (hnil : A = none → t = 0 ∧ cap = 0) :
    Calls Tryz.prog 63 #[.slice A t cap] w fun e w' => ∃ A' c', e = .returned (.slice A' t c') ∧ SlB w' A' t T ∧ t ≤ c' ∧ (A' = none → t = 0 ∧ c' = 0) ∧ (∀ B o, A' = some ⟨B, o, none⟩ → w.heap.size ≤ B) ∧ Below w.heap.size w w' := by
  have q8 : ∀ (w : World) (a : Option Addr) (n c : Nat), (binOp .eql 22 (.slice a n c) (.slice none 0 0)).run Tryz.prog w = .ok (.bool a.isNone) w := fun w a n c => Lib.run_eql_slice_nil w _ _ a n c 0 0 Tryz.underlying22
  cases A with
  | none =>
    obtain ⟨rfl, rfl⟩ := hnil rfl
    clear hA hnil
    go_enter Tryz.func63, Tryz.ntmps63
    go_wp2_with fail
    go_ret
    exact ⟨none, 0, rfl, SlB.nil _ _, Nat.le_refl _, by simp, by simp, Below.refl _ _⟩
  | some ad =>
    have HA := Lib.hid (hA.keep ((Below.refl _ _).alloc (Nat.le_refl _) (.cells #[] 5)))
    have HBB := Lib.hid (show ∀ j, j < t → T j < 256 from fun j hj => hA.byte hj)
    have HE := Lib.hid (OwnB.empty w w.heap.size (fun _ => 0) (Nat.le_refl _))
    have HS := Lib.hid (show w.heap.size ≤ (w.alloc (.cells #[] 5)).heap.size by simp)
    have HB := Lib.hid ((Below.refl w.heap.size w).alloc (Nat.le_refl _) (.cells #[] 5))
    clear hA hnil
    go_enter Tryz.func63, Tryz.ntmps63
    go_wp2_with (at_builtin; refine wpList_appO rfl (.tmp 5) (.tmp 6) rfl w.heap.size _ 0 (fun _ => 0) rfl HE.out (some ad) t cap T rfl HA.out (fun h => by cases h) (by omega) HS.out (fun j hj => absurd hj (Nat.not_lt_zero _)) HBB.out ?_; intro A2 c2 w2 ho2 hs2 hn2 hb2; rw [Nat.zero_add] at ho2 hs2 hn2 ⊢; have HO2 := Lib.hid ho2; have HS2 := Lib.hid hs2; have HN2 := Lib.hid hn2; have HB2 := Lib.hid (HB.out.trans hb2); clear ho2 hs2 hn2 hb2)
    go_ret
    refine ⟨A2, c2, rfl, fun h => ?_, HN2.out.1, HN2.out.2.2, fun B o e => ?_, HB2.out⟩
    · obtain ⟨B', o', e', l', c'⟩ := HS2.out h
      exact ⟨B', o', e', l', fun j hj => by have := c' j hj; unfold catB at this; rw [if_neg (Nat.not_lt_zero _), Nat.sub_zero] at this; exact this⟩
    · subst e
      exact (World.ownsRow.lt HO2.out B rfl).1
structure Cip (w : World) (c g n : Nat) (key : Nat → Nat) (t : Nat) (T : Nat → Nat) : Prop where
  key : KeyAt w g n key
  ptr : w.cell? ⟨c, 0, none⟩ = some (.pointer (some ⟨g, 0, none⟩))
  tw : ∃ A cap, w.cell? ⟨c, 1, none⟩ = some (.slice A t cap) ∧ SlB w A t T ∧ t ≤ cap ∧ (A = none → t = 0 ∧ cap = 0) ∧ (∀ B o, A = some ⟨B, o, none⟩ → B ≠ g)
namespace Cip
variable {w w' : World} {c g n t : Nat} {key T : Nat → Nat}
theorem lt (h : Cip w c g n key t T) : c < w.heap.size := block_lt h.ptr
theorem keep (h : Cip w c g n key t T) (hb : Below w.heap.size w w') : Cip w' c g n key t T := by
  obtain ⟨A, cap, h1, h2, h3, h4, h5⟩ := h.tw
  exact ⟨h.key.keep hb, (hb.cell (p := ⟨c, 0, none⟩) h.lt).trans h.ptr, A, cap, (hb.cell (p := ⟨c, 1, none⟩) h.lt).trans h1, h2.keep hb, h3, h4, h5⟩
theorem ne (h : Cip w c g n key t T) : c ≠ g := h.key.ne h.ptr fun _ e => by cases e
theorem chg (h : Cip w c g n key t T) (hc : Chg g w w') (hk : KeyAt w' g n key) : Cip w' c g n key t T := by
  obtain ⟨A, cap, h1, h2, h3, h4, h5⟩ := h.tw
  refine ⟨hk, (hc.cell h.lt h.ne).trans h.ptr, A, cap, (hc.cell h.lt h.ne).trans h1, fun h0 => ?_, h3, h4, h5⟩
  obtain ⟨B, o, e, hB, hj⟩ := h2 h0
  exact ⟨B, o, e, Nat.lt_of_lt_of_le hB hc.size, fun j hj' => ⟨(hj j hj').1, (hc.cell hB (h5 B o e)).trans (hj j hj').2⟩⟩
theorem drewN (h : Cip w c g n key t T) (k : Nat) : Cip (w.drewN k) c g n key t T := by
  obtain ⟨A, cap, h1, h2, h3, h4, h5⟩ := h.tw
  exact ⟨h.key.of_block rfl, h.ptr, A, cap, h1, h2.drewN k, h3, h4, h5⟩
end Cip
theorem fnew_any (A : Option Addr) (len n cap : Nat) (key : Nat → Nat) (A2 : Option Addr) (t c2 : Nat) (T : Nat → Nat) (w : World) (hn : n = 4 ∨ n = 8) (hl : 4 * n = len) (hA : SlB w A len key) (ht : t ≤ 16) (hA2 : SlB w A2 t T) (hnil : A2 = none → t = 0 ∧ c2 = 0) :
    Calls Tryz.prog 33 #[.slice A len cap, .slice A2 t c2] w fun e w' => ∃ c g, e = .returned (.tuple #[.pointer (some ⟨c, 0, none⟩), .int .i64 0]) ∧ w.heap.size ≤ g ∧ Cip w' c g n key t T ∧ Below w.heap.size w w' := by
  subst hl
  have HN := Lib.hid (new_any A n cap key w hn hA)
  have hb : decide ((16 : Int) < (t : Nat)) = false := by rw [decide_eq_false_iff_not]; omega
  have HA2 := Lib.hid hA2
  have HNIL := Lib.hid hnil
  have HT := Lib.hid ht
  clear hA hn hA2 hnil ht
  go_enter Tryz.func33, Tryz.ntmps33
  go_wp2_with (first | (go_at_call 62; refine HN.out.mono ?_; rintro e w1 ⟨g, rfl, h1, h2, h3⟩; have H1 := Lib.hid h1; have H2 := Lib.hid h2; have H3 := Lib.hid h3; clear h1 h2 h3) | (go_at_call 63; refine (fclone_any A2 t c2 T w1 (by have := HT.out; omega) (HA2.out.keep H3.out) HNIL.out).mono ?_; rintro e w2 ⟨A3, c3, rfl, h4, h5, h6, h7, h8⟩; have H4 := Lib.hid h4; have H5 := Lib.hid h5; have H6 := Lib.hid h6; have H7 := Lib.hid h7; have H8 := Lib.hid h8; clear h4 h5 h6 h7 h8))
  go_ret2
  have hba := (Below.refl w2.heap.size w2).alloc (Nat.le_refl _) (.cells #[.pointer (some ⟨g, 0, none⟩), .slice A3 t c3] 116)
  have hgl : g < w1.heap.size := H2.out.lt
  refine ⟨w2.heap.size, g, rfl, H1.out, ⟨(H2.out.keep H8.out).keep hba, (World.cell?_alloc_at _ _ _ _ rfl).trans rfl, A3, c3, (World.cell?_alloc_at _ _ _ _ rfl).trans rfl, H4.out.keep hba, H5.out, H6.out, fun B o e => by have := H7.out B o e; omega⟩, ?_⟩
  exact H3.out.trans ((H8.out.mono H3.out.size).trans (hba.mono (Nat.le_trans H3.out.size H8.out.size)))
end Go.Proofs.YthmlcmlpmolmoaaGreatDoor
namespace Go.Proofs.YthmlcmlpmolmoaaGreatDoor
open Go.RowKit
theorem SlB.congr {w : World} {A : Option Addr} {n : Nat} {f f' : Nat → Nat} (h : SlB w A n f) (e : ∀ j, j < n → f j = f' j) : SlB w A n f' := fun hn => by
  obtain ⟨B, o, hA, hB, hc⟩ := h hn
  exact ⟨B, o, hA, hB, fun j hj => by rw [← e j hj]; exact hc j hj⟩
theorem SlB.none0 (w : World) (f : Nat → Nat) : SlB w none 0 f := fun h => absurd h (Nat.lt_irrefl 0)
theorem OwnB.less {w : World} {b base n : Nat} {v : Value} {f : Nat → Nat} (h : OwnB w base v n f) (hb : b ≤ base) : OwnB w b v n f := by
  rcases h with ⟨h1, h2 | ⟨g, cap, cur, e, hg, r⟩⟩
  · exact ⟨h1, Or.inl h2⟩
  · exact ⟨h1, Or.inr ⟨g, cap, cur, e, Nat.le_trans hb hg, r⟩⟩
theorem of_drew {w w' : World} (h : Below w.drew.heap.size w.drew w') : Below w.heap.size w w' := ⟨h.os, h.tape, h.output, h.size, h.block⟩
theorem one_sl (w : World) (x : Nat) (hx : x < 256) : SlB (w.alloc (.cells #[.int .u8 (x : Nat)] 5)) (some ⟨w.heap.size, 0, none⟩) 1 (fun _ => x) := one_slB w 5 x hx
theorem alloc_below (W : World) (o : Obj) : Below W.heap.size W (W.alloc o) := (Below.refl _ _).alloc (Nat.le_refl _) o
theorem xor_lt8 {a b : Nat} (ha : a < 256) (hb : b < 256) : a ^^^ b < 256 := Nat.xor_lt_two_pow (n := 8) ha hb
end Go.Proofs.YthmlcmlpmolmoaaGreatDoor
namespace Go.Proofs.YthmlcmlpmolmoaaGreatDoor
set_option maxRecDepth 100000
open Go.RowKit
def finq (u n t : Nat) (T : Nat → Nat) (r x w q j : Nat) : Nat :=
  if j < 16 then fhd u n t j else if j < 16 + t then T (j - 16) else if j < finL t w - 1 - w then 0 else if j = finL t w - 1 - w then r else if finL t w - 1 - w + q < j then x / 256 ^ (finL t w - 1 - j) % 256 else 0
theorem finq_end (u n t : Nat) (T : Nat → Nat) (r x w j : Nat) : finq u n t T r x w 0 j = finp u n t T r x w j := by
  unfold finq finp
  split
  · rfl
  · split
    · rfl
    · split
      · rfl
      · split
        · rfl
        · rw [if_pos (by omega)]
theorem finq_start {u n t : Nat} {T : Nat → Nat} {r x w j : Nat} (hj : j < finL t w) : (if j = finL t w - 1 - w then r else putB 16 t T (putB 0 16 (fhd u n t) fun _ => 0) j) = finq u n t T r x w w j := by
  have := finL_ge t w
  unfold finq putB
  by_cases h1 : j < 16
  · rw [if_neg (by omega), if_neg (by omega), if_pos (by omega), if_pos h1, Nat.sub_zero]
  · rw [if_neg h1]
    by_cases h2 : j < 16 + t
    · rw [if_neg (by omega), if_pos (by omega), if_pos h2]
    · rw [if_neg h2]
      by_cases h3 : j < finL t w - 1 - w
      · rw [if_neg (by omega), if_neg (by omega), if_neg (by omega), if_pos h3]
      · rw [if_neg h3]
        by_cases h4 : j = finL t w - 1 - w
        · rw [if_pos h4, if_pos h4]
        · rw [if_neg h4, if_neg (by omega), if_neg (by omega), if_neg h4, if_neg (by omega)]
theorem finq_step {u n t : Nat} {T : Nat → Nat} {r x w q j : Nat} (hq : q + 1 ≤ w) : (if j = finL t w - 1 - w + (q + 1) then x / 256 ^ (w - (q + 1)) % 256 else finq u n t T r x w (q + 1) j) = finq u n t T r x w q j := by
  have := finL_ge t w
  unfold finq
  by_cases h : j = finL t w - 1 - w + (q + 1)
  · rw [if_pos h, if_neg (by omega), if_neg (by omega), if_neg (by omega), if_neg (by omega), if_pos (by omega), show finL t w - 1 - j = w - (q + 1) by omega]
  · rw [if_neg h]
    by_cases h1 : finL t w - 1 - w + q < j
    · rw [if_pos h1, if_pos (show finL t w - 1 - w + (q + 1) < j by omega)]
    · rw [if_neg h1, if_neg (show ¬ finL t w - 1 - w + (q + 1) < j by omega)]
set_option maxHeartbeats 1600000 in
theorem input_any (c g n : Nat) (key : Nat → Nat) (t : Nat) (T : Nat → Nat) (N r x k : Nat) (w : World) (hC : Cip w c g n key t T) (ht : t ≤ 16) (hN : 6 ≤ N) (hN2 : N ≤ 32) (hr : r ≤ 9) (hx : x ≤ 9223372036854775807) (hk : k ≤ 8) :
    Calls Tryz.prog 111 #[.pointer (some ⟨c, 0, none⟩), .int .i64 (N : Nat), .int .i64 (r : Nat), .int .i64 (x : Nat), .int .i64 (k : Nat)] w fun e w' => ∃ st, e = .returned (.slice (some ⟨st, 0, none⟩) (finL t k) (finL t k)) ∧ w.heap.size ≤ st ∧ RowB w' st (finL t k) (finp (N / 2) N t T r x k) ∧ Below w.heap.size w w' := by
  have HS := Lib.hid (sizes_any N 0 w (by omega) (by omega))
  obtain ⟨A, cap, h1, h2, h3, h4, _⟩ := hC.tw
  have hu : fd N 0 = N / 2 := rfl
  rw [hu] at HS
  obtain ⟨u, hu⟩ : ∃ u, N / 2 = u := ⟨_, rfl⟩
  obtain ⟨v, hv⟩ : ∃ v, fd N (0 + 1) = v := ⟨_, rfl⟩
  rw [hu, hv] at HS
  rw [hu]
  have hu16 : (u : Int) ≤ 16 := by omega
  have hN32 : (N : Int) ≤ 32 := by omega
  have ht16 : (t : Int) ≤ 16 := by omega
  have hk8 : (k : Int) ≤ 8 := by omega
  have hr9 : (r : Int) ≤ 9 := by omega
  have hcl := hC.lt
  obtain ⟨L, hL⟩ : ∃ L, finL t k = L := ⟨_, rfl⟩
  have hge := finL_ge t k
  have hle := finL_le ht hk
  rw [hL] at hge hle ⊢
  have hmk : ∀ W : World, (Instr.makeSlice 22 (.int .i64 (16 + ((t : Int) + 1 + (k : Int) + 16 - 1) / 16 * 16)) (.int .i64 (16 + ((t : Int) + 1 + (k : Int) + 16 - 1) / 16 * 16))).run Tryz.prog W = .ok (.slice (some ⟨W.heap.size, 0, none⟩) L L) (W.alloc (.cells (madeCells #[.int .u8 0] L) 5)) := fun W => by
    rw [show (16 + ((t : Int) + 1 + (k : Int) + 16 - 1) / 16 * 16) = ((L : Nat) : Int) by rw [← hL]; unfold finL; omega]
    exact mk8 L (by omega) W
  have hsa : ∀ W : World, (Instr.sliceAt 207 (.pointer (some ⟨w.heap.size, 0, none⟩)) none none none).run Tryz.prog W = .ok (.slice (some ⟨w.heap.size, 0, none⟩) 16 16) W := all_arr 207 16 w.heap.size 0 Tryz.underlying207 (by decide)
  have HM16 := Lib.hid (show 16 = Nat.min 16 L from (Nat.min_eq_left (by omega)).symm)
  have hf16 : 0 + 16 ≤ L := by omega
  have HMT := Lib.hid (show t = Nat.min t (L - 16) from (Nat.min_eq_left (by omega)).symm)
  have hft : 16 + t ≤ L := by omega
  have HH1 := lit_slB w 207 (0, 0) [1, 2, 1, 0, 0, 10, 10, u, 0, 0, 0, N, 0, 0, 0, t] fun j => by
    by_cases hj : j < 16
    · exact fhd_lt (u := u) (n := N) (t := t) (by omega) (by omega) (by omega) hj
    · rw [List.getD_eq_getElem?_getD, List.getElem?_eq_none (by simp; omega)]; decide
  have e1 : (w.alloc (.cells (List.map (fun x => Value.int .u8 ((x : Nat) : Int)) [1, 2, 1, 0, 0, 10, 10, u, 0, 0, 0, N, 0, 0, 0, t]).toArray 207 (0, 0))).heap.size = w.heap.size + 1 := by simp
  have b1 := (Below.refl w.heap.size w).alloc (Nat.le_refl _) (.cells (List.map (fun x => Value.int .u8 ((x : Nat) : Int)) [1, 2, 1, 0, 0, 10, 10, u, 0, 0, 0, N, 0, 0, 0, t]).toArray 207 (0, 0))
  have r2 := rowB_made (w.alloc (.cells (List.map (fun x => Value.int .u8 ((x : Nat) : Int)) [1, 2, 1, 0, 0, 10, 10, u, 0, 0, 0, N, 0, 0, 0, t]).toArray 207 (0, 0))) L
  rw [e1] at r2
  have HR2 := Lib.hid r2
  have HH2 := Lib.hid (HH1.keep ((Below.refl _ _).alloc (Nat.le_refl _) (.cells (madeCells #[.int .u8 0] L) 5)))
  have HB2 := Lib.hid (b1.alloc (by omega) (.cells (madeCells #[.int .u8 0] L) 5))
  have hLi : (16 : Int) ≤ (L : Nat) := by omega
  have hLn : L ≠ 16 := by omega
  obtain ⟨d, hd⟩ : ∃ d, L - 1 - k = d := ⟨_, rfl⟩
  have hdi : (L : Int) - 1 - (k : Int) = (d : Nat) := by omega
  have hdl : d ≤ L := by omega
  have hdn : L ≠ d := by omega
  have hdL : d < L := by omega
  have hdk : L - d = k + 1 := by omega
  have HD := Lib.hid hd
  clear hd
  have HL := Lib.hid hL
  clear hL HH1 e1 b1 r2
  go_enter Tryz.func111, Tryz.ntmps111
  go_wp2_with (first | (go_at_call 65; refine HS.out.mono ?_; rintro e w1 ⟨rfl, rfl⟩) | ((refine wpList_copyB rfl (.tmp 49) (.tmp 50) rfl _ _ _ _ _ _ rfl rfl (w.heap.size + 1) 0 L (fun _ => 0) HR2.out (fhd u N t) HH2.out 16 HM16.out (fun _ => rfl) hf16 w.heap.size w HB2.out (Nat.le_succ _) ?_); intro w3 hr3 hb3; have HR3 := Lib.hid hr3; have HB3 := Lib.hid hb3; have HT3 := Lib.hid (h2.keep hb3); have q3 := (hb3.cell (p := ⟨c, 1, none⟩) hcl).trans h1; clear hr3 hb3))
  go_region_law ((refine step_copyB rfl (.tmp 53) (.tmp 57) rfl _ _ _ _ _ _ rfl rfl (w.heap.size + 1) 16 L _ (HR3.out.drew) T (HT3.out.drewN 1) t HMT.out (fun _ => rfl) hft w.heap.size w HB3.out.drew (Nat.le_succ _) ?_); intro w4 hr4 hb4; have HR4 := Lib.hid hr4; have HB4 := Lib.hid hb4; obtain ⟨z4, c4⟩ : ∃ z : Nat, w4.cell? ⟨w.heap.size + 1, d, none⟩ = some (.int .u8 (z : Nat)) := ⟨_, hr4.cell hdL⟩; have f4 := hr4.frozen d; clear hr4 hb4)
  all_goals
    go_wp2_with fail
    have HR5 := Lib.hid ((HR4.out.set d r (.int .u8 (r : Nat)) rfl).congr (f := finq u N t T r x k k) fun j hj => by have h := finq_start (u := u) (n := N) (t := t) (T := T) (r := r) (x := x) (w := k) (j := j) (by rw [HL.out]; exact hj); rw [HL.out, show L - 1 - k = d from HD.out] at h; exact h)
    have HB5 := Lib.hid (HB4.out.setCell (p := ⟨w.heap.size + 1, d, none⟩) (Nat.le_succ _) (.int .u8 (r : Nat)))
    generalize w4.setCell ⟨w.heap.size + 1, d, none⟩ (.int .u8 (r : Nat)) = w5 at *
    clear HR4 HB4 HR3 HB3 HT3 HR2 HH2 HB2 q3 c4 f4
    go_loopw [3, 17] (fun v i wr => ∃ q : Nat, q ≤ k ∧ i = .int .i64 (q : Nat) ∧ v = .int .i64 ((x / 256 ^ (k - q) : Nat) : Int) ∧ RowB wr (w.heap.size + 1) L (finq u N t T r x k q) ∧ Below w.heap.size w wr) (fun _ i _ => (intOf i).toNat)
    case atStart => exact ⟨k, Nat.le_refl _, rfl, by rw [Nat.sub_self, Nat.pow_zero, Nat.div_one], HR5.out, HB5.out⟩
    case round =>
      obtain ⟨q, hq, rfl, rfl, hr6, hb6⟩ := hrel
      have HR6 := Lib.hid hr6
      have HB6 := Lib.hid hb6
      cases q with
      | zero =>
        go_wp2_with fail
        go_ret
        exact ⟨w.heap.size + 1, rfl, Nat.le_succ _, HR6.out.congr fun j _ => finq_end u N t T r x k j, HB6.out⟩
      | succ q =>
        have HST := Lib.hid fun j => finq_step (u := u) (n := N) (t := t) (T := T) (r := r) (x := x) (w := k) (q := q) (j := j) hq
        rw [HL.out, show L - 1 - k = d from HD.out] at HST
        obtain ⟨Q, hQ⟩ : ∃ Q, q + 1 = Q := ⟨_, rfl⟩
        rw [hQ] at HR6 HST ⊢
        have hQi : (Q : Int) ≤ 8 := by omega
        have hQ0 : (0 : Int) < (Q : Nat) := by omega
        have hQk : (Q : Int) < (k : Nat) + 1 := by omega
        obtain ⟨y, hy⟩ : ∃ y, x / 256 ^ (k - Q) = y := ⟨_, rfl⟩
        have hy2 : x / 256 ^ (k - q) = y / 256 := by rw [← hy, Nat.div_div_eq_div_mul, ← Nat.pow_succ, show k - q = k - Q + 1 by omega]
        have hyx : (y : Int) ≤ 9223372036854775807 := by have := Nat.div_le_self x (256 ^ (k - Q)); omega
        rw [hy] at HST ⊢
        have HY2 := Lib.hid hy2
        have HQ := Lib.hid hQ
        obtain ⟨z6, c6⟩ : ∃ z : Nat, wr.cell? ⟨w.heap.size + 1, d + Q, none⟩ = some (.int .u8 (z : Nat)) := ⟨_, hr6.cell (by omega)⟩
        have f6 := hr6.frozen (d + Q)
        have HKK := Lib.hid (show q ≤ k by omega)
        clear hr6 hb6 hy hy2 hQ hq
        go_wp2_with fail
        go_roundw
        case rel => exact ⟨q, HKK.out, by have := HQ.out; go_num, by rw [HY2.out]; go_num, (HR6.out.set (d + Q) (y % 256) _ (by go_num)).congr fun j _ => HST.out j, HB6.out.setCell (p := ⟨w.heap.size + 1, d + Q, none⟩) (Nat.le_succ _) _⟩
        case measure => simp [intOf]; omega
end Go.Proofs.YthmlcmlpmolmoaaGreatDoor
namespace Go.Proofs.YthmlcmlpmolmoaaGreatDoor
set_option maxRecDepth 100000
open Go.RowKit Go.Shelf
attribute [local go_sem] Oper.semAt_some
def KpC (Bs Bn : Nat) (W W' : World) : Prop := W'.heap[Bs]? = W.heap[Bs]? ∧ W'.heap[Bn]? = W.heap[Bn]?
theorem KpC.trans {Bs Bn : Nat} {A B C : World} (h : KpC Bs Bn A B) (h' : KpC Bs Bn B C) : KpC Bs Bn A C := ⟨h'.1.trans h.1, h'.2.trans h.2⟩
abbrev encC (B o k : Nat) : Array Value := #[.slice (some ⟨B, o + 16 * k, none⟩) 16 16]
set_option maxHeartbeats 2000000 in
theorem chunk1_in (n : Nat) (hn : 1 ≤ n) (l Bs Bn B o m cap : Nat) (hm : m ≤ 100000) (hc : 16 * m ≤ cap) (hcap : cap ≤ 140737488351232) (J Jx : List Nat → World → Prop) (W : World) (hJ : AbidesFrom W.heap.size J)
    (hY : ∀ pre x W1, J pre W1 → pre.length < m → x < m → YieldAt Fence.wide (n - 1) Tryz.prog l (encC B o x) W1 fun e W' =>
      (e = .returned (.bool true) ∧ J (pre ++ [x]) W' ∧ KpC Bs Bn W1 W') ∨ (e = .returned (.bool false) ∧ Jx (pre ++ [x]) W'))
    (h1 : W.cell? ⟨Bs, 0, none⟩ = some (.slice (some ⟨B, o, none⟩) (16 * m) cap)) (h2 : W.cell? ⟨Bn, 0, none⟩ = some (.int .i64 16)) (h0 : J [] W) :
    CallsIn Fence.wide n Tryz.prog 170 #[.func (.yield l) #[] #[], .pointer (some ⟨Bs, 0, none⟩), .pointer (some ⟨Bn, 0, none⟩)] W fun e W' => (∃ v, e = .returned v) ∧
      ((∃ ys, ys = List.range m ∧ J ys W') ∨ (∃ pre, (∃ k, k ≤ m ∧ pre = List.range k) ∧ Jx pre W')) := by
  have hf : Fence.wide.fn 170 := trivial
  have hro : Fence.wide.round = none := rfl
  refine callsIn_of_wp Tryz.func170 rfl hf ?_ hro
  simp only [Tryz.ntmps170, List.size_toArray, List.length_cons, List.length_nil, Nat.reduceAdd, Nat.reduceSub, Array.replicate_succ, Array.replicate_zero, List.push_toArray, List.append_toArray, List.nil_append, List.cons_append]
  gi_wp2
  gi_loopw [4] (fun i wr => ∃ k : Nat, k ≤ m ∧ i = .int .i64 ((16 * k : Nat) : Int) ∧ J (List.range k) wr ∧ KpC Bs Bn W wr)
    (fun i _ => 16 * m - (intOf i).toNat)
  case atStart => exact ⟨0, Nat.zero_le _, rfl, h0, rfl, rfl⟩
  case round =>
    obtain ⟨k, hk, rfl, hJs, hnx⟩ := hrel
    have c1 := (World.cell?_of_block (a := ⟨Bs, 0, none⟩) hnx.1).trans h1
    have c2 := (World.cell?_of_block (a := ⟨Bn, 0, none⟩) hnx.2).trans h2
    by_cases hlt : k < m
    · have hJd : J (List.range k) wr.drew := hJ _ wr wr.drew none hJs ⟨rfl, rfl, rfl, Nat.le_refl _, fun _ _ _ => rfl⟩ (fun r e => by cases e)
      obtain ⟨fn, tmps, assign, body, hy, hR⟩ := hY _ k wr.drew hJd (by rw [List.length_range]; exact hlt) hlt
      unfold encC at hy
      have d1 : wr.drew.cell? ⟨Bs, 0, none⟩ = _ := c1
      have d2 : wr.drew.cell? ⟨Bn, 0, none⟩ = _ := c2
      obtain ⟨q, hq⟩ : ∃ q, 16 * k = q := ⟨_, rfl⟩
      obtain ⟨M, hM⟩ : ∃ M, 16 * m = M := ⟨_, rfl⟩
      rw [hq] at hy ⊢
      rw [hM] at c1 d1 hc ⊢
      have hqM : q + 16 ≤ M := by omega
      have HQ := Lib.hid hq
      have HM := Lib.hid hM
      clear hq hM
      gi_wp2
      gi_region
      all_goals gi_wp2
      all_goals
        refine hR.mono ?_
        rintro e W3 (⟨rfl, hJ3, hk3⟩ | ⟨rfl, hJx3⟩)
        · have c3 : W3.cell? ⟨Bn, 0, none⟩ = _ := (World.cell?_of_block (a := ⟨Bn, 0, none⟩) hk3.2).trans d2
          gi_wp2
          go_roundw
          case rel => exact ⟨k + 1, by omega, by have := HQ.out; go_num, by rw [List.range_succ]; exact hJ3, hnx.1.symm ▸ hk3.1, hnx.2.symm ▸ hk3.2⟩
          case measure => have := HQ.out; have := HM.out; simp [intOf]; omega
        · gi_wp2
          refine bodyPost_ret (results_none rfl _ _ _) rfl ?_
          exact ⟨⟨_, rfl⟩, .inr ⟨_, ⟨k + 1, by omega, (List.range_succ).symm⟩, hJx3⟩⟩
    · obtain rfl : k = m := by omega
      gi_wp2
      go_end0
      exact ⟨⟨_, rfl⟩, .inl ⟨_, rfl, hJs⟩⟩
theorem chunk_stops (n : Nat) (hn : 1 ≤ n) (Bs Bn B o m cap : Nat) (hm : m ≤ 100000) (hc : 16 * m ≤ cap) (hcap : cap ≤ 140737488351232) (w : World)
    (h1 : w.cell? ⟨Bs, 0, none⟩ = some (.slice (some ⟨B, o, none⟩) (16 * m) cap)) (h2 : w.cell? ⟨Bn, 0, none⟩ = some (.int .i64 16)) :
    SeqStopsK Fence.wide n Tryz.prog 170 #[.pointer (some ⟨Bs, 0, none⟩), .pointer (some ⟨Bn, 0, none⟩)] (fun x : Fin m => encC B o x.1) (KpC Bs Bn) (fun ys => ys.map (·.1) = List.range m) (fun pre => ∃ k, k ≤ m ∧ pre.map (·.1) = List.range k) m w := fun l J Jx W hW hJ _ hY h0 => by
  refine (chunk1_in n hn l Bs Bn B o m cap hm hc hcap (fun ys V => ∃ zs : List (Fin m), zs.map (·.1) = ys ∧ J zs V) (fun ys V => ∃ zs : List (Fin m), zs.map (·.1) = ys ∧ Jx zs V) W ?_ ?_
    ((hW.cell (p := ⟨Bs, 0, none⟩) (block_lt h1)).trans h1) ((hW.cell (p := ⟨Bn, 0, none⟩) (block_lt h2)).trans h2) ⟨[], rfl, h0⟩).mono ?_
  · rintro s V V' row ⟨zs, rfl, hz⟩ hg hr
    exact ⟨zs, rfl, hJ zs V V' row hz hg hr⟩
  · rintro pre x W1 ⟨zs, rfl, hz⟩ hlen hx
    obtain ⟨fn, tmps, assign, body, hy, hR⟩ := hY zs ⟨x, hx⟩ W1 hz (by simpa using hlen)
    refine ⟨fn, tmps, assign, body, hy, hR.mono ?_⟩
    rintro e W' (⟨rfl, h3, h4⟩ | ⟨rfl, h3⟩)
    · exact Or.inl ⟨rfl, ⟨zs ++ [⟨x, hx⟩], by simp, h3⟩, h4⟩
    · exact Or.inr ⟨rfl, ⟨zs ++ [⟨x, hx⟩], by simp, h3⟩⟩
  · rintro e W' ⟨he, ⟨ys, rfl, zs, h3, h4⟩ | ⟨pre, ⟨k, hk, rfl⟩, zs, h3, h4⟩⟩
    · exact ⟨he, Or.inl ⟨zs, h3, h4⟩⟩
    · exact ⟨he, Or.inr ⟨zs, ⟨k, hk, h3⟩, h4⟩⟩
theorem chunk_any (A : Option Addr) (len cap : Nat) (w : World) :
    Calls Tryz.prog 144 #[.slice A len cap, .int .i64 16] w fun e w' => e = .returned (.func (.func 170) #[] #[.pointer (some ⟨w.heap.size, 0, none⟩), .pointer (some ⟨w.heap.size + 1, 0, none⟩)]) ∧
      w'.cell? ⟨w.heap.size, 0, none⟩ = some (.slice A len cap) ∧ w'.cell? ⟨w.heap.size + 1, 0, none⟩ = some (.int .i64 16) ∧ w'.heap.size = w.heap.size + 2 ∧ Below w.heap.size w w' := by
  have hmf : ∀ (fn : Fn) (first cap : Array Value) (w : World), (Instr.makeFunc fn first cap).run Tryz.prog w = .ok (.func fn first cap) w := fun _ _ _ _ => rfl
  go_enter Tryz.func144, Tryz.ntmps144
  go_wp2_with fail
  go_ret
  have e1 : (w.alloc (.cells #[.slice A len cap] 22)).heap.size = w.heap.size + 1 := by simp
  have hb := (Below.refl w.heap.size w).alloc (Nat.le_refl _) (.cells #[.slice A len cap] 22)
  have c1 : (w.alloc (.cells #[.slice A len cap] 22)).cell? ⟨w.heap.size, 0, none⟩ = some (.slice A len cap) := (World.cell?_alloc_at _ _ _ _ rfl).trans rfl
  generalize w.alloc (.cells #[.slice A len cap] 22) = w1 at *
  refine ⟨rfl, ?_, ?_, by simp [e1], hb.alloc (by omega) _⟩
  · exact ((Below.refl w1.heap.size w1).alloc (Nat.le_refl _) (.cells #[.int .i64 16] 3)).cell (p := ⟨w.heap.size, 0, none⟩) (by show w.heap.size < _; omega) |>.trans c1
  · exact (World.cell?_alloc_at _ _ _ _ e1.symm).trans rfl
end Go.Proofs.YthmlcmlpmolmoaaGreatDoor
namespace Go.Proofs.YthmlcmlpmolmoaaGreatDoor
set_option maxRecDepth 100000
open Go.RowKit Go.Shelf
attribute [local go_sem] Oper.semAt_some
def xchL (E : (Nat → Nat) → Nat → Nat) (p : Nat → Nat) (l : List Nat) : Nat → Nat := l.foldl (fun s x => E fun j => s j ^^^ p (16 * x + j)) fun _ => 0
theorem xchL_snoc (E : (Nat → Nat) → Nat → Nat) (p : Nat → Nat) (l : List Nat) (x : Nat) : xchL E p (l ++ [x]) = E fun j => xchL E p l j ^^^ p (16 * x + j) := by
  unfold xchL; rw [List.foldl_append]; rfl
theorem xchL_range (E : (Nat → Nat) → Nat → Nat) (p : Nat → Nat) : ∀ m, xchL E p (List.range m) = xch E p m
  | 0 => rfl
  | m + 1 => by rw [List.range_succ, xchL_snoc, xchL_range E p m]; rfl
theorem cells_block {w w' : World} {row : Option Nat} {b o L : Nat} {v : Value} (h : w.cell? ⟨b, o, none⟩ = some v) (hg : w.grownBy w' row) (hr : ∀ r, row = some r → L ≤ r ∧ ∃ ob : Obj, w.heap[r]? = some ob ∧ ob.isCells = false) : w'.heap[b]? = w.heap[b]? :=
  hg.block b (block_lt h) fun e => by
    obtain ⟨_, ob, h1, h2⟩ := hr b e.symm
    unfold World.cell? at h
    simp only [h1] at h
    cases ob <;> simp_all [Obj.isCells]
theorem cells_only {w : World} {b o : Nat} {v : Value} {ob : Obj} (h : w.cell? ⟨b, o, none⟩ = some v) (h1 : w.heap[b]? = some ob) (h2 : ob.isCells = false) : False := by
  unfold World.cell? at h
  simp only [h1] at h
  cases ob <;> simp_all [Obj.isCells]
structure ChI (w : World) (g n : Nat) (key p : Nat → Nat) (B o m : Nat) (S : Nat → Nat) (st : Nat) (W : World) : Prop where
  box : W.cell? ⟨w.heap.size + 2, 0, none⟩ = some (.slice (some ⟨st, 0, none⟩) 16 16)
  fz : W.frozen? ⟨w.heap.size + 2, 0, none⟩ = false
  row : Arr W st 0 16 S
  stn : st = w.heap.size + 1 ∨ w.heap.size + 5 ≤ st
  inp : SlB W (some ⟨B, o, none⟩) (16 * m) p
  key : KeyAt W g n key
  self : W.cell? ⟨w.heap.size, 0, none⟩ = some (.pointer (some ⟨g, 0, none⟩))
  chg : Chg g w W
  sz : w.heap.size + 5 ≤ W.heap.size
  byt : By 16 S
theorem ChI.grown {w W W' : World} {g n : Nat} {key p : Nat → Nat} {B o m : Nat} {S : Nat → Nat} {st : Nat} {row : Option Nat} (h : ChI w g n key p B o m S st W) (hm : 0 < m) (hg : W.grownBy W' row) (hr : ∀ r, row = some r → w.heap.size + 5 ≤ r ∧ ∃ ob : Obj, W.heap[r]? = some ob ∧ ob.isCells = false) :
    ChI w g n key p B o m S st W' := by
  obtain ⟨B', o', e', hB, hj⟩ := h.inp (by omega)
  cases e'
  have eB := cells_block (hj 0 (by omega)).2 hg hr
  refine ⟨(World.cell?_of_block (a := ⟨_, 0, none⟩) (cells_block h.box hg hr)).trans h.box, (World.frozen?_of_block (a := ⟨_, 0, none⟩) (cells_block h.box hg hr)).trans h.fz, h.row.of_block (cells_block (h.row 0 (by decide)).1 hg hr), h.stn,
    fun _ => ⟨B, o, rfl, Nat.lt_of_lt_of_le hB hg.size, fun j hj' => ⟨(hj j hj').1, (World.cell?_of_block (a := ⟨B, o + j, none⟩) eB).trans (hj j hj').2⟩⟩,
    h.key.of_block (cells_block h.key.words hg hr), (World.cell?_of_block (a := ⟨_, 0, none⟩) (cells_block h.self hg hr)).trans h.self,
    ⟨hg.os.trans h.chg.os, hg.tape.trans h.chg.tape, hg.output.trans h.chg.output, Nat.le_trans h.chg.size hg.size, fun k hk hn => (hg.block k (Nat.lt_of_lt_of_le hk h.chg.size) (fun e => by have := (hr k e.symm).1; omega)).trans (h.chg.block k hk hn)⟩, Nat.le_trans h.sz hg.size, h.byt⟩
theorem chi_start {w w4 : World} {g n : Nat} {key p : Nat → Nat} {B o m : Nat} (hk : KeyAt w g n key) (hA : SlB w (some ⟨B, o, none⟩) (16 * m) p)
    (hb : Below (w.heap.size + 3) (((w.alloc (.cells #[.pointer (some ⟨g, 0, none⟩)] 114)).alloc (.cells (madeCells #[.int .u8 0] 16) 5)).alloc (.cells #[.slice (some ⟨w.heap.size + 1, 0, none⟩) 16 16] 22)) w4)
    (hs : w4.heap.size = w.heap.size + 5) : ChI w g n key p B o m (fun _ => 0) (w.heap.size + 1) w4 := by
  have b1 := (Below.refl w.heap.size w).alloc (Nat.le_refl _) (.cells #[.pointer (some ⟨g, 0, none⟩)] 114)
  have e1 : (w.alloc (.cells #[.pointer (some ⟨g, 0, none⟩)] 114)).heap.size = w.heap.size + 1 := by simp
  have c1 : (w.alloc (.cells #[.pointer (some ⟨g, 0, none⟩)] 114)).cell? ⟨w.heap.size, 0, none⟩ = some (.pointer (some ⟨g, 0, none⟩)) := (World.cell?_alloc_at _ _ _ _ rfl).trans rfl
  generalize w.alloc (.cells #[.pointer (some ⟨g, 0, none⟩)] 114) = w1 at *
  have b2 := (Below.refl w1.heap.size w1).alloc (Nat.le_refl _) (.cells (madeCells #[.int .u8 0] 16) 5)
  have e2 : (w1.alloc (.cells (madeCells #[.int .u8 0] 16) 5)).heap.size = w.heap.size + 2 := by simp [e1]
  have r2 := rowB_made w1 16
  generalize w1.alloc (.cells (madeCells #[.int .u8 0] 16) 5) = w2 at *
  have b3 := (Below.refl w2.heap.size w2).alloc (Nat.le_refl _) (.cells #[.slice (some ⟨w.heap.size + 1, 0, none⟩) 16 16] 22)
  have c3 : (w2.alloc (.cells #[.slice (some ⟨w.heap.size + 1, 0, none⟩) 16 16] 22)).cell? ⟨w.heap.size + 2, 0, none⟩ = some (.slice (some ⟨w.heap.size + 1, 0, none⟩) 16 16) := (World.cell?_alloc_at _ _ _ _ e2.symm).trans rfl
  have f3 : (w2.alloc (.cells #[.slice (some ⟨w.heap.size + 1, 0, none⟩) 16 16] 22)).frozen? ⟨w.heap.size + 2, 0, none⟩ = false := by rw [← e2]; exact World.frozen?_alloc_at _ _ _ _ rfl
  generalize w2.alloc (.cells #[.slice (some ⟨w.heap.size + 1, 0, none⟩) 16 16] 22) = w3 at *
  rw [e1] at b2 r2
  rw [e2] at b3
  have bb : Below w.heap.size w w4 := ((b1.trans (b2.mono (by omega))).trans (b3.mono (by omega))).trans (hb.mono (by omega))
  have n1 : w.heap.size + 1 < w2.heap.size := by omega
  refine ⟨(hb.cell (p := ⟨w.heap.size + 2, 0, none⟩) (by show w.heap.size + 2 < _; omega)).trans c3, (World.frozen?_of_block (hb.block _ (by show w.heap.size + 2 < _; omega))).trans f3, ?_, Or.inl rfl, hA.keep bb, hk.keep bb, ?_, Chg.of_below bb, by omega, fun _ _ => by show 0 < 256; decide⟩
  · exact Arr.of_block (Arr.of_block (fun j hj => by rw [Nat.zero_add]; exact ⟨r2.cell hj, r2.frozen j⟩) (b3.block _ (by omega))) (hb.block _ (by omega))
  · exact (hb.cell (p := ⟨w.heap.size, 0, none⟩) (by show w.heap.size < _; omega)).trans ((b3.cell (p := ⟨w.heap.size, 0, none⟩) (by show w.heap.size < _; omega)).trans ((b2.cell (p := ⟨w.heap.size, 0, none⟩) (by show w.heap.size < _; omega)).trans c1))
def xpt (S p : Nat → Nat) (x k j : Nat) : Nat := if j < k then S j ^^^ p (16 * x + j) else S j
set_option maxHeartbeats 4000000 in
theorem chain_any (g n : Nat) (key p : Nat → Nat) (B o m cap : Nat) (w : World) (hn : n = 4 ∨ n = 8) (hkey : By (4 * n) key) (hk : KeyAt w g n key) (hm0 : 0 < m) (hm : m ≤ 100000) (hc : 16 * m ≤ cap) (hcap : cap ≤ 140737488351232)
    (hA : SlB w (some ⟨B, o, none⟩) (16 * m) p) (hBg : B ≠ g) :
    Calls Tryz.prog 110 #[.agg #[.pointer (some ⟨g, 0, none⟩)], .slice (some ⟨B, o, none⟩) (16 * m) cap] w fun e w' => ∃ st, e = .returned (.slice (some ⟨st, 0, none⟩) 16 16) ∧ w.heap.size ≤ st ∧ Arr w' st 0 16 (xch (enc n (ks n key)) p m) ∧ KeyAt w' g n key ∧ Chg g w w' := by
  refine (callsIn_wide (n := 6)).1 ?_
  have hf : Fence.wide.fn 110 := trivial
  have hro : Fence.wide.round = none := rfl
  have hmk : ∀ W : World, (Instr.makeSlice 22 (.int .i64 16) (.int .i64 16)).run Tryz.prog W = .ok (.slice (some ⟨W.heap.size, 0, none⟩) 16 16) (W.alloc (.cells (madeCells #[.int .u8 0] 16) 5)) := mk8 16 (by decide)
  refine callsIn_of_wp_marks Tryz.func110 rfl hf ?_ hro
  simp only [Tryz.ntmps110, List.size_toArray, List.length_cons, List.length_nil, Nat.reduceAdd, Nat.reduceSub, Array.replicate_succ, Array.replicate_zero, List.push_toArray, List.append_toArray, List.nil_append, List.cons_append]
  gi_wp2_with ((refine ⟨trivial, ?_⟩; gi_at_call 144; refine (callsIn_wide.2 (chunk_any _ _ _ _)).mono ?_; rintro e w4 ⟨rfl, h1, h2, h3, h4⟩))
  have hs3 : (((w.alloc (.cells #[.pointer (some ⟨g, 0, none⟩)] 114)).alloc (.cells (madeCells #[.int .u8 0] 16) 5)).alloc (.cells #[.slice (some ⟨w.heap.size + 1, 0, none⟩) 16 16] 22)).heap.size = w.heap.size + 3 := by simp
  rw [hs3] at h1 h2 h3 h4
  have HS := chi_start (p := p) (m := m) hk hA h4 h3
  refine wpIn_rangeFunc_ownG hro (by decide) (gf := 170) (lb := #[.pointer (some ⟨w.heap.size + 3, 0, none⟩), .pointer (some ⟨w.heap.size + 3 + 1, 0, none⟩)]) rfl trivial (enters_of Tryz.func170 (by kernel_rfl) rfl)
    (chunk_stops 5 (by decide) (w.heap.size + 3) (w.heap.size + 3 + 1) B o m cap hm hc hcap w4 h1 h2) (fun h k => h.trans k) (fun W l ob ob' hl _ _ _ => ⟨World.putObj_heap_other (by omega), World.putObj_heap_other (by omega)⟩) (Below.refl _ _) (fun _ => rfl)
    (fun pre W => ∃ st, ChI w g n key p B o m (xchL (enc n (ks n key)) p (pre.map (·.1))) st W) (fun _ _ _ => False)
    (fun s W W' row hs hg hr => by obtain ⟨st, h⟩ := hs; exact ⟨st, h.grown hm0 hg (fun r e => by have := hr r e; rw [h3] at this; exact this)⟩)
    (fun _ _ _ _ _ hs _ _ => hs)
    ⟨_, HS⟩
    (fun x => { tmps := #[.agg #[.pointer (some ⟨g, 0, none⟩)], .slice (some ⟨B, o, none⟩) (16 * m) cap, .pointer (some ⟨w.heap.size, 0, none⟩), undef, .slice none 0 0, .pointer (some ⟨w.heap.size + 2, 0, none⟩), .slice (some ⟨B, o + 16 * x.1, none⟩) 16 16, undef, undef, .slice (some ⟨w.heap.size + 1, 0, none⟩) 16 16, .slice (some ⟨B, o, none⟩) (16 * m) cap, .func (.func 170) #[] #[.pointer (some ⟨w.heap.size + 3, 0, none⟩), .pointer (some ⟨w.heap.size + 3 + 1, 0, none⟩)], .slice (some ⟨B, o + 16 * x.1, none⟩) 16 16, undef, undef, undef, undef, undef, undef, undef, undef, undef, undef, undef, undef, undef, undef, undef, undef, undef, undef, undef, undef, undef, undef, undef], defers := [] }) ?assign ?body ?done ?stop
  case assign =>
    intro l x W K hK
    gi_wp2
    exact hK
  case body =>
    rintro l pre x W ⟨st, hI⟩ _
    have HX := Lib.hid (show xchL (enc n (ks n key)) p ((pre ++ [x]).map (·.1)) = enc n (ks n key) fun j => xchL (enc n (ks n key)) p (pre.map (·.1)) j ^^^ p (16 * x.1 + j) from by
      rw [List.map_append, List.map_singleton, xchL_snoc])
    have hxm := x.2
    generalize xchL (enc n (ks n key)) p (pre.map (·.1)) = S at *
    generalize x.1 = xv at *
    obtain ⟨B', o', e', hB, hjs⟩ := hI.inp (by omega)
    cases e'
    obtain ⟨B', o', e', hBw, _⟩ := hA (by omega)
    cases e'
    have HI := Lib.hid hI
    have hBst : B ≠ st := by rcases HI.out.stn with h | h <;> omega
    have hgw := hk.lt
    gi_wp2
    gi_loopw [15] (fun i wr => ∃ k : Nat, k ≤ 16 ∧ i = .int .i64 k ∧ Arr wr st 0 16 (xpt S p xv k) ∧ Chg st W wr) (fun i _ => 16 - (intOf i).toNat)
    case atStart => exact ⟨0, Nat.zero_le _, rfl, hI.row, Chg.refl _ _⟩
    case round =>
      obtain ⟨k, hk16, rfl, hr, hcg⟩ := hrel
      have HC := Lib.hid hcg
      have HR := Lib.hid hr
      have hFs : w.heap.size + 2 ≠ st := by rcases HI.out.stn with h | h <;> omega
      have hbx : wr.cell? ⟨w.heap.size + 2, 0, none⟩ = _ := (hcg.cell (block_lt hI.box) hFs).trans hI.box
      by_cases hlt : k < 16
      · have hki : (k : Int) < 16 := by omega
        obtain ⟨y, hy⟩ : ∃ y, p (16 * xv + k) = y := ⟨_, rfl⟩
        obtain ⟨s, hs⟩ : ∃ s, S k = s := ⟨_, rfl⟩
        have hy8 : y < 256 := hy ▸ (hjs (16 * xv + k) (by omega)).1
        have hs8 : s < 256 := hs ▸ hI.byt k hlt
        have c1 : wr.cell? ⟨B, o + 16 * xv + k, none⟩ = some (.int .u8 (y : Nat)) := by
          rw [← hy, Nat.add_assoc]
          exact (hcg.cell hB hBst).trans (hjs (16 * xv + k) (by omega)).2
        have c2 : wr.cell? ⟨st, k, none⟩ = some (.int .u8 (s : Nat)) := by
          rw [hr.cell hlt (Nat.zero_add k).symm]; unfold xpt; rw [if_neg (Nat.lt_irrefl k), hs]
        have f2 := hr.frozen hlt (Nat.zero_add k).symm
        have b1 : bits BinOp.xor .u8 (s : Int) (y : Int) = ((s ^^^ y : Nat) : Int) := u8_xor_nat s y hs8 hy8
        have HN := Lib.hid ((hr.set hlt (Nat.zero_add k).symm (s ^^^ y) (v := .int .u8 ((s ^^^ y : Nat) : Int)) rfl).congr (f := xpt S p xv (k + 1)) fun j _ => by
          unfold xpt
          by_cases e : j = k
          · subst e; rw [if_pos rfl, if_pos (Nat.lt_succ_self _), hs, hy]
          · rw [if_neg e]
            by_cases h : j < k
            · rw [if_pos h, if_pos (by omega)]
            · rw [if_neg h, if_neg (by omega)])
        clear hy hs hr hcg
        gi_wp2
        go_roundw
        case rel => exact ⟨k + 1, by omega, by go_num, HN.out, HC.out.setCell (a := ⟨st, k, none⟩) (Or.inl rfl) _⟩
        case measure => simp [intOf]; omega
      · obtain rfl : k = 16 := by omega
        have hgst : g ≠ st := by rcases HI.out.stn with h | h <;> omega
        have hself : wr.cell? ⟨w.heap.size, 0, none⟩ = _ := (hcg.cell (g := w.heap.size) (block_lt hI.self) (by rcases HI.out.stn with h | h <;> omega)).trans hI.self
        have HBY := Lib.hid (show By 16 (fun j => S j ^^^ p (16 * xv + j)) from fun j hj => xor_lt8 (hI.byt j hj) (hjs (16 * xv + j) (by omega)).1)
        have HT := Lib.hid (hr.congr (f := fun j => S j ^^^ p (16 * xv + j)) fun j hj => by unfold xpt; rw [if_pos hj])
        have HKY := Lib.hid (hI.key.chg hcg hgst)
        clear hr
        gi_wp2_with ((refine ⟨trivial, ?_⟩; gi_at_call 145; refine (CallsIn.inRound l (callsIn_wide.2 (enc_any g n key _ (some ⟨st, 0, none⟩) 16 wr hn hkey HKY.out (HT.out.slB HBY.out) (fun B o e => by cases e; exact fun h => hgst h.symm)))).mono ?_; rintro e w5 ⟨st2, ⟨rfl, q1, q2, q3, q4⟩⟩; have hbx5 : w5.cell? ⟨w.heap.size + 2, 0, none⟩ = some (.slice (some ⟨st, 0, none⟩) 16 16) := (q4.cell (g := w.heap.size + 2) (block_lt hbx) (by omega)).trans hbx; have hfz5 : w5.frozen? ⟨w.heap.size + 2, 0, none⟩ = false := ((q4.frozen (g := w.heap.size + 2) (block_lt hbx) (by omega)).trans (hcg.frozen (block_lt hI.box) hFs)).trans hI.fz))
        have CS : ChgS (fun k => k = st ∨ k = g ∨ k = w.heap.size + 2) W (w5.setCell ⟨w.heap.size + 2, 0, none⟩ (.slice (some ⟨st2, 0, none⟩) 16 16)) := ((ChgS.of_chg hcg (Or.inl rfl)).trans (ChgS.of_chg q4 (Or.inr (Or.inl rfl)))).setCell (a := ⟨w.heap.size + 2, 0, none⟩) (Or.inr (Or.inr rfl)) _
        have hsz := hI.sz
        have hs5 : w.heap.size + 5 ≤ st2 := Nat.le_trans hsz (Nat.le_trans hcg.size q1)
        have CG : Chg g w (w5.setCell ⟨w.heap.size + 2, 0, none⟩ (.slice (some ⟨st2, 0, none⟩) 16 16)) := ((hI.chg.thenNew hcg (by rcases hI.stn with h | h <;> omega)).trans q4).setCell (a := ⟨w.heap.size + 2, 0, none⟩) (Or.inr (by show _ ≤ w.heap.size + 2; omega)) _
        refine ⟨⟨CS.size, fun k ob _ hk2 ho => (CS.block k (Array.getElem?_eq_some_iff.1 hk2).1 ?_).trans hk2⟩, ⟨CS.block _ (by omega) ?_, CS.block _ (by omega) ?_⟩, st2, ?_⟩
        · rintro (rfl | rfl | rfl)
          · exact cells_only (hI.row 0 (by decide)).1 hk2 ho
          · exact cells_only hI.key.words hk2 ho
          · exact cells_only hI.box hk2 ho
        · rintro (h | h | h)
          · rcases hI.stn with h' | h' <;> omega
          · omega
          · omega
        · rintro (h | h | h)
          · rcases hI.stn with h' | h' <;> omega
          · omega
          · omega
        · rw [HX.out]
          have hn2 : w.heap.size + 2 ≠ st2 := by omega
          refine ⟨World.cell?_setCell_same _ _ _ hbx5, by rw [World.frozen?_setCell]; exact hfz5, q2.setOther (a := ⟨w.heap.size + 2, 0, none⟩) (fun h => hn2 h.symm) _, Or.inr hs5, ?_, ?_, ?_, CG, by rw [size_setCell]; exact Nat.le_trans hsz (Nat.le_trans hcg.size q4.size), enc_by (fun j _ => ks_by (by omega) hkey j) HBY.out⟩
          · exact fun _ => ⟨B, o, rfl, Nat.lt_of_lt_of_le hB CS.size, fun j hj => ⟨(hjs j hj).1, (CS.cell (g := B) hB (by rintro (h | h | h) <;> omega)).trans (hjs j hj).2⟩⟩
          · exact KeyAt.of_block (Or.inr q3) (Below.heap_setCell w5 ⟨w.heap.size + 2, 0, none⟩ _ g (by show g ≠ w.heap.size + 2; omega))
          · exact (CS.cell (g := w.heap.size) (block_lt hI.self) (by rintro (h | h | h) <;> first | omega | (rcases hI.stn with h' | h' <;> omega))).trans hI.self
  case done =>
    rintro D ys W hD hys ⟨st, hI⟩ hK
    rw [hys, xchL_range] at hI
    have hbx := hI.box
    gi_wp2
    refine ⟨by simp, .inl ⟨_, _, rfl, run_takeDeferred hK, ?_⟩⟩
    have hI2 := hI.grown hm0 (grownBy_putObj' W D (.deferred none)) (fun r e => by cases e; exact ⟨by rw [h3] at hD; exact hD, _, hK, rfl⟩)
    exact ⟨_, results_tmp rfl _ _ _, st, rfl, by rcases hI2.stn with h | h <;> omega, hI2.row, hI2.key, hI2.chg⟩
  case stop =>
    rintro D c pre W _ _ h _
    exact h.elim
end Go.Proofs.YthmlcmlpmolmoaaGreatDoor
namespace Go.Proofs.YthmlcmlpmolmoaaGreatDoor
open Go.RowKit
theorem len8_bits (y : Nat) (h : y < Lib.len8tab.size) : ((Lib.len8tab[y]'h).toNat : Int) = (Lib.bitLen y : Nat) ∧ Lib.bitLen y ≤ 8 := by
  have hy : y < 256 := Nat.lt_of_lt_of_eq h Lib.len8tab_size
  have e := Lib.len8_eq ⟨y, hy⟩
  refine ⟨?_, Lib.bitLen_le8 ⟨y, hy⟩⟩
  rw [← e]
  unfold Lib.len8
  simp only [Int.toNat_natCast]
  rw [getElem?_pos Lib.len8tab y h]
  rfl
theorem len_fin {k : Nat} {x y : Int} (h : y.toNat < Lib.len8tab.size) (hk : k ≤ 56) (hy : y.toNat = x.toNat / 2 ^ k) (hx : x.toNat < 2 ^ 64) (hlo : 2 ^ k ≤ x.toNat) :
    wrap64 ((k : Int) + wrap64 ((Lib.len8tab[y.toNat]'h).toNat : Int)) = (Lib.bitLen x.toNat : Nat) := by
  obtain ⟨e, l⟩ := len8_bits _ h
  rw [e, Lib.bitLen_shift k x.toNat hlo hx, ← hy]
  unfold wrap64
  omega
theorem len_fin0 {x : Int} (h : x.toNat < Lib.len8tab.size) : wrap64 (wrap64 ((Lib.len8tab[x.toNat]'h).toNat : Int)) = (Lib.bitLen x.toNat : Nat) := by
  obtain ⟨e, l⟩ := len8_bits _ h
  rw [e]
  unfold wrap64
  omega
theorem div_nat {x y a : Int} {c d : Nat} (h : y.toNat = x.toNat / c) (h0 : 0 ≤ y) (ha : a = (d : Int)) : (y / a).toNat = x.toNat / (c * d) := by
  subst ha
  obtain ⟨y, rfl⟩ := Int.eq_ofNat_of_zero_le h0
  rw [← Nat.div_div_eq_div_mul, ← h]
  rfl
theorem low_of {x y : Int} {c d : Nat} (h : y.toNat = x.toNat / d) (hd : 0 < d) (hc : (c : Int) ≤ y) : c * d ≤ x.toNat :=
  (Nat.le_div_iff_mul_le hd).1 (by omega)
set_option maxRecDepth 100000 in
set_option maxHeartbeats 4000000 in
theorem len64_any (x : Int) (w : World) (h0 : 0 ≤ x) (hx : x ≤ 9223372036854775807) :
    Calls Tryz.prog 169 #[.int .u64 x] w fun e w' => e = .returned (.int .i64 (Lib.bitLen x.toNat : Nat)) ∧ w = w' := by
  have hX : x.toNat < 2 ^ 64 := by omega
  have hz := Lib.len8tab_size
  go_enter Tryz.func169, Tryz.ntmps169
  go_wp2_with fail
  all_goals
    go_ret
    refine ⟨ret_int ?_, rfl⟩
    first
      | exact len_fin (k := 56) _ (by decide) (div_nat (c := 1 * 4294967296 * 65536) (d := 256) (div_nat (c := 1 * 4294967296) (d := 65536) (div_nat (c := 1) (d := 4294967296) (Nat.div_one _).symm h0 rfl) (Int.ediv_nonneg h0 (by decide)) rfl) (Int.ediv_nonneg (Int.ediv_nonneg h0 (by decide)) (by decide)) rfl) hX (low_of (c := 256) (d := 1 * 4294967296 * 65536) (div_nat (c := 1 * 4294967296) (d := 65536) (div_nat (c := 1) (d := 4294967296) (Nat.div_one _).symm h0 rfl) (Int.ediv_nonneg h0 (by decide)) rfl) (by decide) (by assumption))
      | exact len_fin (k := 48) _ (by decide) (div_nat (c := 1 * 4294967296) (d := 65536) (div_nat (c := 1) (d := 4294967296) (Nat.div_one _).symm h0 rfl) (Int.ediv_nonneg h0 (by decide)) rfl) hX (low_of (c := 65536) (d := 1 * 4294967296) (div_nat (c := 1) (d := 4294967296) (Nat.div_one _).symm h0 rfl) (by decide) (by assumption))
      | exact len_fin (k := 40) _ (by decide) (div_nat (c := 1 * 4294967296) (d := 256) (div_nat (c := 1) (d := 4294967296) (Nat.div_one _).symm h0 rfl) (Int.ediv_nonneg h0 (by decide)) rfl) hX (low_of (c := 256) (d := 1 * 4294967296) (div_nat (c := 1) (d := 4294967296) (Nat.div_one _).symm h0 rfl) (by decide) (by assumption))
      | exact len_fin (k := 32) _ (by decide) (div_nat (c := 1) (d := 4294967296) (Nat.div_one _).symm h0 rfl) hX (low_of (c := 4294967296) (d := 1) (Nat.div_one _).symm (by decide) (by assumption))
      | exact len_fin (k := 24) _ (by decide) (div_nat (c := 1 * 65536) (d := 256) (div_nat (c := 1) (d := 65536) (Nat.div_one _).symm h0 rfl) (Int.ediv_nonneg h0 (by decide)) rfl) hX (low_of (c := 256) (d := 1 * 65536) (div_nat (c := 1) (d := 65536) (Nat.div_one _).symm h0 rfl) (by decide) (by assumption))
      | exact len_fin (k := 16) _ (by decide) (div_nat (c := 1) (d := 65536) (Nat.div_one _).symm h0 rfl) hX (low_of (c := 65536) (d := 1) (Nat.div_one _).symm (by decide) (by assumption))
      | exact len_fin (k := 8) _ (by decide) (div_nat (c := 1) (d := 256) (Nat.div_one _).symm h0 rfl) hX (low_of (c := 256) (d := 1) (Nat.div_one _).symm (by decide) (by assumption))
      | exact len_fin0 _
end Go.Proofs.YthmlcmlpmolmoaaGreatDoor
namespace Go.Proofs.YthmlcmlpmolmoaaGreatDoor
open Go.RowKit
def Pws (w : World) : Prop := ∀ i, i < 16 → w.cell? ⟨2, i, none⟩ = some (.int .i64 ((10 ^ (i + 1) : Nat) : Int))
namespace Pws
variable {w w' : World}
theorem lt (h : Pws w) : 2 < w.heap.size := block_lt (h 0 (by omega))
theorem keep (h : Pws w) (hb : Below w.heap.size w w') : Pws w' := fun i hi => (hb.cell (p := ⟨_, i, none⟩) h.lt).trans (h i hi)
theorem drewN (h : Pws w) (n : Nat) : Pws (w.drewN n) := h
theorem alloc (h : Pws w) (o : Obj) : Pws (w.alloc o) := h.keep ((Below.refl _ _).alloc (Nat.le_refl _) o)
end Pws
theorem xpower_any (m : Int) (w : World) (hp : Pws w) :
    Calls Tryz.prog 142 #[.int .i64 m] w fun e w' => e = .returned (.int .i64 (pw m : Nat)) ∧ w = w' := by
  by_cases h1 : m < 1
  · have HZ := Lib.hid (pw_none (Or.inl h1))
    clear hp
    go_enter Tryz.func142, Tryz.ntmps142
    go_wp2_with fail
    go_ret
    exact ⟨by rw [HZ.out]; rfl, rfl⟩
  · by_cases h2 : 16 < m
    · have HZ := Lib.hid (pw_none (Or.inr h2))
      clear hp
      go_enter Tryz.func142, Tryz.ntmps142
      go_wp2_with fail
      go_ret
      exact ⟨by rw [HZ.out]; rfl, rfl⟩
    · obtain ⟨j, rfl⟩ : ∃ j : Nat, m = (j : Int) + 1 := ⟨(m - 1).toNat, by omega⟩
      have hc := hp j (by omega)
      have HZ := Lib.hid (show pw ((j : Int) + 1) = 10 ^ (j + 1) from pw_at (k := j + 1) (by omega) (by omega))
      clear hp
      generalize (10 ^ (j + 1) : Nat) = q at *
      go_enter Tryz.func142, Tryz.ntmps142
      go_wp2_with fail
      go_ret
      exact ⟨by rw [HZ.out]; rfl, rfl⟩
theorem len_any (x : Int) (w : World) (h0 : 0 ≤ x) (hx : x ≤ 9223372036854775807) :
    Calls Tryz.prog 143 #[.int .u64 x] w fun e w' => e = .returned (.int .i64 (Lib.bitLen x.toNat : Nat)) ∧ w = w' := by
  have HC := Lib.hid (len64_any x w h0 hx)
  go_enter Tryz.func143, Tryz.ntmps143
  go_wp2_with fail
  refine HC.out.mono ?_
  rintro e w' ⟨rfl, rfl⟩
  go_wp2_with fail
  go_ret
  exact ⟨rfl, rfl⟩
theorem xwidth_any (m : Int) (w : World) (hp : Pws w) :
    Calls Tryz.prog 109 #[.int .i64 m] w fun e w' => e = .returned (.int .i64 (wd m : Nat)) ∧ w = w' := by
  have HC := Lib.hid (xpower_any m w hp)
  have hle := pw_le m
  by_cases h : pw m = 0
  · have HZ := Lib.hid (wd_none h)
    rw [h] at HC
    clear hp h hle
    go_enter Tryz.func109, Tryz.ntmps109
    go_wp2_with fail
    refine HC.out.mono ?_
    rintro e w' ⟨rfl, rfl⟩
    go_wp2_with fail
    go_ret
    exact ⟨by rw [HZ.out]; rfl, rfl⟩
  · have HL := Lib.hid (wd_len h)
    have hl8 := wd_le (m := m)
    obtain ⟨q, hq⟩ : ∃ q : Nat, pw m = q + 1 := ⟨pw m - 1, by omega⟩
    rw [hq] at HC HL hle
    have hcl : (Lib.bitLen q : Nat) ≤ 64 := by have := HL.out; rw [Nat.add_sub_cancel] at this; omega
    have HC2 := Lib.hid (len_any (q : Nat) w (by omega) (by omega))
    have HE := Lib.hid (show (((Lib.bitLen ((q : Nat) : Int).toNat : Nat) : Int) + 7) / 8 = (wd m : Nat) by have := HL.out; rw [Nat.add_sub_cancel] at this; rw [← this, Int.toNat_natCast]; omega)
    have hb : Lib.bitLen ((q : Nat) : Int).toNat ≤ 64 := hcl
    generalize Lib.bitLen ((q : Nat) : Int).toNat = l at *
    have hne : (((q + 1 : Nat) : Int) == 0) = false := by simp; omega
    have hs : ((q + 1 : Nat) : Int) - 1 = q := by omega
    clear hp h hq hcl HL
    generalize ((q + 1 : Nat) : Int) = p at *
    go_enter Tryz.func109, Tryz.ntmps109
    go_wp2_with fail
    refine HC.out.mono ?_
    rintro e w' ⟨rfl, rfl⟩
    go_wp2_with fail
    refine HC2.out.mono ?_
    rintro e w' ⟨rfl, rfl⟩
    go_wp2_with fail
    go_ret
    exact ⟨by rw [← HE.out]; rfl, rfl⟩
end Go.Proofs.YthmlcmlpmolmoaaGreatDoor
namespace Go.Proofs.YthmlcmlpmolmoaaGreatDoor
open Go.RowKit
def mdE (m : Int) (f : Nat → Int) (n : Nat) : Int := if pw m ≠ 0 ∧ okN (pw m) f n = true then 0 else 1
def mdV (m : Int) (f : Nat → Int) (n : Nat) : Int := if mdE m f n = 0 then (pw m : Nat) else 0
theorem md_bad {m : Int} {f : Nat → Int} {n : Nat} (h : pw m = 0 ∨ okN (pw m) f n = false) : mdE m f n = 1 ∧ mdV m f n = 0 := by
  have e : mdE m f n = 1 := if_neg (by rintro ⟨h1, h2⟩; rcases h with h | h; exact h1 h; rw [h] at h2; cases h2)
  exact ⟨e, by unfold mdV; rw [e]; rfl⟩
theorem md_ok {m : Int} {f : Nat → Int} {n : Nat} (h : pw m ≠ 0) (h' : okN (pw m) f n = true) : mdE m f n = 0 ∧ mdV m f n = (pw m : Nat) := by
  have e : mdE m f n = 0 := if_pos ⟨h, h'⟩
  exact ⟨e, by unfold mdV; rw [e]; rfl⟩
set_option maxHeartbeats 400000 in
theorem modulus_any (m : Int) (A : Option Addr) (n c : Nat) (f : Nat → Int) (w : World) (hn : n ≤ 1000) (hp : Pws w)
    (hA : 0 < n → ∃ g, A = some ⟨g, 0, none⟩ ∧ ∀ i, i < n → w.cell? ⟨g, i, none⟩ = some (.int .i64 (f i))) :
    Calls Tryz.prog 108 #[.int .i64 m, .slice A n c] w fun e w' => e = .returned (.tuple #[.int .i64 (mdV m f n), .int .i64 (mdE m f n)]) ∧ w = w' := by
  have HC := Lib.hid (xpower_any m w hp)
  have HA := Lib.hid hA
  clear hA hp
  by_cases h : pw m = 0
  · have HZ := Lib.hid (md_bad (f := f) (n := n) (Or.inl h))
    rw [h] at HC
    clear h
    go_enter Tryz.func108, Tryz.ntmps108
    go_wp2_with fail
    refine HC.out.mono ?_
    rintro e w' ⟨rfl, rfl⟩
    go_wp2_with fail
    go_ret2
    exact ⟨by rw [HZ.out.1, HZ.out.2]; rfl, rfl⟩
  · have HG := Lib.hid (fun h' => md_ok (f := f) (n := n) h h')
    have HBad := Lib.hid (fun h' => md_bad (m := m) (f := f) (n := n) (Or.inr h'))
    have hle := pw_le m
    have hne : (((pw m : Nat) : Int) == 0) = false := by simp; omega
    clear h
    generalize pw m = p at *
    go_enter Tryz.func108, Tryz.ntmps108
    go_wp2_with fail
    refine HC.out.mono ?_
    rintro e w' ⟨rfl, rfl⟩
    go_wp2_with fail
    go_loop [15] (fun i => ∃ k : Nat, k ≤ n ∧ i = .int .i64 k ∧ okN p f k = true) (fun i => n - (intOf i).toNat)
    case atStart => exact ⟨0, Nat.zero_le _, rfl, rfl⟩
    case round =>
      obtain ⟨k, hk, rfl, hok⟩ := hrel
      have HOK := Lib.hid hok
      clear hok
      by_cases hlt : k < n
      · obtain ⟨g, rfl, hcell⟩ := HA.out (by omega)
        have hc := hcell k hlt
        clear hcell
        by_cases h1 : f k < 0
        · have HB := Lib.hid (HBad.out (okN_bad hlt (Or.inl h1)))
          generalize f k = y at *
          go_wp2_with fail
          go_ret2
          exact ⟨by rw [HB.out.1, HB.out.2]; rfl, rfl⟩
        · by_cases h2 : (p : Int) ≤ f k
          · have HB := Lib.hid (HBad.out (okN_bad hlt (Or.inr h2)))
            generalize f k = y at *
            go_wp2_with fail
            go_ret2
            exact ⟨by rw [HB.out.1, HB.out.2]; rfl, rfl⟩
          · have HN := Lib.hid (okN_step HOK.out (by omega) (by omega))
            generalize f k = y at *
            go_wp2_with fail
            go_round
            case rel => exact ⟨k + 1, by omega, by go_num, HN.out⟩
            case measure => simp [intOf]; omega
      · obtain rfl : k = n := by omega
        have HZ := Lib.hid (HG.out HOK.out)
        go_wp2_with fail
        go_ret2
        exact ⟨by rw [HZ.out.1, HZ.out.2]; rfl, rfl⟩
end Go.Proofs.YthmlcmlpmolmoaaGreatDoor
namespace Go.Proofs.YthmlcmlpmolmoaaGreatDoor
theorem shl_or (a c : Nat) (h : c < 256) : a * 256 ||| c = a * 256 + c := by
  have := Nat.shiftLeft_add_eq_or_of_lt (show c < 2 ^ 8 from h) a
  rw [Nat.shiftLeft_eq] at this
  exact this.symm
end Go.Proofs.YthmlcmlpmolmoaaGreatDoor
namespace Go.Proofs.YthmlcmlpmolmoaaGreatDoor
open Go.RowKit
theorem md_none (m : Int) : mdE m (fun _ => 0) 0 = (if pw m = 0 then 1 else 0) ∧ mdV m (fun _ => 0) 0 = ((pw m : Nat) : Int) := by
  by_cases h : pw m = 0
  · obtain ⟨e, v⟩ := md_bad (m := m) (f := fun _ => 0) (n := 0) (Or.inl h)
    rw [e, v, if_pos h, h]; exact ⟨rfl, rfl⟩
  · obtain ⟨e, v⟩ := md_ok (f := fun _ => 0) h (okN_zero _ _)
    rw [e, v, if_neg h]; exact ⟨rfl, rfl⟩
theorem rE_low {len : Nat} {m : Int} (h : pw m = 0) : rE len m = 1 := if_pos h
theorem rE_long {len : Nat} {m : Int} (h : pw m ≠ 0) (h' : 64 < len) : rE len m = 2 := by unfold rE; rw [if_neg h, if_pos h']
theorem rE_ok {len : Nat} {m : Int} (h : pw m ≠ 0) (h' : len ≤ 64) : rE len m = 0 := by unfold rE; rw [if_neg h, if_neg (by omega)]
theorem rV_bad {len : Nat} {b : Nat → Nat} {m : Int} (h : rE len m ≠ 0) : rV len b m = 0 := if_neg h
theorem rV_ok {len : Nat} {b : Nat → Nat} {m : Int} (h : rE len m = 0) : rV len b m = (restN (pw m) b len : Nat) := if_pos h
set_option maxHeartbeats 400000 in
theorem xrest_any (A : Option Addr) (len cap : Nat) (bs : Nat → Nat) (m : Int) (w : World) (hl : len ≤ 9223372036854775807) (hp : Pws w) (hA : SlB w A len bs) :
    Calls Tryz.prog 112 #[.slice A len cap, .int .i64 m] w fun e w' => e = .returned (.tuple #[.int .i64 (rV len bs m), .int .i64 (rE len m)]) ∧ ∃ n, w' = w.drewN n := by
  have HM := Lib.hid (modulus_any m none 0 0 (fun _ => 0) w (by omega) hp (fun h => absurd h (by omega)))
  rw [(md_none m).1, (md_none m).2] at HM
  have HA := Lib.hid hA
  clear hp hA
  by_cases h : pw m = 0
  · rw [if_pos h, h] at HM
    have HE := Lib.hid (rE_low (len := len) h)
    have HV := Lib.hid (rV_bad (len := len) (b := bs) (m := m) (by rw [HE.out]; decide))
    clear h
    go_enter Tryz.func112, Tryz.ntmps112
    go_wp2_with fail
    refine HM.out.mono ?_
    rintro e w' ⟨rfl, rfl⟩
    go_wp2_with fail
    go_ret2
    exact ⟨by rw [HE.out, HV.out]; rfl, 0, rfl⟩
  · rw [if_neg h] at HM
    by_cases h64 : 64 < len
    · have HE := Lib.hid (rE_long h h64)
      have HV := Lib.hid (rV_bad (len := len) (b := bs) (m := m) (by rw [HE.out]; decide))
      have h64' : (64 : Int) < len := by omega
      clear h
      go_enter Tryz.func112, Tryz.ntmps112
      go_wp2_with fail
      refine HM.out.mono ?_
      rintro e w' ⟨rfl, rfl⟩
      go_wp2_with fail
      go_ret2
      exact ⟨by rw [HE.out, HV.out]; rfl, 0, rfl⟩
    · have HE := Lib.hid (rE_ok (m := m) (len := len) h (by omega))
      have HV := Lib.hid (rV_ok (b := bs) HE.out)
      have h64' : (len : Int) ≤ 64 := by omega
      have hle := pw_le m
      have hpos : 0 < pw m := by omega
      have hpos' : (0 : Int) < (pw m : Nat) := by omega
      clear h
      generalize pw m = p at *
      go_enter Tryz.func112, Tryz.ntmps112
      go_wp2_with fail
      refine HM.out.mono ?_
      rintro e w' ⟨rfl, rfl⟩
      go_wp2_with fail
      go_loopw [8, 23] (fun r i wr => ∃ k : Nat, k ≤ len ∧ i = .int .i64 k ∧ r = .int .i64 (restN p bs k : Nat) ∧ ∃ n, wr = w.drewN n) (fun _ i _ => len - (intOf i).toNat)
      case atStart => exact ⟨0, Nat.zero_le _, rfl, rfl, 0, rfl⟩
      case round =>
        obtain ⟨k, hk, rfl, rfl, hn⟩ := hrel
        have HN := Lib.hid hn
        clear hn
        by_cases hlt : k < len
        · obtain ⟨B, o, rfl, hB, hcells⟩ := HA.out (by omega)
          obtain ⟨hx, hcell⟩ := hcells k hlt
          have hr := restN_lt hpos bs k
          have HS := Lib.hid (show restN p bs (k + 1) = (256 * restN p bs k + bs k) % p from rfl)
          have hc : wr.cell? ⟨B, o + k, none⟩ = some (.int .u8 (bs k : Nat)) := by
            obtain ⟨n, hn⟩ := HN.out
            rw [hn]; exact hcell
          clear hcell hcells
          generalize bs k = x at *
          generalize restN p bs k = r at *
          obtain ⟨q, hor, hq⟩ : ∃ q : Nat, bits .or .i64 ((r : Int) * 256) (x : Int) = (q : Nat) ∧ 256 * r + x = q := by
            have e := i64_or_nat (r * 256) x (by omega) (by omega)
            rw [shl_or r x hx] at e
            exact ⟨256 * r + x, by rw [show ((r : Int) * 256) = ((r * 256 : Nat) : Int) by omega, e]; omega, rfl⟩
          rw [hq] at HS
          clear hq
          go_wp2_with fail
          go_roundw
          case rel => exact ⟨k + 1, by omega, by go_num, by rw [HS.out]; go_num, HN.out⟩
          case measure => simp [intOf]; omega
        · obtain rfl : k = len := by omega
          go_wp2_with fail
          go_ret2
          exact ⟨by rw [HE.out, HV.out]; rfl, HN.out⟩
end Go.Proofs.YthmlcmlpmolmoaaGreatDoor
namespace Go.Proofs.YthmlcmlpmolmoaaGreatDoor
set_option maxRecDepth 100000
open Go.RowKit
def CipP (c g n : Nat) (key : Nat → Nat) (t : Nat) (T : Nat → Nat) (v : Value) (w : World) (e : Ending) (w' : World) : Prop := e = .returned v ∧ Cip w' c g n key t T ∧ Chg g w w'
theorem Pws.cip {w w' : World} {c g n : Nat} {key : Nat → Nat} {t : Nat} {T : Nat → Nat} (h : Pws w) (hC : Cip w c g n key t T) (hn : n = 4 ∨ n = 8) (hc : Chg g w w') : Pws w' := fun i hi => by
  have hne : 2 ≠ g := fun e => by
    have h0 := h 0 (by decide)
    have hw := hC.key.words
    subst e
    rw [hw] at h0
    have h1 : ((n : Nat) : Int) = ((10 ^ (0 + 1) : Nat) : Int) := by injection h0 with h0; injection h0
    rcases hn with rfl | rfl <;> exact absurd h1 (by decide)
  exact (hc.cell h.lt hne).trans (h i hi)
set_option maxHeartbeats 1600000 in
theorem fmask_any (c g n : Nat) (key : Nat → Nat) (t : Nat) (T : Nat → Nat) (N r x : Nat) (w : World) (hp : Pws w) (hn : n = 4 ∨ n = 8) (hkey : By (4 * n) key) (hC : Cip w c g n key t T) (ht : t ≤ 16) (hT : By t T) (hN : 6 ≤ N) (hN2 : N ≤ 32) (hr : r ≤ 9) (hx : x ≤ 9223372036854775807) :
    Calls Tryz.prog 67 #[.pointer (some ⟨c, 0, none⟩), .int .i64 (N : Nat), .int .i64 (r : Nat), .int .i64 (x : Nat)] w (CipP c g n key t T (.int .i64 (fmk n key t T N r x : Nat)) w) := by
  have HS0 := Lib.hid fun w => sizes_any N 0 w (by omega) (by decide)
  have HSR := Lib.hid fun w => sizes_any N r w (by omega) (by omega)
  have hv : fd N (0 + 1) = N - N / 2 := rfl
  rw [hv] at HS0
  have HW := Lib.hid (xwidth_any ((N - N / 2 : Nat) : Int) w hp)
  rw [show wd ((N - N / 2 : Nat) : Int) = fw N from rfl] at HW
  have hfd := fd_le r hN hN2
  have hkl := fw_le N
  have hpw := pw_at (k := fd N r) (by omega) (by omega)
  have HV := Lib.hid fun (f : Nat → Nat) => show rV ((fw N + 3) / 4 * 4 + 4) f (fd N r : Nat) = (restN (10 ^ fd N r) f ((fw N + 3) / 4 * 4 + 4) : Nat) by
    have := ten_pos (fd N r)
    rw [rV_ok (rE_ok (by omega) (by omega)), hpw]
  have HFM := Lib.hid (show fmk n key t T N r x = restN (10 ^ fd N r) (xch (enc n (ks n key)) (finp (N / 2) N t T r x (fw N)) (finL t (fw N) / 16)) ((fw N + 3) / 4 * 4 + 4) from rfl)
  have HI := Lib.hid fun w (h : Cip w c g n key t T) => input_any c g n key t T N r x (fw N) w h ht hN hN2 hr hx hkl
  have HBY := Lib.hid (finp_by (u := N / 2) (n := N) (t := t) (T := T) (r := r) (x := x) (w := fw N) (by omega) (by omega) (by omega) hT (by omega))
  have hm1 := finL_mul t (fw N)
  have hm2 := finL_ge t (fw N)
  have hm3 := finL_le ht hkl
  have HCH := Lib.hid fun st w (h : KeyAt w g n key) (hs : SlB w (some ⟨st, 0, none⟩) (16 * (finL t (fw N) / 16)) (finp (N / 2) N t T r x (fw N))) (hne : st ≠ g) => chain_any g n key (finp (N / 2) N t T r x (fw N)) st 0 (finL t (fw N) / 16) (finL t (fw N)) w hn hkey h (by omega) (by omega) (by omega) (by omega) hs hne
  rw [hm1] at HCH
  generalize fw N = k at *
  generalize hL : finL t k = L at *
  have HXB := Lib.hid fun M (h : 16 * M ≤ L) => xch_by hn hkey HBY.out M h
  have HM1 := Lib.hid hm1
  obtain ⟨dl, hdl⟩ : ∃ dl, (k + 3) / 4 * 4 + 4 = dl := ⟨_, rfl⟩
  rw [hdl] at HV HFM
  have hdi : ((k : Int) + 4 - 1) / 4 * 4 + 4 = (dl : Nat) := by omega
  have hdl16 : dl ≤ 16 := by omega
  have hki : (k : Int) ≤ 8 := by omega
  have hNi : (N : Int) ≤ 32 := by omega
  have hc0 := hC.ptr
  have HC := Lib.hid hC
  have HP := Lib.hid hp
  have HN := Lib.hid hn
  clear hp hn hkey hC ht hT hN hN2 hr hx hv hpw hm1 hm2 hm3 hdl hL hkl
  go_enter Tryz.func67, Tryz.ntmps67
  go_wp2_with (first | (go_at_call 65; refine (HS0.out _).mono ?_; rintro e w1 ⟨rfl, rfl⟩) | (go_at_call 109; refine HW.out.mono ?_; rintro e w1 ⟨rfl, rfl⟩))
  go_region_with (first | (go_at_call 111; refine (HI.out _ (HC.out.drewN 1)).mono ?_; rintro e w3 ⟨st, rfl, h1, h2, h3⟩; have H1 := Lib.hid h1; have H2 := Lib.hid h2; have H3 := Lib.hid (show Below w.heap.size w w3 from ⟨h3.os, h3.tape, h3.output, h3.size, h3.block⟩); have hc3 : w3.cell? ⟨c, 0, none⟩ = _ := (h3.cell (p := ⟨c, 0, none⟩) HC.out.lt).trans hc0; have HC3 := Lib.hid ((HC.out.drewN 1).keep h3); have HP3 := Lib.hid ((HP.out.drewN 1).keep h3); clear h1 h2 h3) | (go_at_call 110; refine (HCH.out st w3 HC3.out.key (H2.out.slB0 (Nat.le_refl _) HBY.out) (Nat.ne_of_gt (Nat.lt_of_lt_of_le HC.out.key.lt H1.out))).mono ?_; rintro e w4 ⟨st2, rfl, h4, h5, h6, h7⟩; have H5 := Lib.hid h5; have HC4 := Lib.hid (HC3.out.chg h7 h6); have H7 := Lib.hid ((Chg.of_below (K := g) H3.out).trans h7); have HP4 := Lib.hid (HP3.out.cip HC3.out HN.out h7); clear h4 h5 h6 h7))
  all_goals
    go_wp2_with (first | (go_at_call 65; refine (HSR.out _).mono ?_; rintro e w1 ⟨rfl, rfl⟩) | (go_at_call 112; refine (xrest_any (some ⟨st2, 0, none⟩) dl 16 _ (fd N r : Nat) _ (by omega) HP4.out ((H5.out.slB (HXB.out _ (Nat.le_of_eq HM1.out))).low hdl16)).mono ?_; rintro e w5 ⟨rfl, z5, rfl⟩))
    go_ret
    exact ⟨by rw [HV.out, HFM.out]; rfl, HC4.out.drewN _, (H7.out.drewN _)⟩
end Go.Proofs.YthmlcmlpmolmoaaGreatDoor
namespace Go.Proofs.YthmlcmlpmolmoaaGreatDoor
open Go.RowKit
theorem xvalue_facts (s : ByteArray) : (s.size = 0 → vE s = 1 ∧ vV s = 0) ∧ (16 < s.size → vE s = 2 ∧ vV s = 0) ∧ (s.size ≠ 0 → s.size ≤ 16 → vE s = dnE s ∧ vV s = dnV s) := by
  refine ⟨fun h => ?_, fun h => ?_, fun h h' => ?_⟩
  · have e : vE s = 1 := if_pos h
    exact ⟨e, by unfold vV; rw [e]; rfl⟩
  · have e : vE s = 2 := by unfold vE; rw [if_neg (by omega), if_pos h]
    exact ⟨e, by unfold vV; rw [e]; rfl⟩
  · have e : vE s = dnE s := by unfold vE; rw [if_neg h, if_neg (by omega)]
    refine ⟨e, ?_⟩
    unfold vV dnV
    rw [e]
    split <;> simp_all
set_option maxHeartbeats 400000 in
theorem xvalue_any (s : ByteArray) (w : World) (hs : s.size ≤ maxLen) :
    Calls Tryz.prog 107 #[.string s] w fun e w' => e = .returned (.tuple #[.int .i64 (vV s), .int .i64 (vE s)]) ∧ ∃ n, w' = w.drewN n := by
  have HN := Lib.hid (number_any s w hs)
  obtain ⟨f1, f2, f3⟩ := xvalue_facts s
  unfold maxLen at hs
  by_cases h0 : s.size = 0
  · have e1 : s.toList = [] := by
      rw [ByteArray.toList_eq]; exact List.eq_nil_of_length_eq_zero (Array.length_toList.trans h0)
    have HZ := Lib.hid (f1 h0)
    clear h0 f1 f2 f3
    go_enter Tryz.func107, Tryz.ntmps107
    go_wp2_with fail
    go_ret2
    exact ⟨by rw [HZ.out.1, HZ.out.2]; rfl, 0, rfl⟩
  · have e1 := toList_of_size (s := s) (by omega)
    have e2 : ¬ s.toList = [] := by intro h; rw [h] at e1; cases e1
    by_cases h16 : 16 < s.size
    · have HZ := Lib.hid (f2 h16)
      clear h0 f1 f2 f3
      have h16' : (16 : Int) < s.size := by omega
      go_enter Tryz.func107, Tryz.ntmps107
      go_wp2_with fail
      go_ret2
      exact ⟨by rw [HZ.out.1, HZ.out.2]; rfl, 0, rfl⟩
    · have HZ := Lib.hid (f3 h0 (by omega))
      have h16' : (s.size : Int) ≤ 16 := by omega
      clear h0 f1 f2 f3
      go_enter Tryz.func107, Tryz.ntmps107
      go_wp2_with fail
      refine HN.out.mono ?_
      rintro e w' ⟨rfl, n, rfl⟩
      go_wp2_with fail
      go_ret2
      exact ⟨by rw [HZ.out.1, HZ.out.2]; rfl, n, rfl⟩
theorem md_one (n m : Int) : mdE m (fun _ => n) 1 = gE n m ∧ mdV m (fun _ => n) 1 = if inP n m = true then ((pw m : Nat) : Int) else 0 := by
  by_cases h : inP n m = true
  · obtain ⟨e, v⟩ := md_ok (f := fun _ => n) (inP_pos h) (by rw [okN_in rfl, h])
    rw [e, v, gE_pos h, if_pos h]; exact ⟨rfl, rfl⟩
  · obtain ⟨e, v⟩ := md_bad (m := m) (f := fun _ => n) (n := 1) (Or.inr (by rw [okN_in rfl]; simpa using h))
    rw [e, v, gE_neg h, if_neg h]; exact ⟨rfl, rfl⟩
def pairI (a b : Int) (i : Nat) : Int := if i = 0 then a else b
theorem md_two (a b m : Int) : mdE m (pairI a b) 2 = tE a b m ∧ mdV m (pairI a b) 2 = if tE a b m = 0 then ((pw m : Nat) : Int) else 0 := by
  have hk : okN (pw m) (pairI a b) 2 = (inP a m && inP b m) := by
    rw [Bool.eq_iff_iff, okN_two, Bool.and_eq_true, inP_iff, inP_iff]; rfl
  by_cases h : inP a m = true ∧ inP b m = true
  · obtain ⟨e, v⟩ := md_ok (f := pairI a b) (inP_pos h.1) (by rw [hk, h.1, h.2]; rfl)
    rw [e, v, tE_pos h.1 h.2]; exact ⟨rfl, rfl⟩
  · obtain ⟨e, v⟩ := md_bad (m := m) (f := pairI a b) (n := 2) (Or.inr (by rw [hk]; simpa using h))
    rw [e, v, tE_neg h]; exact ⟨rfl, rfl⟩
set_option maxHeartbeats 400000 in
theorem xdigits_any (n m : Int) (w : World) (hn : n ≤ 9223372036854775807) (hp : Pws w) :
    Calls Tryz.prog 113 #[.int .i64 n, .int .i64 m] w fun e w' => e = .returned (.tuple #[.string (gV n m), .int .i64 (gE n m)]) ∧ Below w.heap.size w w' := by
  have HM := Lib.hid (modulus_any m (some ⟨w.heap.size, 0, none⟩) 1 1 (fun _ => n) (w.alloc (.cells #[.int .i64 n] 3)) (by omega) (hp.alloc _) (fun _ => ⟨_, rfl, fun i hi => by
    obtain rfl : i = 0 := by omega
    exact World.cell?_alloc_at _ _ _ _ rfl⟩))
  have HO := Lib.hid (md_one n m)
  have HB := Lib.hid ((Below.refl w.heap.size w).alloc (Nat.le_refl _) (.cells #[.int .i64 n] 3))
  rw [HO.out.1] at HM
  by_cases h : inP n m = true
  · rw [gE_pos h] at HM
    have HT := Lib.hid (text_any n m (w.alloc (.cells #[.int .i64 n] 3)) hn)
    rw [(text_in h).1, (text_in h).2] at HT
    have HE := Lib.hid (gE_pos h)
    clear hp h
    go_enter Tryz.func113, Tryz.ntmps113
    go_wp2_with fail
    refine HM.out.mono ?_
    rintro e w' ⟨rfl, rfl⟩
    go_wp2_with fail
    refine HT.out.mono ?_
    rintro e w' ⟨rfl, hb⟩
    go_wp2_with fail
    go_ret2
    exact ⟨by rw [HE.out]; rfl, HB.out.trans (hb.mono HB.out.size)⟩
  · rw [gE_neg h] at HM
    have HE := Lib.hid (gE_neg h)
    have HV := Lib.hid (gV_neg h)
    clear hp h
    go_enter Tryz.func113, Tryz.ntmps113
    go_wp2_with fail
    refine HM.out.mono ?_
    rintro e w' ⟨rfl, rfl⟩
    go_wp2_with fail
    go_ret2
    exact ⟨by rw [HE.out, HV.out]; rfl, HB.out⟩
theorem two_cells (w : World) (a b : Int) : ∀ i, i < 2 → (w.alloc (.cells #[.int .i64 a, .int .i64 b] 3)).cell? ⟨w.heap.size, i, none⟩ = some (.int .i64 (pairI a b i)) := fun i hi => by
  rcases (show i = 0 ∨ i = 1 by omega) with rfl | rfl
  · exact (World.cell?_alloc_at _ _ _ _ rfl).trans rfl
  · exact (World.cell?_alloc_at _ _ _ _ rfl).trans rfl
set_option maxHeartbeats 400000 in
theorem xadd_any (a b m : Int) (w : World) (hp : Pws w) :
    Calls Tryz.prog 66 #[.int .i64 a, .int .i64 b, .int .i64 m] w fun e w' => e = .returned (.tuple #[.int .i64 (aV a b m), .int .i64 (tE a b m)]) ∧ Below w.heap.size w w' := by
  have HM := Lib.hid (modulus_any m (some ⟨w.heap.size, 0, none⟩) 2 2 (pairI a b) (w.alloc (.cells #[.int .i64 a, .int .i64 b] 3)) (by omega) (hp.alloc _) (fun _ => ⟨_, rfl, two_cells w a b⟩))
  have HB := Lib.hid ((Below.refl w.heap.size w).alloc (Nat.le_refl _) (.cells #[.int .i64 a, .int .i64 b] 3))
  rw [(md_two a b m).1, (md_two a b m).2] at HM
  by_cases h : inP a m = true ∧ inP b m = true
  · have HV := Lib.hid (show aV a b m = (a + b) % (pw m : Int) by unfold aV; rw [if_pos (tE_pos h.1 h.2)])
    rw [tE_pos h.1 h.2, if_pos rfl] at HM
    have HE := Lib.hid (tE_pos h.1 h.2)
    obtain ⟨a0, a1⟩ := (inP_iff a m).1 h.1
    obtain ⟨b0, b1⟩ := (inP_iff b m).1 h.2
    have hle := pw_le m
    have hpos : (0 : Int) < (pw m : Nat) := by omega
    clear hp h
    generalize pw m = p at *
    go_enter Tryz.func66, Tryz.ntmps66
    go_wp2_with fail
    refine HM.out.mono ?_
    rintro e w' ⟨rfl, rfl⟩
    go_wp2_with fail
    go_ret2
    exact ⟨by rw [HE.out, HV.out]; rfl, HB.out⟩
  · have HV := Lib.hid (show aV a b m = 0 by unfold aV; rw [tE_neg h]; rfl)
    rw [tE_neg h] at HM
    have HE := Lib.hid (tE_neg h)
    clear hp h
    go_enter Tryz.func66, Tryz.ntmps66
    go_wp2_with fail
    refine HM.out.mono ?_
    rintro e w' ⟨rfl, rfl⟩
    go_wp2_with fail
    go_ret2
    exact ⟨by rw [HE.out, HV.out]; rfl, HB.out⟩
set_option maxHeartbeats 400000 in
theorem xsub_any (a b m : Int) (w : World) (hp : Pws w) :
    Calls Tryz.prog 128 #[.int .i64 a, .int .i64 b, .int .i64 m] w fun e w' => e = .returned (.tuple #[.int .i64 (sV a b m), .int .i64 (tE a b m)]) ∧ Below w.heap.size w w' := by
  have HM := Lib.hid (modulus_any m (some ⟨w.heap.size, 0, none⟩) 2 2 (pairI a b) (w.alloc (.cells #[.int .i64 a, .int .i64 b] 3)) (by omega) (hp.alloc _) (fun _ => ⟨_, rfl, two_cells w a b⟩))
  have HB := Lib.hid ((Below.refl w.heap.size w).alloc (Nat.le_refl _) (.cells #[.int .i64 a, .int .i64 b] 3))
  rw [(md_two a b m).1, (md_two a b m).2] at HM
  by_cases h : inP a m = true ∧ inP b m = true
  · have HV := Lib.hid (show sV a b m = (a - b + (pw m : Int)) % (pw m : Int) by unfold sV; rw [if_pos (tE_pos h.1 h.2)])
    rw [tE_pos h.1 h.2, if_pos rfl] at HM
    have HE := Lib.hid (tE_pos h.1 h.2)
    obtain ⟨a0, a1⟩ := (inP_iff a m).1 h.1
    obtain ⟨b0, b1⟩ := (inP_iff b m).1 h.2
    have hle := pw_le m
    have hpos : (0 : Int) < (pw m : Nat) := by omega
    clear hp h
    generalize pw m = p at *
    go_enter Tryz.func128, Tryz.ntmps128
    go_wp2_with fail
    refine HM.out.mono ?_
    rintro e w' ⟨rfl, rfl⟩
    go_wp2_with fail
    go_ret2
    exact ⟨by rw [HE.out, HV.out]; rfl, HB.out⟩
  · have HV := Lib.hid (show sV a b m = 0 by unfold sV; rw [tE_neg h]; rfl)
    rw [tE_neg h] at HM
    have HE := Lib.hid (tE_neg h)
    clear hp h
    go_enter Tryz.func128, Tryz.ntmps128
    go_wp2_with fail
    refine HM.out.mono ?_
    rintro e w' ⟨rfl, rfl⟩
    go_wp2_with fail
    go_ret2
    exact ⟨by rw [HE.out, HV.out]; rfl, HB.out⟩
end Go.Proofs.YthmlcmlpmolmoaaGreatDoor
namespace Go.Proofs.YthmlcmlpmolmoaaGreatDoor
set_option maxRecDepth 100000
open Go.RowKit
def loS (s : ByteArray) : ByteArray := s.extract 0 (s.size / 2)
def hiS (s : ByteArray) : ByteArray := s.extract (s.size / 2) s.size
def hE (s : ByteArray) : Int := if s.size < 6 ∨ 32 < s.size then 1 else if vE (loS s) ≠ 0 then vE (loS s) else vE (hiS s)
def hV (s : ByteArray) : Array Value := if hE s = 0 then #[.int .i64 (vV (loS s)), .int .i64 (vV (hiS s)), .int .i64 0] else #[.int .i64 0, .int .i64 0, .int .i64 (hE s)]
theorem halves_bad (s : ByteArray) (w : World) (hs : s.size ≤ maxLen) (h : s.size < 6 ∨ 32 < s.size) :
    Calls Tryz.prog 64 #[.string s] w fun e w' => e = .returned (.tuple #[.int .i64 0, .int .i64 0, .int .i64 1]) ∧ w = w' := by
  have HWL := Lib.hid (wrongL_any (s.size : Nat) w)
  rw [show (decide (((s.size : Nat) : Int) < 6) || decide (32 < ((s.size : Nat) : Int))) = true by rw [Bool.or_eq_true, decide_eq_true_eq, decide_eq_true_eq]; omega] at HWL
  have hs' := hs
  unfold maxLen at hs'
  clear h hs
  go_enter Tryz.func64, Tryz.ntmps64
  go_wp2_with (go_at_call 106; refine HWL.out.mono ?_; rintro e w1 ⟨rfl, rfl⟩)
  exact bodyPost_ret (v := .tuple #[.int .i64 0, .int .i64 0, .int .i64 1]) (by simp [results, Tryz.results64, go_sem]) rfl ⟨rfl, rfl⟩
theorem fhalves_any (s : ByteArray) (w : World) (h1 : 6 ≤ s.size) (h2 : s.size ≤ 32) :
    Calls Tryz.prog 64 #[.string s] w fun e w' => e = .returned (.tuple (hV s)) ∧ ∃ n, w' = w.drewN n := by
  have HWL := Lib.hid (wrongL_any (s.size : Nat) w)
  rw [show (decide (((s.size : Nat) : Int) < 6) || decide (32 < ((s.size : Nat) : Int))) = false by rw [Bool.or_eq_false_iff, decide_eq_false_iff_not, decide_eq_false_iff_not]; omega] at HWL
  have HS := Lib.hid (sizes_any s.size 0 w (by omega) (by decide))
  rw [show fd s.size 0 = s.size / 2 from rfl] at HS
  have hl : (loS s).size ≤ maxLen := by unfold loS maxLen; rw [ByteArray.size_extract]; omega
  have hh : (hiS s).size ≤ maxLen := by unfold hiS maxLen; rw [ByteArray.size_extract]; omega
  have HV1 := Lib.hid (xvalue_any (loS s) w hl)
  have HV2 := Lib.hid fun W => xvalue_any (hiS s) W hh
  have hEq : hE s = if vE (loS s) ≠ 0 then vE (loS s) else vE (hiS s) := by unfold hE; rw [if_neg (by omega)]
  have HL := Lib.hid (show s.extract 0 (s.size / 2) = loS s from rfl)
  have HH := Lib.hid (show s.extract (s.size / 2) s.size = hiS s from rfl)
  have hVe : hV s = if hE s = 0 then #[.int .i64 (vV (loS s)), .int .i64 (vV (hiS s)), .int .i64 0] else #[.int .i64 0, .int .i64 0, .int .i64 (hE s)] := rfl
  obtain ⟨k, hk⟩ : ∃ k, s.size / 2 = k := ⟨_, rfl⟩
  rw [hk] at HS HL HH
  rw [← HL.out] at HV1
  rw [← HH.out] at HV2
  have hki : (k : Int) ≤ (s.size : Nat) := by omega
  have hki2 : k ≤ s.size := by omega
  have hsz : ((s.size : Nat) : Int) ≤ 32 := by omega
  rw [HL.out] at HV1
  rw [HH.out] at HV2
  generalize hV s = V at *
  generalize hE s = r at *
  generalize loS s = a at *
  generalize hiS s = b at *
  by_cases ha : vE a = 0
  · have g1 : (vE a != 0) = false := by rw [ha]; rfl
    rw [if_neg (by rw [ha]; decide)] at hEq
    by_cases hb : vE b = 0
    · have g2 : (vE b != 0) = false := by rw [hb]; rfl
      rw [show r = 0 from hEq.trans hb, if_pos rfl] at hVe
      have HF := Lib.hid hVe
      clear hk hl hh h1 h2 hEq hVe ha hb
      go_enter Tryz.func64, Tryz.ntmps64
      go_wp2_with (first | (go_at_call 106; refine HWL.out.mono ?_; rintro e w1 ⟨rfl, rfl⟩) | (go_at_call 65; refine HS.out.mono ?_; rintro e w1 ⟨rfl, rfl⟩) | (go_at_call 107; rw [HL.out]; refine HV1.out.mono ?_; rintro e w1 ⟨rfl, n1, rfl⟩) | (go_at_call 107; rw [HH.out]; refine (HV2.out _).mono ?_; rintro e w1 ⟨rfl, n2, rfl⟩))
      exact bodyPost_ret (v := .tuple #[.int .i64 (vV a), .int .i64 (vV b), .int .i64 0]) (by simp [results, Tryz.results64, go_sem]) rfl ⟨by rw [HF.out], n1 + n2, rfl⟩
    · have g2 : (vE b != 0) = true := by simpa using hb
      rw [hEq, if_neg hb] at hVe
      have HF := Lib.hid hVe
      clear hk hl hh h1 h2 hEq hVe ha hb
      go_enter Tryz.func64, Tryz.ntmps64
      go_wp2_with (first | (go_at_call 106; refine HWL.out.mono ?_; rintro e w1 ⟨rfl, rfl⟩) | (go_at_call 65; refine HS.out.mono ?_; rintro e w1 ⟨rfl, rfl⟩) | (go_at_call 107; rw [HL.out]; refine HV1.out.mono ?_; rintro e w1 ⟨rfl, n1, rfl⟩) | (go_at_call 107; rw [HH.out]; refine (HV2.out _).mono ?_; rintro e w1 ⟨rfl, n2, rfl⟩))
      exact bodyPost_ret (v := .tuple #[.int .i64 0, .int .i64 0, .int .i64 (vE b)]) (by simp [results, Tryz.results64, go_sem]) rfl ⟨by rw [HF.out], n1 + n2, rfl⟩
  · have g1 : (vE a != 0) = true := by simpa using ha
    rw [if_pos ha] at hEq
    rw [hEq, if_neg ha] at hVe
    have HF := Lib.hid hVe
    clear hk hl hh h1 h2 hEq hVe ha HV2
    go_enter Tryz.func64, Tryz.ntmps64
    go_wp2_with (first | (go_at_call 106; refine HWL.out.mono ?_; rintro e w1 ⟨rfl, rfl⟩) | (go_at_call 65; refine HS.out.mono ?_; rintro e w1 ⟨rfl, rfl⟩) | (go_at_call 107; rw [HL.out]; refine HV1.out.mono ?_; rintro e w1 ⟨rfl, n1, rfl⟩))
    exact bodyPost_ret (v := .tuple #[.int .i64 0, .int .i64 0, .int .i64 (vE a)]) (by simp [results, Tryz.results64, go_sem]) rfl ⟨by rw [HF.out], n1, rfl⟩
def fcat (N : Nat) (a b : Int) : ByteArray := gV a (fd N 0 : Nat) ++ gV b (fd N 1 : Nat)
theorem gV_size (n m : Int) (h : m ≤ 16) : (gV n m).size ≤ 16 := by
  unfold gV
  split
  · rw [strOf_size]; omega
  · decide
theorem fjoin_any (N : Nat) (a b : Int) (w : World) (hp : Pws w) (hN : 6 ≤ N) (hN2 : N ≤ 32) (ha : a ≤ 9223372036854775807) (hb : b ≤ 9223372036854775807) :
    Calls Tryz.prog 68 #[.int .i64 (N : Nat), .int .i64 a, .int .i64 b] w fun e w' => e = .returned (.string (fcat N a b)) ∧ Below w.heap.size w w' := by
  have HS := Lib.hid (sizes_any N 0 w (by omega) (by decide))
  rw [Nat.zero_add] at HS
  have h0 := fd_le 0 hN hN2
  have h1 := fd_le 1 hN hN2
  have g0 := gV_size a (fd N 0 : Nat) (by omega)
  have g1 := gV_size b (fd N 1 : Nat) (by omega)
  have HD1 := Lib.hid (xdigits_any a (fd N 0 : Nat) w ha hp)
  have HD2 := Lib.hid fun W (h : Pws W) => xdigits_any b (fd N 1 : Nat) W hb h
  have HP := Lib.hid hp
  have HF := Lib.hid (show fcat N a b = gV a (fd N 0 : Nat) ++ gV b (fd N 1 : Nat) from rfl)
  generalize gV a (fd N 0 : Nat) = x at *
  generalize gV b (fd N 1 : Nat) = y at *
  generalize fd N 0 = k at *
  generalize fd N 1 = l at *
  clear hp hN hN2 ha hb h0 h1
  go_enter Tryz.func68, Tryz.ntmps68
  go_wp2_with (first | (go_at_call 65; refine HS.out.mono ?_; rintro e w1 ⟨rfl, rfl⟩) | (go_at_call 113; refine HD1.out.mono ?_; rintro e w2 ⟨rfl, h2⟩; have H2 := Lib.hid h2; clear HD1 h2) | (go_at_call 113; refine (HD2.out w2 (HP.out.keep H2.out)).mono ?_; rintro e w3 ⟨rfl, h3⟩; have H3 := Lib.hid h3; clear h3))
  go_ret
  exact ⟨by rw [HF.out]; rfl, H2.out.trans (H3.out.mono H2.out.size)⟩
end Go.Proofs.YthmlcmlpmolmoaaGreatDoor
