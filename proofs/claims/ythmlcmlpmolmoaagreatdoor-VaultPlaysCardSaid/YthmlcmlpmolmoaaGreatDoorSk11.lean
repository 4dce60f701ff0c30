/- 8 texts in one, in their order: what the cards need of them. -/
import Derived.Test.YthmlcmlpmolmoaaGreatDoorSk10
import Derived.Deep.Slices
import Derived.Laws.CopyOwn
namespace Go.Proofs.YthmlcmlpmolmoaaGreatDoor
set_option maxRecDepth 100000
open Go.RowKit
set_option maxHeartbeats 1600000 in
theorem rtoken_any (s : ByteArray) (v : Int) (w : World) (hs : s.size ≤ maxLen) :
    Calls Tryz.prog 44 #[.string s, .int .i64 v] w fun e w' => e = .returned (.tuple #[.string (tokV s v), .int .i64 (tokE s v)]) ∧ Below w.heap.size w w' := by
  cases hz : shp s with
  | false =>
    have HE := Lib.hid (show tokE s v = 10 by unfold tokE; rw [hz]; rfl)
    have HV := Lib.hid (show tokV s v = ⟨#[]⟩ by unfold tokV; rw [HE.out]; rfl)
    have HZ := Lib.hid hz
    clear hz
    go_enter Tryz.func44, Tryz.ntmps44
    go_wp2_with (go_at_call 28; refine (rshaped_any s _ hs).mono ?_; rintro e w1 ⟨rfl, hb⟩; rw [HZ.out])
    go_ret2
    exact ⟨by rw [HE.out, HV.out]; rfl, hb⟩
  | true =>
    have hl : s.size ≤ 1000 := by have := (shp_parts hz).2.2; omega
    have HZ := Lib.hid hz
    clear hs
    by_cases hv : 1 ≤ v ∧ v ≤ 255
    · have HE := Lib.hid (show tokE s v = 0 by unfold tokE; rw [hz, if_pos rfl, if_neg (by omega)])
      have HV := Lib.hid (show tokV s v = s ++ ⟨#[46]⟩ ++ itoaB v by unfold tokV; rw [if_pos HE.out]; rfl)
      have h1 : decide (v < 1) = false := by simp; omega
      have h2 : decide (255 < v) = false := by simp; omega
      have hi := itoaB_size v (by omega) (by omega)
      have hz1 : (s ++ (⟨#[46]⟩ : ByteArray)).size ≤ 1001 := by rw [ByteArray.size_append]; show s.size + 1 ≤ 1001; omega
      have HI := Lib.hid hv
      clear hz hv
      go_enter Tryz.func44, Tryz.ntmps44
      go_wp2_with fail
      refine (rshaped_any s _ (by unfold maxLen; omega)).mono ?_
      rintro e w1 ⟨rfl, hb⟩
      rw [HZ.out]
      have HB1 := Lib.hid hb
      clear hb
      go_wp2_with fail
      refine (rtext11_any (by have := HI.out; omega) (by have := HI.out; omega) _).mono ?_
      rintro e w2 ⟨rfl, hb2⟩
      have HB2 := Lib.hid (HB1.out.trans (hb2.mono HB1.out.size))
      clear hb2
      generalize itoaB v = tv at *
      go_wp2_with fail
      go_ret2
      exact ⟨by rw [HE.out, HV.out]; rfl, HB2.out⟩
    · have HE := Lib.hid (show tokE s v = 1 by unfold tokE; rw [hz, if_pos rfl, if_pos (by omega)])
      have HV := Lib.hid (show tokV s v = ⟨#[]⟩ by unfold tokV; rw [HE.out]; rfl)
      clear hz
      rcases (show v < 1 ∨ (¬ v < 1 ∧ 255 < v) by omega) with h1 | ⟨h1, h2⟩
      all_goals
        go_enter Tryz.func44, Tryz.ntmps44
        go_wp2_with (go_at_call 28; refine (rshaped_any s _ (by unfold maxLen; omega)).mono ?_; rintro e w1 ⟨rfl, hb⟩; rw [HZ.out])
        go_ret2
        exact ⟨by rw [HE.out, HV.out]; rfl, hb⟩
theorem split_yes {t : ByteArray} (h : isTk t = true) : dnE (bhd t 46) = 0 ∧ dnV (bhd t 46) = tkN t ∧ tokE (tkA t) (tkN t) = 0 ∧ tokV (tkA t) (tkN t) = t := by
  obtain ⟨h1, h2, h3⟩ := isTk_parts h
  obtain ⟨e1, e2, e3⟩ := ver_text h2
  have e4 : tokE (tkA t) (tkN t) = 0 := by unfold tokE; rw [h1, if_pos rfl, if_neg (by omega)]
  exact ⟨e1, e2, e4, by unfold tokV; rw [if_pos e4, tk_join h]⟩
theorem split_no {t : ByteArray} (h : isTk t = false) : dnE (bhd t 46) ≠ 0 ∨ (dnE (bhd t 46) = 0 ∧ tokE (tkA t) (dnV (bhd t 46)) ≠ 0) ∨
    (dnE (bhd t 46) = 0 ∧ tokE (tkA t) (dnV (bhd t 46)) = 0 ∧ tokV (tkA t) (dnV (bhd t 46)) ≠ t) := by
  by_cases h1 : dnE (bhd t 46) = 0
  · by_cases h2 : tokE (tkA t) (dnV (bhd t 46)) = 0
    · refine Or.inr (Or.inr ⟨h1, h2, fun h3 => ?_⟩)
      have hz : shp (tkA t) = true := by
        cases hz : shp (tkA t) with
        | true => rfl
        | false => unfold tokE at h2; rw [hz, if_neg (by decide)] at h2; exact absurd h2 (by decide)
      have hv : 1 ≤ dnV (bhd t 46) ∧ dnV (bhd t 46) ≤ 255 := by
        unfold tokE at h2
        rw [hz, if_pos rfl] at h2
        split at h2
        · omega
        · omega
      unfold tokV at h3
      rw [if_pos h2] at h3
      have := (tk_of hz hv.1 hv.2).2.2
      rw [h3, h] at this
      exact absurd this (by decide)
    · exact Or.inr (Or.inl ⟨h1, h2⟩)
  · exact Or.inl h1
theorem same_list {a b : ByteArray} (h : a ≠ b) : (a.toList == b.toList) = false := by
  rw [beq_eq_false_iff_ne, ByteArray.toList_eq, ByteArray.toList_eq]
  exact fun he => h (ba_ext he)
set_option maxRecDepth 100000 in
set_option maxHeartbeats 3200000 in
theorem rsplit_any (t : ByteArray) (w : World) (hs : t.size ≤ maxLen) :
    Calls Tryz.prog 47 #[.string t] w fun e w' => e = .returned (.tuple #[.string (splV t), .int .i64 (splN t), .int .i64 (splE t)]) ∧ Below w.heap.size w w' := by
  have HS := Lib.hid hs
  unfold maxLen at hs
  go_enter Tryz.func47, Tryz.ntmps47
  go_wp2_with fail
  go_loopw [5] (fun i wr => ∃ k : Nat, k ≤ t.size ∧ i = .int .i64 k ∧ (∀ j (hj : j < t.size), j < k → t[j] ≠ 46) ∧ wr = w) (fun i _ => t.size - (intOf i).toNat)
  case atStart => exact ⟨0, Nat.zero_le _, rfl, fun j _ hj => absurd hj (by omega), rfl⟩
  case round =>
    obtain ⟨k, hk, rfl, hn, hw⟩ := hrel
    have HN := Lib.hid hn
    have HWE := Lib.hid hw
    clear hn hw
    by_cases hlt : k < t.size
    · by_cases hd : t[k] = 46
      · obtain ⟨f1, f2⟩ := fst_at hlt hd (fun j hj => HN.out j (Nat.lt_trans hj hlt) hj)
        have hd' : ((t[k].toNat : Int) != 46) = false := by rw [hd]; rfl
        obtain ⟨q, hq, hq2⟩ : ∃ q : Nat, (k : Int) + 1 = q ∧ q = k + 1 := ⟨k + 1, by omega, rfl⟩
        have hqs : q ≤ t.size := by omega
        have HA := Lib.hid (show t.extract 0 k = tkA t by unfold tkA ahd; rw [f2])
        have HB := Lib.hid (show t.extract q t.size = bhd t 46 by unfold bhd; rw [f2, hq2])
        have HZ1 := Lib.hid (Nat.le_trans (tkA_le t) HS.out)
        have HZ2 := Lib.hid (Nat.le_trans (bhd_le t 46) HS.out)
        clear hd f1 f2 hq2
        cases hn : isTk t with
        | true =>
          obtain ⟨e1, e2, e3, e4⟩ := split_yes hn
          have HE := Lib.hid (show splE t = 0 ∧ splV t = tkA t ∧ splN t = tkN t by unfold splE splV splN; rw [hn]; exact ⟨rfl, rfl, rfl⟩)
          have HF := Lib.hid (show dnE (bhd t 46) = 0 ∧ dnV (bhd t 46) = tkN t ∧ tokE (tkA t) (tkN t) = 0 ∧ tokV (tkA t) (tkN t) = t from ⟨e1, e2, e3, e4⟩)
          clear e1 e2 e3 e4 hn
          go_wp2_with fail
          rw [HB.out]
          refine (rnumber_any (bhd t 46) _ HZ2.out).mono ?_
          rintro e w1 ⟨rfl, n1, rfl⟩
          rw [HF.out.1, HF.out.2.1]
          go_wp2_with fail
          rw [HA.out]
          refine (rtoken_any (tkA t) _ _ HZ1.out).mono ?_
          rintro e w2 ⟨rfl, hb⟩
          have HB2 := Lib.hid (show Below w.heap.size w w2 by
            rw [HWE.out] at hb
            exact (drawn (Below.refl w.heap.size w) n1).trans hb)
          clear hb
          rw [HF.out.2.2.1, HF.out.2.2.2]
          go_wp2_with fail
          go_ret3
          exact ⟨by rw [HE.out.1, HE.out.2.1, HE.out.2.2, ← HA.out]; rfl, HB2.out⟩
        | false =>
          have HE := Lib.hid (show splE t = 11 ∧ splV t = ⟨#[]⟩ ∧ splN t = 0 by unfold splE splV splN; rw [hn]; exact ⟨rfl, rfl, rfl⟩)
          rcases split_no hn with h1 | ⟨h1, h2⟩ | ⟨h1, h2, h3⟩
          · have h1' : (dnE (bhd t 46) == 0) = false := by simpa using h1
            clear h1 hn
            go_wp2_with fail
            rw [HB.out]
            refine (rnumber_any (bhd t 46) _ HZ2.out).mono ?_
            rintro e w1 ⟨rfl, n1, rfl⟩
            generalize dnE (bhd t 46) = x at *
            generalize dnV (bhd t 46) = y at *
            go_wp2_with fail
            rw [HA.out]
            refine (rtoken_any (tkA t) _ _ HZ1.out).mono ?_
            rintro e w2 ⟨rfl, hb⟩
            have HB2 := Lib.hid (show Below w.heap.size w w2 by
              rw [HWE.out] at hb
              exact (drawn (Below.refl w.heap.size w) n1).trans hb)
            clear hb
            generalize tokE (tkA t) y = z at *
            generalize tokV (tkA t) y = u at *
            go_wp2_with fail
            go_ret3
            exact ⟨by rw [HE.out.1, HE.out.2.1, HE.out.2.2]; rfl, HB2.out⟩
          · have h2' : (tokE (tkA t) (dnV (bhd t 46)) == 0) = false := by simpa using h2
            have H1 := Lib.hid h1
            clear h1 h2 hn
            go_wp2_with fail
            rw [HB.out]
            refine (rnumber_any (bhd t 46) _ HZ2.out).mono ?_
            rintro e w1 ⟨rfl, n1, rfl⟩
            rw [H1.out]
            generalize dnV (bhd t 46) = y at *
            go_wp2_with fail
            rw [HA.out]
            refine (rtoken_any (tkA t) _ _ HZ1.out).mono ?_
            rintro e w2 ⟨rfl, hb⟩
            have HB2 := Lib.hid (show Below w.heap.size w w2 by
              rw [HWE.out] at hb
              exact (drawn (Below.refl w.heap.size w) n1).trans hb)
            clear hb
            generalize tokE (tkA t) y = z at *
            generalize tokV (tkA t) y = u at *
            go_wp2_with fail
            go_ret3
            exact ⟨by rw [HE.out.1, HE.out.2.1, HE.out.2.2]; rfl, HB2.out⟩
          · have h3' := same_list h3
            have H1 := Lib.hid h1
            have H2 := Lib.hid h2
            clear h1 h2 h3 hn
            go_wp2_with fail
            rw [HB.out]
            refine (rnumber_any (bhd t 46) _ HZ2.out).mono ?_
            rintro e w1 ⟨rfl, n1, rfl⟩
            rw [H1.out]
            generalize dnV (bhd t 46) = y at *
            go_wp2_with fail
            rw [HA.out]
            refine (rtoken_any (tkA t) _ _ HZ1.out).mono ?_
            rintro e w2 ⟨rfl, hb⟩
            have HB2 := Lib.hid (show Below w.heap.size w w2 by
              rw [HWE.out] at hb
              exact (drawn (Below.refl w.heap.size w) n1).trans hb)
            clear hb
            rw [H2.out]
            generalize tokV (tkA t) y = u at *
            go_wp2_with fail
            go_ret3
            exact ⟨by rw [HE.out.1, HE.out.2.1, HE.out.2.2]; rfl, HB2.out⟩
      · have hd' : ((t[k].toNat : Int) != 46) = true := by
          rw [bne_iff_ne]
          intro h
          exact hd (UInt8.toNat_inj.1 (by show t[k].toNat = 46; omega))
        have HN2 := Lib.hid (show ∀ j (hj : j < t.size), j < k + 1 → t[j] ≠ 46 from fun j hj hjk => by
          rcases Nat.lt_or_ge j k with h | h
          · exact HN.out j hj h
          · obtain rfl : j = k := by omega
            exact hd)
        clear hd
        go_wp2_with fail
        go_roundw
        case rel => exact ⟨k + 1, by omega, by go_num, HN2.out, HWE.out⟩
        case measure => simp [intOf]; omega
    · obtain rfl : k = t.size := by omega
      obtain ⟨f1, f2⟩ := fst_none (fun j hj => HN.out j hj hj)
      have hn : isTk t = false := by
        cases hn : isTk t with
        | false => rfl
        | true => rw [tk_has hn] at f1; exact absurd f1 (by decide)
      have HE := Lib.hid (show splE t = 11 ∧ splV t = ⟨#[]⟩ ∧ splN t = 0 by unfold splE splV splN; rw [hn]; exact ⟨rfl, rfl, rfl⟩)
      clear f1 f2 hn
      go_wp2_with fail
      go_ret3
      exact ⟨by rw [HE.out.1, HE.out.2.1, HE.out.2.2]; rfl, by rw [HWE.out]; exact Below.refl _ _⟩
end Go.Proofs.YthmlcmlpmolmoaaGreatDoor
namespace Go.Proofs.YthmlcmlpmolmoaaGreatDoor
set_option maxRecDepth 100000
open Go.RowKit
structure RVAt (u w : World) (X g : Nat) (A : Option Addr) (n c : Nat) (key : Nat → Nat) (t V : Int) : Prop where
  bel : Below u.heap.size u w
  uX : u.heap.size ≤ X
  ug : u.heap.size ≤ g
  ne : g ≠ X
  ok : vok n t V = true
  cM : w.cell? ⟨X, 0, none⟩ = some (.slice A n c)
  cT : w.cell? ⟨X, 1, none⟩ = some (.int .i64 t)
  cV : w.cell? ⟨X, 2, none⟩ = some (.int .i64 V)
  fV : w.frozen? ⟨X, 2, none⟩ = false
  at_ : A = some ⟨g, 0, none⟩
  bytes : SlB w A n key
namespace RVAt
variable {u w w' : World} {X g n c : Nat} {A : Option Addr} {key : Nat → Nat} {t V : Int}
theorem lt (h : RVAt u w X g A n c key t V) : X < w.heap.size := block_lt h.cM
theorem rng (h : RVAt u w X g A n c key t V) : (16 ≤ n ∧ n ≤ 64) ∧ (1 ≤ t ∧ t ≤ 64) ∧ (1 ≤ V ∧ V ≤ 255) := of_decide_eq_true h.ok
theorem ltg (h : RVAt u w X g A n c key t V) : g < w.heap.size := by
  obtain ⟨B, o, e, hB, _⟩ := h.bytes (by have := h.rng; omega)
  rw [h.at_] at e
  cases e; exact hB
theorem nil (h : RVAt u w X g A n c key t V) : A = none → n = 0 ∧ c = 0 := fun e => by rw [h.at_] at e; cases e
theorem blocks (h : RVAt u w X g A n c key t V) (hb : Below u.heap.size u w') (e1 : w'.heap[X]? = w.heap[X]?) (e2 : w'.heap[g]? = w.heap[g]?) : RVAt u w' X g A n c key t V :=
  ⟨hb, h.uX, h.ug, h.ne, h.ok, (World.cell?_of_block e1).trans h.cM, (World.cell?_of_block e1).trans h.cT, (World.cell?_of_block e1).trans h.cV, (World.frozen?_of_block e1).trans h.fV, h.at_, fun hn => by
    obtain ⟨B, o, e, hB, hc⟩ := h.bytes hn
    have e3 := e
    rw [h.at_] at e3
    injection e3 with e3
    injection e3 with e4 _ _
    subst e4
    have hl := (hc 0 hn).2
    rw [← World.cell?_of_block e2] at hl
    exact ⟨g, o, e, block_lt hl, fun j hj => ⟨(hc j hj).1, (World.cell?_of_block e2).trans (hc j hj).2⟩⟩⟩
theorem keep (h : RVAt u w X g A n c key t V) (hb : Below w.heap.size w w') : RVAt u w' X g A n c key t V := h.blocks (h.bel.trans (hb.mono h.bel.size)) (hb.block X h.lt) (hb.block g h.ltg)
theorem chgS {S : Nat → Prop} (h : RVAt u w X g A n c key t V) (hc : ChgS S w w') (hS : ∀ k, S k → u.heap.size ≤ k) (h1 : ¬ S X) (h2 : ¬ S g) : RVAt u w' X g A n c key t V :=
  h.blocks (h.bel.trans (hc.below h.bel.size hS)) (hc.block X h.lt h1) (hc.block g h.ltg h2)
end RVAt
def vTu (k : Nat → Nat) (back : Bool) (s : ByteArray) : ByteArray := if back = true then vDe k s else vEn k s
theorem twS_size {s : ByteArray} (h : shp s = true) : (twS s).size = 10 := by
  unfold twS
  rw [app_size, pB_size h, pL_size h]
theorem kt_card {k : Nat → Nat} (hk : ∀ j, k j < 256) {s : ByteArray} (h : shp s = true) : Kt 8 k (twS s).size (by_ (twS s)) :=
  ⟨Or.inr rfl, fun j _ => hk j, by rw [twS_size h]; decide, fun j _ => by_lt _ j⟩
set_option maxHeartbeats 3200000 in
theorem rturn14_any (X g n c : Nat) (A : Option Addr) (key : Nat → Nat) (t V ver : Int) (back : Bool) (s : ByteArray) (u w : World) (h : RVAt u w X g A n c key t V) (hv : 1 ≤ ver ∧ ver ≤ 255) (hs : shp s = true) :
    Calls Tryz.prog 45 #[.pointer (some ⟨X, 0, none⟩), .string s, .int .i64 ver, .bool back] w fun e w' => e = .returned (.string (vTu (vK n key t ver) back s)) ∧ Below w.heap.size w w' := by
  have HCUT := Lib.hid (fun W => rcut11_any s W (by have := (shp_parts hs).2; unfold maxLen; omega))
  have hr := h.rng
  have hkok : kok t 1 ver = true := decide_eq_true (by omega)
  have HKEY := Lib.hid (show ∀ W, Below w.heap.size w W → Calls Tryz.prog 39 #[.slice A n c, .int .i64 t, .int .i64 1, .int .i64 ver] W (RKeyP W n key t 1 ver) from fun W hb => rkey_any A n c t 1 ver key W (by omega) (h.keep hb).bytes h.nil)
  unfold RKeyP at HKEY
  rw [hkok] at HKEY
  simp only [show kN true = 32 from rfl, show kE true = 0 from rfl] at HKEY
  have HC0 := Lib.hid (show ∀ W, Below w.heap.size w W → W.cell? ⟨X, 0, none⟩ = some (.slice A n c) ∧ W.cell? ⟨X, 1, none⟩ = some (.int .i64 t) from fun W hb => ⟨(h.keep hb).cM, (h.keep hb).cT⟩)
  have HVK := Lib.hid (show vK n key t ver = keyF n key t.toNat (nmS 1) ver.toNat from rfl)
  have HKF := Lib.hid (fun j => keyF_lt n key t.toNat (nmS 1) ver.toNat j)
  generalize keyF n key t.toNat (nmS 1) ver.toNat = F at *
  rw [HVK.out]
  have HKT := Lib.hid (kt_card HKF.out hs)
  have HTS := Lib.hid (twS_size hs)
  have HES := Lib.hid (show encS 8 F (twS s).size (by_ (twS s)) (pM s) = encS 8 F (twS s).size (by_ (twS s)) (pM s) ∧ hE (pM s) = 0 ∧ (encS 8 F (twS s).size (by_ (twS s)) (pM s)).size ≤ 9 ∧ (decS 8 F (twS s).size (by_ (twS s)) (pM s)).size ≤ 9 from by
    have e := enc_fine (n := 8) (key := F) (t := (twS s).size) (T := by_ (twS s)) (mid_hE hs)
    have := pM_le s
    exact ⟨rfl, mid_hE hs, by omega, by omega⟩)
  have HB1 := Lib.hid (pB_le s)
  have HL1 := Lib.hid (pL_le s)
  have HM1 := Lib.hid (pM_le s)
  have HTW := Lib.hid (show twS s = pB s ++ pL s from rfl)
  have HEN := Lib.hid (show vEn F s = pB s ++ encS 8 F (twS s).size (by_ (twS s)) (pM s) ++ pL s from rfl)
  have HDE := Lib.hid (show vDe F s = pB s ++ decS 8 F (twS s).size (by_ (twS s)) (pM s) ++ pL s from rfl)
  have HNEW := Lib.hid (fun A2 W cap c2 (A3 : Option Addr) (hc : 32 ≤ cap) (hA2 : SlB W A2 32 F) (h3 : SlB W A3 (twS s).size (by_ (twS s))) (hn : A3 = none → (twS s).size = 0 ∧ c2 = 0) => rnew10_any A2 32 8 cap F A3 (twS s).size c2 (by_ (twS s)) W (Or.inr rfl) rfl hc hA2 HKT.out.t16 h3 hn)
  have HENC := Lib.hid (fun c g W (h : RCip W c g 8 F (twS s).size (by_ (twS s))) => renc10_any c g 8 F (twS s).size (by_ (twS s)) (pM s) W HKT.out h (Nat.le_trans (pM_le s) (by unfold maxLen; decide)))
  have HDEC := Lib.hid (fun c g W (h : RCip W c g 8 F (twS s).size (by_ (twS s))) => rdec10_any c g 8 F (twS s).size (by_ (twS s)) (pM s) W HKT.out h (Nat.le_trans (pM_le s) (by unfold maxLen; decide)))
  rw [HES.out.2.1] at HENC HDEC
  have HEZ := Lib.hid HES.out.2.2
  have hce : cutE s = 0 := if_pos hs
  rw [hce] at HCUT
  have HRE := Lib.hid (show vTu F back s = if back = true then vDe F s else vEn F s from rfl)
  rw [HRE.out, HDE.out, HEN.out]
  clear hr hkok hs hv h hce HES HEN HDE HKT HRE HVK HKF
  generalize encS 8 F (twS s).size (by_ (twS s)) (pM s) = en at *
  generalize decS 8 F (twS s).size (by_ (twS s)) (pM s) = de at *
  generalize twS s = tw at *
  generalize pB s = b1 at *
  generalize pL s = b3 at *
  generalize pM s = b2 at *
  go_enter Tryz.func45, Tryz.ntmps45
  go_wp2_with fail
  refine (HCUT.out w).mono ?_
  rintro e w1 ⟨rfl, hb1⟩
  have HB := Lib.hid hb1
  obtain ⟨hc0, hc1⟩ := HC0.out w1 hb1
  clear hb1
  go_wp2_with fail
  go_region_with (go_at_call 39; refine (HKEY.out w1.drew (HB.out.trans (Below.refl _ _).drew)).mono ?_; rintro e w2 ⟨⟨A2, c2, g2, rfl, hm⟩, hb2⟩; have HM2 := Lib.hid hm; have HB2 := Lib.hid ((HB.out.trans (Below.refl _ _).drew).trans (hb2.mono HB.out.size)); clear hm hb2)
  all_goals
    obtain ⟨cap9, w3, hcv, hb3, _, hrow3⟩ := bytesOf' (b1 ++ b3) w2
    have HB3 := Lib.hid (HB2.out.trans (hb3.mono HB2.out.size))
    have HM3 := Lib.hid ((HM2.out.keep hb3).row)
    have HR3 := Lib.hid hrow3
    have HCP := Lib.hid HM2.out.le
    have h6 := HB1.out
    have h4 := HL1.out
    have h9 := HEZ.out
    have hsz2 : ¬ 9223372036854775807 < b1.size + b3.size := by omega
    clear hb3 hrow3 HM2
    go_wp2_with fail
    rw [show b1.size + b3.size = tw.size by rw [HTW.out, app_size]]
    rw [← HTW.out] at HR3
    refine (HNEW.out A2 w3 c2 cap9 _ HCP.out HM3.out HR3.out (fun h => by cases h)).mono ?_
    rintro e w4 ⟨cc, gg, rfl, hcip, hb4⟩
    have HC4 := Lib.hid hcip
    have HB4 := Lib.hid (HB3.out.trans (hb4.mono HB3.out.size))
    clear hcip hb4
    cases back with
    | false =>
      go_wp2_with fail
      refine (HENC.out cc gg w4 HC4.out).mono ?_
      rintro e w5 ⟨rfl, hb5⟩
      have HB5 := Lib.hid (HB4.out.trans (hb5.mono HB4.out.size))
      clear hb5
      go_wp2_with fail
      go_ret
      exact ⟨rfl, HB5.out⟩
    | true =>
      go_wp2_with fail
      refine (HDEC.out cc gg w4 HC4.out).mono ?_
      rintro e w5 ⟨rfl, hb5⟩
      have HB5 := Lib.hid (HB4.out.trans (hb5.mono HB4.out.size))
      clear hb5
      go_wp2_with fail
      go_ret
      exact ⟨rfl, HB5.out⟩
end Go.Proofs.YthmlcmlpmolmoaaGreatDoor
namespace Go.Proofs.YthmlcmlpmolmoaaGreatDoor
set_option maxRecDepth 100000
open Go.RowKit
set_option maxHeartbeats 3200000 in
theorem rtoken14_any (X g n c : Nat) (A : Option Addr) (key : Nat → Nat) (t V : Int) (s : ByteArray) (u w : World) (h : RVAt u w X g A n c key t V) (hs : s.size ≤ maxLen) :
    Calls Tryz.prog 17 #[.pointer (some ⟨X, 0, none⟩), .string s] w fun e w' => e = .returned (.tuple #[.string (vtV (vK n key t) V s), .int .i64 (vtE s)]) ∧ Below w.heap.size w w' := by
  have HIS := Lib.hid (fun W => ris_any s W hs)
  have hr := h.rng
  cases h1 : isV s with
  | false =>
    rw [vtE_no h1, vtV_no h1]
    rw [h1] at HIS
    clear h1 h hr hs
    go_enter Tryz.func17, Tryz.ntmps17
    go_wp2_with fail
    refine (HIS.out w).mono ?_
    rintro e w1 ⟨rfl, hb1⟩
    have HB1 := Lib.hid hb1
    clear hb1
    go_wp2_with fail
    go_ret2
    exact ⟨rfl, HB1.out⟩
  | true =>
    have hz := isV_shp h1
    have hpz := (vEn_parts (vK n key t V) hz).1
    have hps := (vEn_parts (vK n key t V) hz).2.2.2.2
    have HTU := Lib.hid (show ∀ W, Below w.heap.size w W → Calls Tryz.prog 45 #[.pointer (some ⟨X, 0, none⟩), .string s, .int .i64 V, .bool false] W fun e w' => e = .returned (.string (vEn (vK n key t V) s)) ∧ Below W.heap.size W w' from fun W hb => rturn14_any X g n c A key t V V false s u W (h.keep hb) hr.2.2 hz)
    have hE : tokE (vEn (vK n key t V) s) V = 0 := by
      unfold tokE
      rw [if_pos hpz, if_neg (by omega)]
    have HTO := Lib.hid (fun W => rtoken_any (vEn (vK n key t V) s) V W (by rw [hps]; exact hs))
    have hV : tokV (vEn (vK n key t V) s) V = tkS (vEn (vK n key t V) s) V := if_pos hE
    rw [hE, hV] at HTO
    have HCV := Lib.hid (show ∀ W, Below w.heap.size w W → W.cell? ⟨X, 2, none⟩ = some (.int .i64 V) from fun W hb => (h.keep hb).cV)
    rw [vtE_ok h1, show vtV (vK n key t) V s = tkS (vEn (vK n key t V) s) V from if_pos h1]
    rw [h1] at HIS
    clear h1 h hr hs hz hpz hps hE hV
    generalize tkS (vEn (vK n key t V) s) V = r1 at *
    generalize vEn (vK n key t V) s = x1 at *
    go_enter Tryz.func17, Tryz.ntmps17
    go_wp2_with fail
    refine (HIS.out w).mono ?_
    rintro e w1 ⟨rfl, hb1⟩
    have HB1 := Lib.hid hb1
    have c1 := HCV.out w1 hb1
    clear hb1
    go_wp2_with fail
    go_region_with (first
      | (go_at_call 45; refine (HTU.out w1.drew (HB1.out.trans (Below.refl _ _).drew)).mono ?_; rintro e w2 ⟨rfl, hb2⟩; have HB2 := Lib.hid ((HB1.out.trans (Below.refl _ _).drew).trans (hb2.mono HB1.out.size)); have c2 := HCV.out w2 HB2.out; clear hb2)
      | (go_at_call 44; refine (HTO.out _).mono ?_; rintro e w3 ⟨rfl, hb3⟩; have HB3 := Lib.hid (HB2.out.trans (hb3.mono HB2.out.size)); clear hb3))
    all_goals
      go_wp2_with fail
      go_ret2
      exact ⟨rfl, HB3.out⟩
set_option maxHeartbeats 3200000 in
theorem rback14_any (X g n c : Nat) (A : Option Addr) (key : Nat → Nat) (t V : Int) (s : ByteArray) (u w : World) (h : RVAt u w X g A n c key t V) (hs : s.size ≤ maxLen) :
    Calls Tryz.prog 19 #[.pointer (some ⟨X, 0, none⟩), .string s] w fun e w' => e = .returned (.tuple #[.string (vbV (vK n key t) V s), .int .i64 (vbE (vK n key t) V s)]) ∧ Below w.heap.size w w' := by
  have HSP := Lib.hid (fun W => rsplit_any s W hs)
  have hr := h.rng
  cases h1 : isTk s with
  | false =>
    have e1 : vbE (vK n key t) V s = 11 := by unfold vbE; rw [h1, if_neg (by decide)]
    have e2 : vbV (vK n key t) V s = { data := #[] } := by unfold vbV; rw [e1, if_neg (by decide)]
    have hsE : splE s = 11 := by unfold splE; rw [h1, if_neg (by decide)]
    rw [e1, e2]
    rw [hsE] at HSP
    clear h1 h hr hs e1 e2 hsE
    generalize splV s = d at *
    generalize splN s = nn at *
    go_enter Tryz.func19, Tryz.ntmps19
    go_wp2_with fail
    refine (HSP.out w).mono ?_
    rintro e w1 ⟨rfl, hb1⟩
    have HB1 := Lib.hid hb1
    clear hb1
    go_wp2_with fail
    go_ret2
    exact ⟨rfl, HB1.out⟩
  | true =>
    obtain ⟨hz, k1, k2⟩ := isTk_parts h1
    have hsE : splE s = 0 := if_pos h1
    have hsV : splV s = tkA s := if_pos h1
    have hsN : splN s = tkN s := if_pos h1
    rw [hsE, hsV, hsN] at HSP
    have HCV := Lib.hid (show ∀ W, Below w.heap.size w W → W.cell? ⟨X, 2, none⟩ = some (.int .i64 V) from fun W hb => (h.keep hb).cV)
    by_cases h2 : V < tkN s
    · have e1 : vbE (vK n key t) V s = 12 := by unfold vbE; rw [if_pos h1, if_pos h2]
      have e2 : vbV (vK n key t) V s = { data := #[] } := by unfold vbV; rw [e1, if_neg (by decide)]
      rw [e1, e2]
      clear h1 h hr hs e1 e2 hsE hsV hsN hz
      generalize tkA s = d at *
      generalize tkN s = nn at *
      go_enter Tryz.func19, Tryz.ntmps19
      go_wp2_with fail
      refine (HSP.out w).mono ?_
      rintro e w1 ⟨rfl, hb1⟩
      have HB1 := Lib.hid hb1
      have c1 := HCV.out w1 hb1
      clear hb1
      go_wp2_with fail
      go_ret2
      exact ⟨rfl, HB1.out⟩
    · have HTU := Lib.hid (show ∀ W, Below w.heap.size w W → Calls Tryz.prog 45 #[.pointer (some ⟨X, 0, none⟩), .string (tkA s), .int .i64 (tkN s), .bool true] W fun e w' => e = .returned (.string (vDe (vK n key t (tkN s)) (tkA s))) ∧ Below W.heap.size W w' from fun W hb => rturn14_any X g n c A key t V (tkN s) true (tkA s) u W (h.keep hb) ⟨k1, k2⟩ hz)
      have hps := (vDe_parts (vK n key t (tkN s)) hz).2.2.2.2
      have hza := (shp_parts hz).2
      have HIS := Lib.hid (fun W => ris_any (vDe (vK n key t (tkN s)) (tkA s)) W (by rw [hps]; unfold maxLen; omega))
      have e1 : vbE (vK n key t) V s = if isV (vDe (vK n key t (tkN s)) (tkA s)) = true then 0 else 11 := by unfold vbE; rw [if_pos h1, if_neg h2]
      have e2 : vbV (vK n key t) V s = if isV (vDe (vK n key t (tkN s)) (tkA s)) = true then vDe (vK n key t (tkN s)) (tkA s) else { data := #[] } := by
        unfold vbV
        rw [e1]
        cases isV (vDe (vK n key t (tkN s)) (tkA s)) <;> rfl
      rw [e1, e2]
      clear h1 h hr hs e1 e2 hsE hsV hsN hz hps hza
      generalize vDe (vK n key t (tkN s)) (tkA s) = x1 at *
      generalize isV x1 = is at *
      generalize tkA s = d at *
      generalize tkN s = nn at *
      go_enter Tryz.func19, Tryz.ntmps19
      go_wp2_with fail
      refine (HSP.out w).mono ?_
      rintro e w1 ⟨rfl, hb1⟩
      have HB1 := Lib.hid hb1
      have c1 := HCV.out w1 hb1
      clear hb1
      go_wp2_with fail
      refine (HTU.out w1 HB1.out).mono ?_
      rintro e w2 ⟨rfl, hb2⟩
      have HB2 := Lib.hid (HB1.out.trans (hb2.mono HB1.out.size))
      clear hb2
      go_wp2_with fail
      refine (HIS.out w2).mono ?_
      rintro e w3 ⟨rfl, hb3⟩
      have HB3 := Lib.hid (HB2.out.trans (hb3.mono HB2.out.size))
      clear hb3
      cases is with
      | false =>
        go_wp2_with fail
        go_ret2
        exact ⟨rfl, HB3.out⟩
      | true =>
        go_wp2_with fail
        go_ret2
        exact ⟨rfl, HB3.out⟩
set_option maxHeartbeats 1600000 in
theorem rrenew14_any (X g n c : Nat) (A : Option Addr) (key : Nat → Nat) (t V : Int) (s : ByteArray) (u w : World) (h : RVAt u w X g A n c key t V) (hs : s.size ≤ maxLen) :
    Calls Tryz.prog 23 #[.pointer (some ⟨X, 0, none⟩), .string s] w fun e w' => e = .returned (.tuple #[.string (vrV (vK n key t) V s), .int .i64 (vbE (vK n key t) V s)]) ∧ Below w.heap.size w w' := by
  have HBA := Lib.hid (rback14_any X g n c A key t V s u w h hs)
  by_cases hg : vbE (vK n key t) V s = 0
  · obtain ⟨j1, j2, h3, j4⟩ := vb_ok hg
    have HTO := Lib.hid (show ∀ W, Below w.heap.size w W → Calls Tryz.prog 17 #[.pointer (some ⟨X, 0, none⟩), .string (vbV (vK n key t) V s)] W fun e w' => e = .returned (.tuple #[.string (vtV (vK n key t) V (vbV (vK n key t) V s)), .int .i64 (vtE (vbV (vK n key t) V s))]) ∧ Below W.heap.size W w' from fun W hb => rtoken14_any X g n c A key t V _ u W (h.keep hb) (Nat.le_trans (isV_size h3).2 (by unfold maxLen; decide)))
    rw [vtE_ok h3] at HTO
    rw [show vrV (vK n key t) V s = vtV (vK n key t) V (vbV (vK n key t) V s) from if_pos hg]
    rw [hg] at HBA ⊢
    clear hg h3 h hs j1 j2 j4
    generalize vtV (vK n key t) V (vbV (vK n key t) V s) = y1 at *
    generalize vbV (vK n key t) V s = x1 at *
    go_enter Tryz.func23, Tryz.ntmps23
    go_wp2_with fail
    refine HBA.out.mono ?_
    rintro e w1 ⟨rfl, hb1⟩
    have HB1 := Lib.hid hb1
    clear hb1
    go_wp2_with fail
    refine (HTO.out w1 HB1.out).mono ?_
    rintro e w2 ⟨rfl, hb2⟩
    have HB2 := Lib.hid (HB1.out.trans (hb2.mono HB1.out.size))
    clear hb2
    go_wp2_with fail
    go_ret2
    exact ⟨rfl, HB2.out⟩
  · rw [show vrV (vK n key t) V s = { data := #[] } from if_neg hg]
    have hgE : (vbE (vK n key t) V s == 0) = false := by simpa using hg
    clear hg h hs
    generalize vbE (vK n key t) V s = eg at *
    generalize vbV (vK n key t) V s = x1 at *
    go_enter Tryz.func23, Tryz.ntmps23
    go_wp2_with fail
    refine HBA.out.mono ?_
    rintro e w1 ⟨rfl, hb1⟩
    have HB1 := Lib.hid hb1
    clear hb1
    go_wp2_with fail
    go_ret2
    exact ⟨rfl, HB1.out⟩
end Go.Proofs.YthmlcmlpmolmoaaGreatDoor
namespace Go.Proofs.YthmlcmlpmolmoaaGreatDoor
set_option maxRecDepth 100000
open Go.RowKit
theorem RVAt.set {u w : World} {X g n c : Nat} {A : Option Addr} {key : Nat → Nat} {t V V' : Int} {v : Value} (h : RVAt u w X g A n c key t V) (hv : v = .int .i64 V') (hr : 1 ≤ V' ∧ V' ≤ 255) : RVAt u (w.setCell ⟨X, 2, none⟩ v) X g A n c key t V' := by
  subst hv
  have hc : Chg X w (w.setCell ⟨X, 2, none⟩ (.int .i64 V')) := (Chg.refl X w).setCell (a := ⟨X, 2, none⟩) (Or.inl rfl) _
  have ho := h.rng
  refine ⟨h.bel.trans (hc.below h.bel.size h.uX), h.uX, h.ug, h.ne, decide_eq_true (by omega), (cell_off (by decide) _).trans h.cM, (cell_off (by decide) _).trans h.cT, World.cell?_setCell_same w ⟨X, 2, none⟩ _ h.cV, by rw [World.frozen?_setCell]; exact h.fV, h.at_, ?_⟩
  have hb := h.bytes
  have ha := h.at_
  intro hn
  obtain ⟨B, o, e, hB, hh⟩ := hb hn
  have e3 := e
  rw [ha] at e3
  injection e3 with e3
  injection e3 with e4 _ _
  subst e4
  exact ⟨g, o, e, Nat.lt_of_lt_of_le hB hc.size, fun j hj => ⟨(hh j hj).1, (hc.cell hB h.ne).trans (hh j hj).2⟩⟩
set_option maxHeartbeats 1600000 in
theorem rrotate14_any (X g n c : Nat) (A : Option Addr) (key : Nat → Nat) (t V : Int) (u w : World) (h : RVAt u w X g A n c key t V) :
    Calls Tryz.prog 21 #[.pointer (some ⟨X, 0, none⟩)] w fun e w' => e = .returned (.tuple #[.int .i64 (roV V), .int .i64 (roE V)]) ∧ RVAt u w' X g A n c key t (roN V) ∧ Chg X w w' := by
  have hr := h.rng
  have hcell := h.cV
  have hf := h.fV
  by_cases hV : V < 255
  · obtain ⟨W, hW⟩ : ∃ W, V + 1 = W := ⟨_, rfl⟩
    rw [show roV V = W from (if_pos hV).trans hW, show roE V = 0 from if_pos hV, show roN V = W from (if_pos hV).trans hW]
    have HR := Lib.hid (h.set (V' := W) rfl (by omega))
    have HC := Lib.hid ((Chg.refl X w).setCell (a := ⟨X, 2, none⟩) (Or.inl rfl) (.int .i64 W))
    have hne : (V == 255) = false := by simp; omega
    have hw1 : 1 ≤ W := by omega
    have hw2 : W ≤ 255 := by omega
    clear hr h hV
    go_enter Tryz.func21, Tryz.ntmps21
    go_wp2_with fail
    go_ret2
    exact ⟨rfl, HR.out, HC.out⟩
  · obtain rfl : V = 255 := by omega
    rw [show roV 255 = 0 from rfl, show roE 255 = 14 from rfl, show roN 255 = 255 from rfl]
    have HR := Lib.hid h
    clear hr h hV
    go_enter Tryz.func21, Tryz.ntmps21
    go_wp2_with fail
    go_ret2
    exact ⟨rfl, HR.out, Chg.refl _ _⟩
set_option maxHeartbeats 1600000 in
theorem rnew14_bad (A : Option Addr) (n c : Nat) (key : Nat → Nat) (t V : Int) (w : World) (hk : vok n t V = false) (hn : n ≤ 140737488351232) (hA : SlB w A n key) (hnil : A = none → n = 0 ∧ c = 0) :
    Calls Tryz.prog 15 #[.slice A n c, .int .i64 t, .int .i64 V] w fun e w' => e = .returned (.tuple #[.pointer none, .int .i64 1]) ∧ Below w.heap.size w w' := by
  have HM := Lib.hid (fun W => rmay_any A n c W)
  have HKEY := Lib.hid (rkey_any A n c t 1 V key w hn hA hnil)
  unfold RKeyP at HKEY
  have hor : decide (16 ≤ n ∧ n ≤ 64) = false ∨ decide (16 ≤ n ∧ n ≤ 64) = true ∧ kok t 1 V = false := by
    unfold vok at hk
    have hk := of_decide_eq_false hk
    by_cases h1 : 16 ≤ n ∧ n ≤ 64
    · exact Or.inr ⟨decide_eq_true h1, decide_eq_false (by omega)⟩
    · exact Or.inl (decide_eq_false h1)
  clear hk hn hA hnil
  generalize keyF n key t.toNat (nmS 1) V.toNat = F at *
  rcases hor with h1 | ⟨h1, h2⟩
  · rw [h1] at HM
    generalize kN (kok t 1 V) = N at *
    generalize kE (kok t 1 V) = E at *
    clear h1
    go_enter Tryz.func15, Tryz.ntmps15
    go_wp2_with fail
    refine (HM.out w).mono ?_
    rintro e w1 ⟨rfl, rfl⟩
    go_wp2_with fail
    refine HKEY.out.mono ?_
    rintro e w2 ⟨⟨A2, c2, g2, rfl, _⟩, hb2⟩
    have HB2 := Lib.hid hb2
    clear hb2
    go_wp2_with fail
    go_ret2
    exact ⟨rfl, HB2.out⟩
  · rw [h1] at HM
    rw [h2] at HKEY
    simp only [show kN false = 0 from rfl, show kE false = 1 from rfl] at HKEY
    clear h1 h2
    go_enter Tryz.func15, Tryz.ntmps15
    go_wp2_with fail
    refine (HM.out w).mono ?_
    rintro e w1 ⟨rfl, rfl⟩
    go_wp2_with fail
    refine HKEY.out.mono ?_
    rintro e w2 ⟨⟨A2, c2, g2, rfl, _⟩, hb2⟩
    have HB2 := Lib.hid hb2
    clear hb2
    go_wp2_with fail
    go_ret2
    exact ⟨rfl, HB2.out⟩
set_option maxHeartbeats 1600000 in
theorem rnew14_good (A : Option Addr) (n c : Nat) (key : Nat → Nat) (t V : Int) (u w : World) (hk : vok n t V = true) (hA : SlB w A n key) (hnil : A = none → n = 0 ∧ c = 0) (hb : Below u.heap.size u w) :
    Calls Tryz.prog 15 #[.slice A n c, .int .i64 t, .int .i64 V] w fun e w' => ∃ X g A' c', e = .returned (.tuple #[.pointer (some ⟨X, 0, none⟩), .int .i64 0]) ∧ RVAt u w' X g A' n c' key t V ∧ w.heap.size ≤ X ∧ w.heap.size ≤ g ∧ Below w.heap.size w w' := by
  have ho := of_decide_eq_true hk
  have HM := Lib.hid (fun W => rmay_any A n c W)
  have HKEY := Lib.hid (rkey_any A n c t 1 V key w (by omega) hA hnil)
  unfold RKeyP at HKEY
  rw [show kok t 1 V = true from decide_eq_true (by omega)] at HKEY
  simp only [show kN true = 32 from rfl, show kE true = 0 from rfl] at HKEY
  rw [show decide (16 ≤ n ∧ n ≤ 64) = true from decide_eq_true ho.1] at HM
  have HA := Lib.hid hA
  have HNI := Lib.hid hnil
  have HY := Lib.hid (show By n key from fun j hj => hA.byte hj)
  have HU := Lib.hid hb
  have HK := Lib.hid hk
  have HO := Lib.hid ho.1
  clear hk hA hnil hb ho
  generalize keyF n key t.toNat (nmS 1) V.toNat = F at *
  go_enter Tryz.func15, Tryz.ntmps15
  go_wp2_with fail
  refine (HM.out w).mono ?_
  rintro e w1 ⟨rfl, rfl⟩
  go_wp2_with fail
  refine HKEY.out.mono ?_
  rintro e w2 ⟨⟨A2, c2, g2, rfl, _⟩, hb2⟩
  have HB2 := Lib.hid hb2
  clear hb2
  have HE := Lib.hid (OwnB.empty w2 w2.heap.size key (Nat.le_refl _))
  have HBE := Lib.hid (alloc_below w2 (.cells #[] 5))
  have HAE := Lib.hid ((HA.out.keep HB2.out).keep HBE.out)
  go_wp2_with (refine wpList_appO rfl (.tmp 26) (.tmp 27) rfl w2.heap.size _ 0 key rfl HE.out A n c key rfl HAE.out HNI.out (by have := HO.out; omega) HBE.out.size (fun j hj => absurd hj (Nat.not_lt_zero j)) HY.out ?_; intro A3 c3 w3 h1 h2 h3 h4; rw [Nat.zero_add] at h1 h2 h3 ⊢; have HO3 := Lib.hid (OwnB.congr (g := key) h1 fun j _ => rfl); have HB3 := Lib.hid (HBE.out.trans h4); clear h1 h2 h3 h4)
  go_ret2
  obtain ⟨A4, c4, g4, hm4⟩ := Mine.of_ownB HO3.out HY.out
  have hv4 := hm4.val
  injection hv4 with e1 _ e3
  subst e1 e3
  have hn := HO.out
  have hc0 : 0 < c3 := Nat.lt_of_lt_of_le (by omega) hm4.le
  have hat := (hm4.own hc0).1
  have hg2 := hm4.from_ hc0
  have hgl := hm4.own.lt hc0
  have hh := heap_alloc_new w3 (.cells #[.slice A3 n c3, .int .i64 t, .int .i64 V] 45)
  have hb4 := alloc_below w3 (.cells #[.slice A3 n c3, .int .i64 t, .int .i64 V] 45)
  generalize w3.alloc (.cells #[.slice A3 n c3, .int .i64 t, .int .i64 V] 45) = w4 at *
  have hb3 := HB2.out.trans (HB3.out.mono HB2.out.size)
  have hbb := hb3.trans (hb4.mono hb3.size)
  exact ⟨w3.heap.size, g4, A3, c3, rfl, ⟨HU.out.trans (hbb.mono HU.out.size), Nat.le_trans HU.out.size hb3.size, Nat.le_trans (Nat.le_trans HU.out.size HB2.out.size) hg2, by omega, HK.out, (Lib.cell_of_heap hh 0).trans rfl, (Lib.cell_of_heap hh 1).trans rfl, (Lib.cell_of_heap hh 2).trans rfl, Lib.frozen_of_heap hh 2, hat, hm4.row.keep hb4⟩, hb3.size, Nat.le_trans HB2.out.size hg2, hbb⟩
end Go.Proofs.YthmlcmlpmolmoaaGreatDoor
namespace Go.Proofs.YthmlcmlpmolmoaaGreatDoor
set_option maxRecDepth 100000
open Go.RowKit
def OwnT (w : World) (base : Nat) (v : Value) (k : Nat) (X : Nat → Value) : Prop := w.ownsRow base 9 1 v k (valsL k X)
namespace OwnT
variable {w w' : World} {base k : Nat} {v : Value} {X Y : Nat → Value}
theorem nil (w : World) (base : Nat) (X : Nat → Value) : OwnT w base (.slice none 0 0) 0 X := World.ownsRow_nil w base _ 1
theorem alloc (h : OwnT w base v k X) (o : Obj) : OwnT (w.alloc o) base v k X := World.ownsRow.alloc h o
theorem drewN (h : OwnT w base v k X) (m : Nat) : OwnT (w.drewN m) base v k X := h
theorem congr (h : OwnT w base v k X) (e : ∀ j, j < k → X j = Y j) : OwnT w base v k Y := by
  unfold OwnT at *; rw [← valsL_congr e]; exact h
theorem keep (h : OwnT w base v k X) (hb : Below w.heap.size w w') : OwnT w' base v k X := by
  rcases h with ⟨h1, h2 | ⟨g, cap, cur, e, hg, hh, r⟩⟩
  · exact ⟨h1, Or.inl h2⟩
  · exact ⟨h1, Or.inr ⟨g, cap, cur, e, hg, (hb.block g (Array.getElem?_eq_some_iff.1 hh).1).trans hh, r⟩⟩
theorem slice (h : OwnT w base v k X) (hk : 0 < k) : ∃ g c, v = .slice (some ⟨g, 0, none⟩) k c ∧ k ≤ c ∧ base ≤ g ∧ g < w.heap.size ∧ ∀ j, j < k → w.cell? ⟨g, j, none⟩ = some (X j) := by
  have hown := h
  rcases hown.2 with ⟨rfl, hn⟩ | ⟨g, cap, cur, rfl, hg, hh, h1, r⟩
  · omega
  · refine ⟨g, cap, rfl, h1, hg, (Array.getElem?_eq_some_iff.1 hh).1, fun j hj => ?_⟩
    rw [hown.cellAt j (by omega), valsL_at hj]
theorem chgS {S : Nat → Prop} (h : OwnT w base v k X) (hc : ChgS S w w') (hS : ∀ q, S q → q < base) : OwnT w' base v k X := by
  rcases h with ⟨h1, h2 | ⟨g, cap, cur, e, hg, hh, r⟩⟩
  · exact ⟨h1, Or.inl h2⟩
  · exact ⟨h1, Or.inr ⟨g, cap, cur, e, hg, (hc.block g (Array.getElem?_eq_some_iff.1 hh).1 (fun hs => by have := hS g hs; omega)).trans hh, r⟩⟩
end OwnT
theorem infoStr : (Tryz.prog.info? 9).map (fun i => (i.zero, i.size, i.bytes)) = some (some (.string { data := #[] }), 1, 16) := by kernel_rfl
theorem wpList_appT {ops : Array Oper} {rest : List Oper} {o : Oper} {a : Act} {Q : Exit → Act → World → Prop} {w : World} (hgd : o.guard = none) (s x : Operand)
    (ho : o.op = .call { callee := .builtin .append, args := #[s, x], argTypes := #[36, 36] })
    (base : Nat) (v : Value) (k : Nat) (X : Nat → Value) (hs : a.eval s = v) (h : OwnT w base v k X)
    (T : Nat) (hx : a.eval x = .slice (some ⟨T, 0, none⟩) 1 1) (hX : w.cell? ⟨T, 0, none⟩ = some (X k)) (h1 : (X k).oneCell' = true) (hk : k ≤ 1000) (hbase : base ≤ w.heap.size)
    (hq : ∀ v' w', OwnT w' base v' (k + 1) X → w.grownBy w' v.ownBlock → wpList Tryz.prog ops Q rest (a.put o.dst v') w') : wpList Tryz.prog ops Q (o :: rest) a w := by
  obtain ⟨i, hi, hz, hsz, hb⟩ := info_parts infoStr
  refine wpList_append_own w hgd s x 36 ho base 9 i (.string { data := #[] }) 1 16 Tryz.underlying36 hi hz hsz hb rfl (by decide) v k _ hs h ⟨T, 0, none⟩ 1 1 [X k] hx rfl ?_ ?_ (by unfold maxLen; omega) (by omega) hbase ?_
  · intro j u hj
    match j, hj with
    | 0, hj => simp at hj; subst hj; exact hX
  · intro u hu; simp at hu; subst hu; exact h1
  · intro v' w' h1 h2 _
    refine hq v' w' ?_ h2
    unfold OwnT
    rw [← valsL_snoc]
    exact h1
end Go.Proofs.YthmlcmlpmolmoaaGreatDoor
namespace Go.Proofs.YthmlcmlpmolmoaaGreatDoor
set_option maxRecDepth 100000
open Go.RowKit Go.ChangeShapes Go.WideShapes Go.ChangeAt
def ActsIn (w : World) (A : Option Addr) (L : Nat) (D M : Nat → Int) (T : Nat → ByteArray) : Prop :=
  0 < L → ∃ B o, A = some ⟨B, o, none⟩ ∧ B < w.heap.size ∧ ∀ j, j < L → w.cell? ⟨B, o + j * 3, none⟩ = some (.int .i64 (D j)) ∧ w.cell? ⟨B, o + j * 3 + 1, none⟩ = some (.int .i64 (M j)) ∧ w.cell? ⟨B, o + j * 3 + 2, none⟩ = some (.string (T j))
theorem ActsIn.keep {w w' : World} {A : Option Addr} {L : Nat} {D M : Nat → Int} {T : Nat → ByteArray} {base : Nat} (h : ActsIn w A L D M T) (hb : Below base w w') (hw : w.heap.size ≤ base) : ActsIn w' A L D M T := fun hL => by
  obtain ⟨B, o, hA, hB, hs⟩ := h hL
  have e := hb.block B (by omega)
  exact ⟨B, o, hA, Nat.lt_of_lt_of_le hB hb.size, fun j hj => ⟨(World.cell?_of_block e).trans (hs j hj).1, (World.cell?_of_block e).trans (hs j hj).2.1, (World.cell?_of_block e).trans (hs j hj).2.2⟩⟩
theorem act_cells {H : Type} {enc : TypeId × Value → H} {W : World} {base n : Nat} {spare : Nat → Bool} {held : Bool} {cs : List Value} {x : DataW H × List MemPlace} (h : DataW.trod enc Tryz.prog W base spare held n 38 cs = some x) :
    ∃ d m s, cs = [.int .i64 d, .int .i64 m, .string s] ∧ s.size ≤ maxLen := by
  obtain ⟨xs, k, _, _, hlen, hxl, hf⟩ := DataW.trod_struct Tryz.underlying38 h
  rw [show Tryz.prog.cellsOf 38 = 3 by kernel_rfl] at hlen
  have i1 : Tryz.prog.cellsOf 3 = 1 := by kernel_rfl
  have i2 : Tryz.prog.cellsOf 9 = 1 := by kernel_rfl
  match cs, hlen with
  | [c0, c1, c2], _ =>
    match xs, hxl with
    | [y0, y1, y2], _ =>
      have h0 : DataW.trod enc Tryz.prog W base spare held k 3 [c0] = some y0 := by
        have h := hf 0 _ rfl
        change DataW.trod enc Tryz.prog W base spare held k 3 (([c0, c1, c2].drop 0).take (Tryz.prog.cellsOf 3)) = some y0 at h
        rw [i1] at h
        exact h
      have h1 : DataW.trod enc Tryz.prog W base spare held k 3 [c1] = some y1 := by
        have h := hf 1 _ rfl
        change DataW.trod enc Tryz.prog W base spare held k 3 (([c0, c1, c2].drop 1).take (Tryz.prog.cellsOf 3)) = some y1 at h
        rw [i1] at h
        exact h
      have h2 : DataW.trod enc Tryz.prog W base spare held k 9 [c2] = some y2 := by
        have h := hf 2 _ rfl
        change DataW.trod enc Tryz.prog W base spare held k 9 (([c0, c1, c2].drop 2).take (Tryz.prog.cellsOf 9)) = some y2 at h
        rw [i2] at h
        exact h
      obtain ⟨d, e0, _⟩ := DataW.trod_int Tryz.underlying3 h0
      obtain ⟨m, e1, _⟩ := DataW.trod_int Tryz.underlying3 h1
      obtain ⟨s, e2, _, hs⟩ := DataW.trod_string Tryz.underlying9 h2
      simp only [List.cons.injEq, and_true] at e0 e1 e2
      exact ⟨d, m, s, by rw [e0, e1, e2], hs⟩
theorem open_acts {H : Type} {enc : TypeId × Value → H} {W : World} {base : Nat} {v : Value} {d : DataW H} {p : List MemPlace}
    (hval : Value.okWide Tryz.prog W .any base 23 v) (h : DataW.Trod enc Tryz.prog W 0 (fun _ => true) true 23 v d p) :
    ∃ A n c D M T, v = .slice A n c ∧ ActsIn W A n D M T ∧ (∀ j, j < n → (T j).size ≤ maxLen) ∧ (n ≤ c ∧ (A = none → n = 0 ∧ c = 0) ∧ ∃ els sp, (d = .slice els sp ∧ els.length + sp.length = c) ∨ (d = .nil ∧ c = 0)) := by
  obtain ⟨a0, len, cap, rfl⟩ := okWide_slice Tryz.underlying23 hval
  obtain ⟨fuel, hf⟩ := h
  rcases Deep.open_slice Tryz.underlying23 hf with ⟨hcs, hx⟩ | ⟨a, len', cap', m, k, DD, Pl, hcs, _, hl, hm, hmm, hx, hi⟩
  · simp only [Value.cells] at hcs
    injection hcs with hcs
    injection hcs with h1 h2 h3
    subst h1 h2 h3
    injection hx with hd _
    exact ⟨none, 0, 0, fun _ => 0, fun _ => 0, fun _ => ByteArray.empty, rfl, fun h => absurd h (Nat.lt_irrefl 0), fun j hj => absurd hj (Nat.not_lt_zero j), Nat.le_refl _, fun _ => ⟨rfl, rfl⟩, [], [], Or.inr ⟨hd, rfl⟩⟩
  · simp only [Value.cells] at hcs
    injection hcs with hcs
    injection hcs with h1 h2 h3
    subst h1 h2 h3
    injection hx with hd _
    have hmc : m = cap := by simpa using hmm
    have key : ∀ i, ∃ d e s, i < m → W.cell? (a.add (i * 3)) = some (.int .i64 d) ∧ W.cell? ((a.add (i * 3)).add 1) = some (.int .i64 e) ∧ W.cell? ((a.add (i * 3)).add 2) = some (.string s) ∧ s.size ≤ maxLen := fun i => by
      by_cases hlt : i < m
      · obtain ⟨cs', hc, ht'⟩ := hi i hlt
        rw [show Tryz.prog.cellsOf 38 = 3 by kernel_rfl] at hc
        obtain ⟨d, e, s, rfl, hs⟩ := act_cells ht'
        obtain ⟨_, _, hat⟩ := World.cells?_some hc
        have h0 := hat 0 (by decide)
        have h1 := hat 1 (by decide)
        have h2 := hat 2 (by decide)
        refine ⟨d, e, s, fun _ => ⟨?_, h1, h2, hs⟩⟩
        have e0 : (a.add (i * 3)).add 0 = a.add (i * 3) := by simp [Addr.add]
        rw [e0] at h0
        exact h0
      · exact ⟨0, 0, ByteArray.empty, fun h => absurd h hlt⟩
    obtain ⟨D, hD⟩ := Classical.axiomOfChoice key
    obtain ⟨M, hM⟩ := Classical.axiomOfChoice hD
    obtain ⟨T, hT⟩ := Classical.axiomOfChoice hM
    refine ⟨some a, len, cap, D, M, T, rfl, fun hn => ?_, fun j hj => (hT j (by omega)).2.2.2, hl, (fun h => by cases h), _, _, Or.inl ⟨hd, by simp; omega⟩⟩
    obtain ⟨b, off, spot⟩ := a
    have hspot : spot = none := by
      have := (hT 0 (by omega)).1
      simpa [Addr.add] using World.cell?_spot this
    subst hspot
    have ad : ∀ (q k : Nat), (Addr.mk b q none).add k = ⟨b, q + k, none⟩ := fun q k => Go.WideShapes.add_plain _ _ _
    refine ⟨b, off, rfl, ?_, fun j hj => ?_⟩
    · have := (hT 0 (by omega)).1
      rw [ad] at this
      exact block_lt this
    · have := hT j (by omega)
      rw [ad, ad, ad] at this
      exact ⟨this.1, this.2.1, this.2.2.1⟩
theorem acts_len {H : Type} {ts : List TypeId} {ds : List (DataW H)} (h : (DataW.weightsEach Tryz.prog ts ds).all (· ≤ reachBytes) = true) {j : Nat} {d : DataW H} (ht : ts[j]? = some 23) (hd : ds[j]? = some d)
    {n c : Nat} {X : Prop} (z : n ≤ c ∧ X ∧ ∃ els sp, (d = .slice els sp ∧ els.length + sp.length = c) ∨ (d = .nil ∧ c = 0)) : n ≤ 140737488351232 := by
  obtain ⟨h1, _, els, sp, h2⟩ := z
  rcases h2 with ⟨rfl, h2⟩ | ⟨_, h2⟩
  · have h3 := sized_slice h ht hd Tryz.underlying23
    rw [show Tryz.prog.bytesOf 38 = 32 by kernel_rfl] at h3
    have : reachBytes = 140737488351232 := rfl
    omega
  · omega
end Go.Proofs.YthmlcmlpmolmoaaGreatDoor
namespace Go.Proofs.YthmlcmlpmolmoaaGreatDoor
open Go.RowKit
theorem splice_full (n : Nat) (bs : Nat → Nat) : splice (List.replicate (n + 1) (Value.int .u8 0)) 0 (bytesL n bs) = bytesL (n + 1) (fun j => if j < n then bs j else 0) := by
  unfold splice bytesL
  rw [List.take_zero, List.nil_append, List.range_succ, List.map_append]
  congr 1
  · apply List.map_congr_left
    intro j hj
    show _ = Value.int .u8 ((if j < n then bs j else 0 : Nat) : Int)
    rw [if_pos (List.mem_range.1 hj)]
  · rw [List.length_map, List.length_range, Nat.zero_add, List.drop_replicate, show n + 1 - n = 1 by omega]
    simp
theorem row_of_bytesL {w : World} {g n : Nat} {f : Nat → Nat} (h : w.heap[g]? = some (.cells (bytesL n f).toArray 5 (0, 0))) : w.rowIs g 5 n (fun j => .int .u8 (f j : Nat)) := by
  refine ⟨_, h, by simp [bytesL], fun i hi => ?_⟩
  rw [List.getElem?_toArray]
  unfold bytesL
  rw [List.getElem?_map, List.getElem?_range hi]; rfl
set_option maxHeartbeats 800000 in
theorem lent_any (A : Option Addr) (len cap : Nat) (bs : Nat → Nat) (w : World) (hl : len ≤ 140737488351232) (hA : SlB w A len bs) :
    Calls Tryz.prog 11 #[.slice A len cap] w fun e w' => ∃ g, e = .returned (.slice (some ⟨g, 0, none⟩) len (len + 1)) ∧ w.heap.size ≤ g ∧
      w'.rowIs g 5 (len + 1) (fun j => .int .u8 (if j < len then bs j else 77 : Nat)) ∧ Below w.heap.size w w' := by
  obtain ⟨i, hi, hz, hsz, hb⟩ := info_parts info8
  have hmk : ∀ W : World, (Instr.makeSlice 22 (.int .i64 (len : Int)) (.int .i64 ((len : Int) + 1))).run Tryz.prog W = .ok (.slice (some ⟨W.heap.size, 0, none⟩) len (len + 1)) (W.alloc (.cells (madeCells #[.int .u8 0] (len + 1)) 5)) := fun W => by
    have := run_make (P := Tryz.prog) W 22 5 i (.int .u8 0) Tryz.underlying22 hi hz .i64 .i64 (len : Int) ((len : Int) + 1) (by omega) (by omega) (by rw [hb]; omega) (by omega)
    rw [this, hsz, Int.toNat_natCast, show ((len : Int) + 1).toNat = len + 1 by omega, Nat.mul_one]
    rfl
  have HA := Lib.hid hA
  clear hA hi hz hsz hb
  have HX := Lib.hid (SlB.keep HA.out ((Below.refl _ _).alloc (Nat.le_refl _) (.cells (madeCells #[.int .u8 0] (len + 1)) 5)))
  have HB1 := Lib.hid ((Below.refl w.heap.size w).alloc (Nat.le_refl _) (.cells (madeCells #[.int .u8 0] (len + 1)) 5))
  have HG := Lib.hid (show (w.alloc (.cells (madeCells #[.int .u8 0] (len + 1)) 5)).heap[w.heap.size]? = some (.cells (List.replicate (len + 1) (Value.int .u8 0)).toArray 5 (0, 0)) by
    rw [heap_alloc_new]
    congr 2
    apply Array.ext'
    rw [toList_madeCells_one])
  have hlen : (bytesL len bs).length = Nat.min len len := by simp [bytesL]
  have hfit : 0 + (bytesL len bs).length ≤ (List.replicate (len + 1) (Value.int .u8 0)).length := by simp [bytesL]
  have hone : ∀ v ∈ bytesL len bs, v.oneCell' = true := by
    intro u hu
    obtain ⟨j, hj⟩ := List.getElem?_of_mem hu
    obtain ⟨_, rfl⟩ := bytesL_get _ _ j u hj
    rfl
  have HPOS := Lib.hid (show 0 < (bytesL len bs).length → (some (⟨w.heap.size, 0, none⟩ : Addr)) = some ⟨w.heap.size, 0, none⟩ ∧ ∃ ad, A = some ad ∧ ∀ j v, (bytesL len bs)[j]? = some v → (w.alloc (.cells (madeCells #[.int .u8 0] (len + 1)) 5)).cell? (ad.add j) = some v from fun h => by
    have h0 : 0 < len := by simpa [bytesL] using h
    obtain ⟨B, o, hA, _, hc⟩ := HX.out h0
    refine ⟨rfl, _, hA, fun j v hj => ?_⟩
    obtain ⟨hjl, rfl⟩ := bytesL_get _ _ j v hj
    rw [Go.WideShapes.add_plain]
    exact (hc j hjl).2)
  have hsz1 : (Tryz.prog.info? 5).map (·.size) = some 1 := by kernel_rfl
  have HL := Lib.hid hlen
  have HF := Lib.hid hfit
  have HO := Lib.hid hone
  have HS := Lib.hid hsz1
  clear hlen hfit hone hsz1
  go_enter Tryz.func11, Tryz.ntmps11
  go_wp2_with (((refine wpList_copy_splice rfl (.tmp 10) (.tmp 11) 22 22 rfl 5 Tryz.underlying22 HS.out (some ⟨w.heap.size, 0, none⟩) A len (len + 1) len cap rfl rfl w.heap.size 0 _ 5 HG.out (bytesL len bs) HL.out HPOS.out HF.out HO.out w.heap.size w HB1.out (Nat.le_refl _) ?_); intro w2 HR hb2; rw [splice_full] at HR; have HR2 := Lib.hid (row_of_bytesL HR.out); have HB2 := Lib.hid hb2; have hc := HR2.out.cell (i := len) (Nat.lt_succ_self len); rw [if_neg (Nat.lt_irrefl len)] at hc; have hf := HR2.out.frozen len; clear HR hb2))
  go_ret
  exact ⟨w.heap.size, rfl, Nat.le_refl _, (HR2.out.set len (.int .u8 77)).congr fun j hj => by
    by_cases e : j = len
    · rw [if_pos e, if_neg (by omega)]; rfl
    · rw [if_neg e, if_pos (by omega), if_pos (by omega)], HB2.out.setCell (Nat.le_refl _) _⟩
set_option maxHeartbeats 800000 in
theorem kept_any (g : Nat) (A : Option Addr) (len cap : Nat) (bs : Nat → Nat) (w : World) (hl : len ≤ 140737488351232) (hA : SlB w A len bs)
    (hr : w.rowIs g 5 (len + 1) (fun j => .int .u8 (if j < len then bs j else 77 : Nat))) :
    Calls Tryz.prog 13 #[.slice (some ⟨g, 0, none⟩) len (len + 1), .slice A len cap] w fun e w' => e = .returned (.bool true) ∧ w = w' := by
  have hcv1 := convRowX (cap := len + 1) ((RowX.of_rowIs hr).less (Nat.le_succ len)) bs (Nat.le_refl _) (fun i hi => by rw [if_pos hi])
  have hcv2 := convSl (cap := cap) hA (Nat.le_refl len)
  have hc := hr.cell (i := len) (Nat.lt_succ_self len)
  rw [if_neg (Nat.lt_irrefl len)] at hc
  clear hr hA
  generalize strOf len bs = y at *
  go_enter Tryz.func13, Tryz.ntmps13
  go_wp2_with fail
  go_ret
  exact ⟨rfl, rfl⟩
end Go.Proofs.YthmlcmlpmolmoaaGreatDoor
namespace Go.Proofs.YthmlcmlpmolmoaaGreatDoor
open Go.RowKit
theorem lent_slB {w : World} {g n : Nat} {f : Nat → Nat} (h : w.rowIs g 5 (n + 1) (fun j => .int .u8 (if j < n then f j else 77 : Nat))) (hf : By n f) : SlB w (some ⟨g, 0, none⟩) n f :=
  SlB.of_rowX ((RowX.of_rowIs h).less (Nat.le_succ n)) fun j hj => ⟨hf j hj, by rw [if_pos hj]⟩
theorem lent_arr {w : World} {g len : Nat} {b : Nat → Nat} (h : w.rowIs g 5 (len + 1) (fun j => .int .u8 (if j < len then b j else 77 : Nat))) : Arr w g 0 (len + 1) (fun j => if j < len then b j else 77) :=
  RowX.arr (RowX.of_rowIs h)
end Go.Proofs.YthmlcmlpmolmoaaGreatDoor
