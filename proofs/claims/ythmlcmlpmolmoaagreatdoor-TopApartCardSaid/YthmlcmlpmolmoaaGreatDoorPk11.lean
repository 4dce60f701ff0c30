/- 16 texts in one, in their order. -/
import Derived.Test.YthmlcmlpmolmoaaGreatDoorPk10
import Derived.Conc.MuLone
import Derived.Lib.QuietBelow
/- Layer 14: a card number under a version's cipher, and back. -/
namespace Go.Proofs.YthmlcmlpmolmoaaGreatDoor
set_option maxRecDepth 100000
open Go.RowKit
theorem tw14_size {s : ByteArray} (h : shp s = true) : (twS s).size = 10 := by
  unfold twS
  rw [app_size, pB_size h, pL_size h]
set_option maxHeartbeats 1600000 in
theorem tweaked_any (G o : Nat) (F : Nat → Nat) (tw : ByteArray) (w : World) (hF : ∀ j, F j < 256) (h : Made w G o F) (htw : tw.size ≤ 16) (hp : Pws w) :
    Calls Tryz.prog 80 #[.pointer (some ⟨G, o, none⟩), .string tw] w fun e w' => ∃ c g, e = .returned (.pointer (some ⟨c, 0, none⟩)) ∧ Cu w c g 8 F tw.size (by_ tw) w' := by
  have HKT := Lib.hid (show Kt 8 F tw.size (by_ tw) from ⟨Or.inr rfl, fun j _ => hF j, htw, fun j _ => by_lt _ j⟩)
  obtain ⟨B, cc, hc, hs⟩ := h
  obtain ⟨cap9, w3, hcv, hb3, _, hrow3⟩ := bytesOf' tw w
  have HB3 := Lib.hid hb3
  have HS3 := Lib.hid (hs.keep hb3)
  have HR3 := Lib.hid hrow3
  have HP3 := Lib.hid (hp.keep hb3)
  clear hb3 hs hrow3 hp hF
  go_enter Tryz.func80, Tryz.ntmps80
  go_wp2_with fail
  refine (newU 8 32 cc F tw.size cap9 (by_ tw) _ _ HKT.out rfl HS3.out HR3.out (fun h => by cases h) HB3.out HP3.out).mono ?_
  rintro e w4 ⟨c4, g4, rfl, hcu⟩
  have HC := Lib.hid hcu
  clear hcu
  go_wp2_with fail
  go_ret
  exact ⟨_, _, rfl, HC.out⟩
set_option maxHeartbeats 1600000 in
theorem vencrypt_any (G o : Nat) (F : Nat → Nat) (s : ByteArray) (w : World) (hF : ∀ j, F j < 256) (h : Made w G o F) (hs : shp s = true) (ht : Tabs w) :
    Calls Tryz.prog 42 #[.pointer (some ⟨G, o, none⟩), .string s] w fun e w' => e = .returned (.string (vEn F s)) ∧ Below w.heap.size w w' := by
  have hle : s.size ≤ maxLen := by have := (shp_parts hs).2; unfold maxLen; omega
  have HCUT := Lib.hid (cut11_any s w hle ht.pt)
  rw [show cutE s = 0 from if_pos hs] at HCUT
  have hk : Kt 8 F (twS s).size (by_ (twS s)) := ⟨Or.inr rfl, fun j _ => hF j, by rw [tw14_size hs]; decide, fun j _ => by_lt _ j⟩
  have HTW := Lib.hid (show ∀ W, Below w.heap.size w W → Calls Tryz.prog 80 #[.pointer (some ⟨G, o, none⟩), .string (twS s)] W fun e w' => ∃ c g, e = .returned (.pointer (some ⟨c, 0, none⟩)) ∧ Cu W c g 8 F (twS s).size (by_ (twS s)) w' from
    fun W hb => tweaked_any G o F (twS s) W hF (h.keep hb) (by rw [tw14_size hs]; decide) (ht.pws.keep hb))
  have HEN := Lib.hid (fun (w0 W : World) c g (hcu : Cu w0 c g 8 F (twS s).size (by_ (twS s)) W) => encU hk (pM s) (Nat.le_trans (pM_le s) (by unfold maxLen; decide)) hcu)
  rw [mid_hE hs] at HEN
  have he := enc_fine (n := 8) (key := F) (t := (twS s).size) (T := by_ (twS s)) (mid_hE hs)
  have h6 := pB_le s
  have h4 := pL_le s
  have hm := pM_le s
  have h9 : (encS 8 F (twS s).size (by_ (twS s)) (pM s)).size ≤ 9 := by omega
  have HTQ := Lib.hid (show twS s = pB s ++ pL s from rfl)
  rw [show vEn F s = pB s ++ encS 8 F (twS s).size (by_ (twS s)) (pM s) ++ pL s from rfl]
  clear hk hle he h hs ht hF
  generalize encS 8 F (twS s).size (by_ (twS s)) (pM s) = en at *
  generalize twS s = tw at *
  generalize pB s = b1 at *
  generalize pL s = b3 at *
  generalize pM s = b2 at *
  go_enter Tryz.func42, Tryz.ntmps42
  go_wp2_with fail
  refine HCUT.out.mono ?_
  rintro e w1 ⟨rfl, hb1⟩
  have HB := Lib.hid hb1
  clear hb1
  go_wp2_with fail
  rw [← HTQ.out]
  refine (HTW.out w1 HB.out).mono ?_
  rintro e w2 ⟨c2, g2, rfl, hcu⟩
  have HC2 := Lib.hid hcu
  clear hcu
  go_wp2_with fail
  refine (HEN.out w1 w2 c2 g2 HC2.out).mono ?_
  rintro e w3 ⟨rfl, hcu⟩
  have HB3 := Lib.hid (HB.out.trans (hcu.below.mono HB.out.size))
  clear hcu
  go_wp2_with fail
  go_ret
  exact ⟨rfl, HB3.out⟩
set_option maxHeartbeats 1600000 in
theorem vdecrypt_any (G o : Nat) (F : Nat → Nat) (s : ByteArray) (w : World) (hF : ∀ j, F j < 256) (h : Made w G o F) (hs : shp s = true) (ht : Tabs w) :
    Calls Tryz.prog 46 #[.pointer (some ⟨G, o, none⟩), .string s] w fun e w' => e = .returned (.string (vDe F s)) ∧ Below w.heap.size w w' := by
  have hle : s.size ≤ maxLen := by have := (shp_parts hs).2; unfold maxLen; omega
  have HCUT := Lib.hid (cut11_any s w hle ht.pt)
  rw [show cutE s = 0 from if_pos hs] at HCUT
  have hk : Kt 8 F (twS s).size (by_ (twS s)) := ⟨Or.inr rfl, fun j _ => hF j, by rw [tw14_size hs]; decide, fun j _ => by_lt _ j⟩
  have HTW := Lib.hid (show ∀ W, Below w.heap.size w W → Calls Tryz.prog 80 #[.pointer (some ⟨G, o, none⟩), .string (twS s)] W fun e w' => ∃ c g, e = .returned (.pointer (some ⟨c, 0, none⟩)) ∧ Cu W c g 8 F (twS s).size (by_ (twS s)) w' from
    fun W hb => tweaked_any G o F (twS s) W hF (h.keep hb) (by rw [tw14_size hs]; decide) (ht.pws.keep hb))
  have HEN := Lib.hid (fun (w0 W : World) c g (hcu : Cu w0 c g 8 F (twS s).size (by_ (twS s)) W) => decU hk (pM s) (Nat.le_trans (pM_le s) (by unfold maxLen; decide)) hcu)
  rw [mid_hE hs] at HEN
  have he := enc_fine (n := 8) (key := F) (t := (twS s).size) (T := by_ (twS s)) (mid_hE hs)
  have h6 := pB_le s
  have h4 := pL_le s
  have hm := pM_le s
  have h9 : (decS 8 F (twS s).size (by_ (twS s)) (pM s)).size ≤ 9 := by omega
  have HTQ := Lib.hid (show twS s = pB s ++ pL s from rfl)
  rw [show vDe F s = pB s ++ decS 8 F (twS s).size (by_ (twS s)) (pM s) ++ pL s from rfl]
  clear hk hle he h hs ht hF
  generalize decS 8 F (twS s).size (by_ (twS s)) (pM s) = en at *
  generalize twS s = tw at *
  generalize pB s = b1 at *
  generalize pL s = b3 at *
  generalize pM s = b2 at *
  go_enter Tryz.func46, Tryz.ntmps46
  go_wp2_with fail
  refine HCUT.out.mono ?_
  rintro e w1 ⟨rfl, hb1⟩
  have HB := Lib.hid hb1
  clear hb1
  go_wp2_with fail
  rw [← HTQ.out]
  refine (HTW.out w1 HB.out).mono ?_
  rintro e w2 ⟨c2, g2, rfl, hcu⟩
  have HC2 := Lib.hid hcu
  clear hcu
  go_wp2_with fail
  refine (HEN.out w1 w2 c2 g2 HC2.out).mono ?_
  rintro e w3 ⟨rfl, hcu⟩
  have HB3 := Lib.hid (HB.out.trans (hcu.below.mono HB.out.size))
  clear hcu
  go_wp2_with fail
  go_ret
  exact ⟨rfl, HB3.out⟩
end Go.Proofs.YthmlcmlpmolmoaaGreatDoor
/- atomic.Int64, one goroutine: Add, Load, Store. -/
namespace Go.Proofs.YthmlcmlpmolmoaaGreatDoor
open Go.RowKit
theorem addI64 (x : Nat) (hx : x < 9223372036854775807) (w : World) : (Op.intArith .add .i64 (x : Int) 1).run Tryz.prog w = .ok (.int .i64 ((x + 1 : Nat) : Int)) w := by
  have h1 : (-9223372036854775808 : Int) ≤ (x : Int) + 1 := by omega
  have h2 : (x : Int) + 1 ≤ 9223372036854775807 := by omega
  go_simp
  exact IntWalk.i64_in _ ⟨h1, h2⟩
theorem icount_add (b o x : Nat) (w : World) (hx : x < 9223372036854775807) (hc : w.cell? ⟨b, o, none⟩ = some (.int .i64 (x : Nat))) (hz : w.frozen? ⟨b, o, none⟩ = false) :
    Calls Tryz.prog 48 #[.pointer (some ⟨b, o, none⟩), .int .i64 1] w fun e w' => e = .returned (.int .i64 ((x + 1 : Nat) : Int)) ∧ w' = w.setCell ⟨b, o, none⟩ (.int .i64 ((x + 1 : Nat) : Int)) := by
  have hl := run_call_add (P := Tryz.prog) Tryz.func89 (by kernel_rfl) (by kernel_rfl) (by kernel_rfl) .i64 (by kernel_rfl) hc hz (addI64 x hx w)
  go_enter Tryz.func48, Tryz.ntmps48
  go_wp2_with fail
  go_ret
  exact ⟨rfl, rfl⟩
theorem icount_load (b o : Nat) (x : Int) (w : World) (hc : w.cell? ⟨b, o, none⟩ = some (.int .i64 x)) :
    Calls Tryz.prog 49 #[.pointer (some ⟨b, o, none⟩)] w fun e w' => e = .returned (.int .i64 x) ∧ w = w' := by
  have hl := run_call_load (P := Tryz.prog) Tryz.func90 (by kernel_rfl) (by kernel_rfl) (by kernel_rfl) .i64 (by kernel_rfl) hc
  go_enter Tryz.func49, Tryz.ntmps49
  go_wp2_with fail
  go_ret
  exact ⟨rfl, rfl⟩
theorem icount_store (b o : Nat) (x : Int) (u : Value) (w : World) (hc : w.cell? ⟨b, o, none⟩ = some u) (hz : w.frozen? ⟨b, o, none⟩ = false) :
    Calls Tryz.prog 37 #[.pointer (some ⟨b, o, none⟩), .int .i64 x] w fun e w' => e = .returned (.tuple #[]) ∧ w' = w.setCell ⟨b, o, none⟩ (.int .i64 x) := by
  have hl := run_call_store (P := Tryz.prog) Tryz.func73 (by kernel_rfl) (by kernel_rfl) (by kernel_rfl) (by kernel_rfl) (k := .i64) (y := x) hc hz
  go_enter Tryz.func37, Tryz.ntmps37
  go_wp2_with fail
  go_end0
  exact ⟨rfl, rfl⟩
end Go.Proofs.YthmlcmlpmolmoaaGreatDoor
/- Layer 14: Version, Rotate, Token, Back, Renew. -/
namespace Go.Proofs.YthmlcmlpmolmoaaGreatDoor
set_option maxRecDepth 100000
open Go.RowKit
section
variable {u : World} {G R M c n f : Nat} {key : Nat → Nat} {t V : Int} {O : Nat → Prop}
set_option maxHeartbeats 1600000 in
theorem vversion_any (w : World) (h : VlA u G R M c n key t f w V O) :
    Calls Tryz.prog 24 #[.pointer (some ⟨G, 0, none⟩)] w fun e w' => e = .returned (.int .i64 V) ∧ w' = w := by
  obtain ⟨C, hc, _, rfl, _⟩ := h.cV
  have HL := Lib.hid (icount_load G 2 (C : Int) w hc)
  clear h hc
  go_enter Tryz.func24, Tryz.ntmps24
  go_wp2_with fail
  refine HL.out.mono ?_
  rintro e w1 ⟨rfl, rfl⟩
  go_wp2_with fail
  go_ret
  exact ⟨rfl, rfl⟩
set_option maxHeartbeats 1600000 in
theorem vrotate_any (w : World) (h : VlA u G R M c n key t (f + 1) w V O) :
    Calls Tryz.prog 20 #[.pointer (some ⟨G, 0, none⟩)] w fun e w' => e = .returned (.tuple #[.int .i64 (roV V), .int .i64 (roE V)]) ∧ VStep (VlA u G R M c n key t f) w O w' (roN V) := by
  obtain ⟨C, hc, h1, rfl, h2⟩ := h.cV
  have HL := Lib.hid (icount_add G 2 C w (by omega) hc h.fV)
  obtain ⟨k1, k2⟩ := h.rot hc
  have HK := Lib.hid (show VStep (VlA u G R M c n key t f) w O (w.setCell ⟨G, 2, none⟩ (.int .i64 ((C + 1 : Nat) : Int))) (roN (min (C : Int) 255)) from ⟨O, k1, k2, fun _ hk => Or.inl hk⟩)
  clear h hc k1 k2
  by_cases hC : C < 255
  · have e1 : roV (min (C : Int) 255) = ((C + 1 : Nat) : Int) := by unfold roV; rw [if_pos (by omega)]; omega
    have e2 : roE (min (C : Int) 255) = 0 := by unfold roE; rw [if_pos (by omega)]
    rw [e1, e2]
    have hC1 : ((C + 1 : Nat) : Int) ≤ 255 := by omega
    have hC2 : ¬ (255 : Int) < ((C + 1 : Nat) : Int) := by omega
    clear e1 e2
    generalize C + 1 = C1 at *
    go_enter Tryz.func20, Tryz.ntmps20
    go_wp2_with fail
    refine HL.out.mono ?_
    rintro e w1 ⟨rfl, hw⟩
    have HW := Lib.hid hw
    clear hw
    go_wp2_with fail
    go_ret2
    exact ⟨rfl, by rw [HW.out]; exact HK.out⟩
  · have e1 : roV (min (C : Int) 255) = 0 := by unfold roV; rw [if_neg (by omega)]
    have e2 : roE (min (C : Int) 255) = 14 := by unfold roE; rw [if_neg (by omega)]
    rw [e1, e2]
    have hC1 : ¬ ((C + 1 : Nat) : Int) ≤ 255 := by omega
    have hC2 : (255 : Int) < ((C + 1 : Nat) : Int) := by omega
    clear e1 e2
    generalize C + 1 = C1 at *
    go_enter Tryz.func20, Tryz.ntmps20
    go_wp2_with fail
    refine HL.out.mono ?_
    rintro e w1 ⟨rfl, hw⟩
    have HW := Lib.hid hw
    clear hw
    go_wp2_with fail
    go_ret2
    exact ⟨rfl, by rw [HW.out]; exact HK.out⟩
/-- a card number, under the key of a version, as a vault has it -/
theorem vturn_any (w : World) (h : VlA u G R M c n key t f w V O) (ver : Int) (hv : 1 ≤ ver ∧ ver ≤ 255) : ∃ k, k < 255 ∧ ver = ((k + 1 : Nat) : Int) ∧
    (∀ W, Below w.heap.size w W → Calls Tryz.prog 41 #[.pointer (some ⟨G, 0, none⟩), .int .i64 ver] W fun e w' => e = .returned (.pointer (some ⟨G, 3 + k * 4, none⟩)) ∧ CphP u G R M c n key t f k w V O w') ∧
    (∀ W s, shp s = true → CphP u G R M c n key t f k w V O W → Calls Tryz.prog 42 #[.pointer (some ⟨G, 3 + k * 4, none⟩), .string s] W fun e w' => e = .returned (.string (vEn (vK n key t ver) s)) ∧ CphP u G R M c n key t f k w V O w' ∧ Tabs w') ∧
    (∀ W s, shp s = true → CphP u G R M c n key t f k w V O W → Calls Tryz.prog 46 #[.pointer (some ⟨G, 3 + k * 4, none⟩), .string s] W fun e w' => e = .returned (.string (vDe (vK n key t ver) s)) ∧ CphP u G R M c n key t f k w V O w' ∧ Tabs w') := by
  obtain ⟨k, rfl⟩ : ∃ k : Nat, ver = ((k + 1 : Nat) : Int) := ⟨ver.toNat - 1, by omega⟩
  have hF : ∀ j, vK n key t ((k + 1 : Nat) : Int) j < 256 := fun j => keyF_lt _ _ _ _ _ j
  refine ⟨k, by omega, rfl, fun W hb => ?_, fun W s hs hc => ?_, fun W s hs hc => ?_⟩
  · refine (cipher_any G R M c n k f key t V _ O u W (h.keep hb) (by omega) rfl).mono ?_
    rintro e w' ⟨he, hp⟩
    exact ⟨he, hp.from_ hb⟩
  · have hc2 := hc
    obtain ⟨O', h1, _, _, h4⟩ := hc2
    refine (vencrypt_any G (3 + k * 4) _ s W hF h4 hs h1.tabsW).mono ?_
    rintro e w' ⟨he, hb⟩
    exact ⟨he, hc.then_ hb, h1.tabsW.keep hb⟩
  · have hc2 := hc
    obtain ⟨O', h1, _, _, h4⟩ := hc2
    refine (vdecrypt_any G (3 + k * 4) _ s W hF h4 hs h1.tabsW).mono ?_
    rintro e w' ⟨he, hb⟩
    exact ⟨he, hc.then_ hb, h1.tabsW.keep hb⟩
set_option maxHeartbeats 1600000 in
theorem vtoken_any (w : World) (s : ByteArray) (h : VlA u G R M c n key t f w V O) (hs : s.size ≤ maxLen) :
    Calls Tryz.prog 16 #[.pointer (some ⟨G, 0, none⟩), .string s] w fun e w' => e = .returned (.tuple #[.string (vtV (vK n key t) V s), .int .i64 (vtE s)]) ∧ VStep (VlA u G R M c n key t f) w O w' V := by
  have HIS := Lib.hid (isc_any s w hs h.tabsW.pt)
  have HH := Lib.hid h
  have hr := h.rng
  cases h1 : isV s with
  | false =>
    rw [vtE_no h1, vtV_no h1]
    rw [h1] at HIS
    clear h1 hr hs h
    go_enter Tryz.func16, Tryz.ntmps16
    go_wp2_with fail
    refine HIS.out.mono ?_
    rintro e w1 ⟨rfl, hb1⟩
    have HB1 := Lib.hid hb1
    clear hb1
    go_wp2_with fail
    go_ret2
    exact ⟨rfl, VStep.same (HH.out.keep HB1.out) HB1.out⟩
  | true =>
    have hz := isV_shp h1
    have hpz := (vEn_parts (vK n key t V) hz).1
    have hps := (vEn_parts (vK n key t V) hz).2.2.2.2
    obtain ⟨k, hk, hkV, t1, t2, _⟩ := vturn_any w h V hr
    have HT1 := Lib.hid t1
    have HT2 := Lib.hid (fun W => t2 W s hz)
    have hE : tokE (vEn (vK n key t V) s) V = 0 := by
      unfold tokE
      rw [if_pos hpz, if_neg (by omega)]
    have HTO := Lib.hid (fun W (hW : PT W) => token_any (vEn (vK n key t V) s) V W (by rw [hps]; exact hs) hW)
    have hV : tokV (vEn (vK n key t V) s) V = tkS (vEn (vK n key t V) s) V := if_pos hE
    rw [hE, hV] at HTO
    rw [vtE_ok h1, show vtV (vK n key t) V s = tkS (vEn (vK n key t V) s) V from if_pos h1]
    rw [h1] at HIS
    clear h1 hr hs hz hpz hps hE hV h t1 t2 hk hkV
    generalize tkS (vEn (vK n key t V) s) V = r1 at *
    generalize vEn (vK n key t V) s = x1 at *
    go_enter Tryz.func16, Tryz.ntmps16
    go_wp2_with fail
    refine HIS.out.mono ?_
    rintro e w1 ⟨rfl, hb1⟩
    have HB1 := Lib.hid hb1
    clear hb1 HIS
    go_wp2_with fail
    refine (vversion_any w1 (HH.out.keep HB1.out)).mono ?_
    rintro e w2 ⟨rfl, rfl⟩
    go_wp2_with fail
    refine (HT1.out w2 HB1.out).mono ?_
    rintro e w3 ⟨rfl, hp3⟩
    have HP3 := Lib.hid hp3
    clear hp3
    go_wp2_with fail
    refine (HT2.out w3 HP3.out).mono ?_
    rintro e w4 ⟨rfl, hp4, ht4⟩
    have HP4 := Lib.hid hp4
    have HX4 := Lib.hid ht4
    clear hp4 ht4
    go_wp2_with fail
    refine (HTO.out w4 HX4.out.pt).mono ?_
    rintro e w5 ⟨rfl, hb5⟩
    have HP5 := Lib.hid (HP4.out.then_ hb5)
    clear hb5
    go_wp2_with fail
    go_ret2
    exact ⟨rfl, HP5.out.step⟩
set_option maxHeartbeats 3200000 in
theorem vback_any (w : World) (s : ByteArray) (h : VlA u G R M c n key t f w V O) (hs : s.size ≤ maxLen) :
    Calls Tryz.prog 18 #[.pointer (some ⟨G, 0, none⟩), .string s] w fun e w' => e = .returned (.tuple #[.string (vbV (vK n key t) V s), .int .i64 (vbE (vK n key t) V s)]) ∧ VStep (VlA u G R M c n key t f) w O w' V := by
  have HSP := Lib.hid (split_any s w hs h.tabsW.pt)
  have HH := Lib.hid h
  have hr := h.rng
  cases h1 : isTk s with
  | false =>
    have e1 : vbE (vK n key t) V s = 11 := by unfold vbE; rw [h1, if_neg (by decide)]
    have e2 : vbV (vK n key t) V s = { data := #[] } := by unfold vbV; rw [e1, if_neg (by decide)]
    have hsE : splE s = 11 := by unfold splE; rw [h1, if_neg (by decide)]
    rw [e1, e2]
    rw [hsE] at HSP
    clear h1 hr hs e1 e2 hsE h
    generalize splV s = d at *
    generalize splN s = nn at *
    go_enter Tryz.func18, Tryz.ntmps18
    go_wp2_with fail
    refine HSP.out.mono ?_
    rintro e w1 ⟨rfl, hb1⟩
    have HB1 := Lib.hid hb1
    clear hb1
    go_wp2_with fail
    go_ret2
    exact ⟨rfl, VStep.same (HH.out.keep HB1.out) HB1.out⟩
  | true =>
    obtain ⟨hz, k1, k2⟩ := isTk_parts h1
    have hsE : splE s = 0 := if_pos h1
    have hsV : splV s = tkA s := if_pos h1
    have hsN : splN s = tkN s := if_pos h1
    rw [hsE, hsV, hsN] at HSP
    by_cases h2 : V < tkN s
    · have e1 : vbE (vK n key t) V s = 12 := by unfold vbE; rw [if_pos h1, if_pos h2]
      have e2 : vbV (vK n key t) V s = { data := #[] } := by unfold vbV; rw [e1, if_neg (by decide)]
      rw [e1, e2]
      clear h1 hr hs e1 e2 hsE hsV hsN hz h
      generalize tkA s = d at *
      generalize tkN s = nn at *
      go_enter Tryz.func18, Tryz.ntmps18
      go_wp2_with fail
      refine HSP.out.mono ?_
      rintro e w1 ⟨rfl, hb1⟩
      have HB1 := Lib.hid hb1
      clear hb1
      go_wp2_with fail
      refine (vversion_any w1 (HH.out.keep HB1.out)).mono ?_
      rintro e w2 ⟨rfl, rfl⟩
      go_wp2_with fail
      go_ret2
      exact ⟨rfl, VStep.same (HH.out.keep HB1.out) HB1.out⟩
    · obtain ⟨k, hk, hkV, t1, _, t3⟩ := vturn_any w h (tkN s) ⟨k1, k2⟩
      have HT1 := Lib.hid t1
      have HT3 := Lib.hid (fun W => t3 W (tkA s) hz)
      have hps := (vDe_parts (vK n key t (tkN s)) hz).2.2.2.2
      have hza := (shp_parts hz).2
      have HIS := Lib.hid (fun W (hW : PT W) => isc_any (vDe (vK n key t (tkN s)) (tkA s)) W (by rw [hps]; unfold maxLen; omega) hW)
      have e1 : vbE (vK n key t) V s = if isV (vDe (vK n key t (tkN s)) (tkA s)) = true then 0 else 11 := by unfold vbE; rw [if_pos h1, if_neg h2]
      have e2 : vbV (vK n key t) V s = if isV (vDe (vK n key t (tkN s)) (tkA s)) = true then vDe (vK n key t (tkN s)) (tkA s) else { data := #[] } := by
        unfold vbV
        rw [e1]
        cases isV (vDe (vK n key t (tkN s)) (tkA s)) <;> rfl
      rw [e1, e2]
      clear h1 hr hs e1 e2 hsE hsV hsN hz hps hza h t1 t3 hk hkV
      generalize vDe (vK n key t (tkN s)) (tkA s) = x1 at *
      generalize isV x1 = is at *
      generalize tkA s = d at *
      generalize tkN s = nn at *
      go_enter Tryz.func18, Tryz.ntmps18
      go_wp2_with fail
      refine HSP.out.mono ?_
      rintro e w1 ⟨rfl, hb1⟩
      have HB1 := Lib.hid hb1
      clear hb1 HSP
      go_wp2_with fail
      refine (vversion_any w1 (HH.out.keep HB1.out)).mono ?_
      rintro e w2 ⟨rfl, rfl⟩
      go_wp2_with fail
      refine (HT1.out w2 HB1.out).mono ?_
      rintro e w3 ⟨rfl, hp3⟩
      have HP3 := Lib.hid hp3
      clear hp3
      go_wp2_with fail
      refine (HT3.out w3 HP3.out).mono ?_
      rintro e w4 ⟨rfl, hp4, ht4⟩
      have HP4 := Lib.hid hp4
      have HX4 := Lib.hid ht4
      clear hp4 ht4
      go_wp2_with fail
      refine (HIS.out w4 HX4.out.pt).mono ?_
      rintro e w5 ⟨rfl, hb5⟩
      have HP5 := Lib.hid (HP4.out.then_ hb5)
      clear hb5
      cases is with
      | false =>
        go_wp2_with fail
        go_ret2
        exact ⟨rfl, HP5.out.step⟩
      | true =>
        go_wp2_with fail
        go_ret2
        exact ⟨rfl, HP5.out.step⟩
theorem VStep.trans {VA : World → Int → (Nat → Prop) → Prop} {w w' w'' : World} {O' : Nat → Prop} {V2 : Int} {O : Nat → Prop} (hO : ∀ k, O' k → O k ∨ w.heap.size ≤ k) (h1 : ChgS O w w') (h2 : VStep VA w' O' w'' V2) : VStep VA w O w'' V2 := by
  obtain ⟨O2, k1, k2, k3⟩ := h2
  refine ⟨O2, k1, ⟨k2.os.trans h1.os, k2.tape.trans h1.tape, k2.output.trans h1.output, Nat.le_trans h1.size k2.size, fun k hk hn => (k2.block k (Nat.lt_of_lt_of_le hk h1.size) fun ho => ?_).trans (h1.block k hk hn)⟩, fun k hk => ?_⟩
  · rcases hO k ho with e | e
    · exact hn e
    · omega
  · rcases k3 k hk with e | e
    · exact hO k e
    · exact Or.inr (Nat.le_trans h1.size e)
set_option maxHeartbeats 1600000 in
theorem vrenew_any (w : World) (s : ByteArray) (h : VlA u G R M c n key t f w V O) (hs : s.size ≤ maxLen) :
    Calls Tryz.prog 22 #[.pointer (some ⟨G, 0, none⟩), .string s] w fun e w' => e = .returned (.tuple #[.string (vrV (vK n key t) V s), .int .i64 (vbE (vK n key t) V s)]) ∧ VStep (VlA u G R M c n key t f) w O w' V := by
  have HBA := Lib.hid (vback_any w s h hs)
  by_cases hg : vbE (vK n key t) V s = 0
  · obtain ⟨j1, j2, h3, j4⟩ := vb_ok hg
    have HTO := Lib.hid (show ∀ W O', VlA u G R M c n key t f W V O' → Calls Tryz.prog 16 #[.pointer (some ⟨G, 0, none⟩), .string (vbV (vK n key t) V s)] W fun e w' => e = .returned (.tuple #[.string (vtV (vK n key t) V (vbV (vK n key t) V s)), .int .i64 (vtE (vbV (vK n key t) V s))]) ∧ VStep (VlA u G R M c n key t f) W O' w' V from fun W O' hb => vtoken_any W _ hb (Nat.le_trans (isV_size h3).2 (by unfold maxLen; decide)))
    rw [vtE_ok h3] at HTO
    rw [show vrV (vK n key t) V s = vtV (vK n key t) V (vbV (vK n key t) V s) from if_pos hg]
    rw [hg] at HBA ⊢
    clear hg h3 h hs j1 j2 j4
    generalize vtV (vK n key t) V (vbV (vK n key t) V s) = y1 at *
    generalize vbV (vK n key t) V s = x1 at *
    go_enter Tryz.func22, Tryz.ntmps22
    go_wp2_with fail
    refine HBA.out.mono ?_
    rintro e w1 ⟨rfl, O1, k1, k2, k3⟩
    have HK1 := Lib.hid k1
    have HK2 := Lib.hid k2
    have HK3 := Lib.hid k3
    clear k1 k2 k3
    go_wp2_with fail
    refine (HTO.out w1 O1 HK1.out).mono ?_
    rintro e w2 ⟨rfl, hs2⟩
    have HS2 := Lib.hid (VStep.trans HK3.out HK2.out hs2)
    clear hs2
    go_wp2_with fail
    go_ret2
    exact ⟨rfl, HS2.out⟩
  · rw [show vrV (vK n key t) V s = { data := #[] } from if_neg hg]
    have hgE : (vbE (vK n key t) V s == 0) = false := by simpa using hg
    clear hg h hs
    generalize vbE (vK n key t) V s = eg at *
    generalize vbV (vK n key t) V s = x1 at *
    go_enter Tryz.func22, Tryz.ntmps22
    go_wp2_with fail
    refine HBA.out.mono ?_
    rintro e w1 ⟨rfl, hs1⟩
    have HS1 := Lib.hid hs1
    clear hs1
    go_wp2_with fail
    go_ret2
    exact ⟨rfl, HS1.out⟩
theorem vkit (u : World) (G R M c n : Nat) (key : Nat → Nat) (t : Int) : VKitS u G (vK n key t) (VlA u G R M c n key t) where
  bel := fun _ _ _ h => h.ring.bel
  own := fun _ _ _ h => h.own
  rng := fun _ _ _ h => h.rng
  kind := fun _ _ _ h => h.kind
  keep := fun _ _ _ _ _ h hc hT => h.chgS hc hT
  token := fun w V O s h hs => vtoken_any w s h hs
  back := fun w V O s h hs => vback_any w s h hs
  renew := fun w V O s h hs => vrenew_any w s h hs
  rotate := fun w V O h => vrotate_any w h
  version := fun w V O h => (vversion_any w h).mono fun _ _ ⟨he, hw⟩ => ⟨he, by rw [hw]; exact VStep.same h (Below.refl _ _)⟩
end
end Go.Proofs.YthmlcmlpmolmoaaGreatDoor
/- Layer 14: New. -/
namespace Go.Proofs.YthmlcmlpmolmoaaGreatDoor
set_option maxRecDepth 100000
open Go.RowKit
/-- what has not yet been made of a version -/
def cphL : List Value := [.int .u32 0, .int .i32 0, .int .u32 0, .slice none 0 0]
theorem zeroVlt : Tryz.zeroCells88 = (Value.pointer none :: .int .i64 0 :: .int .i64 0 :: (List.replicate 255 cphL).flatten).toArray := by kernel_rfl
theorem vlt_cells {w : World} {G : Nat} {v0 v1 : Value} {t : TypeId} (h : w.heap[G]? = some (.cells ((Tryz.zeroCells88.setIfInBounds 0 v0).setIfInBounds 1 v1) t (0, 0))) :
    w.cell? ⟨G, 0, none⟩ = some v0 ∧ w.cell? ⟨G, 1, none⟩ = some v1 ∧ w.cell? ⟨G, 2, none⟩ = some (.int .i64 0) ∧ (∀ o, w.frozen? ⟨G, o, none⟩ = false) ∧
    ∀ k, k < 255 → OnceAt w G (3 + k * 4) 0 0 ∧ w.cell? ⟨G, 3 + k * 4 + 3, none⟩ = some (.slice none 0 0) := by
  rw [zeroVlt] at h
  generalize hL : (List.replicate 255 cphL).flatten = L at *
  have hr : ∀ k j, k < 255 → j < 4 → L[k * 4 + j]? = cphL[j]? := fun k j hk hj => by
    rw [← hL]
    exact flat_rep cphL 255 k j hk hj
  clear hL
  have e : ((Value.pointer none :: .int .i64 0 :: .int .i64 0 :: L).toArray.setIfInBounds 0 v0).setIfInBounds 1 v1 = (v0 :: v1 :: .int .i64 0 :: L).toArray := by simp
  rw [e] at h
  have hz : ∀ (o : Nat), w.frozen? ⟨G, o, none⟩ = false := fun o => Lib.frozen_of_heap h o
  have hc : ∀ (o : Nat) x, (v0 :: v1 :: Value.int .i64 0 :: L)[o]? = some x → w.cell? ⟨G, o, none⟩ = some x := fun o x hx => (Lib.cell_of_heap h o).trans (by rw [List.getElem?_toArray]; exact hx)
  have hk : ∀ k j, k < 255 → j < 4 → (v0 :: v1 :: Value.int .i64 0 :: L)[3 + k * 4 + j]? = cphL[j]? := fun k j h1 h2 => by
    rw [show 3 + k * 4 + j = (k * 4 + j) + 1 + 1 + 1 by omega, List.getElem?_cons_succ, List.getElem?_cons_succ, List.getElem?_cons_succ]
    exact hr k j h1 h2
  exact ⟨hc 0 _ rfl, hc 1 _ rfl, hc 2 _ rfl, hz, fun k h1 => ⟨⟨hc _ _ ((hk k 0 h1 (by decide)).trans rfl), hc _ _ ((hk k 1 h1 (by decide)).trans rfl), hz _, hz _⟩, hc _ _ ((hk k 3 h1 (by decide)).trans rfl)⟩⟩
theorem vlt_first {u w2 w3 : World} {R M cc n : Nat} {key : Nat → Nat} {t V : Int} (hr : RingAt u w2 R M cc n key) (ht : Tabs u) (ho : (1 ≤ t ∧ t ≤ 64) ∧ 1 ≤ V ∧ V ≤ 255) (hb : Below w2.heap.size w2 w3)
    (hh : w3.heap[w2.heap.size]? = some (.cells ((Tryz.zeroCells88.setIfInBounds 0 (.pointer (some ⟨R, 0, none⟩))).setIfInBounds 1 (.int .i64 t)) 88 (0, 0))) :
    VlA u w2.heap.size R M cc n key t 1000 (w3.setCell ⟨w2.heap.size, 2, none⟩ (.int .i64 V)) V (fun k => k = w2.heap.size ∨ k = R ∨ k = M) := by
  obtain ⟨c0, c1, c2, hz, hk⟩ := vlt_cells hh
  have hlt := hr.lt
  have hltM := hr.ltM
  have huG := hr.bel.size
  have hG3 : w2.heap.size < w3.heap.size := block_lt c0
  have r3 := hr.keep hb
  generalize hG : w2.heap.size = G at *
  have hc := (Chg.refl G w3).setCell (a := ⟨G, 2, none⟩) (Or.inl rfl) (.int .i64 V)
  have r4 := r3.chg hc huG (by omega) (by omega)
  have hf : ∀ j, (w3.setCell ⟨G, 2, none⟩ (.int .i64 V)).frozen? ⟨G, j, none⟩ = false := fun j => by rw [World.frozen?_setCell]; exact hz j
  have d0 : (w3.setCell ⟨G, 2, none⟩ (.int .i64 V)).cell? ⟨G, 0, none⟩ = some (.pointer (some ⟨R, 0, none⟩)) := (cell_off (by decide) _).trans c0
  refine ⟨ht, r4, ho.1, huG, by omega, by omega, Or.inl rfl, Or.inr (Or.inl rfl), Or.inr (Or.inr rfl), fun k hk => ?_, fun k hk s e => ?_, d0, (cell_off (by decide) _).trans c1,
    ⟨V.toNat, (World.cell?_setCell_same w3 ⟨G, 2, none⟩ _ c2).trans (by rw [Int.toNat_of_nonneg (by omega)]), by omega, by omega, by omega⟩, hf 2, fun k hk2 => ⟨hf _, Or.inl ⟨⟨?_, ?_, hf _, hf _⟩, ?_⟩⟩⟩
  · have := hr.uG
    have := hr.uM
    have hs := hc.size
    rcases hk with rfl | rfl | rfl <;> exact ⟨by omega, by omega⟩
  · rcases hk with rfl | rfl | rfl
    · rw [d0] at e; cases e
    · rw [r4.cell] at e; cases e
    · obtain ⟨B, o, e2, _, hh2⟩ := r4.bytes (by have := hr.len; omega)
      cases e2
      have := (hh2 0 (by have := hr.len; omega)).2
      rw [show (⟨k, 0 + 0, none⟩ : Addr) = ⟨k, 0, none⟩ from rfl] at this
      rw [this] at e
      cases e
  · exact (cell_off (by omega) _).trans (hk k hk2).1.done
  · exact (cell_off (by omega) _).trans (hk k hk2).1.lock
  · exact (cell_off (by omega) _).trans (hk k hk2).2
theorem vnew_bad : NewBad := by
  intro A n c key t V w hok hl hA hnil ht
  by_cases hn : 16 ≤ n ∧ n ≤ 64
  · have hkok : kok t 1 V = false := decide_eq_false fun h => of_decide_eq_false hok ⟨hn, h.1, h.2.2⟩
    have HKN := Lib.hid (knew_good A n c key w w hn hA hnil ht.gt ht.p10 (Below.refl _ _))
    have HKY := Lib.hid (show ∀ G M cc W, RingAt w W G M cc n key → Calls Tryz.prog 36 #[.pointer (some ⟨G, 0, none⟩), .int .i64 t, .int .i64 1, .int .i64 V] W fun e w' => ∃ A2 c2, e = .returned (.tuple #[.slice A2 0 c2, .int .i64 1]) ∧ Chg G W w' from fun G M cc W hW => by
      refine (key_any G M cc n t 1 V key w W hW).mono ?_
      rintro e w' ⟨⟨A2, c2, g, he, _⟩, _, h2⟩
      rw [hkok] at he
      exact ⟨A2, c2, he, h2⟩)
    clear hok hl hA hnil ht hkok
    go_enter Tryz.func12, Tryz.ntmps12
    go_wp2_with fail
    refine HKN.out.mono ?_
    rintro e w1 ⟨G, M, cc, rfl, hG, _, hr, hb1⟩
    have HR1 := Lib.hid hr
    have HB1 := Lib.hid hb1
    have HG1 := Lib.hid hG
    clear hr hb1 hG
    go_wp2_with fail
    refine (HKY.out G M cc w1 HR1.out).mono ?_
    rintro e w2 ⟨A2, c2, rfl, h2⟩
    have HB2 := Lib.hid (HB1.out.trans (h2.below (B := w.heap.size) HB1.out.size HG1.out))
    clear h2
    go_wp2_with fail
    go_ret2
    exact ⟨rfl, HB2.out⟩
  · have HKN := Lib.hid (knew_bad A n c w hn)
    clear hok hl hA hnil ht hn
    go_enter Tryz.func12, Tryz.ntmps12
    go_wp2_with fail
    refine HKN.out.mono ?_
    rintro e w1 ⟨rfl, rfl⟩
    go_wp2_with fail
    go_ret2
    exact ⟨rfl, Below.refl _ _⟩
theorem vnew_ok : NewOkS := by
  intro A n c key t V u w hok hA hnil ht hbel
  have hok2 := of_decide_eq_true hok
  have hkok : kok t 1 V = true := decide_eq_true ⟨hok2.2.1, by decide, hok2.2.2⟩
  have HKN := Lib.hid (knew_good A n c key u w hok2.1 hA hnil ht.gt ht.p10 hbel)
  have HKY := Lib.hid (show ∀ G M cc W, RingAt u W G M cc n key → Calls Tryz.prog 36 #[.pointer (some ⟨G, 0, none⟩), .int .i64 t, .int .i64 1, .int .i64 V] W fun e w' => ∃ A2 c2, e = .returned (.tuple #[.slice A2 32 c2, .int .i64 0]) ∧ RingAt u w' G M cc n key ∧ Chg G W w' from fun G M cc W hW => by
    refine (key_any G M cc n t 1 V key u W hW).mono ?_
    rintro e w' ⟨⟨A2, c2, g, he, _⟩, h1, h2⟩
    rw [hkok] at he
    exact ⟨A2, c2, he, h1, h2⟩)
  have HO := Lib.hid hok2.2
  have HT := Lib.hid ht
  have HU := Lib.hid hbel
  clear hok hok2 hA hnil ht hbel hkok
  go_enter Tryz.func12, Tryz.ntmps12
  go_wp2_with fail
  refine HKN.out.mono ?_
  rintro e w1 ⟨R, M, cc, rfl, hG, hM, hr, hb1⟩
  have HR1 := Lib.hid hr
  have HB1 := Lib.hid hb1
  have HG1 := Lib.hid hG
  have HM1 := Lib.hid hM
  clear hr hb1 hG hM
  go_wp2_with fail
  refine (HKY.out R M cc w1 HR1.out).mono ?_
  rintro e w2 ⟨A2, c2, rfl, h2, h3⟩
  have HR2 := Lib.hid h2
  have HB2 := Lib.hid (HB1.out.trans (h3.below (B := w.heap.size) HB1.out.size HG1.out))
  clear h2 h3
  go_wp2_with fail
  have hh := heap_alloc_new w2 (.cells ((Tryz.zeroCells88.setIfInBounds 0 (.pointer (some ⟨R, 0, none⟩))).setIfInBounds 1 (.int .i64 t)) 88)
  have hb3 := alloc_below w2 (.cells ((Tryz.zeroCells88.setIfInBounds 0 (.pointer (some ⟨R, 0, none⟩))).setIfInBounds 1 (.int .i64 t)) 88)
  generalize w2.alloc (.cells ((Tryz.zeroCells88.setIfInBounds 0 (.pointer (some ⟨R, 0, none⟩))).setIfInBounds 1 (.int .i64 t)) 88) = w3 at *
  have HVA := Lib.hid (vlt_first HR2.out HT.out HO.out hb3 hh)
  have HB4 := Lib.hid (HB2.out.trans ((((Chg.of_below (K := w2.heap.size) hb3).setCell (a := ⟨w2.heap.size, 2, none⟩) (Or.inl rfl) (.int .i64 V))).below (B := w.heap.size) HB2.out.size HB2.out.size))
  obtain ⟨_, _, k2, kz, _⟩ := vlt_cells hh
  refine (icount_store w2.heap.size 2 V _ w3 k2 (kz 2)).mono ?_
  rintro e w4 ⟨rfl, hw⟩
  have HW := Lib.hid hw
  clear hw hh hb3 k2 kz
  have HS2 := Lib.hid HB2.out.size
  generalize hG : w2.heap.size = G at *
  clear hG
  go_wp2_with fail
  go_ret2
  refine ⟨G, VlA u G R M cc n key t, _, rfl, vkit _ _ _ _ _ _ _ _, by rw [HW.out]; exact HVA.out, fun k hk => ?_, by rw [HW.out]; exact HB4.out⟩
  have h1 := HG1.out
  have h2 := HM1.out
  have h3 := HS2.out
  rcases hk with rfl | rfl | rfl <;> omega
end Go.Proofs.YthmlcmlpmolmoaaGreatDoor
/- A row of one byte, and its text. -/
namespace Go.Proofs.YthmlcmlpmolmoaaGreatDoor
open Go.RowKit

theorem conv1c (x : Int) (W : World) (B : Nat) (h : W.cell? ⟨B, 0, none⟩ = some (.int .u8 x)) :
    (convert 22 9 (.slice (some ⟨B, 0, none⟩) 1 1)).run Tryz.prog W = .ok (.string ⟨#[chr x.toNat]⟩) W :=
  run_convert_bytes_arg _ _ _ Tryz.underlying22 Tryz.underlying5 _ 0 1 1 [x] rfl (fun i hi => by
    obtain rfl : i = 0 := by omega
    exact h) _ Tryz.underlying9

theorem run_byte1 (w : World) (x : Int) : (Instr.buildSlice 22 1 #[(0, .int .u8 x)]).run Tryz.prog w = .ok (.slice (some ⟨w.heap.size, 0, none⟩) 1 1) (w.alloc (.cells #[.int .u8 x] 5)) := by
  go_simp

theorem run_str_lo (s : ByteArray) (k : Nat) (h : k ≤ s.size) (W : World) : (Instr.sliceAt 9 (.string s) none (some (.int .i64 (k : Nat))) none).run Tryz.prog W = .ok (.string (s.extract 0 k)) W := by go_simp

theorem below_of_drew {w w' : World} (h : Below w.drew.heap.size w.drew w') : Below w.heap.size w w' := ⟨h.os, h.tape, h.output, h.size, h.block⟩
end Go.Proofs.YthmlcmlpmolmoaaGreatDoor
/- The reference of layer 11: a version's digits. -/
namespace Go.Proofs.YthmlcmlpmolmoaaGreatDoor
set_option maxRecDepth 100000
open Go.RowKit

theorem text_low (n : Nat) (h : n < 10) (w : World) :
    Calls Tryz.prog 82 #[.int .i64 n] w fun e w' => e = .returned (.string (itoaB n)) ∧ Below w.heap.size w w' := by
  have HI := Lib.hid (show itoaB n = ⟨#[chr (48 + n)]⟩ by rw [itoaB_nat, Lib.decDigits_one h]; rfl)
  have hcv := conv1 (48 + n) w
  rw [show ((48 : Int) + n).toNat = 48 + n by omega] at hcv
  go_enter Tryz.func82, Tryz.ntmps82
  go_wp2_with fail
  go_ret
  exact ⟨by rw [HI.out]; rfl, (Below.refl w.heap.size w).alloc (Nat.le_refl _) _⟩

--DEFS tx
def txG (n q r : Nat) (tn : ByteArray) (cr : UInt8) : Nat → Value → World → Prop
  | 0, v, _ => v = .int .i64 (n : Nat)
  | 1, v, _ => v = .int .i64 (q : Nat)
  | 2, v, _ => v = .string tn
  | 3, v, _ => v = .int .i64 (n : Nat)
  | 4, v, _ => v = .int .i64 (r : Nat)
  | 5, v, _ => v = .int .i64 ((48 + r : Nat) : Int)
  | 6, v, _ => v = .int .u8 ((48 + r : Nat) : Int)
  | 7, v, w => ∃ B, v = .slice (some ⟨B, 0, none⟩) 1 1 ∧ w.cell? ⟨B, 0, none⟩ = some (.int .u8 ((48 + r : Nat) : Int))
  | 8, v, _ => v = .string ⟨#[cr]⟩
  | 9, v, _ => v = .string (tn ++ ⟨#[cr]⟩)
  | 10, v, _ => v = .string (tn ++ ⟨#[cr]⟩)
  | _, _, _ => True
theorem txG_stays (n q r : Nat) (tn : ByteArray) (cr : UInt8) : ∀ i v w w', txG n q r tn cr i v w → Below w.heap.size w w' → txG n q r tn cr i v w'
  | 0, _, _, _, h, _ => h
  | 1, _, _, _, h, _ => h
  | 2, _, _, _, h, _ => h
  | 3, _, _, _, h, _ => h
  | 4, _, _, _, h, _ => h
  | 5, _, _, _, h, _ => h
  | 6, _, _, _, h, _ => h
  | 7, v, w, w', h_, hb => by
    obtain ⟨B, h1, h2⟩ := h_; exact ⟨B, h1, (hb.cell (block_lt h2)).trans h2⟩
  | 8, _, _, _, h, _ => h
  | 9, _, _, _, h, _ => h
  | 10, _, _, _, h, _ => h
  | _ + 11, _, _, _, _, _ => trivial
--END DEFS tx
set_option maxRecDepth 100000 in
set_option maxHeartbeats 1600000 in
theorem text_step (n q r : Nat) (cr : UInt8) (h10 : 10 ≤ n) (hn : n < 1000) (hq : n / 10 = q) (hr : n % 10 = r) (hcr : chr (48 + r) = cr) (tn : ByteArray) (ht : tn.size ≤ 100)
    (hT : ∀ W, Calls Tryz.prog 82 #[.int .i64 (q : Nat)] W fun e w' => e = .returned (.string tn) ∧ Below W.heap.size W w') (w : World) :
    Calls Tryz.prog 82 #[.int .i64 n] w fun e w' => e = .returned (.string (tn ++ ⟨#[cr]⟩)) ∧ Below w.heap.size w w' := by
  have hr9 : r ≤ 9 := by omega
  have HT := Lib.hid hT
  have HCV := Lib.hid (show ∀ (W : World) (B : Nat), W.cell? ⟨B, 0, none⟩ = some (.int .u8 ((48 + r : Nat) : Int)) → (convert 22 9 (.slice (some ⟨B, 0, none⟩) 1 1)).run Tryz.prog W = .ok (.string ⟨#[cr]⟩) W from
    fun W B h => by rw [← hcr]; exact conv1c _ W B h)
  have hq2 : (n : Int).tdiv 10 = (q : Nat) := by rw [Int.tdiv_eq_ediv_of_nonneg (by omega)]; omega
  have hr2 : (n : Int).tmod 10 = (r : Nat) := by rw [Int.tmod_eq_emod_of_nonneg (by omega)]; omega
  have HQ := Lib.hid (show ∀ W : World, (binOp .quo 3 (.int .i64 (n : Nat)) (.int .i64 10)).run Tryz.prog W = .ok (.int .i64 (q : Nat)) W from fun W => by
    go_simp
    exact IntWalk.i64_in _ (by omega))
  have HR := Lib.hid (show ∀ W : World, (binOp .rem 3 (.int .i64 (n : Nat)) (.int .i64 10)).run Tryz.prog W = .ok (.int .i64 (r : Nat)) W from fun W => by go_simp)
  have HS := Lib.hid (show ∀ W : World, (binOp .add 3 (.int .i64 48) (.int .i64 (r : Nat))).run Tryz.prog W = .ok (.int .i64 ((48 + r : Nat) : Int)) W from fun W => by
    go_simp
    exact IntWalk.i64_in _ (by omega))
  have HC := Lib.hid (show ∀ W : World, (convert 3 5 (.int .i64 ((48 + r : Nat) : Int))).run Tryz.prog W = .ok (.int .u8 ((48 + r : Nat) : Int)) W from fun W => by
    go_simp
    exact IntWalk.u8_in _ (by omega))
  have hz : (tn ++ (⟨#[cr]⟩ : ByteArray)).size ≤ 101 := by rw [ByteArray.size_append]; show tn.size + 1 ≤ 101; omega
  have HA := Lib.hid (show ∀ W : World, (binOp .add 9 (.string tn) (.string ⟨#[cr]⟩)).run Tryz.prog W = .ok (.string (tn ++ ⟨#[cr]⟩)) W from fun W => by
    go_simp
    omega)
  clear hT hq hr hcr hq2 hr2 hz ht
  have hn10 : ¬ (n : Int) < 10 := by omega
  go_enter Tryz.func82, Tryz.ntmps82
  go_wp2_with fail
  refine wp_region_any (by kernel_rfl) ?_
  change wpAny _ _ _ _ _ _ _ w.drew
  refine ord.wpAny_ord [[], [0], [1], [], [3], [4], [5], [6], [7], [2, 8], [9]] [(0, 10), (1, 11), (2, 12), (3, 13), (4, 14), (5, 15), (6, 16), (7, 17), (8, 18), (9, 19), (10, 2)] (txG n q r tn cr) (by kernel_rfl) (by kernel_rfl) (txG_stays _ _ _ _ _) ((ord.steps_cons ?_ (ord.steps_cons ?_ (ord.steps_cons ?_ (ord.steps_cons ?_ (ord.steps_cons ?_ (ord.steps_cons ?_ (ord.steps_cons ?_ (ord.steps_cons ?_ (ord.steps_cons ?_ (ord.steps_cons ?_ (ord.steps_cons ?_ ord.steps_nil)))))))))))) ?_
  --STEPS tx
  · intro o ho x w hb hG
    obtain rfl := Option.some.inj ho
    clear ho
    refine Or.inl ⟨ord.want0 rfl, ?_⟩
    exact ord.makes_move rfl ⟨Below.refl _ _, rfl⟩
  · intro o ho x w hb hG
    obtain rfl := Option.some.inj ho
    clear ho
    have h10 : x 0 = .int .i64 (n : Nat) := hG (0, 10) (List.mem_of_getElem? (i := 0) rfl) rfl
    refine Or.inl ⟨ord.want0 rfl, ?_⟩
    exact ord.makes_bin rfl h10 rfl (by exact HQ.out w) ⟨Below.refl _ _, rfl⟩
  · intro o ho x w hb hG
    obtain rfl := Option.some.inj ho
    clear ho
    have h11 : x 1 = .int .i64 (q : Nat) := hG (1, 11) (List.mem_of_getElem? (i := 1) rfl) rfl
    refine Or.inl ⟨ord.want0 rfl, ?_⟩
    exact ord.makes_call1 Tryz.func82 (by kernel_rfl) (by kernel_rfl) rfl h11 (HT.out w) (fun e w' h => ⟨_, h.1, h.2, rfl⟩)
  · intro o ho x w hb hG
    obtain rfl := Option.some.inj ho
    clear ho
    refine Or.inl ⟨ord.want0 rfl, ?_⟩
    exact ord.makes_move rfl ⟨Below.refl _ _, rfl⟩
  · intro o ho x w hb hG
    obtain rfl := Option.some.inj ho
    clear ho
    have h13 : x 3 = .int .i64 (n : Nat) := hG (3, 13) (List.mem_of_getElem? (i := 3) rfl) rfl
    refine Or.inl ⟨ord.want0 rfl, ?_⟩
    exact ord.makes_bin rfl h13 rfl (by exact HR.out w) ⟨Below.refl _ _, rfl⟩
  · intro o ho x w hb hG
    obtain rfl := Option.some.inj ho
    clear ho
    have h14 : x 4 = .int .i64 (r : Nat) := hG (4, 14) (List.mem_of_getElem? (i := 4) rfl) rfl
    refine Or.inl ⟨ord.want0 rfl, ?_⟩
    exact ord.makes_bin rfl rfl h14 (by exact HS.out w) ⟨Below.refl _ _, rfl⟩
  · intro o ho x w hb hG
    obtain rfl := Option.some.inj ho
    clear ho
    have h15 : x 5 = .int .i64 ((48 + r : Nat) : Int) := hG (5, 15) (List.mem_of_getElem? (i := 5) rfl) rfl
    refine Or.inl ⟨ord.want0 rfl, ?_⟩
    exact ord.makes_conv rfl h15 (HC.out w) ⟨Below.refl _ _, rfl⟩
  · intro o ho x w hb hG
    obtain rfl := Option.some.inj ho
    clear ho
    have h16 : x 6 = .int .u8 ((48 + r : Nat) : Int) := hG (6, 16) (List.mem_of_getElem? (i := 6) rfl) rfl
    refine Or.inl ⟨ord.want0 rfl, ?_⟩
    exact ord.makes_build1 rfl h16 (run_byte1 w _) ⟨(Below.refl _ _).alloc (Nat.le_refl _) _, _, rfl, (World.cell?_alloc_at _ _ _ _ rfl).trans rfl⟩
  · intro o ho x w hb hG
    obtain rfl := Option.some.inj ho
    clear ho
    have h17 : txG n q r tn cr 7 (x 7) w := hG (7, 17) (List.mem_of_getElem? (i := 7) rfl) rfl
    refine Or.inl ⟨ord.want0 rfl, ?_⟩
    obtain ⟨B, hv, hc⟩ := h17
    exact ord.makes_conv rfl hv (HCV.out w B hc) ⟨Below.refl _ _, rfl⟩
  · intro o ho x w hb hG
    obtain rfl := Option.some.inj ho
    clear ho
    have h12 : x 2 = .string tn := hG (2, 12) (List.mem_of_getElem? (i := 2) rfl) rfl
    have h18 : x 8 = .string ⟨#[cr]⟩ := hG (8, 18) (List.mem_of_getElem? (i := 8) rfl) rfl
    refine Or.inl ⟨ord.want0 rfl, ?_⟩
    exact ord.makes_bin rfl h12 h18 (by exact HA.out w) ⟨Below.refl _ _, rfl⟩
  · intro o ho x w hb hG
    obtain rfl := Option.some.inj ho
    clear ho
    have h19 : x 9 = .string (tn ++ ⟨#[cr]⟩) := hG (9, 19) (List.mem_of_getElem? (i := 9) rfl) rfl
    refine Or.inl ⟨ord.want0 rfl, ?_⟩
    exact ord.makes_assign rfl ⟨Below.refl _ _, h19⟩
  --END STEPS tx
  · intro x w6 hb hG
    have e0 : x 10 = .string (tn ++ ⟨#[cr]⟩) := hG (10, 2) (List.mem_of_getElem? (i := 10) rfl)
    clear hG
    simp only [ord.puts, ord.put', List.set_cons_zero, List.set_cons_succ, if_true]
    rw [e0]
    go_wp2_with fail
    go_ret
    exact ⟨rfl, (Below.refl w.heap.size w).drew.trans hb⟩

theorem rtext11_any {v : Int} (h1 : 0 ≤ v) (h2 : v ≤ 999) (w : World) :
    Calls Tryz.prog 82 #[.int .i64 v] w fun e w' => e = .returned (.string (itoaB v)) ∧ Below w.heap.size w w' := by
  obtain ⟨n, rfl⟩ : ∃ n : Nat, v = n := ⟨v.toNat, by omega⟩
  by_cases ha : n < 10
  · exact text_low n ha w
  · have step : ∀ m : Nat, 10 ≤ m → itoaB m = itoaB (m / 10 : Nat) ++ ⟨#[chr (48 + m % 10)]⟩ := fun m hm => by
      rw [itoaB_nat, itoaB_nat, Lib.decDigits, dif_neg (by omega)]
      apply ba_ext
      rw [app_list]
      rfl
    by_cases hb : n < 100
    · rw [step n (by omega)]
      exact text_step n (n / 10) (n % 10) _ (by omega) (by omega) rfl rfl rfl _ (Nat.le_trans (itoaB_size _ (by omega) (by omega)) (by decide)) (fun W => text_low (n / 10) (by omega) W) w
    · rw [step n (by omega)]
      refine text_step n (n / 10) (n % 10) _ (by omega) (by omega) rfl rfl rfl _ (Nat.le_trans (itoaB_size _ (by omega) (by omega)) (by decide)) (fun W => ?_) w
      rw [step (n / 10) (by omega)]
      exact text_step (n / 10) (n / 10 / 10) (n / 10 % 10) _ (by omega) (by omega) rfl rfl rfl _ (Nat.le_trans (itoaB_size _ (by omega) (by omega)) (by decide)) (fun W => text_low (n / 10 / 10) (by omega) W) W
end Go.Proofs.YthmlcmlpmolmoaaGreatDoor
/- Halves of packed digits. -/
namespace Go.Proofs.YthmlcmlpmolmoaaGreatDoor
open Go.RowKit

/-- half t of a digit text, a 0 ahead of an odd number of digits -/
def half (s : ByteArray) (t : Nat) : Nat := if s.size % 2 = 0 then dg s t else if t = 0 then 0 else dg s (t - 1)

/-- byte j behind m halves -/
def pbi (s : ByteArray) (m j : Nat) : Nat := 16 * (if 2 * j < m then half s (2 * j) else 0) + (if 2 * j + 1 < m then half s (2 * j + 1) else 0)

/-- byte j of the packed text -/
def pb (s : ByteArray) (j : Nat) : Nat := 16 * half s (2 * j) + half s (2 * j + 1)

theorem half_eq (s : ByteArray) (i d : Nat) (_hi : i < s.size) (h : dg s i = d) : half s (s.size % 2 + i) = d := by
  unfold half
  by_cases h2 : s.size % 2 = 0
  · rw [if_pos h2, h2, Nat.zero_add, h]
  · rw [if_neg h2, if_neg (by omega), show s.size % 2 + i - 1 = i by omega, h]

theorem half_zero (s : ByteArray) (h : s.size % 2 = 1) : half s 0 = 0 := by unfold half; rw [if_neg (by omega), if_pos rfl]

theorem pb_even (s : ByteArray) (m d j0 : Nat) (hm : m = 2 * j0) (h : half s m = d) (j : Nat) :
    (if j = j0 then Value.int .u8 ((16 * d : Nat) : Int) else .int .u8 (pbi s m j : Nat)) = .int .u8 (pbi s (m + 1) j : Nat) := by
  by_cases hj : j = j0
  · rw [if_pos hj]; unfold pbi; rw [if_pos (by omega), if_neg (by omega), show 2 * j = m by omega, h]; rfl
  · rw [if_neg hj]; unfold pbi
    simp only [show (2 * j < m + 1) = (2 * j < m) from propext ⟨by omega, by omega⟩, show (2 * j + 1 < m + 1) = (2 * j + 1 < m) from propext ⟨by omega, by omega⟩]

theorem pb_odd (s : ByteArray) (m d j0 : Nat) (hm : m = 2 * j0 + 1) (h : half s m = d) (j : Nat) :
    (if j = j0 then Value.int .u8 ((pbi s m j0 + d : Nat) : Int) else .int .u8 (pbi s m j : Nat)) = .int .u8 (pbi s (m + 1) j : Nat) := by
  by_cases hj : j = j0
  · rw [if_pos hj]; subst hj; unfold pbi; rw [if_pos (by omega), if_neg (by omega), if_pos (by omega), if_pos (by omega), show 2 * j + 1 = m by omega, h]; rfl
  · rw [if_neg hj]; unfold pbi
    simp only [show (2 * j < m + 1) = (2 * j < m) from propext ⟨by omega, by omega⟩, show (2 * j + 1 < m + 1) = (2 * j + 1 < m) from propext ⟨by omega, by omega⟩]

theorem pbi_tens (s : ByteArray) (m j0 : Nat) (hm : m = 2 * j0 + 1) : pbi s m j0 = 16 * half s (2 * j0) := by
  unfold pbi; rw [if_pos (by omega), if_neg (by omega)]; rfl

theorem or_nib : ∀ x < 16, ∀ d < 16, bits BinOp.or .u8 ((16 * x : Nat) : Int) ((d : Nat) : Int) = ((16 * x + d : Nat) : Int) := by decide +kernel

theorem half_le (s : ByteArray) (t : Nat) (hd : s.data.toList.all isDig = true) : half s t ≤ 9 := by
  unfold half; split; exact dg_le s _ hd; split; omega; exact dg_le s _ hd

end Go.Proofs.YthmlcmlpmolmoaaGreatDoor
/- The reference of layer 1: texts. -/
namespace Go.Proofs.YthmlcmlpmolmoaaGreatDoor
open Go.RowKit

set_option maxHeartbeats 400000 in
theorem texts_any (s : ByteArray) (w : World) (hs : s.size ≤ maxLen) :
    Calls Tryz.prog 102 #[.string s] w fun e w' => e = .returned (.int .i64 (faultOf s.data.toList)) ∧ w = w' := by
  unfold maxLen at hs
  go_enter Tryz.func102, Tryz.ntmps102
  go_wp2
  go_loop [3] (fun i => ∃ k : Nat, k ≤ s.size ∧ i = .int .i64 k ∧ (s.data.toList.take k).all isDig = true) (fun i => s.size - (intOf i).toNat)
  case atStart => exact ⟨0, Nat.zero_le _, rfl, rfl⟩
  case round =>
    obtain ⟨k, hk, rfl, ha⟩ := hrel
    by_cases hlt : k < s.size
    · by_cases h1 : (s[k].toNat : Int) < 48
      · have HB := Lib.hid (all_bad s k hlt (by unfold isDig; simp; omega))
        go_wp2
        go_ret
        exact ⟨ret_int (by unfold faultOf; rw [HB.out]; rfl), rfl⟩
      · by_cases h2 : (57 : Int) < s[k].toNat
        · have HB := Lib.hid (all_bad s k hlt (by unfold isDig; simp; omega))
          go_wp2
          go_ret
          exact ⟨ret_int (by unfold faultOf; rw [HB.out]; rfl), rfl⟩
        · have HB := Lib.hid (all_snoc s k hlt ha (by unfold isDig; simp; omega))
          clear ha
          go_wp2
          go_round
          case rel => exact ⟨k + 1, by omega, by go_num, HB.out⟩
          case measure => simp [intOf]; omega
    · have e : k = s.size := by omega
      subst e
      have HA := Lib.hid ha
      clear ha
      by_cases hl : 999 < s.size
      all_goals
        go_wp2
        go_ret
        refine ⟨ret_int ?_, rfl⟩
        have h := HA.out
        rw [List.take_of_length_le (by simp)] at h
        unfold faultOf
        rw [h]
        simp [hl]

end Go.Proofs.YthmlcmlpmolmoaaGreatDoor
/- The reference of layer 1: Pack. -/
namespace Go.Proofs.YthmlcmlpmolmoaaGreatDoor
open Go.RowKit

/-- the text with a 0 ahead of an odd number of digits -/
def padded (s : ByteArray) : ByteArray := if s.size % 2 = 1 then ByteArray.mk #[chr 48] ++ s else s

theorem padded_size (s : ByteArray) : (padded s).size = 2 * ((s.size + 1) / 2) := by
  unfold padded
  split
  · rw [ByteArray.size_append]; show 1 + s.size = _; omega
  · omega

theorem padded_dig (s : ByteArray) (hd : s.data.toList.all isDig = true) : (padded s).data.toList.all isDig = true := by
  unfold padded
  split
  · rw [ByteArray.data_append, Array.toList_append, List.all_append, hd]; decide
  · exact hd

theorem padded_at (s : ByteArray) (t : Nat) : dg (padded s) t = half s t := by
  unfold padded half
  by_cases h : s.size % 2 = 1
  · rw [if_pos h, if_neg (by omega)]
    unfold dg
    rw [ByteArray.data_append, Array.toList_append]
    cases t with
    | zero => rfl
    | succ t => rfl
  · rw [if_neg h, if_pos (by omega)]

set_option maxHeartbeats 1600000 in
theorem rpack_ok (s : ByteArray) (w : World) (hd : s.data.toList.all isDig = true) (hl : s.size ≤ 999) :
    Calls Tryz.prog 57 #[.string s] w fun e w' => ∃ v, e = .returned (.tuple #[v, .int .i64 0]) ∧
      w'.ownsRow w.heap.size 5 1 v ((s.size + 1) / 2) ((List.range ((s.size + 1) / 2)).map fun j => .int .u8 (pb s j : Nat)) ∧ Below w.heap.size w w' := by
  have HT := Lib.hid (padded_size s)
  have HTd := Lib.hid (padded_dig s hd)
  have HPB := Lib.hid (show ∀ j, pb s j = 16 * dg (padded s) (2 * j) + dg (padded s) (2 * j + 1) from fun j => by rw [padded_at, padded_at]; rfl)
  have HF := Lib.hid (fault_ok hd (by simpa using hl))
  have hm5 : (s.size + 1) / 2 ≤ 500 := by omega
  clear hd
  generalize pb s = PB at *
  generalize (s.size + 1) / 2 = m at *
  by_cases h2 : s.size % 2 = 1
  · have h2' : (s.size : Int).tmod 2 = 1 := by rw [Int.tmod_eq_emod_of_nonneg (by omega)]; omega
    obtain ⟨t, ht⟩ : ∃ t, ByteArray.mk #[48] ++ s = t := ⟨_, rfl⟩
    have HP2 := Lib.hid (show padded s = t from (show padded s = _ by unfold padded; rw [if_pos h2]; rfl).trans ht)
    clear h2
    go_enter Tryz.func57, Tryz.ntmps57
    go_wp2_with (go_at_call 102; refine (texts_any _ _ (by unfold maxLen; omega)).mono ?_; rintro e w' ⟨rfl, rfl⟩; rw [HF.out])
    go_loopw [5, 6] (fun v c wr => ∃ j : Nat, j ≤ m ∧ c = .int .i64 (2 * j) ∧ wr.ownsRow w.heap.size 5 1 v j ((List.range j).map fun j => .int .u8 (PB j : Nat)) ∧ Below w.heap.size w wr) (fun _ c _ => 2 * m - (intOf c).toNat)
    case atStart => exact ⟨0, Nat.zero_le _, rfl, World.ownsRow_nil _ _ _ _, Below.refl _ _⟩
    case round =>
      obtain ⟨j, hj, rfl, hown, hb⟩ := hrel
      have HO := Lib.hid hown
      have HB := Lib.hid hb
      clear hown hb
      have hts : t.size = 2 * m := by rw [← HP2.out, HT.out]
      by_cases hlt : j < m
      · obtain ⟨q, eq1, hq⟩ : ∃ q : Nat, (2 : Int) * j = q ∧ q = 2 * j := ⟨2 * j, by omega, rfl⟩
        obtain ⟨q1, eq2, hq1⟩ : ∃ q1 : Nat, (q : Int) + 1 = q1 ∧ q1 = q + 1 := ⟨q + 1, by omega, rfl⟩
        have hqs : q < t.size := by omega
        have hqs1 : q1 < t.size := by omega
        have HTd2 := Lib.hid (show t.data.toList.all isDig = true by rw [← HP2.out]; exact HTd.out)
        obtain ⟨ha1, ha2⟩ := dig_at t q hqs HTd2.out
        obtain ⟨hb1, hb2⟩ := dig_at t q1 hqs1 HTd2.out
        obtain ⟨x, ex, hx⟩ : ∃ x : Nat, (t[q].toNat : Int) - 48 = x ∧ dg t q = x := ⟨t[q].toNat - 48, by omega, dg_eq t q hqs⟩
        obtain ⟨y, ey, hy⟩ : ∃ y : Nat, (t[q1].toNat : Int) - 48 = y ∧ dg t q1 = y := ⟨t[q1].toNat - 48, by omega, dg_eq t q1 hqs1⟩
        have HPj := Lib.hid (show PB j = 16 * x + y by rw [HPB.out j, HP2.out, ← hq, hx, ← hq1, hy])
        have hx9 : x ≤ 9 := by omega
        have hy9 : y ≤ 9 := by omega
        have hw1 : IntKind.i64.wrap (q1 : Int) = q1 := IntWalk.i64_in _ (by omega)
        have hw2 : IntKind.u8.wrap (x : Int) = x := IntWalk.u8_in _ (by omega)
        have hw3 : IntKind.u8.wrap (y : Int) = y := IntWalk.u8_in _ (by omega)
        obtain ⟨x16, ez, hz⟩ : ∃ z : Nat, IntKind.u8.wrap ((x : Int) * 16) = z ∧ z = x * 16 := ⟨x * 16, by rw [IntWalk.u8_in _ (by omega)]; omega, rfl⟩
        obtain ⟨z, ez2, hz2⟩ : ∃ z : Nat, IntKind.u8.wrap ((x16 : Int) + y) = z ∧ z = x16 + y := ⟨x16 + y, by rw [IntWalk.u8_in _ (by omega)]; omega, rfl⟩
        have HPz := Lib.hid (show PB j = z by rw [HPj.out]; omega)
        clear hq hq1 hx hy hts hz hz2
        go_wp2_with fail
        have hj12 : j ≤ 1000000000000 := by omega
        have hsz := HB.out.size
        have hcell : ((wr.alloc (.cells #[.int .u8 z] 5)).drew).cell? ⟨wr.heap.size, 0, none⟩ = some (.int .u8 z) := World.cell?_alloc_at _ _ _ _ rfl
        have hsz2 : w.heap.size ≤ ((wr.alloc (.cells #[.int .u8 z] 5)).drew).heap.size := by show _ ≤ (wr.heap.push _).size; simp; omega
        go_region_law (refine step_app8 rfl (.tmp 24) (.tmp 36) rfl w.heap.size _ j _ rfl ((HO.out.alloc _).drew) wr.heap.size z rfl hcell hj12 hsz2 ?_; intro v' w' hown' hb')
        all_goals
          clear hcell hsz2
          go_wp2_with fail
          go_roundw
          case rel => exact ⟨j + 1, by omega, by go_num, own_snoc hown' (by rw [HPz.out]), ((HB.out.alloc HB.out.size _).drew).trans hb'⟩
          case measure => simp [intOf]; omega
      · obtain rfl : j = m := by omega
        go_wp2_with fail
        go_ret2
        exact ⟨u5, rfl, HO.out, HB.out⟩
  · have h2' : (s.size : Int).tmod 2 = 0 := by rw [Int.tmod_eq_emod_of_nonneg (by omega)]; omega
    obtain ⟨t, rfl⟩ : ∃ t, t = s := ⟨_, rfl⟩
    have HP2 := Lib.hid (show padded t = t by unfold padded; rw [if_neg h2])
    clear h2
    go_enter Tryz.func57, Tryz.ntmps57
    go_wp2_with (go_at_call 102; refine (texts_any _ _ (by unfold maxLen; omega)).mono ?_; rintro e w' ⟨rfl, rfl⟩; rw [HF.out])
    go_loopw [5, 6] (fun v c wr => ∃ j : Nat, j ≤ m ∧ c = .int .i64 (2 * j) ∧ wr.ownsRow w.heap.size 5 1 v j ((List.range j).map fun j => .int .u8 (PB j : Nat)) ∧ Below w.heap.size w wr) (fun _ c _ => 2 * m - (intOf c).toNat)
    case atStart => exact ⟨0, Nat.zero_le _, rfl, World.ownsRow_nil _ _ _ _, Below.refl _ _⟩
    case round =>
      obtain ⟨j, hj, rfl, hown, hb⟩ := hrel
      have HO := Lib.hid hown
      have HB := Lib.hid hb
      clear hown hb
      have hts : t.size = 2 * m := by rw [← HP2.out, HT.out]
      by_cases hlt : j < m
      · obtain ⟨q, eq1, hq⟩ : ∃ q : Nat, (2 : Int) * j = q ∧ q = 2 * j := ⟨2 * j, by omega, rfl⟩
        obtain ⟨q1, eq2, hq1⟩ : ∃ q1 : Nat, (q : Int) + 1 = q1 ∧ q1 = q + 1 := ⟨q + 1, by omega, rfl⟩
        have hqs : q < t.size := by omega
        have hqs1 : q1 < t.size := by omega
        have HTd2 := Lib.hid (show t.data.toList.all isDig = true by rw [← HP2.out]; exact HTd.out)
        obtain ⟨ha1, ha2⟩ := dig_at t q hqs HTd2.out
        obtain ⟨hb1, hb2⟩ := dig_at t q1 hqs1 HTd2.out
        obtain ⟨x, ex, hx⟩ : ∃ x : Nat, (t[q].toNat : Int) - 48 = x ∧ dg t q = x := ⟨t[q].toNat - 48, by omega, dg_eq t q hqs⟩
        obtain ⟨y, ey, hy⟩ : ∃ y : Nat, (t[q1].toNat : Int) - 48 = y ∧ dg t q1 = y := ⟨t[q1].toNat - 48, by omega, dg_eq t q1 hqs1⟩
        have HPj := Lib.hid (show PB j = 16 * x + y by rw [HPB.out j, HP2.out, ← hq, hx, ← hq1, hy])
        have hx9 : x ≤ 9 := by omega
        have hy9 : y ≤ 9 := by omega
        have hw1 : IntKind.i64.wrap (q1 : Int) = q1 := IntWalk.i64_in _ (by omega)
        have hw2 : IntKind.u8.wrap (x : Int) = x := IntWalk.u8_in _ (by omega)
        have hw3 : IntKind.u8.wrap (y : Int) = y := IntWalk.u8_in _ (by omega)
        obtain ⟨x16, ez, hz⟩ : ∃ z : Nat, IntKind.u8.wrap ((x : Int) * 16) = z ∧ z = x * 16 := ⟨x * 16, by rw [IntWalk.u8_in _ (by omega)]; omega, rfl⟩
        obtain ⟨z, ez2, hz2⟩ : ∃ z : Nat, IntKind.u8.wrap ((x16 : Int) + y) = z ∧ z = x16 + y := ⟨x16 + y, by rw [IntWalk.u8_in _ (by omega)]; omega, rfl⟩
        have HPz := Lib.hid (show PB j = z by rw [HPj.out]; omega)
        clear hq hq1 hx hy hts hz hz2
        go_wp2_with fail
        have hj12 : j ≤ 1000000000000 := by omega
        have hsz := HB.out.size
        have hcell : ((wr.alloc (.cells #[.int .u8 z] 5)).drew).cell? ⟨wr.heap.size, 0, none⟩ = some (.int .u8 z) := World.cell?_alloc_at _ _ _ _ rfl
        have hsz2 : w.heap.size ≤ ((wr.alloc (.cells #[.int .u8 z] 5)).drew).heap.size := by show _ ≤ (wr.heap.push _).size; simp; omega
        go_region_law (refine step_app8 rfl (.tmp 24) (.tmp 36) rfl w.heap.size _ j _ rfl ((HO.out.alloc _).drew) wr.heap.size z rfl hcell hj12 hsz2 ?_; intro v' w' hown' hb')
        all_goals
          clear hcell hsz2
          go_wp2_with fail
          go_roundw
          case rel => exact ⟨j + 1, by omega, by go_num, own_snoc hown' (by rw [HPz.out]), ((HB.out.alloc HB.out.size _).drew).trans hb'⟩
          case measure => simp [intOf]; omega
      · obtain rfl : j = m := by omega
        go_wp2_with fail
        go_ret2
        exact ⟨u5, rfl, HO.out, HB.out⟩

set_option maxHeartbeats 400000 in
theorem rpack_bad (s : ByteArray) (w : World) (hs : s.size ≤ maxLen) (hb : ¬ faultOf s.data.toList = 0) :
    Calls Tryz.prog 57 #[.string s] w fun e w' => e = .returned (.tuple #[.slice none 0 0, .int .i64 (faultOf s.data.toList)]) ∧ w = w' := by
  have hb' : (faultOf s.data.toList != 0) = true := by simpa using hb
  go_enter Tryz.func57, Tryz.ntmps57
  go_wp2_with (go_at_call 102; refine (texts_any _ _ hs).mono ?_; rintro e w' ⟨rfl, rfl⟩)
  go_ret2
  exact ⟨rfl, rfl⟩
end Go.Proofs.YthmlcmlpmolmoaaGreatDoor
/- The reference of layer 1: Number. -/
namespace Go.Proofs.YthmlcmlpmolmoaaGreatDoor
open Go.RowKit

set_option maxHeartbeats 800000 in
theorem rnumber_any (s : ByteArray) (w : World) (hs : s.size ≤ maxLen) :
    Calls Tryz.prog 88 #[.string s] w fun e w' => e = .returned (.tuple #[.int .i64 (dnV s), .int .i64 (dnE s)]) ∧ ∃ n, w' = w.drewN n := by
  by_cases hf : faultOf s.data.toList = 0
  · obtain ⟨hd, hl⟩ := fault_zero hf
    have hl' : s.size ≤ 999 := by rw [Array.length_toList] at hl; exact hl
    have HD := Lib.hid hd
    have HF := Lib.hid hf
    clear hf hd hl
    by_cases h0 : s.size = 0
    · have e1 : s.toList = [] := by
        rw [ByteArray.toList_eq]; exact List.eq_nil_of_length_eq_zero (Array.length_toList.trans h0)
      have HB := Lib.hid (show dnE s = 3 by unfold dnE; rw [if_neg (by rw [HF.out]; decide), if_pos h0])
      have HV := Lib.hid (show dnV s = 0 by unfold dnV; rw [HB.out]; rfl)
      clear h0
      go_enter Tryz.func88, Tryz.ntmps88
      go_wp2_with (go_at_call 102; refine (texts_any s _ hs).mono ?_; rintro e w' ⟨rfl, rfl⟩; rw [HF.out])
      go_ret2
      exact ⟨by rw [HB.out, HV.out]; rfl, 0, rfl⟩
    · have e1 := toList_of_size (s := s) (by omega)
      have e2 : ¬ s.toList = [] := by intro h; rw [h] at e1; cases e1
      go_enter Tryz.func88, Tryz.ntmps88
      go_wp2_with (go_at_call 102; refine (texts_any s _ hs).mono ?_; rintro e w' ⟨rfl, rfl⟩; rw [HF.out])
      go_loopw [5, 6] (fun t i wr => ∃ k : Nat, k ≤ s.size ∧ i = .int .i64 k ∧ t = .int .i64 (acc s k) ∧ acc s k ≤ 9223372036854775807 ∧ ∃ n, wr = w.drewN n) (fun _ i _ => s.size - (intOf i).toNat)
      case atStart => exact ⟨0, Nat.zero_le _, rfl, rfl, by simp [acc], 0, rfl⟩
      case round =>
        obtain ⟨k, hk, rfl, rfl, hle, hn⟩ := hrel
        have HN := Lib.hid hn
        clear hn
        by_cases hlt : k < s.size
        · obtain ⟨hb1, hb2⟩ := dig_at s k hlt HD.out
          obtain ⟨d, e0, hd9⟩ : ∃ d : Nat, (s[k].toNat : Int) - 48 = d ∧ d < 10 := ⟨s[k].toNat - 48, by omega, by omega⟩
          have HS := Lib.hid (show acc s (k + 1) = 10 * acc s k + d by simp only [acc]; rw [dg_eq s k hlt]; omega)
          generalize hq : acc s k = q at *
          have HQ := Lib.hid hq
          clear hq
          by_cases hbig : 9223372036854775807 < 10 * q + d
          · have ht : ((9223372036854775807 : Int) - d) / 10 < q := by omega
            have ht2 : (0 : Int) ≤ 9223372036854775807 - d := by omega
            have HB := Lib.hid (show dnE s = 5 by
              unfold dnE; rw [if_neg (by rw [HF.out]; decide), if_neg h0, if_pos (by have := acc_mono s (k + 1) s.size (by omega); have := HS.out; omega)])
            have HV := Lib.hid (show dnV s = 0 by unfold dnV; rw [HB.out]; rfl)
            clear hbig
            go_wp2_with fail
            go_ret2
            exact ⟨by rw [HB.out, HV.out]; rfl, HN.out⟩
          · have ht : ¬ ((9223372036854775807 : Int) - d) / 10 < q := by omega
            have ht2 : (0 : Int) ≤ 9223372036854775807 - d := by omega
            go_wp2_with fail
            go_roundw
            case rel => exact ⟨k + 1, by omega, by go_num, by rw [HS.out]; go_num, by rw [HS.out]; omega, HN.out⟩
            case measure => simp [intOf]; omega
        · obtain rfl : k = s.size := by omega
          have HB := Lib.hid (show dnE s = 0 by unfold dnE; rw [if_neg (by rw [HF.out]; decide), if_neg h0, if_neg (by omega)])
          have HV := Lib.hid (show dnV s = acc s s.size by unfold dnV; rw [if_pos HB.out])
          go_wp2_with fail
          go_ret2
          exact ⟨by rw [HB.out, HV.out]; rfl, HN.out⟩
  · have hf' : (faultOf s.data.toList != 0) = true := by simpa using hf
    have HB := Lib.hid (show dnE s = faultOf s.data.toList by unfold dnE; rw [if_pos hf])
    have HV := Lib.hid (show dnV s = 0 by unfold dnV; rw [HB.out, if_neg hf])
    clear hf
    go_enter Tryz.func88, Tryz.ntmps88
    go_wp2_with (go_at_call 102; refine (texts_any s _ hs).mono ?_; rintro e w' ⟨rfl, rfl⟩)
    go_ret2
    exact ⟨by rw [HB.out, HV.out]; rfl, 0, rfl⟩

end Go.Proofs.YthmlcmlpmolmoaaGreatDoor
/- The reference of layer 1: Valid. -/
namespace Go.Proofs.YthmlcmlpmolmoaaGreatDoor
open Go.RowKit

set_option maxHeartbeats 400000 in
theorem digsum_any (s : ByteArray) (w : World) (hs : s.size ≤ 1000) (hd : s.data.toList.all isDig = true) :
    Calls Tryz.prog 120 #[.string s] w fun e w' => e = .returned (.int .i64 (psum s.size 0 s s.size)) ∧ w = w' := by
  have HD := Lib.hid hd
  clear hd
  go_enter Tryz.func120, Tryz.ntmps120
  go_wp2
  go_loop [3, 4] (fun t i => ∃ k : Nat, k ≤ s.size ∧ i = .int .i64 k ∧ t = .int .i64 (psum s.size 0 s k)) (fun _ i => s.size - (intOf i).toNat)
  case atStart => exact ⟨0, Nat.zero_le _, rfl, rfl⟩
  case round =>
    obtain ⟨k, hk, rfl, rfl⟩ := hrel
    by_cases hlt : k < s.size
    · obtain ⟨hb1, hb2⟩ := dig_at s k hlt HD.out
      have hps := psum_le s.size 0 s HD.out k
      have HS := Lib.hid (show psum s.size 0 s (k+1) = psum s.size 0 s k + wt (s.size - 1 - k) (s[k].toNat - 48) by rw [← dg_eq s k hlt]; rfl)
      go_wp2
      all_goals
        go_round
        case rel => exact ⟨k + 1, by omega, by go_num, fin1 HS.out rfl (by unfold wt; simp only [beq_iff_eq, beq_eq_false_iff_ne] at *; split <;> (try split) <;> omega)⟩
        case measure => simp [intOf]; omega
    · have e : k = s.size := by omega
      subst e
      go_wp2
      go_ret
      exact ⟨rfl, rfl⟩

set_option maxHeartbeats 400000 in
theorem rvalid_any (s : ByteArray) (w : World) (hs : s.size ≤ maxLen) :
    Calls Tryz.prog 81 #[.string s] w fun e w' => e = .returned (.bool (validB s)) ∧ w = w' := by
  by_cases hf : faultOf s.data.toList = 0
  · obtain ⟨hd, hl⟩ := fault_zero hf
    have hl' : s.size ≤ 999 := by rw [Array.length_toList] at hl; exact hl
    have HD := Lib.hid hd
    have HF := Lib.hid hf
    have hp := psum_le s.size 0 s hd s.size
    by_cases h0 : s.size = 0
    · have h00 : ¬ (0 : Int) < s.size := by omega
      have h01 : decide (0 < s.size) = false := decide_eq_false (by omega)
      have HB := Lib.hid (show validB s = false by unfold validB; rw [h01]; simp)
      clear hf hd hl h0
      go_enter Tryz.func81, Tryz.ntmps81
      go_wp2_with (first | (go_at_call 102; refine (texts_any s _ hs).mono ?_; rintro e w' ⟨rfl, rfl⟩; rw [HF.out]))
      go_ret
      exact ⟨by rw [HB.out]; rfl, rfl⟩
    · have h00 : (0 : Int) < s.size := by omega
      have h01 : decide (0 < s.size) = true := decide_eq_true (by omega)
      have HB := Lib.hid (show validB s = ((psum s.size 0 s s.size : Int) % 10 == 0) by
        unfold validB; rw [h01, hf]; simp only [Bool.true_and, decide_true]; rw [Bool.eq_iff_iff]; simp; omega)
      clear hf hd hl h0
      go_enter Tryz.func81, Tryz.ntmps81
      go_wp2_with (first | (go_at_call 102; refine (texts_any s _ hs).mono ?_; rintro e w' ⟨rfl, rfl⟩; rw [HF.out]) | (go_at_call 120; refine (digsum_any s _ (by omega) HD.out).mono ?_; rintro e w' ⟨rfl, rfl⟩))
      go_ret
      exact ⟨by rw [HB.out]; rfl, rfl⟩
  · have hf' : (faultOf s.data.toList == 0) = false := by simpa using hf
    have HB := Lib.hid (show validB s = false by unfold validB; rw [decide_eq_false hf]; simp)
    clear hf
    go_enter Tryz.func81, Tryz.ntmps81
    go_wp2_with (go_at_call 102; refine (texts_any s _ hs).mono ?_; rintro e w' ⟨rfl, rfl⟩)
    go_ret
    exact ⟨by rw [HB.out]; rfl, rfl⟩

end Go.Proofs.YthmlcmlpmolmoaaGreatDoor
/- The reference of layer 11: shapes, cuts, masks, tokens. -/
namespace Go.Proofs.YthmlcmlpmolmoaaGreatDoor
set_option maxRecDepth 100000
open Go.RowKit

theorem rpack_all (s : ByteArray) (w : World) (hs : s.size ≤ maxLen) :
    Calls Tryz.prog 57 #[.string s] w fun e w' => (∃ v, e = .returned (.tuple #[v, .int .i64 (faultOf s.data.toList)])) ∧ Below w.heap.size w w' := by
  by_cases h : faultOf s.data.toList = 0
  · obtain ⟨hd, hl⟩ := fault_zero h
    exact (rpack_ok s w hd (by rw [Array.length_toList] at hl; exact hl)).mono fun e w' ⟨v, he, _, hb⟩ => ⟨⟨v, by rw [h]; exact he⟩, hb⟩
  · exact (rpack_bad s w hs h).mono fun e w' ⟨he, hw⟩ => ⟨⟨_, he⟩, hw ▸ Below.refl _ _⟩

set_option maxHeartbeats 800000 in
theorem rshaped_any (s : ByteArray) (w : World) (hs : s.size ≤ maxLen) :
    Calls Tryz.prog 28 #[.string s] w fun e w' => e = .returned (.bool (shp s)) ∧ Below w.heap.size w w' := by
  have HS := Lib.hid hs
  unfold maxLen at hs
  by_cases hf : faultOf s.data.toList = 0
  · have hd := (fault_zero hf).1
    have HF := Lib.hid hf
    have HV := Lib.hid (show shp s = (decide (16 ≤ s.size) && decide (s.size ≤ 19)) by unfold shp; rw [hd]; rfl)
    clear hf hd
    by_cases h1 : 16 ≤ s.size
    · have h1' : decide ((16 : Int) ≤ s.size) = true := by simp; omega
      have e1 : decide (16 ≤ s.size) = true := by simp; omega
      by_cases h2 : s.size ≤ 19
      · have h2' : decide ((s.size : Int) ≤ 19) = true := by simp; omega
        have HR := Lib.hid (show shp s = true by rw [HV.out, e1, decide_eq_true h2]; rfl)
        clear h1 h2 e1 HV
        go_enter Tryz.func28, Tryz.ntmps28
        go_wp2_with (go_at_call 57; refine (rpack_all s _ HS.out).mono ?_; rintro e w1 ⟨⟨v, rfl⟩, hb⟩; rw [HF.out])
        go_ret
        exact ⟨by rw [HR.out]; rfl, hb⟩
      · have h2' : decide ((s.size : Int) ≤ 19) = false := by simp; omega
        have HR := Lib.hid (show shp s = false by rw [HV.out, e1, decide_eq_false h2]; rfl)
        clear h1 h2 e1 HV
        go_enter Tryz.func28, Tryz.ntmps28
        go_wp2_with (go_at_call 57; refine (rpack_all s _ HS.out).mono ?_; rintro e w1 ⟨⟨v, rfl⟩, hb⟩; rw [HF.out])
        go_ret
        exact ⟨by rw [HR.out]; rfl, hb⟩
    · have h1' : decide ((16 : Int) ≤ s.size) = false := by simp; omega
      have HR := Lib.hid (show shp s = false by rw [HV.out, decide_eq_false h1]; rfl)
      clear h1 HV
      go_enter Tryz.func28, Tryz.ntmps28
      go_wp2_with (go_at_call 57; refine (rpack_all s _ HS.out).mono ?_; rintro e w1 ⟨⟨v, rfl⟩, hb⟩; rw [HF.out])
      go_ret
      exact ⟨by rw [HR.out]; rfl, hb⟩
  · have HR := Lib.hid (show shp s = false by
      cases h : shp s with
      | false => rfl
      | true =>
        obtain ⟨h1, _, h3⟩ := shp_parts h
        exact absurd (fault_ok h1 (by rw [Array.length_toList]; show s.size ≤ 999; omega)) hf)
    have hf' : (faultOf s.data.toList == 0) = false := by simpa using hf
    clear hf
    go_enter Tryz.func28, Tryz.ntmps28
    go_wp2_with (go_at_call 57; refine (rpack_all s _ HS.out).mono ?_; rintro e w1 ⟨⟨v, rfl⟩, hb⟩)
    go_ret
    exact ⟨by rw [HR.out]; rfl, hb⟩

theorem ris_any (s : ByteArray) (w : World) (hs : s.size ≤ maxLen) :
    Calls Tryz.prog 43 #[.string s] w fun e w' => e = .returned (.bool (isV s)) ∧ Below w.heap.size w w' := by
  cases hz : shp s with
  | false =>
    have HR := Lib.hid (show isV s = false by unfold isV; rw [hz]; rfl)
    have HZ := Lib.hid hz
    clear hz
    go_enter Tryz.func43, Tryz.ntmps43
    go_wp2_with (go_at_call 28; refine (rshaped_any s _ hs).mono ?_; rintro e w1 ⟨rfl, hb⟩; rw [HZ.out])
    go_ret
    exact ⟨by rw [HR.out]; rfl, hb⟩
  | true =>
    have HR := Lib.hid (show isV s = validB s by unfold isV; rw [hz]; rfl)
    have HZ := Lib.hid hz
    clear hz
    go_enter Tryz.func43, Tryz.ntmps43
    go_wp2_with (first | (go_at_call 28; refine (rshaped_any s _ hs).mono ?_; rintro e w1 ⟨rfl, hb⟩; rw [HZ.out]) | (go_at_call 81; refine (rvalid_any s _ hs).mono ?_; rintro e w2 ⟨rfl, rfl⟩))
    go_ret
    exact ⟨by rw [HR.out]; rfl, hb⟩

set_option maxHeartbeats 800000 in
theorem rcut11_any (s : ByteArray) (w : World) (hs : s.size ≤ maxLen) :
    Calls Tryz.prog 83 #[.string s] w fun e w' => e = .returned (.tuple #[.string (pB s), .string (pM s), .string (pL s), .int .i64 (cutE s)]) ∧ Below w.heap.size w w' := by
  have HS := Lib.hid hs
  unfold maxLen at hs
  cases hz : shp s with
  | false =>
    have HR := Lib.hid (show pB s = ⟨#[]⟩ ∧ pM s = ⟨#[]⟩ ∧ pL s = ⟨#[]⟩ ∧ cutE s = 10 from ⟨pB_no hz, pM_no hz, pL_no hz, by unfold cutE; rw [hz]; rfl⟩)
    have HZ := Lib.hid hz
    clear hz
    go_enter Tryz.func83, Tryz.ntmps83
    go_wp2_with (go_at_call 28; refine (rshaped_any s _ HS.out).mono ?_; rintro e w1 ⟨rfl, hb⟩; rw [HZ.out])
    exact bodyPost_ret (v := .tuple #[.string ⟨#[]⟩, .string ⟨#[]⟩, .string ⟨#[]⟩, .int .i64 10]) (by simp [results, Tryz.results83, go_sem]) rfl ⟨by rw [HR.out.1, HR.out.2.1, HR.out.2.2.1, HR.out.2.2.2], hb⟩
  | true =>
    obtain ⟨_, h1, h2⟩ := shp_parts hz
    obtain ⟨n, hn, hn2⟩ : ∃ n : Nat, (s.size : Int) - 4 = n ∧ n = s.size - 4 := ⟨s.size - 4, by omega, rfl⟩
    have hns : n ≤ s.size := by omega
    have hn6 : 6 ≤ n := by omega
    have HR := Lib.hid (show pB s = s.extract 0 6 ∧ pM s = s.extract 6 n ∧ pL s = s.extract n s.size ∧ cutE s = 0 from ⟨pB_yes hz, by rw [pM_yes hz, hn2], by rw [pL_yes hz, hn2], by unfold cutE; rw [hz]; rfl⟩)
    have HZ := Lib.hid hz
    clear hz hn2
    go_enter Tryz.func83, Tryz.ntmps83
    go_wp2_with (go_at_call 28; refine (rshaped_any s _ HS.out).mono ?_; rintro e w1 ⟨rfl, hb⟩; rw [HZ.out])
    go_quiet (fail)
    go_wp2_with fail
    exact bodyPost_ret (v := .tuple #[.string (s.extract 0 6), .string (s.extract 6 n), .string (s.extract n s.size), .int .i64 0]) (by simp [results, Tryz.results83, go_sem]) rfl ⟨by rw [HR.out.1, HR.out.2.1, HR.out.2.2.1, HR.out.2.2.2], drawn hb _⟩

theorem stars_succ (k : Nat) : stars k ++ ⟨#[42]⟩ = stars (k + 1) := by
  apply ba_ext
  rw [app_list]
  show List.replicate k (42 : UInt8) ++ [42] = List.replicate (k + 1) 42
  rw [List.replicate_succ']

end Go.Proofs.YthmlcmlpmolmoaaGreatDoor
/- Law VaultApart (layer 14). -/
namespace Go.Proofs.YthmlcmlpmolmoaaGreatDoor
set_option maxRecDepth 100000
open Go.RowKit
set_option maxHeartbeats 1600000 in
theorem apart14_bad (hN : NewOk) (hB : NewBad) (A : Option Addr) (n c : Nat) (key : Nat → Nat) (t V : Int) (s s2 : ByteArray) (w : World) (hk : vok n t V = false) (hl : n ≤ 140737488351232) (hA : SlB w A n key) (hnil : A = none → n = 0 ∧ c = 0) (ht : Tabs w) :
    Calls Tryz.prog 5 #[.slice A n c, .int .i64 t, .int .i64 V, .string s, .string s2] w fun e w' => e = .returned (.bool true) ∧ Below w.heap.size w w' := by
  have HS := Lib.hid (small14_any hN w ht)
  have HB := Lib.hid (show ∀ W, Below w.heap.size w W → Calls Tryz.prog 12 #[.slice A n c, .int .i64 t, .int .i64 V] W fun e w' => e = .returned (.tuple #[.pointer none, .int .i64 1]) ∧ Below W.heap.size W w' from fun W h => hB A n c key t V W hk hl (hA.keep h) hnil (ht.keep h))
  clear hA hnil ht hk hl hN hB
  go_enter Tryz.func5, Tryz.ntmps5
  go_wp2_with fail
  refine HS.out.mono ?_
  rintro e w1 ⟨rfl, hb1⟩
  have HB1 := Lib.hid hb1
  clear hb1
  go_wp2_with fail
  refine (HB.out w1 HB1.out).mono ?_
  rintro e w2 ⟨rfl, hb2⟩
  have HB2 := Lib.hid (HB1.out.trans (hb2.mono HB1.out.size))
  clear hb2
  go_wp2_with fail
  go_ret
  exact ⟨rfl, HB2.out⟩
set_option maxHeartbeats 3200000 in
theorem apart14_good (hN : NewOk) (A : Option Addr) (n c : Nat) (key : Nat → Nat) (t V : Int) (s s2 : ByteArray) (w : World) (hk : vok n t V = true) (hs : s.size ≤ maxLen) (hs2 : s2.size ≤ maxLen) (hA : SlB w A n key) (hnil : A = none → n = 0 ∧ c = 0) (ht : Tabs w) :
    Calls Tryz.prog 5 #[.slice A n c, .int .i64 t, .int .i64 V, .string s, .string s2] w fun e w' => e = .returned (.bool true) ∧ Below w.heap.size w w' := by
  have HS := Lib.hid (small14_any hN w ht)
  have HN := Lib.hid (show ∀ W, Below w.heap.size w W → _ from fun W h => hN A n c key t V w W hk (hA.keep h) hnil ht h)
  have HT := Lib.hid ht
  have HZ := Lib.hid (show s.size ≤ maxLen ∧ s2.size ≤ maxLen from ⟨hs, hs2⟩)
  clear hA hnil ht hk hN hs hs2
  go_enter Tryz.func5, Tryz.ntmps5
  go_wp2_with fail
  refine HS.out.mono ?_
  rintro e w1 ⟨rfl, hb1⟩
  have HB1 := Lib.hid hb1
  clear hb1
  go_wp2_with fail
  refine (HN.out w1 HB1.out).mono ?_
  rintro e w2 ⟨G, S, VA, rfl, hkit, hv, _, _⟩
  have HK := Lib.hid hkit
  have HV := Lib.hid hv
  have HR := Lib.hid (hkit.rng _ _ hv)
  clear hkit hv HN HS
  generalize vK n key t = K at *
  go_wp2_with fail
  refine (HK.out.token w2 V s HV.out HZ.out.1).mono ?_
  rintro e w3 ⟨rfl, hv3, _⟩
  have HV3 := Lib.hid hv3
  clear hv3
  go_wp2_with fail
  refine (HK.out.token w3 V s2 HV3.out HZ.out.2).mono ?_
  rintro e w4 ⟨rfl, hv4, _⟩
  have HB4 := Lib.hid (HK.out.bel _ _ hv4)
  clear hv4
  cases h1 : isV s with
  | false =>
    rw [vtE_no h1]
    clear h1
    generalize vtE s2 = e2 at *
    generalize vtV K V s2 = x2 at *
    generalize vtV K V s = x1 at *
    go_wp2_with fail
    go_ret
    exact ⟨rfl, HB4.out⟩
  | true =>
    rw [vtE_ok h1]
    cases h2 : isV s2 with
    | false =>
      rw [vtE_no h2]
      clear h1 h2
      generalize vtV K V s2 = x2 at *
      generalize vtV K V s = x1 at *
      go_wp2_with fail
      go_ret
      exact ⟨rfl, HB4.out⟩
    | true =>
      rw [vtE_ok h2]
      obtain ⟨k1, k2, k3, k4⟩ := vt_tk (K := K) h1 HR.out.1 HR.out.2
      have HTB := Lib.hid (HT.out.keep HB4.out)
      have HX := Lib.hid (Nat.le_trans (vt_le (K := K) s HR.out.1 HR.out.2) (show 41 ≤ maxLen by unfold maxLen; decide))
      have hsE : splE (vtV K V s) = 0 := if_pos k4
      have hsV : splV (vtV K V s) = vEn (K V) s := (if_pos k4).trans k2
      have hsN : splN (vtV K V s) = V := (if_pos k4).trans k3
      obtain ⟨p1, p2, p3, p4, p5⟩ := vEn_parts (K V) (isV_shp h1)
      have HSP := Lib.hid (fun W (hW : PT W) => split_any (vtV K V s) W HX.out hW)
      rw [hsE, hsV, hsN] at HSP
      have HSH := Lib.hid (fun W => rshaped_any (vEn (K V) s) W (by rw [p5]; exact HZ.out.1))
      rw [p1] at HSH
      have HMA := Lib.hid (fun W (hW : PT W) => mask_any (vEn (K V) s) W (by rw [p5]; exact HZ.out.1) hW)
      have hme : maskS (vEn (K V) s) = maskS s := by
        obtain ⟨_, _, e3, e4, _⟩ := enc_fine (n := 8) (key := K V) (t := (twS s).size) (T := by_ (twS s)) (mid_hE (isV_shp h1))
        exact mask_same (isV_shp h1) e3 ((hE_zero (by have := pM_size (isV_shp h1); have := isV_size h1; omega) (by have := pM_le s; omega)).1 e4)
      rw [hme] at HMA
      have HMB := Lib.hid (fun W (hW : PT W) => mask_any s W HZ.out.1 hW)
      have hxy : ((vtV K V s).toList == (vtV K V s2).toList) = (s.toList == s2.toList) := by
        rw [str_dec, str_dec]
        refine decide_eq_decide.2 ⟨fun h => vt_inj h1 h2 HR.out.1 HR.out.2 h, fun h => by rw [h]⟩
      have hpz : ((vEn (K V) s).size : Int) = (s.size : Int) := by rw [p5]
      clear h1 h2 k1 k2 k3 k4 hsE hsV hsN p1 p2 p3 p4 p5 hme
      generalize vtV K V s2 = x2 at *
      generalize vtV K V s = x1 at *
      generalize vEn (K V) s = d at *
      generalize maskS s = m at *
      go_wp2_with fail
      refine (HSP.out w4 HTB.out.pt).mono ?_
      rintro e w5 ⟨rfl, hb5⟩
      have HB5 := Lib.hid (HB4.out.trans (hb5.mono HB4.out.size))
      clear hb5
      go_wp2_with fail
      refine (HSH.out w5).mono ?_
      rintro e w6 ⟨rfl, hb6⟩
      have HB6 := Lib.hid (HB5.out.trans (hb6.mono HB5.out.size))
      clear hb6
      go_wp2_with fail
      refine (HMA.out w6 (HT.out.keep HB6.out).pt).mono ?_
      rintro e w7 ⟨rfl, hb7⟩
      have HB7 := Lib.hid (HB6.out.trans (hb7.mono HB6.out.size))
      clear hb7
      go_wp2_with fail
      refine (HMB.out w7 (HT.out.keep HB7.out).pt).mono ?_
      rintro e w8 ⟨rfl, hb8⟩
      have HB8 := Lib.hid (HB7.out.trans (hb8.mono HB7.out.size))
      clear hb8
      go_wp2_with fail
      go_ret
      exact ⟨rfl, HB8.out⟩
theorem apart14_any (hN : NewOk) (hB : NewBad) (A : Option Addr) (n c : Nat) (key : Nat → Nat) (t V : Int) (s s2 : ByteArray) (w : World) (hl : n ≤ 140737488351232) (hs : s.size ≤ maxLen) (hs2 : s2.size ≤ maxLen) (hA : SlB w A n key) (hnil : A = none → n = 0 ∧ c = 0) (ht : Tabs w) :
    Calls Tryz.prog 5 #[.slice A n c, .int .i64 t, .int .i64 V, .string s, .string s2] w fun e w' => e = .returned (.bool true) ∧ Below w.heap.size w w' := by
  cases hk : vok n t V with
  | false => exact apart14_bad hN hB A n c key t V s s2 w hk hl hA hnil ht
  | true => exact apart14_good hN A n c key t V s s2 w hk hs hs2 hA hnil ht
end Go.Proofs.YthmlcmlpmolmoaaGreatDoor
/- Law VaultRotates (layer 14). -/
namespace Go.Proofs.YthmlcmlpmolmoaaGreatDoor
set_option maxRecDepth 100000
open Go.RowKit
set_option maxHeartbeats 3200000 in
theorem rotates14_any (hN : NewOk) (hB : NewBad) (t V m : Int) (s : ByteArray) (w : World) (hs : s.size ≤ maxLen) (ht : Tabs w) :
    Calls Tryz.prog 6 #[.int .i64 t, .int .i64 V, .int .i64 m, .string s] w fun e w' => e = .returned (.bool true) ∧ Below w.heap.size w w' := by
  have HS := Lib.hid (small14_any hN w ht)
  have HT := Lib.hid ht
  have HZ := Lib.hid hs
  have hmk : ∀ W : World, (Instr.makeSlice 22 (.int .i64 20) (.int .i64 20)).run Tryz.prog W = .ok (.slice (some ⟨W.heap.size, 0, none⟩) 20 20) (W.alloc (.cells (madeCells #[.int .u8 0] 20) 5)) := fun W => mk8 20 (by decide) W
  have HNN := Lib.hid hN
  have HNB := Lib.hid hB
  clear ht hs hN hB
  go_enter Tryz.func6, Tryz.ntmps6
  go_wp2_with fail
  refine HS.out.mono ?_
  rintro e w1 ⟨rfl, hb1⟩
  have HB1 := Lib.hid hb1
  clear hb1
  go_wp2_with fail
  have HM := Lib.hid (madeN 20 w1)
  have HB2 := Lib.hid (HB1.out.trans ((alloc_below w1 (.cells (madeCells #[.int .u8 0] 20) 5)).mono HB1.out.size))
  generalize hA2 : (some ⟨w1.heap.size, 0, none⟩ : Option Addr) = A2 at *
  have hA2n : A2 = none → 20 = 0 ∧ 20 = 0 := fun h => by rw [← hA2] at h; cases h
  generalize w1.alloc (.cells (madeCells #[.int .u8 0] 20) 5) = w2 at *
  cases hok : vok 20 t V with
  | false =>
    refine (HNB.out A2 20 20 _ t V w2 hok (by decide) HM.out hA2n (HT.out.keep HB2.out)).mono ?_
    rintro e w3 ⟨rfl, hb3⟩
    have HB3 := Lib.hid (HB2.out.trans (hb3.mono HB2.out.size))
    clear hb3 hmk hA2n hA2 hok
    go_wp2_with fail
    go_ret
    exact ⟨rfl, HB3.out⟩
  | true =>
    refine (HNN.out A2 20 20 _ t V w w2 hok HM.out hA2n HT.out HB2.out).mono ?_
    rintro e w3 ⟨G, S, VA, rfl, hkit, hv, _, _⟩
    have HK := Lib.hid hkit
    have HV := Lib.hid hv
    clear hkit hv hmk hA2n hA2 hok HNN HNB
    generalize vK 20 (fun _ => 0) t = K at *
    go_wp2_with fail
    obtain ⟨b, hb⟩ : ∃ b : Nat, m % 32 = (b : Int) := ⟨(m % 32).toNat, by omega⟩
    have hbb : bits BinOp.and .i64 m 31 = (b : Nat) := by rw [← hb]; exact i64_mask 5 31 (by decide) rfl m
    have hb31 : b ≤ 31 := by omega
    clear hb
    go_loopw [12, 13] (fun now i wr => ∃ (W : Int) (k fu : Nat), now = .int .i64 W ∧ i = .int .i64 k ∧ k ≤ b ∧ b ≤ fu + k ∧ VA fu wr W) (fun _ i _ => b - (intOf i).toNat)
    case atStart => exact ⟨V, 0, 1000, rfl, rfl, Nat.zero_le _, by omega, HV.out⟩
    case round =>
      obtain ⟨W, k, fu, rfl, rfl, hkb, hfu, hva⟩ := hrel
      have HVA := Lib.hid hva
      have hrg := HK.out.rng _ _ hva
      clear hva HV
      by_cases hlt : k < b
      · have hki : (k : Int) < (b : Nat) := by omega
        obtain ⟨fu, rfl⟩ : ∃ m, fu = m + 1 := ⟨fu - 1, by omega⟩
        go_wp2_with fail
        refine (HK.out.rotate wr W HVA.out).mono ?_
        rintro e w4 ⟨rfl, hv4, _⟩
        by_cases hW : W < 255
        · obtain ⟨W1, hW1⟩ : ∃ W1, W + 1 = W1 := ⟨_, rfl⟩
          rw [show roN W = W1 from (if_pos hW).trans hW1] at hv4
          rw [show roV W = W1 from (if_pos hW).trans hW1, show roE W = 0 from if_pos hW]
          have HV4 := Lib.hid hv4
          have hne : (W == 255) = false := by simp; omega
          have hw1 : 1 ≤ W1 := by omega
          have hw2 : W1 ≤ 255 := by omega
          clear hv4 HVA
          go_wp2_with fail
          refine (HK.out.version w4 W1 HV4.out).mono ?_
          rintro e w5 ⟨rfl, hv5, _⟩
          have HV5 := Lib.hid hv5
          clear hv5 HV4
          go_wp2_with fail
          go_roundw
          case rel => exact ⟨W1, k + 1, fu, rfl, by go_num, by omega, by omega, HV5.out⟩
          case measure => simp [intOf]; omega
        · obtain rfl : W = 255 := by omega
          have HV4 := Lib.hid (show VA fu w4 255 from hv4)
          rw [show roV 255 = 0 from rfl, show roE 255 = 14 from rfl]
          clear hv4 HVA hrg
          go_wp2_with fail
          refine (HK.out.version w4 255 HV4.out).mono ?_
          rintro e w5 ⟨rfl, hv5, _⟩
          have HV5 := Lib.hid hv5
          clear hv5 HV4
          go_wp2_with fail
          go_roundw
          case rel => exact ⟨255, k + 1, fu, rfl, by go_num, by omega, by omega, HV5.out⟩
          case measure => simp [intOf]; omega
      · obtain rfl : k = b := by omega
        go_wp2_with fail
        refine (HK.out.token wr W s HVA.out HZ.out).mono ?_
        rintro e w4 ⟨rfl, hv4, _⟩
        have HB4 := Lib.hid (HK.out.bel _ _ hv4)
        have HTB := Lib.hid (HT.out.keep HB4.out)
        clear hv4
        cases h1 : isV s with
        | false =>
          rw [vtE_no h1]
          have HIS := Lib.hid (fun W (hW : PT W) => isc_any s W HZ.out hW)
          rw [h1] at HIS
          clear h1
          generalize vtV K W s = x1 at *
          go_wp2_with fail
          refine (HIS.out w4 HTB.out.pt).mono ?_
          rintro e w5 ⟨rfl, hb5⟩
          have HB5 := Lib.hid (HB4.out.trans (hb5.mono HB4.out.size))
          clear hb5
          go_wp2_with fail
          go_ret
          exact ⟨rfl, HB5.out⟩
        | true =>
          rw [vtE_ok h1]
          obtain ⟨k1, k2, k3, k4⟩ := vt_tk (K := K) h1 hrg.1 hrg.2
          have HX := Lib.hid (Nat.le_trans (vt_le (K := K) s hrg.1 hrg.2) (show 41 ≤ maxLen by unfold maxLen; decide))
          have hsE : splE (vtV K W s) = 0 := if_pos k4
          have hsN : splN (vtV K W s) = W := (if_pos k4).trans k3
          have HSP := Lib.hid (fun W' (hW : PT W') => split_any (vtV K W s) W' HX.out hW)
          rw [hsE, hsN] at HSP
          clear h1 k1 k2 k3 k4 hsE hsN
          generalize splV (vtV K W s) = d at *
          generalize vtV K W s = x1 at *
          go_wp2_with fail
          refine (HSP.out w4 HTB.out.pt).mono ?_
          rintro e w5 ⟨rfl, hb5⟩
          have HB5 := Lib.hid (HB4.out.trans (hb5.mono HB4.out.size))
          clear hb5
          go_wp2_with fail
          go_ret
          exact ⟨rfl, HB5.out⟩
end Go.Proofs.YthmlcmlpmolmoaaGreatDoor
/- Sums of weights. -/
namespace Go.Proofs.YthmlcmlpmolmoaaGreatDoor
open Go.RowKit

/-- the sum of weights of k digits D -/
def gsum (N f : Nat) (D : Nat → Nat) : Nat → Nat
  | 0 => 0
  | k + 1 => gsum N f D k + wt (N - 1 - k + f) (D k)
theorem psum_g (N f : Nat) (s : ByteArray) (k : Nat) : psum N f s k = gsum N f (dg s) k := by
  induction k with
  | zero => rfl
  | succ k ih => simp only [psum, gsum]; rw [ih]
theorem gsum_congr (N f : Nat) (D E : Nat → Nat) (k : Nat) (h : ∀ i, i < k → D i = E i) : gsum N f D k = gsum N f E k := by
  induction k with
  | zero => rfl
  | succ k ih => simp only [gsum]; rw [ih (fun i hi => h i (by omega)), h k (by omega)]
/-- one digit turned -/
theorem gsum_set (N f : Nat) (D : Nat → Nat) (a y : Nat) (k : Nat) (h : a < k) :
    gsum N f (fun i => if i = a then y else D i) k + wt (N - 1 - a + f) (D a) = gsum N f D k + wt (N - 1 - a + f) y := by
  induction k with
  | zero => omega
  | succ k ih =>
    simp only [gsum]
    rcases Nat.lt_or_ge a k with h' | h'
    · rw [if_neg (by omega)]; have := ih h'; omega
    · obtain rfl : a = k := by omega
      rw [if_pos rfl, gsum_congr N f _ D a (fun i hi => if_neg (by omega))]; omega
theorem wt_inj : ∀ p < 2, ∀ x < 10, ∀ y < 10, x ≠ y → (wt p x + 10 - wt p y) % 10 ≠ 0 := by decide
theorem wt_mod (p d : Nat) : wt p d = wt (p % 2) d := by unfold wt; rw [Nat.mod_mod]
def two_ok (p x y : Nat) : Bool := x == y || (x == 0 && y == 9) || (x == 9 && y == 0) || (wt p x + wt (1 - p) y + 20 - (wt p y + wt (1 - p) x)) % 10 != 0
theorem two_all : ∀ p < 2, ∀ x < 10, ∀ y < 10, two_ok p x y = true := by decide
theorem wt_two (p : Nat) (hp : p < 2) (x : Nat) (hx : x < 10) (y : Nat) (hy : y < 10) : x = y ∨ x = 0 ∧ y = 9 ∨ x = 9 ∧ y = 0 ∨ (wt p x + wt (1 - p) y + 20 - (wt p y + wt (1 - p) x)) % 10 ≠ 0 := by
  have h := two_all p hp x hx y hy
  unfold two_ok at h
  simp only [Bool.or_eq_true, Bool.and_eq_true, beq_iff_eq, bne_iff_ne] at h
  rcases h with ((h | h) | h) | h
  · exact Or.inl h
  · exact Or.inr (Or.inl h)
  · exact Or.inr (Or.inr (Or.inl h))
  · exact Or.inr (Or.inr (Or.inr h))
theorem valid_iff (s : ByteArray) (h : validB s = true) : s.data.toList.all isDig = true ∧ s.size ≤ 999 ∧ 0 < s.size ∧ gsum s.size 0 (dg s) s.size % 10 = 0 := by
  unfold validB at h
  simp only [Bool.and_eq_true, decide_eq_true_eq] at h
  obtain ⟨h1, h2, h3⟩ := h
  obtain ⟨h4, h5⟩ := fault_zero h2
  exact ⟨h4, by rw [Array.length_toList] at h5; exact h5, h1, by rw [← psum_g]; exact h3⟩
theorem invalid_of {s : ByteArray} (h : gsum s.size 0 (dg s) s.size % 10 ≠ 0) : validB s = false := by
  cases hv : validB s
  · rfl
  · exact absurd (valid_iff s hv).2.2.2 h
theorem dg_strOf (n : Nat) (b : Nat → Nat) (i : Nat) (h : i < n) (hb : b i < 256) : dg (strOf n b) i = b i - 48 := by
  unfold dg; rw [strOf_at n b 48 i h hb]
theorem by_dg (s : ByteArray) (i : Nat) (h : i < s.size) (hd : s.data.toList.all isDig = true) : by_ s i = 48 + dg s i ∧ dg s i ≤ 9 := by
  have h1 := dig_at s i h hd
  have h2 := dg_eq s i h
  unfold by_
  rw [List.getD_eq_getElem?_getD, List.getElem?_eq_getElem (by rw [Array.length_toList]; exact h)]
  show (s[i]).toNat = _ ∧ _
  omega
end Go.Proofs.YthmlcmlpmolmoaaGreatDoor
/- Layer 14: two digits of the middle exchanged, an even number of places apart. -/
namespace Go.Proofs.YthmlcmlpmolmoaaGreatDoor
set_option maxRecDepth 100000
open Go.RowKit
def swp (f : Nat → Nat) (x y j : Nat) : Nat := if j = y then f x else if j = x then f y else f j
theorem gsum_swp (N : Nat) (D : Nat → Nat) (p q : Nat) (hpq : p ≤ q) (hq : q < N) (he : (q - p) % 2 = 0) : gsum N 0 (swp D p q) N = gsum N 0 D N := by
  rcases Nat.lt_or_ge p q with h | h
  · have h1 := gsum_set N 0 D p (D q) N (by omega)
    have h2 := gsum_set N 0 (fun i => if i = p then D q else D i) q (D p) N hq
    have hw : ∀ d, wt (N - 1 - p + 0) d = wt (N - 1 - q + 0) d := fun d => by
      rw [wt_mod, wt_mod (N - 1 - q + 0)]
      congr 1
      omega
    have e : gsum N 0 (swp D p q) N = gsum N 0 (fun i => if i = q then D p else if i = p then D q else D i) N := gsum_congr _ _ _ _ _ fun i _ => rfl
    rw [e]
    have h2' : (fun i => if i = p then D q else D i) q = D q := if_neg (by omega)
    simp only [h2'] at h2
    rw [hw, hw] at h1
    omega
  · obtain rfl : p = q := by omega
    refine gsum_congr _ _ _ _ _ fun i _ => ?_
    unfold swp
    by_cases e : i = p
    · rw [if_pos e, e]
    · rw [if_neg e, if_neg e]
theorem ext_strOf (s : ByteArray) (a b : Nat) (h : a ≤ b) (hb : b ≤ s.size) : s.extract a b = strOf (b - a) (fun i => by_ s (a + i)) := by
  apply ba_ext
  rw [ext_list, strOf_list]
  apply List.ext_getElem?
  intro j
  by_cases hj : j < b - a
  · rw [List.getElem?_take, if_pos hj, List.getElem?_drop, at_list s (a + j) (by omega), List.getElem?_map, List.getElem?_range hj]
    show _ = some (chr (by_ s (a + j)))
    unfold by_ chr
    rw [List.getD_eq_getElem?_getD, at_list s (a + j) (by omega)]
    show some _ = some (UInt8.ofNat (s[a + j]).toNat)
    rw [UInt8.ofNat_toNat]
  · rw [List.getElem?_eq_none (by rw [List.length_take]; omega), List.getElem?_eq_none (by simp; omega)]
/-- the whole, with two digits of its middle exchanged -/
theorem swp_whole {s : ByteArray} (hz : shp s = true) {x y : Nat} (hxy : x ≤ y) (hy : y < (pM s).size) :
    pB s ++ strOf (pM s).size (swp (by_ (pM s)) x y) ++ pL s = strOf s.size (swp (by_ s) (6 + x) (6 + y)) := by
  obtain ⟨hall, h1, h2⟩ := shp_parts hz
  have hm := pM_size hz
  have e1 : pB s = strOf 6 (by_ s) := by
    rw [pB_yes hz, ext_strOf s 0 6 (by omega) (by omega)]
    exact strOf_congr _ _ _ fun i _ => by rw [Nat.zero_add]
  have e3 : pL s = strOf 4 (fun i => by_ s (s.size - 4 + i)) := by
    rw [pL_yes hz, ext_strOf s (s.size - 4) s.size (by omega) (Nat.le_refl _), show s.size - (s.size - 4) = 4 by omega]
  have eM : ∀ j, j < (pM s).size → by_ (pM s) j = by_ s (6 + j) := fun j hj => by
    unfold by_
    rw [pM_yes hz, ext_list, List.getD_eq_getElem?_getD, List.getD_eq_getElem?_getD, List.getElem?_take, if_pos (by omega), List.getElem?_drop]
  rw [e1, e3, strOf_cat 6 (pM s).size (by_ s) (swp (by_ (pM s)) x y) (swp (by_ s) (6 + x) (6 + y)), strOf_cat (6 + (pM s).size) 4 _ _ (swp (by_ s) (6 + x) (6 + y)) (fun i _ => rfl), show 6 + (pM s).size + 4 = s.size by omega]
  · intro i hi
    unfold swp
    rw [if_neg (by omega), if_neg (by omega)]
    congr 1
    omega
  · intro i hi
    unfold swp
    rw [if_neg (by omega), if_neg (by omega)]
  · intro i hi
    unfold swp
    simp only [Nat.add_left_cancel_iff]
    by_cases ey : i = y
    · rw [if_pos ey, if_pos ey, eM x (by omega)]
    · rw [if_neg ey, if_neg ey]
      by_cases ex : i = x
      · rw [if_pos ex, if_pos ex, eM y hy]
      · rw [if_neg ex, if_neg ex, eM i hi]
theorem swp_card {s : ByteArray} (h : isV s = true) {x y : Nat} (hxy : x ≤ y) (hy : y < (pM s).size) (he : (y - x) % 2 = 0) :
    isV (pB s ++ strOf (pM s).size (swp (by_ (pM s)) x y) ++ pL s) = true := by
  have hz := isV_shp h
  obtain ⟨hall, h1, h2⟩ := shp_parts hz
  have hm := pM_size hz
  have hv : validB s = true := by
    unfold isV at h
    rw [Bool.and_eq_true] at h
    exact h.2
  obtain ⟨_, _, _, hg⟩ := valid_iff s hv
  rw [swp_whole hz hxy hy]
  have hdig : ∀ i, i < s.size → 48 ≤ by_ s i ∧ by_ s i ≤ 57 := fun i hi => by
    have := by_dg s i hi hall
    omega
  have hdd : ∀ i, i < s.size → 48 ≤ swp (by_ s) (6 + x) (6 + y) i ∧ swp (by_ s) (6 + x) (6 + y) i ≤ 57 := fun i hi => by
    unfold swp
    split
    · exact hdig _ (by omega)
    · split
      · exact hdig _ (by omega)
      · exact hdig i hi
  have hal : (strOf s.size (swp (by_ s) (6 + x) (6 + y))).data.toList.all isDig = true := strOf_all _ _ hdd
  have hgs : gsum s.size 0 (dg (strOf s.size (swp (by_ s) (6 + x) (6 + y)))) s.size = gsum s.size 0 (dg s) s.size := by
    rw [← gsum_swp s.size (dg s) (6 + x) (6 + y) (by omega) (by omega) (by omega)]
    refine gsum_congr _ _ _ _ _ fun i hi => ?_
    rw [dg_strOf _ _ i hi (by have := hdd i hi; omega)]
    unfold swp
    split
    · have := by_dg s (6 + x) (by omega) hall; omega
    · split
      · have := by_dg s (6 + y) (by omega) hall; omega
      · have := by_dg s i hi hall; omega
  unfold isV validB
  rw [shp_of hal (by rw [strOf_size]; exact h1) (by rw [strOf_size]; exact h2), fault_ok hal (by rw [Array.length_toList]; show (strOf s.size _).size ≤ 999; rw [strOf_size]; omega), psum_g, strOf_size, hgs, hg]
  simp
  omega
end Go.Proofs.YthmlcmlpmolmoaaGreatDoor
