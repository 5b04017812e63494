/-
  The walk of IntTexts.
-/
import Derived.Test.YtnkmoeihlfdjbaaRefW
/-! The walk of IntTexts. -/
namespace Go.Proofs.Ytnkmoeihlfdjbaa
open Go.RowKit
set_option linter.unusedVariables false
set_option linter.unusedSimpArgs false

theorem Zc.zero' (w : World) : Zc w false none 0 0 0 := ⟨⟨Rd.nil _ _ _, rfl, Nat.le_refl _, by omega⟩, Lib.hid rfl⟩
theorem Rz.zero' (w : World) : Rz w false none 0 0 0 := ⟨Dv.nil w, Lib.hid rfl⟩
theorem bys_zstr {z : Int} (h : z < 0) : bys (zstr z) = 45 :: dgs z.natAbs := by
  unfold zstr
  rw [if_pos h, bys_add, bys_str (dig_dgs z.natAbs).low]
  rfl
theorem bys_zstr' {z : Int} (h : ¬ z < 0) : bys (zstr z) = dgs z.natAbs := by
  unfold zstr
  rw [if_neg h, bys_str (dig_dgs z.natAbs).low]
theorem minus_zstr {z : Int} (h : z < 0) : Minus (zstr z) ∧ bys ((zstr z).extract 1 (zstr z).size) = dgs z.natAbs := by
  have e := bys_zstr h
  refine ⟨⟨?_, by rw [e]; rfl⟩, ?_⟩
  · rw [← bys_length, e]; simp
  · rw [bys_extract, e, List.drop_succ_cons, List.drop_zero, ← bys_length, e]
    exact List.take_of_length_le (by simp)
theorem not_minus_dig {s : ByteArray} (h : Dig (bys s)) : ¬ Minus s := by
  rintro ⟨h1, h2⟩
  have := h.at (k := 0) (by rw [bys_length]; exact h1)
  omega
theorem zparse_str {z : Int} (hnd : nd z.natAbs ≤ 20000) (w : World) :
    Calls Try.prog 42 #[.string (zstr z)] w (ZPowPost z 2048 w) := by
  have hl : (zstr z).size ≤ 9223372036854775807 := by
    rw [← bys_length]
    by_cases h : z < 0
    · rw [bys_zstr h, List.length_cons, dgs_length]; omega
    · rw [bys_zstr' h, dgs_length]; omega
  by_cases h : z < 0
  · obtain ⟨h1, h2⟩ := minus_zstr h
    have hN : Num (bys ((zstr z).extract 1 (zstr z).size)) := by rw [h2]; exact num_dgs hnd
    have hv0 : hv (bys ((zstr z).extract 1 (zstr z).size)) = z.natAbs := by rw [h2, hv_dgs]
    have := zparse_neg (zstr z) hl h1 hN (by rw [hv0]; omega) w
    rw [hv0, show -((z.natAbs : Nat) : Int) = z by omega] at this
    exact this
  · have e := bys_zstr' h
    have hN : Num (bys (zstr z)) := by rw [e]; exact num_dgs hnd
    have := zparse_pos (zstr z) hl (not_minus_dig hN.2.2.2) hN w
    rw [e, hv_dgs, show ((z.natAbs : Nat) : Int) = z by omega] at this
    exact this
/-- Of every text: both answer a number, of which it is the text; or both nothing. -/
def Reads (s : ByteArray) : Prop :=
  (∃ z, zstr z = s ∧ nd z.natAbs ≤ 300 ∧ (∀ w, Calls Try.prog 42 #[.string s] w (ZPowPost z 2048 w)) ∧ ∀ w, Calls Try.prog 43 #[.string s] w (RpPost z s.size w)) ∨
  ((∀ w, Calls Try.prog 42 #[.string s] w (ZNoPost w)) ∧ ∀ w, Calls Try.prog 43 #[.string s] w (ZNoPost w))
theorem reads (s : ByteArray) (hs : s.size ≤ 300) : Reads s := by
  by_cases h : Minus s
  · by_cases hN : Num (bys (s.extract 1 s.size))
    · by_cases h0 : hv (bys (s.extract 1 s.size)) = 0
      · exact .inr ⟨zparse_no2 s (by omega) h hN h0, fun w => rparse_no2 s h hN h0 w (by omega)⟩
      · refine .inl ⟨_, ?_, ?_, zparse_neg s (by omega) h hN (by omega), rparse_neg s (by omega) h hN (by omega)⟩
        · apply bys_inj
          rw [bys_zstr (by omega), Int.natAbs_neg, Int.natAbs_natCast, dgs_hv hN, bys_extract, ← bys_length s]
          have h2 := h.2
          have h1 := h.1
          rw [← bys_length] at h1
          match hb : bys s, h1 with
          | x :: l, _ =>
            rw [hb] at h2
            simp [nth] at h2
            subst h2
            simp
        · rw [Int.natAbs_neg, Int.natAbs_natCast, nd_hv hN, bys_length, ByteArray.size_extract]; omega
    · exact .inr ⟨zparse_no1 s (by omega) h hN, fun w => rparse_no1 s h hN w (by omega)⟩
  · by_cases hN : Num (bys s)
    · refine .inl ⟨_, ?_, ?_, zparse_pos s (by omega) h hN, rparse_pos s (by omega) h hN⟩
      · apply bys_inj
        rw [bys_zstr' (by omega), Int.natAbs_natCast, dgs_hv hN]
      · rw [Int.natAbs_natCast, nd_hv hN, bys_length]; omega
    · exact .inr ⟨zparse_no0 s (by omega) h hN, rparse_no0 s h hN⟩

set_option maxRecDepth 100000 in
set_option maxHeartbeats 2000000 in
theorem itexts_no {A : Option Addr} {n c : Nat} {s : Bool} {x : Int} {S : ByteArray} {w : World} (hx : Zv w s A n c x) (h1 : n ≤ 12) (h2 : S.size ≤ 300) (C1 : ∀ w, Calls Try.prog 42 #[.string S] w (ZNoPost w)) (C2 : ∀ w, Calls Try.prog 43 #[.string S] w (ZNoPost w)) :
    Calls Try.prog 8 #[.agg #[.bool s, .slice A n c], .string S] w (TruePost w) := by
  have hnd := nv_digits hx.abs.1 (by omega)
  have z0 := zba w (.cells #[.bool s, .slice A n c] 25)
  obtain ⟨w3, hw3⟩ : ∃ w', w' = w.alloc (.cells #[.bool s, .slice A n c] 25) := ⟨_, rfl⟩
  have IA : Ib w3 w.heap.size s A n c := by rw [hw3]; exact Ib.new _ _ _ _ _ _
  rw [← hw3] at z0
  have HW := Lib.hid hw3.symm
  replace hx := hx.below z0
  have hW := z0
  have H_a := Lib.hid IA
  obtain ⟨T, hT⟩ : ∃ T, zstr x = T := ⟨_, rfl⟩
  have HT := Lib.hid hT
  have HP := Lib.hid (fun w => zparse_str hnd w)
  rw [hT] at HP
  clear hw3 IA z0 hT
  have D1 := Lib.hid C1
  have D2 := Lib.hid C2
  clear C1 C2
  go_enter Try.func8, Try.ntmps8
  obtain ⟨a1, a2, a3, a4, a5⟩ := H_a.out
  go_wp2_with fail
  rw [HW.out]
  clear a1 a2 a3 a4 a5
  refine (zawake_calls _).mono ?_
  rintro e w21 ⟨rfl, B21⟩
  replace H_a := Lib.hid (H_a.out.below B21)
  replace hx := hx.below B21
  replace hW := hW.trans (B21.mono hW.size)
  clear B21
  obtain ⟨a1, a2, a3, a4, a5⟩ := H_a.out
  go_wp2_with fail
  clear a1 a2 a3 a4 a5
  refine (zprint_v hx (by omega)).mono ?_
  unfold ZPrPost
  rw [HT.out]
  rintro e w22 ⟨rfl, B22⟩
  replace H_a := Lib.hid (H_a.out.below B22)
  replace hx := hx.below B22
  replace hW := hW.trans (B22.mono hW.size)
  clear B22
  obtain ⟨a1, a2, a3, a4, a5⟩ := H_a.out
  go_wp2_with fail
  clear a1 a2 a3 a4 a5
  refine (HP.out _).mono ?_
  rintro e w23 ⟨s23, A23, n23, c23, rfl, pb, k23, B23⟩
  replace H_a := Lib.hid (H_a.out.below B23)
  replace hx := hx.below B23
  replace hW := hW.trans (B23.mono hW.size)
  clear B23
  have z24 := zba w23 (.cells #[.bool s23, .slice A23 n23 c23] 25)
  obtain ⟨w24, hw24⟩ : ∃ w', w' = w23.alloc (.cells #[.bool s23, .slice A23 n23 c23] 25) := ⟨_, rfl⟩
  have I24 : Ib w24 w23.heap.size s23 A23 n23 c23 := by rw [hw24]; exact Ib.new _ _ _ _ _ _
  rw [← hw24] at z24
  have HW24 := Lib.hid hw24.symm
  have O_a := H_a
  replace H_a := Lib.hid (H_a.out.below z24)
  replace hx := hx.below z24
  replace pb := pb.below z24
  replace hW := hW.trans (z24.mono hW.size)
  have H_b := Lib.hid I24
  clear z24 hw24 I24
  obtain ⟨a1, a2, a3, a4, a5⟩ := O_a.out
  go_wp2_with fail
  rw [HW24.out]
  clear a1 a2 a3 a4 a5 O_a
  refine (D1.out _).mono ?_
  rintro e w25 ⟨rfl, B25⟩
  replace H_a := Lib.hid (H_a.out.below B25)
  replace H_b := Lib.hid (H_b.out.below B25)
  replace hx := hx.below B25
  replace pb := pb.below B25
  replace hW := hW.trans (B25.mono hW.size)
  clear B25
  have z26 := zba w25 (.cells #[.bool false, .slice none 0 0] 25)
  obtain ⟨w26, hw26⟩ : ∃ w', w' = w25.alloc (.cells #[.bool false, .slice none 0 0] 25) := ⟨_, rfl⟩
  have I26 : Ib w26 w25.heap.size false none 0 0 := by rw [hw26]; exact Ib.new _ _ _ _ _ _
  rw [← hw26] at z26
  have HW26 := Lib.hid hw26.symm
  have O_a := H_a
  have O_b := H_b
  replace H_a := Lib.hid (H_a.out.below z26)
  replace H_b := Lib.hid (H_b.out.below z26)
  replace hx := hx.below z26
  replace pb := pb.below z26
  replace hW := hW.trans (z26.mono hW.size)
  have H_c := Lib.hid I26
  clear z26 hw26 I26
  obtain ⟨a1, a2, a3, a4, a5⟩ := O_a.out
  obtain ⟨b1, b2, b3, b4, b5⟩ := O_b.out
  go_wp2_with fail
  rw [HW26.out]
  clear a1 a2 a3 a4 a5 b1 b2 b3 b4 b5 O_a O_b
  refine (D2.out _).mono ?_
  rintro e w27 ⟨rfl, B27⟩
  replace H_a := Lib.hid (H_a.out.below B27)
  replace H_b := Lib.hid (H_b.out.below B27)
  replace H_c := Lib.hid (H_c.out.below B27)
  replace hx := hx.below B27
  replace pb := pb.below B27
  replace hW := hW.trans (B27.mono hW.size)
  clear B27
  have z28 := zba w27 (.cells #[.bool false, .slice none 0 0] 30)
  obtain ⟨w28, hw28⟩ : ∃ w', w' = w27.alloc (.cells #[.bool false, .slice none 0 0] 30) := ⟨_, rfl⟩
  have I28 : Ib w28 w27.heap.size false none 0 0 := by rw [hw28]; exact Ib.new _ _ _ _ _ _
  rw [← hw28] at z28
  have HW28 := Lib.hid hw28.symm
  have O_a := H_a
  have O_b := H_b
  have O_c := H_c
  replace H_a := Lib.hid (H_a.out.below z28)
  replace H_b := Lib.hid (H_b.out.below z28)
  replace H_c := Lib.hid (H_c.out.below z28)
  replace hx := hx.below z28
  replace pb := pb.below z28
  replace hW := hW.trans (z28.mono hW.size)
  have H_z := Lib.hid I28
  clear z28 hw28 I28
  obtain ⟨a1, a2, a3, a4, a5⟩ := O_a.out
  go_wp2_with fail
  rw [HW28.out]
  clear a1 a2 a3 a4 a5 O_a O_b O_c
  refine (rfrom_v hx (by omega)).mono ?_
  rintro e w29 ⟨s29, A29, n29, c29, rfl, pf, k29, B29⟩
  replace H_a := Lib.hid (H_a.out.below B29)
  replace H_b := Lib.hid (H_b.out.below B29)
  replace H_c := Lib.hid (H_c.out.below B29)
  replace H_z := Lib.hid (H_z.out.below B29)
  replace hx := hx.below B29
  replace pb := pb.below B29
  replace hW := hW.trans (B29.mono hW.size)
  clear B29
  obtain ⟨a1, a2, a3, a4, a5⟩ := H_a.out
  obtain ⟨b1, b2, b3, b4, b5⟩ := H_b.out
  obtain ⟨c1, c2, c3, c4, c5⟩ := H_c.out
  obtain ⟨z1, z2, z3, z4, z5⟩ := H_z.out
  go_wp2_with fail
  clear a1 a2 a3 a4 a5 b1 b2 b3 b4 b5 c1 c2 c3 c4 c5 z1 z2 z3 z4 z5
  refine (rprintz_v pf (by omega) hnd).mono ?_
  unfold ZPrPost
  rw [HT.out]
  rintro e w30 ⟨rfl, B30⟩
  replace H_a := Lib.hid (H_a.out.below B30)
  replace H_b := Lib.hid (H_b.out.below B30)
  replace H_c := Lib.hid (H_c.out.below B30)
  replace H_z := Lib.hid (H_z.out.below B30)
  replace hx := hx.below B30
  replace pb := pb.below B30
  replace pf := pf.below B30
  replace hW := hW.trans (B30.mono hW.size)
  clear B30
  clear pf
  obtain ⟨a1, a2, a3, a4, a5⟩ := H_a.out
  obtain ⟨b1, b2, b3, b4, b5⟩ := H_b.out
  go_wp2_with fail
  clear a1 a2 a3 a4 a5 b1 b2 b3 b4 b5
  refine (zsame_yes hx pb.zv (by omega) (by omega) rfl).mono ?_
  rintro e w31 ⟨rfl, B31⟩
  replace H_a := Lib.hid (H_a.out.below B31)
  replace H_b := Lib.hid (H_b.out.below B31)
  replace H_c := Lib.hid (H_c.out.below B31)
  replace H_z := Lib.hid (H_z.out.below B31)
  replace hx := hx.below B31
  replace pb := pb.below B31
  replace hW := hW.trans (B31.mono hW.size)
  clear B31
  obtain ⟨c1, c2, c3, c4, c5⟩ := H_c.out
  obtain ⟨z1, z2, z3, z4, z5⟩ := H_z.out
  go_wp2_with fail
  clear c1 c2 c3 c4 c5 z1 z2 z3 z4 z5
  refine (ris_v (Zc.zero' _) (Rz.zero' _) (by omega) rfl).mono ?_
  rintro e w32 ⟨rfl, B32⟩
  replace H_a := Lib.hid (H_a.out.below B32)
  replace H_b := Lib.hid (H_b.out.below B32)
  replace H_c := Lib.hid (H_c.out.below B32)
  replace H_z := Lib.hid (H_z.out.below B32)
  replace hx := hx.below B32
  replace pb := pb.below B32
  replace hW := hW.trans (B32.mono hW.size)
  clear B32
  go_wp2_with fail
  go_ret
  exact ⟨rfl, hW⟩

set_option maxRecDepth 100000 in
set_option maxHeartbeats 2000000 in
theorem itexts_yes {A : Option Addr} {n c : Nat} {s : Bool} {x : Int} {S : ByteArray} {w : World} (hx : Zv w s A n c x) (h1 : n ≤ 12) (h2 : S.size ≤ 300) {z : Int} (hz : zstr z = S) (hzd : nd z.natAbs ≤ 300) (C1 : ∀ w, Calls Try.prog 42 #[.string S] w (ZPowPost z 2048 w)) (C2 : ∀ w, Calls Try.prog 43 #[.string S] w (RpPost z S.size w)) :
    Calls Try.prog 8 #[.agg #[.bool s, .slice A n c], .string S] w (TruePost w) := by
  have hnd := nv_digits hx.abs.1 (by omega)
  have z0 := zba w (.cells #[.bool s, .slice A n c] 25)
  obtain ⟨w3, hw3⟩ : ∃ w', w' = w.alloc (.cells #[.bool s, .slice A n c] 25) := ⟨_, rfl⟩
  have IA : Ib w3 w.heap.size s A n c := by rw [hw3]; exact Ib.new _ _ _ _ _ _
  rw [← hw3] at z0
  have HW := Lib.hid hw3.symm
  replace hx := hx.below z0
  have hW := z0
  have H_a := Lib.hid IA
  obtain ⟨T, hT⟩ : ∃ T, zstr x = T := ⟨_, rfl⟩
  have HT := Lib.hid hT
  have HP := Lib.hid (fun w => zparse_str hnd w)
  rw [hT] at HP
  clear hw3 IA z0 hT
  have D1 := Lib.hid C1
  have D2 := Lib.hid C2
  have HZ := Lib.hid hz
  clear hz
  clear C1 C2
  go_enter Try.func8, Try.ntmps8
  obtain ⟨a1, a2, a3, a4, a5⟩ := H_a.out
  go_wp2_with fail
  rw [HW.out]
  clear a1 a2 a3 a4 a5
  refine (zawake_calls _).mono ?_
  rintro e w21 ⟨rfl, B21⟩
  replace H_a := Lib.hid (H_a.out.below B21)
  replace hx := hx.below B21
  replace hW := hW.trans (B21.mono hW.size)
  clear B21
  obtain ⟨a1, a2, a3, a4, a5⟩ := H_a.out
  go_wp2_with fail
  clear a1 a2 a3 a4 a5
  refine (zprint_v hx (by omega)).mono ?_
  unfold ZPrPost
  rw [HT.out]
  rintro e w22 ⟨rfl, B22⟩
  replace H_a := Lib.hid (H_a.out.below B22)
  replace hx := hx.below B22
  replace hW := hW.trans (B22.mono hW.size)
  clear B22
  obtain ⟨a1, a2, a3, a4, a5⟩ := H_a.out
  go_wp2_with fail
  clear a1 a2 a3 a4 a5
  refine (HP.out _).mono ?_
  rintro e w23 ⟨s23, A23, n23, c23, rfl, pb, k23, B23⟩
  replace H_a := Lib.hid (H_a.out.below B23)
  replace hx := hx.below B23
  replace hW := hW.trans (B23.mono hW.size)
  clear B23
  have z24 := zba w23 (.cells #[.bool s23, .slice A23 n23 c23] 25)
  obtain ⟨w24, hw24⟩ : ∃ w', w' = w23.alloc (.cells #[.bool s23, .slice A23 n23 c23] 25) := ⟨_, rfl⟩
  have I24 : Ib w24 w23.heap.size s23 A23 n23 c23 := by rw [hw24]; exact Ib.new _ _ _ _ _ _
  rw [← hw24] at z24
  have HW24 := Lib.hid hw24.symm
  have O_a := H_a
  replace H_a := Lib.hid (H_a.out.below z24)
  replace hx := hx.below z24
  replace pb := pb.below z24
  replace hW := hW.trans (z24.mono hW.size)
  have H_b := Lib.hid I24
  clear z24 hw24 I24
  obtain ⟨a1, a2, a3, a4, a5⟩ := O_a.out
  go_wp2_with fail
  rw [HW24.out]
  clear a1 a2 a3 a4 a5 O_a
  refine (D1.out _).mono ?_
  rintro e w25 ⟨s25, A25, n25, c25, rfl, pc, k25, B25⟩
  replace H_a := Lib.hid (H_a.out.below B25)
  replace H_b := Lib.hid (H_b.out.below B25)
  replace hx := hx.below B25
  replace pb := pb.below B25
  replace hW := hW.trans (B25.mono hW.size)
  clear B25
  have z26 := zba w25 (.cells #[.bool s25, .slice A25 n25 c25] 25)
  obtain ⟨w26, hw26⟩ : ∃ w', w' = w25.alloc (.cells #[.bool s25, .slice A25 n25 c25] 25) := ⟨_, rfl⟩
  have I26 : Ib w26 w25.heap.size s25 A25 n25 c25 := by rw [hw26]; exact Ib.new _ _ _ _ _ _
  rw [← hw26] at z26
  have HW26 := Lib.hid hw26.symm
  have O_a := H_a
  have O_b := H_b
  replace H_a := Lib.hid (H_a.out.below z26)
  replace H_b := Lib.hid (H_b.out.below z26)
  replace hx := hx.below z26
  replace pb := pb.below z26
  replace pc := pc.below z26
  replace hW := hW.trans (z26.mono hW.size)
  have H_c := Lib.hid I26
  clear z26 hw26 I26
  obtain ⟨a1, a2, a3, a4, a5⟩ := O_a.out
  obtain ⟨b1, b2, b3, b4, b5⟩ := O_b.out
  go_wp2_with fail
  rw [HW26.out]
  clear a1 a2 a3 a4 a5 b1 b2 b3 b4 b5 O_a O_b
  refine (D2.out _).mono ?_
  rintro e w27 ⟨s27, A27, n27, c27, rfl, pz, k27, B27⟩
  replace H_a := Lib.hid (H_a.out.below B27)
  replace H_b := Lib.hid (H_b.out.below B27)
  replace H_c := Lib.hid (H_c.out.below B27)
  replace hx := hx.below B27
  replace pb := pb.below B27
  replace pc := pc.below B27
  replace hW := hW.trans (B27.mono hW.size)
  clear B27
  have z28 := zba w27 (.cells #[.bool s27, .slice A27 n27 c27] 30)
  obtain ⟨w28, hw28⟩ : ∃ w', w' = w27.alloc (.cells #[.bool s27, .slice A27 n27 c27] 30) := ⟨_, rfl⟩
  have I28 : Ib w28 w27.heap.size s27 A27 n27 c27 := by rw [hw28]; exact Ib.new _ _ _ _ _ _
  rw [← hw28] at z28
  have HW28 := Lib.hid hw28.symm
  have O_a := H_a
  have O_b := H_b
  have O_c := H_c
  replace H_a := Lib.hid (H_a.out.below z28)
  replace H_b := Lib.hid (H_b.out.below z28)
  replace H_c := Lib.hid (H_c.out.below z28)
  replace hx := hx.below z28
  replace pb := pb.below z28
  replace pc := pc.below z28
  replace pz := pz.below z28
  replace hW := hW.trans (z28.mono hW.size)
  have H_z := Lib.hid I28
  clear z28 hw28 I28
  obtain ⟨a1, a2, a3, a4, a5⟩ := O_a.out
  go_wp2_with fail
  rw [HW28.out]
  clear a1 a2 a3 a4 a5 O_a O_b O_c
  refine (rfrom_v hx (by omega)).mono ?_
  rintro e w29 ⟨s29, A29, n29, c29, rfl, pf, k29, B29⟩
  replace H_a := Lib.hid (H_a.out.below B29)
  replace H_b := Lib.hid (H_b.out.below B29)
  replace H_c := Lib.hid (H_c.out.below B29)
  replace H_z := Lib.hid (H_z.out.below B29)
  replace hx := hx.below B29
  replace pb := pb.below B29
  replace pc := pc.below B29
  replace pz := pz.below B29
  replace hW := hW.trans (B29.mono hW.size)
  clear B29
  obtain ⟨a1, a2, a3, a4, a5⟩ := H_a.out
  obtain ⟨b1, b2, b3, b4, b5⟩ := H_b.out
  obtain ⟨c1, c2, c3, c4, c5⟩ := H_c.out
  obtain ⟨z1, z2, z3, z4, z5⟩ := H_z.out
  go_wp2_with fail
  clear a1 a2 a3 a4 a5 b1 b2 b3 b4 b5 c1 c2 c3 c4 c5 z1 z2 z3 z4 z5
  refine (rprintz_v pf (by omega) hnd).mono ?_
  unfold ZPrPost
  rw [HT.out]
  rintro e w30 ⟨rfl, B30⟩
  replace H_a := Lib.hid (H_a.out.below B30)
  replace H_b := Lib.hid (H_b.out.below B30)
  replace H_c := Lib.hid (H_c.out.below B30)
  replace H_z := Lib.hid (H_z.out.below B30)
  replace hx := hx.below B30
  replace pb := pb.below B30
  replace pc := pc.below B30
  replace pz := pz.below B30
  replace pf := pf.below B30
  replace hW := hW.trans (B30.mono hW.size)
  clear B30
  clear pf
  obtain ⟨a1, a2, a3, a4, a5⟩ := H_a.out
  obtain ⟨b1, b2, b3, b4, b5⟩ := H_b.out
  go_wp2_with fail
  clear a1 a2 a3 a4 a5 b1 b2 b3 b4 b5
  refine (zsame_yes hx pb.zv (by omega) (by omega) rfl).mono ?_
  rintro e w31 ⟨rfl, B31⟩
  replace H_a := Lib.hid (H_a.out.below B31)
  replace H_b := Lib.hid (H_b.out.below B31)
  replace H_c := Lib.hid (H_c.out.below B31)
  replace H_z := Lib.hid (H_z.out.below B31)
  replace hx := hx.below B31
  replace pb := pb.below B31
  replace pc := pc.below B31
  replace pz := pz.below B31
  replace hW := hW.trans (B31.mono hW.size)
  clear B31
  obtain ⟨c1, c2, c3, c4, c5⟩ := H_c.out
  obtain ⟨z1, z2, z3, z4, z5⟩ := H_z.out
  go_wp2_with fail
  clear c1 c2 c3 c4 c5 z1 z2 z3 z4 z5
  refine (ris_v pc pz (by omega) rfl).mono ?_
  rintro e w32 ⟨rfl, B32⟩
  replace H_a := Lib.hid (H_a.out.below B32)
  replace H_b := Lib.hid (H_b.out.below B32)
  replace H_c := Lib.hid (H_c.out.below B32)
  replace H_z := Lib.hid (H_z.out.below B32)
  replace hx := hx.below B32
  replace pb := pb.below B32
  replace pc := pc.below B32
  replace pz := pz.below B32
  replace hW := hW.trans (B32.mono hW.size)
  clear B32
  obtain ⟨c1, c2, c3, c4, c5⟩ := H_c.out
  go_wp2_with fail
  clear c1 c2 c3 c4 c5
  refine (zprint_v pc.zv (Nat.le_trans (cv_ten (K := 16) pc.1 (nd_is _).1 (by omega)) (by omega))).mono ?_
  unfold ZPrPost
  rw [HZ.out]
  rintro e w33 ⟨rfl, B33⟩
  replace H_a := Lib.hid (H_a.out.below B33)
  replace H_b := Lib.hid (H_b.out.below B33)
  replace H_c := Lib.hid (H_c.out.below B33)
  replace H_z := Lib.hid (H_z.out.below B33)
  replace hx := hx.below B33
  replace pb := pb.below B33
  replace pc := pc.below B33
  replace pz := pz.below B33
  replace hW := hW.trans (B33.mono hW.size)
  clear B33
  go_wp2_with fail
  go_ret
  exact ⟨rfl, hW⟩

theorem itexts_calls (A : Option Addr) (n c : Nat) (s : Bool) (x : Int) (S : ByteArray) (w : World) (hx : Zv w s A n c x) (hn : n ≤ 9223372036854775807) (hS : S.size ≤ 9223372036854775807) :
    Calls Try.prog 8 #[.agg #[.bool s, .slice A n c], .string S] w (TruePost w) := by
  by_cases h1 : n ≤ 12
  · by_cases h2 : S.size ≤ 300
    · rcases reads S h2 with ⟨z, hz, hzd, C1, C2⟩ | ⟨C1, C2⟩
      · exact itexts_yes hx h1 h2 hz hzd C1 C2
      · exact itexts_no hx h1 h2 C1 C2
    · have hW := zba w (.cells #[.bool s, .slice A n c] 25)
      obtain ⟨w3, hw3⟩ : ∃ w', w' = w.alloc (.cells #[.bool s, .slice A n c] 25) := ⟨_, rfl⟩
      have IA : Ib w3 w.heap.size s A n c := by rw [hw3]; exact Ib.new _ _ _ _ _ _
      rw [← hw3] at hW
      have HW := Lib.hid hw3.symm
      have H_a := Lib.hid IA
      clear hw3 IA hx
      go_enter Try.func8, Try.ntmps8
      obtain ⟨a1, a2, a3, a4, a5⟩ := H_a.out
      go_wp2_with fail
      rw [HW.out]
      clear a1 a2 a3 a4 a5
      refine (zawake_calls _).mono ?_
      rintro e w21 ⟨rfl, B21⟩
      replace H_a := Lib.hid (H_a.out.below B21)
      replace hW := hW.trans (B21.mono hW.size)
      clear B21
      obtain ⟨a1, a2, a3, a4, a5⟩ := H_a.out
      go_wp2_with fail
      clear a1 a2 a3 a4 a5
      refine (zawake_calls _).mono ?_
      rintro e w22 ⟨rfl, B22⟩
      replace H_a := Lib.hid (H_a.out.below B22)
      replace hW := hW.trans (B22.mono hW.size)
      clear B22
      go_wp2_with fail
      go_ret
      exact ⟨rfl, hW⟩
  · have hW := zba w (.cells #[.bool s, .slice A n c] 25)
    obtain ⟨w3, hw3⟩ : ∃ w', w' = w.alloc (.cells #[.bool s, .slice A n c] 25) := ⟨_, rfl⟩
    have IA : Ib w3 w.heap.size s A n c := by rw [hw3]; exact Ib.new _ _ _ _ _ _
    rw [← hw3] at hW
    have HW := Lib.hid hw3.symm
    have H_a := Lib.hid IA
    clear hw3 IA hx
    go_enter Try.func8, Try.ntmps8
    obtain ⟨a1, a2, a3, a4, a5⟩ := H_a.out
    go_wp2_with fail
    rw [HW.out]
    clear a1 a2 a3 a4 a5
    refine (zawake_calls _).mono ?_
    rintro e w21 ⟨rfl, B21⟩
    replace H_a := Lib.hid (H_a.out.below B21)
    replace hW := hW.trans (B21.mono hW.size)
    clear B21
    obtain ⟨a1, a2, a3, a4, a5⟩ := H_a.out
    go_wp2_with fail
    clear a1 a2 a3 a4 a5
    refine (zawake_calls _).mono ?_
    rintro e w22 ⟨rfl, B22⟩
    replace H_a := Lib.hid (H_a.out.below B22)
    replace hW := hW.trans (B22.mono hW.size)
    clear B22
    go_wp2_with fail
    go_ret
    exact ⟨rfl, hW⟩
end Go.Proofs.Ytnkmoeihlfdjbaa
