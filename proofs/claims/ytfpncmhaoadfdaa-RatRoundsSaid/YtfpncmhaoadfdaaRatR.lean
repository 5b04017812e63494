/-
  The reference of layer 7; awake.
-/
import Derived.Test.YtfpncmhaoadfdaaRatE
/-! Contracts: quincunxref07; awake. -/
namespace Go.Proofs.Ytfpncmhaoadfdaa
open Go.RowKit
set_option linter.unusedVariables false
set_option linter.unusedSimpArgs false

/-- A whole number, in whatever form, is answered. -/
def VPost (z : Int) (k : Nat) (w : World) (e : Ending) (w' : World) : Prop :=
  ∃ s A n c, e = .returned (.agg #[.bool s, .slice A n c]) ∧ Zv w' s A n c z ∧ n ≤ k ∧ Below w.heap.size w w'
theorem vfin {w w2 : World} {A B : Option Addr} {n c g k m d : Nat} {s t : Bool} {z : Int} (h : Zv w2 s A n c z) (hi : Ib w2 g t B m d) (hk : n ≤ k) (hg : w.heap.size ≤ g) (hB : Below w.heap.size w w2) :
    VPost z k w (.returned (.agg #[.bool s, .slice A n c])) ((w2.setCell ⟨g, 0, none⟩ (.bool s)).setCell ⟨g, 1, none⟩ (.slice A n c)) :=
  ⟨s, A, n, c, rfl, h.put hi, hk, below_put hB hg⟩
/-- A fraction's number as a quotient with a denominator above 0. -/
def rN (N D : Int) : Int := if D = 0 then 0 else if D < 0 then -N else N
def rD (D : Int) : Int := if D = 0 then 1 else (D.natAbs : Int)
theorem rD_pos (D : Int) : 0 < rD D := by unfold rD; split <;> omega
theorem rq_ref (N D : Int) : Rat.divInt (rN N D) (rD D) = Rat.divInt N D := by
  unfold rN rD
  split
  · rename_i h; subst h; simp
  · split
    · rw [show (D.natAbs : Int) = -D by omega, Rat.neg_divInt_neg]
    · rw [show (D.natAbs : Int) = D by omega]
set_option maxRecDepth 100000 in
set_option maxHeartbeats 4000000 in
theorem refn_zero {A B : Option Addr} {n c m d k : Nat} {s t : Bool} {N D : Int} {w : World} (hn : Zv w s A n c N) (hd : Zv w t B m d D) (hnk : n ≤ k) (hmk : m ≤ k) (h1 : 1 ≤ k) (hk : k ≤ 1073741824) (h0 : D = 0) :
    Calls Try.prog 19 #[.agg #[.bool s, .slice A n c, .bool t, .slice B m d]] w (VPost 0 k w) := by
  have hW := Below.refl w.heap.size w
  obtain ⟨wp0, hwp0⟩ : ∃ x, x = w.alloc (.cells #[.bool s, .slice A n c, .bool t, .slice B m d] 28) := ⟨_, rfl⟩
  have zp0 : Below w.heap.size w wp0 := by rw [hwp0]; exact zba _ _
  have sp0 : wp0.heap.size = w.heap.size + 1 := by rw [hwp0, World.size_alloc]
  have Ia : Rb wp0 w.heap.size s A n c t B m d := by rw [hwp0]; exact Rb.new _ _ _ _ _ _ _ _ _ _
  replace hn := hn.below zp0
  replace hd := hd.below zp0
  replace hW := hW.trans (zp0.mono hW.size)
  have H_a := Lib.hid Ia
  clear Ia zp0
  obtain ⟨wp1, hwp1⟩ : ∃ x, x = wp0.alloc (.cells #[.bool false, .slice none 0 0] 25) := ⟨_, rfl⟩
  have zp1 : Below wp0.heap.size wp0 wp1 := by rw [hwp1]; exact zba _ _
  have sp1 : wp1.heap.size = w.heap.size + 1 + 1 := by rw [hwp1, World.size_alloc, sp0]
  have Ir : Ib wp1 (w.heap.size + 1) false none 0 0 := by rw [hwp1, ← sp0]; exact Ib.new _ _ _ _ _ _
  replace H_a := Lib.hid (H_a.out.below zp1)
  replace hn := hn.below zp1
  replace hd := hd.below zp1
  replace hW := hW.trans (zp1.mono hW.size)
  have H_r := Lib.hid Ir
  clear Ir zp1
  have HW : Hid (((w.alloc (.cells #[.bool s, .slice A n c, .bool t, .slice B m d] 28)).alloc (.cells #[.bool false, .slice none 0 0] 25)) = wp1) := Lib.hid (by rw [hwp1, hwp0])
  have nn_a_r : ¬ (w.heap.size = (w.heap.size + 1)) := by omega
  have nm_a_r : ¬ ((w.heap.size + 1) = w.heap.size) := by omega
  have lw_a : w.heap.size ≤ w.heap.size := by omega
  have lw_r : w.heap.size ≤ (w.heap.size + 1) := by omega
  clear hwp0 hwp1 sp0 sp1
  subst h0
  have HSR : Hid ((0 : Int).sign = 0) := Lib.hid rfl
  go_enter Try.func19, Try.ntmps19
  obtain ⟨a1, a2, a3, a4, a5, a6, a7, a8, a9⟩ := H_a.out
  obtain ⟨r1, r2, r3, r4, r5⟩ := H_r.out
  go_wp2_with fail
  rw [HW.out]
  clear a1 a2 a3 a4 a5 a6 a7 a8 a9 r1 r2 r3 r4 r5
  refine (zsign_v hd (by omega) HSR.out).mono ?_
  rintro e w21 ⟨rfl, B21⟩
  replace H_a := Lib.hid (H_a.out.below B21)
  replace H_r := Lib.hid (H_r.out.below B21)
  replace hn := hn.below B21
  replace hd := hd.below B21
  replace hW := hW.trans (B21.mono hW.size)
  clear B21
  obtain ⟨a1, a2, a3, a4, a5, a6, a7, a8, a9⟩ := H_a.out
  obtain ⟨r1, r2, r3, r4, r5⟩ := H_r.out
  go_wp2_with fail
  clear a1 a2 a3 a4 a5 a6 a7 a8 a9 r1 r2 r3 r4 r5
  refine (zof_v 0 (by omega) (by omega) _).mono ?_
  rintro e w22 ⟨s22, A22, n22, c22, rfl, p0, k22, B22⟩
  replace H_a := Lib.hid (H_a.out.below B22)
  replace H_r := Lib.hid (H_r.out.below B22)
  replace hn := hn.below B22
  replace hd := hd.below B22
  replace hW := hW.trans (B22.mono hW.size)
  clear B22
  have P := Lib.hid (vfin (w := w) (k := k) p0.zv H_r.out (by omega) lw_r hW)
  obtain ⟨a1, a2, a3, a4, a5, a6, a7, a8, a9⟩ := H_a.out
  obtain ⟨r1, r2, r3, r4, r5⟩ := H_r.out
  go_wp2_with fail
  clear a1 a2 a3 a4 a5 a6 a7 a8 a9 r1 r2 r3 r4 r5
  obtain ⟨r1, r2, r3, r4, r5⟩ := H_r.out
  exact bodyPost_ret (v := (.agg #[.bool s22, .slice A22 n22 c22])) (by simp [results, Try.results19, go_sem, r1, r2]) rfl P.out
set_option maxRecDepth 100000 in
set_option maxHeartbeats 4000000 in
theorem refn_neg {A B : Option Addr} {n c m d k : Nat} {s t : Bool} {N D : Int} {w : World} (hn : Zv w s A n c N) (hd : Zv w t B m d D) (hnk : n ≤ k) (hmk : m ≤ k) (h1 : 1 ≤ k) (hk : k ≤ 1073741824) (h0 : D < 0) :
    Calls Try.prog 19 #[.agg #[.bool s, .slice A n c, .bool t, .slice B m d]] w (VPost (-N) k w) := by
  have hW := Below.refl w.heap.size w
  obtain ⟨wp0, hwp0⟩ : ∃ x, x = w.alloc (.cells #[.bool s, .slice A n c, .bool t, .slice B m d] 28) := ⟨_, rfl⟩
  have zp0 : Below w.heap.size w wp0 := by rw [hwp0]; exact zba _ _
  have sp0 : wp0.heap.size = w.heap.size + 1 := by rw [hwp0, World.size_alloc]
  have Ia : Rb wp0 w.heap.size s A n c t B m d := by rw [hwp0]; exact Rb.new _ _ _ _ _ _ _ _ _ _
  replace hn := hn.below zp0
  replace hd := hd.below zp0
  replace hW := hW.trans (zp0.mono hW.size)
  have H_a := Lib.hid Ia
  clear Ia zp0
  obtain ⟨wp1, hwp1⟩ : ∃ x, x = wp0.alloc (.cells #[.bool false, .slice none 0 0] 25) := ⟨_, rfl⟩
  have zp1 : Below wp0.heap.size wp0 wp1 := by rw [hwp1]; exact zba _ _
  have sp1 : wp1.heap.size = w.heap.size + 1 + 1 := by rw [hwp1, World.size_alloc, sp0]
  have Ir : Ib wp1 (w.heap.size + 1) false none 0 0 := by rw [hwp1, ← sp0]; exact Ib.new _ _ _ _ _ _
  replace H_a := Lib.hid (H_a.out.below zp1)
  replace hn := hn.below zp1
  replace hd := hd.below zp1
  replace hW := hW.trans (zp1.mono hW.size)
  have H_r := Lib.hid Ir
  clear Ir zp1
  have HW : Hid (((w.alloc (.cells #[.bool s, .slice A n c, .bool t, .slice B m d] 28)).alloc (.cells #[.bool false, .slice none 0 0] 25)) = wp1) := Lib.hid (by rw [hwp1, hwp0])
  have nn_a_r : ¬ (w.heap.size = (w.heap.size + 1)) := by omega
  have nm_a_r : ¬ ((w.heap.size + 1) = w.heap.size) := by omega
  have lw_a : w.heap.size ≤ w.heap.size := by omega
  have lw_r : w.heap.size ≤ (w.heap.size + 1) := by omega
  clear hwp0 hwp1 sp0 sp1
  have HSR : Hid (D.sign = -1) := Lib.hid (Int.sign_eq_neg_one_of_neg h0)
  go_enter Try.func19, Try.ntmps19
  obtain ⟨a1, a2, a3, a4, a5, a6, a7, a8, a9⟩ := H_a.out
  obtain ⟨r1, r2, r3, r4, r5⟩ := H_r.out
  go_wp2_with fail
  rw [HW.out]
  clear a1 a2 a3 a4 a5 a6 a7 a8 a9 r1 r2 r3 r4 r5
  refine (zsign_v hd (by omega) HSR.out).mono ?_
  rintro e w21 ⟨rfl, B21⟩
  replace H_a := Lib.hid (H_a.out.below B21)
  replace H_r := Lib.hid (H_r.out.below B21)
  replace hn := hn.below B21
  replace hd := hd.below B21
  replace hW := hW.trans (B21.mono hW.size)
  clear B21
  obtain ⟨a1, a2, a3, a4, a5, a6, a7, a8, a9⟩ := H_a.out
  obtain ⟨r1, r2, r3, r4, r5⟩ := H_r.out
  go_wp2_with fail
  clear a1 a2 a3 a4 a5 a6 a7 a8 a9 r1 r2 r3 r4 r5
  refine (zsign_v hd (by omega) HSR.out).mono ?_
  rintro e w22 ⟨rfl, B22⟩
  replace H_a := Lib.hid (H_a.out.below B22)
  replace H_r := Lib.hid (H_r.out.below B22)
  replace hn := hn.below B22
  replace hd := hd.below B22
  replace hW := hW.trans (B22.mono hW.size)
  clear B22
  obtain ⟨a1, a2, a3, a4, a5, a6, a7, a8, a9⟩ := H_a.out
  obtain ⟨r1, r2, r3, r4, r5⟩ := H_r.out
  go_wp2_with fail
  clear a1 a2 a3 a4 a5 a6 a7 a8 a9 r1 r2 r3 r4 r5
  refine (zneg_v hn (by omega)).mono ?_
  rintro e w23 ⟨s23, A23, n23, c23, rfl, p0, k23, B23⟩
  replace H_a := Lib.hid (H_a.out.below B23)
  replace H_r := Lib.hid (H_r.out.below B23)
  replace hn := hn.below B23
  replace hd := hd.below B23
  replace hW := hW.trans (B23.mono hW.size)
  clear B23
  have P := Lib.hid (vfin (w := w) (k := k) p0.zv H_r.out (by omega) lw_r hW)
  obtain ⟨a1, a2, a3, a4, a5, a6, a7, a8, a9⟩ := H_a.out
  obtain ⟨r1, r2, r3, r4, r5⟩ := H_r.out
  go_wp2_with fail
  clear a1 a2 a3 a4 a5 a6 a7 a8 a9 r1 r2 r3 r4 r5
  obtain ⟨r1, r2, r3, r4, r5⟩ := H_r.out
  exact bodyPost_ret (v := (.agg #[.bool s23, .slice A23 n23 c23])) (by simp [results, Try.results19, go_sem, r1, r2]) rfl P.out
set_option maxRecDepth 100000 in
set_option maxHeartbeats 4000000 in
theorem refn_pos {A B : Option Addr} {n c m d k : Nat} {s t : Bool} {N D : Int} {w : World} (hn : Zv w s A n c N) (hd : Zv w t B m d D) (hnk : n ≤ k) (hmk : m ≤ k) (h1 : 1 ≤ k) (hk : k ≤ 1073741824) (h0 : 0 < D) :
    Calls Try.prog 19 #[.agg #[.bool s, .slice A n c, .bool t, .slice B m d]] w (VPost N k w) := by
  have hW := Below.refl w.heap.size w
  obtain ⟨wp0, hwp0⟩ : ∃ x, x = w.alloc (.cells #[.bool s, .slice A n c, .bool t, .slice B m d] 28) := ⟨_, rfl⟩
  have zp0 : Below w.heap.size w wp0 := by rw [hwp0]; exact zba _ _
  have sp0 : wp0.heap.size = w.heap.size + 1 := by rw [hwp0, World.size_alloc]
  have Ia : Rb wp0 w.heap.size s A n c t B m d := by rw [hwp0]; exact Rb.new _ _ _ _ _ _ _ _ _ _
  replace hn := hn.below zp0
  replace hd := hd.below zp0
  replace hW := hW.trans (zp0.mono hW.size)
  have H_a := Lib.hid Ia
  clear Ia zp0
  obtain ⟨wp1, hwp1⟩ : ∃ x, x = wp0.alloc (.cells #[.bool false, .slice none 0 0] 25) := ⟨_, rfl⟩
  have zp1 : Below wp0.heap.size wp0 wp1 := by rw [hwp1]; exact zba _ _
  have sp1 : wp1.heap.size = w.heap.size + 1 + 1 := by rw [hwp1, World.size_alloc, sp0]
  have Ir : Ib wp1 (w.heap.size + 1) false none 0 0 := by rw [hwp1, ← sp0]; exact Ib.new _ _ _ _ _ _
  replace H_a := Lib.hid (H_a.out.below zp1)
  replace hn := hn.below zp1
  replace hd := hd.below zp1
  replace hW := hW.trans (zp1.mono hW.size)
  have H_r := Lib.hid Ir
  clear Ir zp1
  have HW : Hid (((w.alloc (.cells #[.bool s, .slice A n c, .bool t, .slice B m d] 28)).alloc (.cells #[.bool false, .slice none 0 0] 25)) = wp1) := Lib.hid (by rw [hwp1, hwp0])
  have nn_a_r : ¬ (w.heap.size = (w.heap.size + 1)) := by omega
  have nm_a_r : ¬ ((w.heap.size + 1) = w.heap.size) := by omega
  have lw_a : w.heap.size ≤ w.heap.size := by omega
  have lw_r : w.heap.size ≤ (w.heap.size + 1) := by omega
  clear hwp0 hwp1 sp0 sp1
  have HSR : Hid (D.sign = 1) := Lib.hid (Int.sign_eq_one_of_pos h0)
  go_enter Try.func19, Try.ntmps19
  obtain ⟨a1, a2, a3, a4, a5, a6, a7, a8, a9⟩ := H_a.out
  obtain ⟨r1, r2, r3, r4, r5⟩ := H_r.out
  go_wp2_with fail
  rw [HW.out]
  clear a1 a2 a3 a4 a5 a6 a7 a8 a9 r1 r2 r3 r4 r5
  refine (zsign_v hd (by omega) HSR.out).mono ?_
  rintro e w21 ⟨rfl, B21⟩
  replace H_a := Lib.hid (H_a.out.below B21)
  replace H_r := Lib.hid (H_r.out.below B21)
  replace hn := hn.below B21
  replace hd := hd.below B21
  replace hW := hW.trans (B21.mono hW.size)
  clear B21
  obtain ⟨a1, a2, a3, a4, a5, a6, a7, a8, a9⟩ := H_a.out
  obtain ⟨r1, r2, r3, r4, r5⟩ := H_r.out
  go_wp2_with fail
  clear a1 a2 a3 a4 a5 a6 a7 a8 a9 r1 r2 r3 r4 r5
  refine (zsign_v hd (by omega) HSR.out).mono ?_
  rintro e w22 ⟨rfl, B22⟩
  replace H_a := Lib.hid (H_a.out.below B22)
  replace H_r := Lib.hid (H_r.out.below B22)
  replace hn := hn.below B22
  replace hd := hd.below B22
  replace hW := hW.trans (B22.mono hW.size)
  clear B22
  have P := Lib.hid (vfin (w := w) (k := k) hn H_r.out (by omega) lw_r hW)
  obtain ⟨a1, a2, a3, a4, a5, a6, a7, a8, a9⟩ := H_a.out
  obtain ⟨r1, r2, r3, r4, r5⟩ := H_r.out
  go_wp2_with fail
  clear a1 a2 a3 a4 a5 a6 a7 a8 a9 r1 r2 r3 r4 r5
  obtain ⟨r1, r2, r3, r4, r5⟩ := H_r.out
  exact bodyPost_ret (v := (.agg #[.bool s, .slice A n c])) (by simp [results, Try.results19, go_sem, r1, r2]) rfl P.out
theorem refn_v {A B : Option Addr} {n c m d k : Nat} {s t : Bool} {N D : Int} {w : World} (hn : Zv w s A n c N) (hd : Zv w t B m d D) (hnk : n ≤ k) (hmk : m ≤ k) (h1 : 1 ≤ k) (hk : k ≤ 1073741824) :
    Calls Try.prog 19 #[.agg #[.bool s, .slice A n c, .bool t, .slice B m d]] w (VPost (rN N D) k w) := by
  unfold rN
  rcases Int.lt_trichotomy D 0 with h | h | h
  · rw [if_neg (by omega), if_pos h]; exact refn_neg hn hd hnk hmk h1 hk h
  · rw [if_pos h]; exact refn_zero hn hd hnk hmk h1 hk h
  · rw [if_neg (by omega), if_neg (by omega)]; exact refn_pos hn hd hnk hmk h1 hk h
set_option maxRecDepth 100000 in
set_option maxHeartbeats 4000000 in
theorem refd_zero {A B : Option Addr} {n c m d k : Nat} {s t : Bool} {N D : Int} {w : World} (hn : Zv w s A n c N) (hd : Zv w t B m d D) (hnk : n ≤ k) (hmk : m ≤ k) (h1 : 1 ≤ k) (hk : k ≤ 1073741824) (h0 : D = 0) :
    Calls Try.prog 20 #[.agg #[.bool s, .slice A n c, .bool t, .slice B m d]] w (ZPost 1 k w) := by
  have hW := Below.refl w.heap.size w
  obtain ⟨wp0, hwp0⟩ : ∃ x, x = w.alloc (.cells #[.bool s, .slice A n c, .bool t, .slice B m d] 28) := ⟨_, rfl⟩
  have zp0 : Below w.heap.size w wp0 := by rw [hwp0]; exact zba _ _
  have sp0 : wp0.heap.size = w.heap.size + 1 := by rw [hwp0, World.size_alloc]
  have Ia : Rb wp0 w.heap.size s A n c t B m d := by rw [hwp0]; exact Rb.new _ _ _ _ _ _ _ _ _ _
  replace hn := hn.below zp0
  replace hd := hd.below zp0
  replace hW := hW.trans (zp0.mono hW.size)
  have H_a := Lib.hid Ia
  clear Ia zp0
  obtain ⟨wp1, hwp1⟩ : ∃ x, x = wp0.alloc (.cells #[.bool false, .slice none 0 0] 25) := ⟨_, rfl⟩
  have zp1 : Below wp0.heap.size wp0 wp1 := by rw [hwp1]; exact zba _ _
  have sp1 : wp1.heap.size = w.heap.size + 1 + 1 := by rw [hwp1, World.size_alloc, sp0]
  have Ir : Ib wp1 (w.heap.size + 1) false none 0 0 := by rw [hwp1, ← sp0]; exact Ib.new _ _ _ _ _ _
  replace H_a := Lib.hid (H_a.out.below zp1)
  replace hn := hn.below zp1
  replace hd := hd.below zp1
  replace hW := hW.trans (zp1.mono hW.size)
  have H_r := Lib.hid Ir
  clear Ir zp1
  have HW : Hid (((w.alloc (.cells #[.bool s, .slice A n c, .bool t, .slice B m d] 28)).alloc (.cells #[.bool false, .slice none 0 0] 25)) = wp1) := Lib.hid (by rw [hwp1, hwp0])
  have nn_a_r : ¬ (w.heap.size = (w.heap.size + 1)) := by omega
  have nm_a_r : ¬ ((w.heap.size + 1) = w.heap.size) := by omega
  have lw_a : w.heap.size ≤ w.heap.size := by omega
  have lw_r : w.heap.size ≤ (w.heap.size + 1) := by omega
  clear hwp0 hwp1 sp0 sp1
  subst h0
  have HSR : Hid ((0 : Int).sign = 0) := Lib.hid rfl
  go_enter Try.func20, Try.ntmps20
  obtain ⟨a1, a2, a3, a4, a5, a6, a7, a8, a9⟩ := H_a.out
  obtain ⟨r1, r2, r3, r4, r5⟩ := H_r.out
  go_wp2_with fail
  rw [HW.out]
  clear a1 a2 a3 a4 a5 a6 a7 a8 a9 r1 r2 r3 r4 r5
  refine (zsign_v hd (by omega) HSR.out).mono ?_
  rintro e w21 ⟨rfl, B21⟩
  replace H_a := Lib.hid (H_a.out.below B21)
  replace H_r := Lib.hid (H_r.out.below B21)
  replace hn := hn.below B21
  replace hd := hd.below B21
  replace hW := hW.trans (B21.mono hW.size)
  clear B21
  obtain ⟨a1, a2, a3, a4, a5, a6, a7, a8, a9⟩ := H_a.out
  obtain ⟨r1, r2, r3, r4, r5⟩ := H_r.out
  go_wp2_with fail
  clear a1 a2 a3 a4 a5 a6 a7 a8 a9 r1 r2 r3 r4 r5
  refine (zof_v 1 (by omega) (by omega) _).mono ?_
  rintro e w22 ⟨s22, A22, n22, c22, rfl, p0, k22, B22⟩
  replace H_a := Lib.hid (H_a.out.below B22)
  replace H_r := Lib.hid (H_r.out.below B22)
  replace hn := hn.below B22
  replace hd := hd.below B22
  replace hW := hW.trans (B22.mono hW.size)
  clear B22
  have P := Lib.hid (zfin (w := w) (k := k) p0 H_r.out (by omega) lw_r hW)
  obtain ⟨a1, a2, a3, a4, a5, a6, a7, a8, a9⟩ := H_a.out
  obtain ⟨r1, r2, r3, r4, r5⟩ := H_r.out
  go_wp2_with fail
  clear a1 a2 a3 a4 a5 a6 a7 a8 a9 r1 r2 r3 r4 r5
  obtain ⟨r1, r2, r3, r4, r5⟩ := H_r.out
  exact bodyPost_ret (v := (.agg #[.bool s22, .slice A22 n22 c22])) (by simp [results, Try.results20, go_sem, r1, r2]) rfl P.out
set_option maxRecDepth 100000 in
set_option maxHeartbeats 4000000 in
theorem refd_not {A B : Option Addr} {n c m d k : Nat} {s t : Bool} {N D : Int} {w : World} (hn : Zv w s A n c N) (hd : Zv w t B m d D) (hnk : n ≤ k) (hmk : m ≤ k) (h1 : 1 ≤ k) (hk : k ≤ 1073741824) (h0 : D ≠ 0) :
    Calls Try.prog 20 #[.agg #[.bool s, .slice A n c, .bool t, .slice B m d]] w (ZPost (D.natAbs : Int) k w) := by
  have hW := Below.refl w.heap.size w
  obtain ⟨wp0, hwp0⟩ : ∃ x, x = w.alloc (.cells #[.bool s, .slice A n c, .bool t, .slice B m d] 28) := ⟨_, rfl⟩
  have zp0 : Below w.heap.size w wp0 := by rw [hwp0]; exact zba _ _
  have sp0 : wp0.heap.size = w.heap.size + 1 := by rw [hwp0, World.size_alloc]
  have Ia : Rb wp0 w.heap.size s A n c t B m d := by rw [hwp0]; exact Rb.new _ _ _ _ _ _ _ _ _ _
  replace hn := hn.below zp0
  replace hd := hd.below zp0
  replace hW := hW.trans (zp0.mono hW.size)
  have H_a := Lib.hid Ia
  clear Ia zp0
  obtain ⟨wp1, hwp1⟩ : ∃ x, x = wp0.alloc (.cells #[.bool false, .slice none 0 0] 25) := ⟨_, rfl⟩
  have zp1 : Below wp0.heap.size wp0 wp1 := by rw [hwp1]; exact zba _ _
  have sp1 : wp1.heap.size = w.heap.size + 1 + 1 := by rw [hwp1, World.size_alloc, sp0]
  have Ir : Ib wp1 (w.heap.size + 1) false none 0 0 := by rw [hwp1, ← sp0]; exact Ib.new _ _ _ _ _ _
  replace H_a := Lib.hid (H_a.out.below zp1)
  replace hn := hn.below zp1
  replace hd := hd.below zp1
  replace hW := hW.trans (zp1.mono hW.size)
  have H_r := Lib.hid Ir
  clear Ir zp1
  have HW : Hid (((w.alloc (.cells #[.bool s, .slice A n c, .bool t, .slice B m d] 28)).alloc (.cells #[.bool false, .slice none 0 0] 25)) = wp1) := Lib.hid (by rw [hwp1, hwp0])
  have nn_a_r : ¬ (w.heap.size = (w.heap.size + 1)) := by omega
  have nm_a_r : ¬ ((w.heap.size + 1) = w.heap.size) := by omega
  have lw_a : w.heap.size ≤ w.heap.size := by omega
  have lw_r : w.heap.size ≤ (w.heap.size + 1) := by omega
  clear hwp0 hwp1 sp0 sp1
  obtain ⟨sr, hsr⟩ : ∃ r, D.sign = r := ⟨_, rfl⟩
  have hs1 : (sr == 0) = false := by rw [beq_eq_false_iff_ne, ← hsr]; intro h; exact h0 (Int.sign_eq_zero_iff_zero.1 h)
  have HSR := Lib.hid hsr
  clear hsr
  go_enter Try.func20, Try.ntmps20
  obtain ⟨a1, a2, a3, a4, a5, a6, a7, a8, a9⟩ := H_a.out
  obtain ⟨r1, r2, r3, r4, r5⟩ := H_r.out
  go_wp2_with fail
  rw [HW.out]
  clear a1 a2 a3 a4 a5 a6 a7 a8 a9 r1 r2 r3 r4 r5
  refine (zsign_v hd (by omega) HSR.out).mono ?_
  rintro e w21 ⟨rfl, B21⟩
  replace H_a := Lib.hid (H_a.out.below B21)
  replace H_r := Lib.hid (H_r.out.below B21)
  replace hn := hn.below B21
  replace hd := hd.below B21
  replace hW := hW.trans (B21.mono hW.size)
  clear B21
  obtain ⟨a1, a2, a3, a4, a5, a6, a7, a8, a9⟩ := H_a.out
  obtain ⟨r1, r2, r3, r4, r5⟩ := H_r.out
  go_wp2_with fail
  clear a1 a2 a3 a4 a5 a6 a7 a8 a9 r1 r2 r3 r4 r5
  refine (zabs_v hd (by omega)).mono ?_
  rintro e w22 ⟨s22, A22, n22, c22, rfl, p0, k22, B22⟩
  replace H_a := Lib.hid (H_a.out.below B22)
  replace H_r := Lib.hid (H_r.out.below B22)
  replace hn := hn.below B22
  replace hd := hd.below B22
  replace hW := hW.trans (B22.mono hW.size)
  clear B22
  have P := Lib.hid (zfin (w := w) (k := k) p0 H_r.out (by omega) lw_r hW)
  obtain ⟨a1, a2, a3, a4, a5, a6, a7, a8, a9⟩ := H_a.out
  obtain ⟨r1, r2, r3, r4, r5⟩ := H_r.out
  go_wp2_with fail
  clear a1 a2 a3 a4 a5 a6 a7 a8 a9 r1 r2 r3 r4 r5
  obtain ⟨r1, r2, r3, r4, r5⟩ := H_r.out
  exact bodyPost_ret (v := (.agg #[.bool s22, .slice A22 n22 c22])) (by simp [results, Try.results20, go_sem, r1, r2]) rfl P.out
theorem refd_v {A B : Option Addr} {n c m d k : Nat} {s t : Bool} {N D : Int} {w : World} (hn : Zv w s A n c N) (hd : Zv w t B m d D) (hnk : n ≤ k) (hmk : m ≤ k) (h1 : 1 ≤ k) (hk : k ≤ 1073741824) :
    Calls Try.prog 20 #[.agg #[.bool s, .slice A n c, .bool t, .slice B m d]] w (ZPost (rD D) k w) := by
  unfold rD
  by_cases h : D = 0
  · rw [if_pos h]; exact refd_zero hn hd hnk hmk h1 hk h
  · rw [if_neg h]; exact refd_not hn hd hnk hmk h1 hk h
theorem add_block7 (a : Addr) (j : Nat) : (a.add j).block = a.block := by unfold Addr.add; split <;> rfl
set_option maxRecDepth 100000 in
set_option maxHeartbeats 2000000 in
theorem plain_v {A : Option Addr} {n c : Nat} {s : Bool} {z : Int} {w : World} (h : Zc w s A n c z) :
    Calls Try.prog 54 #[.agg #[.bool s, .slice A n c]] w (TruePost w) := by
  obtain ⟨⟨hR, hl, hnc, hc9⟩, hs⟩ := h
  rcases Nat.eq_zero_or_pos n with rfl | hpos
  · have hv := (cn_nil_iff 18446744073709551616 z.natAbs (by omega)).1 hl
    obtain rfl : s = false := by rw [hs.out]; simp; omega
    have HZ := Lib.hid (zba w (.cells #[.bool false, .slice A 0 c] 25))
    clear hR hl hv hs
    go_enter Try.func54, Try.ntmps54
    go_wp2_with fail
    go_ret
    exact ⟨rfl, HZ.out⟩
  · obtain ⟨i, rfl⟩ : ∃ i, n = i + 1 := ⟨n - 1, by omega⟩
    have hi : i < (cn 18446744073709551616 z.natAbs).length := by omega
    obtain ⟨ad, rfl, hb, hcell⟩ := hR.at hi
    have hne := (top_cn z.natAbs).resolve_left (by omega)
    rw [hl, Nat.add_sub_cancel] at hne
    generalize nth (cn 18446744073709551616 z.natAbs) i = x at *
    obtain ⟨m, hm⟩ : ∃ m, m = i + 1 := ⟨_, rfl⟩
    rw [← hm]
    rw [← hm] at hnc
    have hidx : (m : Int) - 1 = (i : Int) := by omega
    have hx : ((x : Int) == 0) = false := by rw [beq_eq_false_iff_ne]; omega
    have hx2 : ((x : Int) != 0) = true := by rw [bne_iff_ne]; omega
    have z0 := zba w (.cells #[.bool s, .slice (some ad) m c] 25)
    have hcell2 := (z0.cell (p := ad.add i) (by rw [add_block7]; exact hb)).trans hcell
    have HZ := Lib.hid z0
    have him : i < m := by omega
    have hpos2 : 0 < m := by omega
    clear hl hs hm z0 hcell hb hne hi hpos hR
    go_enter Try.func54, Try.ntmps54
    go_wp2_with fail
    go_ret
    exact ⟨rfl, HZ.out⟩
set_option maxRecDepth 100000 in
set_option maxHeartbeats 4000000 in
theorem normalr_v {A B : Option Addr} {n c m d : Nat} {s t : Bool} {q : Rat} {w : World} (hq : Qc w s A n c t B m d q) (hnk : n ≤ 137438953472) (hmk : m ≤ 137438953472) :
    Calls Try.prog 35 #[.agg #[.bool s, .slice A n c, .bool t, .slice B m d]] w (TruePost w) := by
  have hW := Below.refl w.heap.size w
  obtain ⟨wp0, hwp0⟩ : ∃ x, x = w.alloc (.cells #[.bool s, .slice A n c, .bool t, .slice B m d] 28) := ⟨_, rfl⟩
  have zp0 : Below w.heap.size w wp0 := by rw [hwp0]; exact zba _ _
  have sp0 : wp0.heap.size = w.heap.size + 1 := by rw [hwp0, World.size_alloc]
  have Ia : Rb wp0 w.heap.size s A n c t B m d := by rw [hwp0]; exact Rb.new _ _ _ _ _ _ _ _ _ _
  replace hq := hq.below zp0
  replace hW := hW.trans (zp0.mono hW.size)
  have H_a := Lib.hid Ia
  clear Ia zp0
  have HW : Hid ((w.alloc (.cells #[.bool s, .slice A n c, .bool t, .slice B m d] 28)) = wp0) := Lib.hid (by rw [hwp0])
  have lw_a : w.heap.size ≤ w.heap.size := by omega
  clear hwp0 sp0
  have HG : Hid (((Nat.gcd q.num.natAbs ((q.den : Int)).natAbs : Nat) : Int) = 1) := Lib.hid (by rw [Int.natAbs_natCast]; have := q.reduced; unfold Nat.Coprime at this; rw [this]; rfl)
  have HS : Hid (((q.den : Int)).sign = 1) := Lib.hid (Int.sign_eq_one_of_pos (by have := q.den_nz; omega))
  go_enter Try.func35, Try.ntmps35
  obtain ⟨a1, a2, a3, a4, a5, a6, a7, a8, a9⟩ := H_a.out
  go_wp2_with fail
  rw [HW.out]
  clear a1 a2 a3 a4 a5 a6 a7 a8 a9
  refine (plain_v hq.1).mono ?_
  rintro e w21 ⟨rfl, B21⟩
  replace H_a := Lib.hid (H_a.out.below B21)
  replace hq := hq.below B21
  replace hW := hW.trans (B21.mono hW.size)
  clear B21
  obtain ⟨a1, a2, a3, a4, a5, a6, a7, a8, a9⟩ := H_a.out
  go_wp2_with fail
  clear a1 a2 a3 a4 a5 a6 a7 a8 a9
  refine (plain_v hq.2).mono ?_
  rintro e w22 ⟨rfl, B22⟩
  replace H_a := Lib.hid (H_a.out.below B22)
  replace hq := hq.below B22
  replace hW := hW.trans (B22.mono hW.size)
  clear B22
  obtain ⟨a1, a2, a3, a4, a5, a6, a7, a8, a9⟩ := H_a.out
  go_wp2_with fail
  clear a1 a2 a3 a4 a5 a6 a7 a8 a9
  refine (zsign_v hq.dv (by omega) HS.out).mono ?_
  rintro e w23 ⟨rfl, B23⟩
  replace H_a := Lib.hid (H_a.out.below B23)
  replace hq := hq.below B23
  replace hW := hW.trans (B23.mono hW.size)
  clear B23
  obtain ⟨a1, a2, a3, a4, a5, a6, a7, a8, a9⟩ := H_a.out
  go_wp2_with fail
  clear a1 a2 a3 a4 a5 a6 a7 a8 a9
  refine (zgcd_v hq.nv hq.dv (by omega) (by omega) HG.out).mono ?_
  rintro e w24 ⟨s24, A24, n24, c24, rfl, pg, k24, B24⟩
  replace H_a := Lib.hid (H_a.out.below B24)
  replace hq := hq.below B24
  replace hW := hW.trans (B24.mono hW.size)
  clear B24
  obtain ⟨a1, a2, a3, a4, a5, a6, a7, a8, a9⟩ := H_a.out
  go_wp2_with fail
  clear a1 a2 a3 a4 a5 a6 a7 a8 a9
  refine (zof_v 1 (by omega) (by omega) _).mono ?_
  rintro e w25 ⟨s25, A25, n25, c25, rfl, p1, k25, B25⟩
  replace H_a := Lib.hid (H_a.out.below B25)
  replace hq := hq.below B25
  replace pg := pg.below B25
  replace hW := hW.trans (B25.mono hW.size)
  clear B25
  obtain ⟨a1, a2, a3, a4, a5, a6, a7, a8, a9⟩ := H_a.out
  go_wp2_with fail
  clear a1 a2 a3 a4 a5 a6 a7 a8 a9
  refine (zsame_yes pg.zv p1.zv (by omega) (by omega) rfl).mono ?_
  rintro e w26 ⟨rfl, B26⟩
  replace H_a := Lib.hid (H_a.out.below B26)
  replace hq := hq.below B26
  replace pg := pg.below B26
  replace p1 := p1.below B26
  replace hW := hW.trans (B26.mono hW.size)
  clear B26
  go_wp2_with fail
  go_ret
  exact ⟨rfl, hW⟩
set_option maxRecDepth 100000 in
set_option maxHeartbeats 4000000 in
theorem isq_yes {A B C D' : Option Addr} {n c m d l e' f' h' : Nat} {s t u v : Bool} {q : Rat} {N D : Int} {w : World} (hq : Qc w s A n c t B m d q) (hn : Zv w u C l e' N) (hd : Zv w v D' f' h' D) (hnk : n ≤ 137438953472) (hmk : m ≤ 137438953472) (hlk : l ≤ 137438953472) (hfk : f' ≤ 137438953472) (hE : q.num * D = N * (q.den : Int)) :
    Calls Try.prog 12 #[.agg #[.bool s, .slice A n c, .bool t, .slice B m d], .agg #[.bool u, .slice C l e'], .agg #[.bool v, .slice D' f' h']] w (TruePost w) := by
  have hW := Below.refl w.heap.size w
  obtain ⟨wp0, hwp0⟩ : ∃ x, x = w.alloc (.cells #[.bool s, .slice A n c, .bool t, .slice B m d] 28) := ⟨_, rfl⟩
  have zp0 : Below w.heap.size w wp0 := by rw [hwp0]; exact zba _ _
  have sp0 : wp0.heap.size = w.heap.size + 1 := by rw [hwp0, World.size_alloc]
  have Ia : Rb wp0 w.heap.size s A n c t B m d := by rw [hwp0]; exact Rb.new _ _ _ _ _ _ _ _ _ _
  replace hq := hq.below zp0
  replace hn := hn.below zp0
  replace hd := hd.below zp0
  replace hW := hW.trans (zp0.mono hW.size)
  have H_a := Lib.hid Ia
  clear Ia zp0
  obtain ⟨wp1, hwp1⟩ : ∃ x, x = wp0.alloc (.cells #[.bool u, .slice C l e'] 25) := ⟨_, rfl⟩
  have zp1 : Below wp0.heap.size wp0 wp1 := by rw [hwp1]; exact zba _ _
  have sp1 : wp1.heap.size = w.heap.size + 1 + 1 := by rw [hwp1, World.size_alloc, sp0]
  have Ib : Ib wp1 (w.heap.size + 1) u C l e' := by rw [hwp1, ← sp0]; exact Ib.new _ _ _ _ _ _
  replace H_a := Lib.hid (H_a.out.below zp1)
  replace hq := hq.below zp1
  replace hn := hn.below zp1
  replace hd := hd.below zp1
  replace hW := hW.trans (zp1.mono hW.size)
  have H_b := Lib.hid Ib
  clear Ib zp1
  obtain ⟨wp2, hwp2⟩ : ∃ x, x = wp1.alloc (.cells #[.bool v, .slice D' f' h'] 25) := ⟨_, rfl⟩
  have zp2 : Below wp1.heap.size wp1 wp2 := by rw [hwp2]; exact zba _ _
  have sp2 : wp2.heap.size = w.heap.size + 1 + 1 + 1 := by rw [hwp2, World.size_alloc, sp1]
  have Ix : Ib wp2 (w.heap.size + 1 + 1) v D' f' h' := by rw [hwp2, ← sp1]; exact Ib.new _ _ _ _ _ _
  replace H_a := Lib.hid (H_a.out.below zp2)
  replace H_b := Lib.hid (H_b.out.below zp2)
  replace hq := hq.below zp2
  replace hn := hn.below zp2
  replace hd := hd.below zp2
  replace hW := hW.trans (zp2.mono hW.size)
  have H_x := Lib.hid Ix
  clear Ix zp2
  have HW : Hid ((((w.alloc (.cells #[.bool s, .slice A n c, .bool t, .slice B m d] 28)).alloc (.cells #[.bool u, .slice C l e'] 25)).alloc (.cells #[.bool v, .slice D' f' h'] 25)) = wp2) := Lib.hid (by rw [hwp2, hwp1, hwp0])
  have nn_a_b : ¬ (w.heap.size = (w.heap.size + 1)) := by omega
  have nm_a_b : ¬ ((w.heap.size + 1) = w.heap.size) := by omega
  have nn_a_x : ¬ (w.heap.size = (w.heap.size + 1 + 1)) := by omega
  have nm_a_x : ¬ ((w.heap.size + 1 + 1) = w.heap.size) := by omega
  have nn_b_x : ¬ ((w.heap.size + 1) = (w.heap.size + 1 + 1)) := by omega
  have nm_b_x : ¬ ((w.heap.size + 1 + 1) = (w.heap.size + 1)) := by omega
  have lw_a : w.heap.size ≤ w.heap.size := by omega
  have lw_b : w.heap.size ≤ (w.heap.size + 1) := by omega
  have lw_x : w.heap.size ≤ (w.heap.size + 1 + 1) := by omega
  clear hwp0 hwp1 hwp2 sp0 sp1 sp2
  have HE := Lib.hid hE
  clear hE
  go_enter Try.func12, Try.ntmps12
  obtain ⟨a1, a2, a3, a4, a5, a6, a7, a8, a9⟩ := H_a.out
  obtain ⟨b1, b2, b3, b4, b5⟩ := H_b.out
  obtain ⟨x1, x2, x3, x4, x5⟩ := H_x.out
  go_wp2_with fail
  rw [HW.out]
  clear a1 a2 a3 a4 a5 a6 a7 a8 a9 b1 b2 b3 b4 b5 x1 x2 x3 x4 x5
  refine region7 [] 14 [IsK (.agg #[.bool s, .slice A n c, .bool t, .slice B m d]), IsK (.bool true), IsK (.bool true), IsK (.pointer (some ⟨w.heap.size, 0, none⟩)), IsK (.agg #[.bool s, .slice A n c]), IsK (.agg #[.bool v, .slice D' f' h']), IsC (q.num * D) 274877906944, IsK (.agg #[.bool u, .slice C l e']), IsK (.pointer (some ⟨w.heap.size, 2, none⟩)), IsK (.agg #[.bool t, .slice B m d]), IsC (N * (q.den : Int)) 274877906944, IsK (.bool true), IsK (.bool true), IsK (.bool true)] (fun _ _ d _ _ h => by cases d <;> exact h) (by kernel_rfl) (by kernel_rfl) (by kernel_rfl) ⟨stay_k _, stay_k _, stay_k _, stay_k _, stay_k _, stay_k _, stay_c _ _, stay_k _, stay_k _, stay_k _, stay_c _ _, stay_k _, stay_k _, stay_k _, trivial⟩ ?_ ?_
  · refine HopAll.cons rfl ?_ (HopAll.cons rfl ?_ (HopAll.cons rfl ?_ (HopAll.cons rfl ?_ (HopAll.cons rfl ?_ (HopAll.cons rfl ?_ (HopAll.cons rfl ?_ (HopAll.cons rfl ?_ (HopAll.cons rfl ?_ (HopAll.cons rfl ?_ (HopAll.cons rfl ?_ (HopAll.cons rfl ?_ (HopAll.cons rfl ?_ (HopAll.cons rfl ?_ HopAll.nil)))))))))))))
    · intro a w1 hB ho hp K hK
      have e3 : a.eval (.tmp 3) = (.pointer (some ⟨w.heap.size, 0, none⟩)) := ho 3 (by kernel_rfl)
      obtain ⟨u1, u2, u3, u4, u5, u6, u7, u8, u9⟩ := H_a.out.below hB
      exact hop_load (wanted_none rfl) rfl e3 (run_ldq u1 u2 u3 u4) (hK _ _ rfl (Below.refl _ _))
    · intro a w1 hB ho hp K hK
      have e7 : a.eval (.tmp 7) = (.agg #[.bool s, .slice A n c, .bool t, .slice B m d]) := hp 0 7 (by kernel_rfl)
      refine hop_call (wanted_none rfl) rfl (args := #[(.agg #[.bool s, .slice A n c, .bool t, .slice B m d])]) (by simp only [List.map_toArray, List.map_cons, List.map_nil, eval_const, e7]) (ent7 (by kernel_rfl) _ _) (normalr_v (hq.below hB) (by omega) (by omega)) ?_
      rintro e w2 ⟨rfl, B⟩
      exact ⟨_, rfl, hK _ _ rfl B⟩
    · intro a w1 hB ho hp K hK
      have e8 : a.eval (.tmp 8) = (.bool true) := hp 1 8 (by kernel_rfl)
      refine hop_val (wanted_none rfl) ?_ (hK (.bool true) _ rfl (Below.refl _ _))
      unfold execOp; simp only [eval_const, e8]; simp [go_sem]
    · intro a w1 hB ho hp K hK
      have e3 : a.eval (.tmp 3) = (.pointer (some ⟨w.heap.size, 0, none⟩)) := ho 3 (by kernel_rfl)
      refine hop_val (wanted_at rfl (j := 2) (d := 9) (b := true) (by kernel_rfl) (hp 2 9 (by kernel_rfl))) ?_ (hK (.pointer (some ⟨w.heap.size, 0, none⟩)) _ rfl (Below.refl _ _))
      unfold execOp; simp only [e3]; simp [go_sem]
    · intro a w1 hB ho hp K hK
      have e10 : a.eval (.tmp 10) = (.pointer (some ⟨w.heap.size, 0, none⟩)) := hp 3 10 (by kernel_rfl)
      obtain ⟨u1, u2, u3, u4, u5, u6, u7, u8, u9⟩ := H_a.out.below hB
      exact hop_load (wanted_at rfl (j := 2) (d := 9) (b := true) (by kernel_rfl) (hp 2 9 (by kernel_rfl))) rfl e10 (run_ldz u1 u2) (hK _ _ rfl (Below.refl _ _))
    · intro a w1 hB ho hp K hK
      have e5 : a.eval (.tmp 5) = (.pointer (some ⟨(w.heap.size + 1 + 1), 0, none⟩)) := ho 5 (by kernel_rfl)
      obtain ⟨u1, u2, u3, u4, u5⟩ := H_x.out.below hB
      exact hop_load (wanted_at rfl (j := 2) (d := 9) (b := true) (by kernel_rfl) (hp 2 9 (by kernel_rfl))) rfl e5 (run_ldz u1 u2) (hK _ _ rfl (Below.refl _ _))
    · intro a w1 hB ho hp K hK
      have e11 : a.eval (.tmp 11) = (.agg #[.bool s, .slice A n c]) := hp 4 11 (by kernel_rfl)
      have e12 : a.eval (.tmp 12) = (.agg #[.bool v, .slice D' f' h']) := hp 5 12 (by kernel_rfl)
      refine hop_call (wanted_at rfl (j := 2) (d := 9) (b := true) (by kernel_rfl) (hp 2 9 (by kernel_rfl))) rfl (args := #[(.agg #[.bool s, .slice A n c]), (.agg #[.bool v, .slice D' f' h'])]) (by simp only [List.map_toArray, List.map_cons, List.map_nil, eval_const, e11, e12]) (ent7 (by kernel_rfl) _ _) (zmul_v (hq.below hB).nv (hd.below hB) (by omega) (by omega)) ?_
      rintro e w2 ⟨s, A, n, c, rfl, p, k, B⟩
      exact ⟨_, rfl, hK _ _ ⟨s, A, n, c, rfl, p, by omega⟩ B⟩
    · intro a w1 hB ho hp K hK
      have e4 : a.eval (.tmp 4) = (.pointer (some ⟨(w.heap.size + 1), 0, none⟩)) := ho 4 (by kernel_rfl)
      obtain ⟨u1, u2, u3, u4, u5⟩ := H_b.out.below hB
      exact hop_load (wanted_at rfl (j := 2) (d := 9) (b := true) (by kernel_rfl) (hp 2 9 (by kernel_rfl))) rfl e4 (run_ldz u1 u2) (hK _ _ rfl (Below.refl _ _))
    · intro a w1 hB ho hp K hK
      have e3 : a.eval (.tmp 3) = (.pointer (some ⟨w.heap.size, 0, none⟩)) := ho 3 (by kernel_rfl)
      refine hop_val (wanted_at rfl (j := 2) (d := 9) (b := true) (by kernel_rfl) (hp 2 9 (by kernel_rfl))) ?_ (hK (.pointer (some ⟨w.heap.size, 2, none⟩)) _ rfl (Below.refl _ _))
      unfold execOp; simp only [e3]; simp [go_sem]
    · intro a w1 hB ho hp K hK
      have e15 : a.eval (.tmp 15) = (.pointer (some ⟨w.heap.size, 2, none⟩)) := hp 8 15 (by kernel_rfl)
      obtain ⟨u1, u2, u3, u4, u5, u6, u7, u8, u9⟩ := H_a.out.below hB
      exact hop_load (wanted_at rfl (j := 2) (d := 9) (b := true) (by kernel_rfl) (hp 2 9 (by kernel_rfl))) rfl e15 (run_ldz u3 u4) (hK _ _ rfl (Below.refl _ _))
    · intro a w1 hB ho hp K hK
      have e14 : a.eval (.tmp 14) = (.agg #[.bool u, .slice C l e']) := hp 7 14 (by kernel_rfl)
      have e16 : a.eval (.tmp 16) = (.agg #[.bool t, .slice B m d]) := hp 9 16 (by kernel_rfl)
      refine hop_call (wanted_at rfl (j := 2) (d := 9) (b := true) (by kernel_rfl) (hp 2 9 (by kernel_rfl))) rfl (args := #[(.agg #[.bool u, .slice C l e']), (.agg #[.bool t, .slice B m d])]) (by simp only [List.map_toArray, List.map_cons, List.map_nil, eval_const, e14, e16]) (ent7 (by kernel_rfl) _ _) (zmul_v (hn.below hB) (hq.below hB).dv (by omega) (by omega)) ?_
      rintro e w2 ⟨s, A, n, c, rfl, p, k, B⟩
      exact ⟨_, rfl, hK _ _ ⟨s, A, n, c, rfl, p, by omega⟩ B⟩
    · intro a w1 hB ho hp K hK
      obtain ⟨s13, A13, n13, c13, e13, p13, k13⟩ : IsC (q.num * D) 274877906944 (a.eval (.tmp 13)) w1 := hp 6 13 (by kernel_rfl)
      obtain ⟨s17, A17, n17, c17, e17, p17, k17⟩ : IsC (N * (q.den : Int)) 274877906944 (a.eval (.tmp 17)) w1 := hp 10 17 (by kernel_rfl)
      refine hop_call (wanted_at rfl (j := 2) (d := 9) (b := true) (by kernel_rfl) (hp 2 9 (by kernel_rfl))) rfl (args := #[(.agg #[.bool s13, .slice A13 n13 c13]), (.agg #[.bool s17, .slice A17 n17 c17])]) (by simp only [List.map_toArray, List.map_cons, List.map_nil, eval_const, e13, e17]) (ent7 (by kernel_rfl) _ _) (zsame_yes p13.zv p17.zv (by omega) (by omega) HE.out) ?_
      rintro e w2 ⟨rfl, B⟩
      exact ⟨_, rfl, hK _ _ rfl B⟩
    · intro a w1 hB ho hp K hK
      have e9 : a.eval (.tmp 9) = (.bool true) := hp 2 9 (by kernel_rfl)
      have e18 : a.eval (.tmp 18) = (.bool true) := hp 11 18 (by kernel_rfl)
      refine hop_val (wanted_none rfl) ?_ (hK (.bool true) _ rfl (Below.refl _ _))
      unfold execOp; simp only [eval_const, e9, e18]; simp [go_sem]
    · intro a w1 hB ho hp K hK
      have e19 : a.eval (.tmp 19) = (.bool true) := hp 12 19 (by kernel_rfl)
      refine hop_val (wanted_none rfl) ?_ (hK (.bool true) _ rfl (Below.refl _ _))
      unfold execOp; simp only [eval_const, e19]; simp [go_sem]
  intro w21 B21
  refine EndAll.one rfl fun vv hv => ?_
  obtain rfl : vv = (.agg #[.bool s, .slice A n c, .bool t, .slice B m d]) := hv
  refine EndAll.one rfl fun vv hv => ?_
  obtain rfl : vv = (.bool true) := hv
  refine EndAll.one rfl fun vv hv => ?_
  obtain rfl : vv = (.bool true) := hv
  refine EndAll.one rfl fun vv hv => ?_
  obtain rfl : vv = (.pointer (some ⟨w.heap.size, 0, none⟩)) := hv
  refine EndAll.one rfl fun vv hv => ?_
  obtain rfl : vv = (.agg #[.bool s, .slice A n c]) := hv
  refine EndAll.one rfl fun vv hv => ?_
  obtain rfl : vv = (.agg #[.bool v, .slice D' f' h']) := hv
  refine EndAll.one rfl fun vv hv => ?_
  obtain ⟨s22, A22, n22, c22, rfl, p22, k22⟩ : IsC (q.num * D) 274877906944 vv w21 := hv
  refine EndAll.one rfl fun vv hv => ?_
  obtain rfl : vv = (.agg #[.bool u, .slice C l e']) := hv
  refine EndAll.one rfl fun vv hv => ?_
  obtain rfl : vv = (.pointer (some ⟨w.heap.size, 2, none⟩)) := hv
  refine EndAll.one rfl fun vv hv => ?_
  obtain rfl : vv = (.agg #[.bool t, .slice B m d]) := hv
  refine EndAll.one rfl fun vv hv => ?_
  obtain ⟨s23, A23, n23, c23, rfl, p23, k23⟩ : IsC (N * (q.den : Int)) 274877906944 vv w21 := hv
  refine EndAll.one rfl fun vv hv => ?_
  obtain rfl : vv = (.bool true) := hv
  refine EndAll.one rfl fun vv hv => ?_
  obtain rfl : vv = (.bool true) := hv
  refine EndAll.one rfl fun vv hv => ?_
  obtain rfl : vv = (.bool true) := hv
  refine EndAll.nil (l := []) rfl ?_
  simp only [Act.put, List.setIfInBounds_toArray, List.set_cons_zero, List.set_cons_succ]
  replace H_a := Lib.hid (H_a.out.below B21)
  replace H_b := Lib.hid (H_b.out.below B21)
  replace H_x := Lib.hid (H_x.out.below B21)
  replace hq := hq.below B21
  replace hn := hn.below B21
  replace hd := hd.below B21
  replace hW := hW.trans (B21.mono hW.size)
  clear B21
  go_wp2_with fail
  go_ret
  exact ⟨rfl, hW⟩
theorem few7_v {A B : Option Addr} {n m c d : Nat} {s t b : Bool} {k : Nat} {w : World} (hn : n ≤ 9223372036854775807) (hm : m ≤ 9223372036854775807) (hk : k ≤ 100) (hb : decide (n ≤ k ∧ m ≤ k) = b) :
    Calls Try.prog 18 #[.agg #[.bool s, .slice A n c, .bool t, .slice B m d], .int .i64 (k : Int)] w fun e w' => e = .returned (.bool b) ∧ Below w.heap.size w w' := by
  have HZ := Lib.hid (zba w (.cells #[.bool s, .slice A n c, .bool t, .slice B m d] 28))
  by_cases h1 : n ≤ k
  · by_cases h2 : m ≤ k
    · obtain rfl : b = true := by rw [← hb, decide_eq_true_iff]; exact ⟨h1, h2⟩
      clear hb
      go_enter Try.func18, Try.ntmps18
      go_wp2_with fail
      go_ret
      exact ⟨rfl, HZ.out⟩
    · obtain rfl : b = false := by rw [← hb, decide_eq_false_iff_not]; omega
      clear hb
      go_enter Try.func18, Try.ntmps18
      go_wp2_with fail
      go_ret
      exact ⟨rfl, HZ.out⟩
  · obtain rfl : b = false := by rw [← hb, decide_eq_false_iff_not]; omega
    clear hb
    go_enter Try.func18, Try.ntmps18
    go_wp2_with fail
    go_ret
    exact ⟨rfl, HZ.out⟩
set_option maxRecDepth 100000 in
set_option maxHeartbeats 4000000 in
theorem qawake_v (w : World) :
    Calls Try.prog 8 #[] w (TruePost w) := by
  have hW := Below.refl w.heap.size w
  have HN : Hid ((Rat.divInt 2 (-4)).num = -1) := Lib.hid (by decide +kernel)
  have HD : Hid (((Rat.divInt 2 (-4)).den : Int) = 2) := Lib.hid (by decide +kernel)
  have PR : ∀ w : World, QPrPost (Rat.divInt (Rat.divInt 2 (-4)).num ((Rat.divInt 2 (-4)).den : Int)) w = fun e w' => e = .returned (.string ({ data := #[45, 49, 47, 50] } : ByteArray)) ∧ Below w.heap.size w w' := fun w => by
    unfold QPrPost
    rw [rnum_rden, show qstr (Rat.divInt 2 (-4)) = ({ data := #[45, 49, 47, 50] } : ByteArray) from by decide +kernel]
  go_enter Try.func8, Try.ntmps8
  go_wp2_with fail
  refine (zof_v 2 (by omega) (by omega) _).mono ?_
  rintro e w21 ⟨s21, A21, n21, c21, rfl, p2, k21, B21⟩
  replace hW := hW.trans (B21.mono hW.size)
  clear B21
  go_wp2_with fail
  refine (zof_v (-4) (by omega) (by omega) _).mono ?_
  rintro e w22 ⟨s22, A22, n22, c22, rfl, p4, k22, B22⟩
  replace p2 := p2.below B22
  replace hW := hW.trans (B22.mono hW.size)
  clear B22
  go_wp2_with fail
  refine (make_v (k := 1) (b := true) p2.zv p4.zv (by omega) (by omega) (by omega) (by omega) (by decide)).mono ?_
  rintro e w23 ⟨s23, A23, n23, c23, t23, D23, m23, d23, rfl, pq, k23, l23, B23⟩
  replace p2 := p2.below B23
  replace p4 := p4.below B23
  replace hW := hW.trans (B23.mono hW.size)
  clear B23
  clear p2 p4
  obtain ⟨w24, hw24⟩ : ∃ x, x = w23.alloc (.cells #[.bool s23, .slice A23 n23 c23, .bool t23, .slice D23 m23 d23] 28) := ⟨_, rfl⟩
  have z24 : Below w23.heap.size w23 w24 := by rw [hw24]; exact zba _ _
  have HW24 : Hid (w23.alloc (.cells #[.bool s23, .slice A23 n23 c23, .bool t23, .slice D23 m23 d23] 28) = w24) := Lib.hid hw24.symm
  have lw_a : w.heap.size ≤ w23.heap.size := hW.size
  replace pq := pq.below z24
  replace hW := hW.trans (z24.mono hW.size)
  have H_a : Hid (Rb w24 w23.heap.size s23 A23 n23 c23 t23 D23 m23 d23) := Lib.hid (by rw [hw24]; exact Rb.new _ _ _ _ _ _ _ _ _ _)
  clear z24 hw24
  go_wp2_with fail
  rw [HW24.out]
  refine region7 [] 19 [IsK (.bool true), IsK (.bool true), IsK (.pointer (some ⟨w23.heap.size, 0, none⟩)), IsK (.agg #[.bool s23, .slice A23 n23 c23]), IsC (-1) 1, IsK (.bool true), IsK (.bool true), IsK (.bool true), IsK (.pointer (some ⟨w23.heap.size, 2, none⟩)), IsK (.agg #[.bool t23, .slice D23 m23 d23]), IsC 2 1, IsK (.bool true), IsK (.bool true), IsK (.bool true), IsK (.agg #[.bool s23, .slice A23 n23 c23, .bool t23, .slice D23 m23 d23]), IsK (.string ({ data := #[45, 49, 47, 50] } : ByteArray)), IsK (.bool true), IsK (.bool true), IsK (.bool true)] (fun _ _ d _ _ h => by cases d <;> exact h) (by kernel_rfl) (by kernel_rfl) (by kernel_rfl) ⟨stay_k _, stay_k _, stay_k _, stay_k _, stay_c _ _, stay_k _, stay_k _, stay_k _, stay_k _, stay_k _, stay_c _ _, stay_k _, stay_k _, stay_k _, stay_k _, stay_k _, stay_k _, stay_k _, stay_k _, trivial⟩ ?_ ?_
  · refine HopAll.cons rfl ?_ (HopAll.cons rfl ?_ (HopAll.cons rfl ?_ (HopAll.cons rfl ?_ (HopAll.cons rfl ?_ (HopAll.cons rfl ?_ (HopAll.cons rfl ?_ (HopAll.cons rfl ?_ (HopAll.cons rfl ?_ (HopAll.cons rfl ?_ (HopAll.cons rfl ?_ (HopAll.cons rfl ?_ (HopAll.cons rfl ?_ (HopAll.cons rfl ?_ (HopAll.cons rfl ?_ (HopAll.cons rfl ?_ (HopAll.cons rfl ?_ (HopAll.cons rfl ?_ (HopAll.cons rfl ?_ HopAll.nil))))))))))))))))))
    · intro a w1 hB ho hp K hK
      have e2 : a.eval (.tmp 2) = (.bool true) := ho 2 (by kernel_rfl)
      refine hop_val (wanted_none rfl) ?_ (hK (.bool true) _ rfl (Below.refl _ _))
      unfold execOp; simp only [eval_const, e2]; simp [go_sem]
    · intro a w1 hB ho hp K hK
      have e9 : a.eval (.tmp 9) = (.bool true) := hp 0 9 (by kernel_rfl)
      refine hop_val (wanted_none rfl) ?_ (hK (.bool true) _ rfl (Below.refl _ _))
      unfold execOp; simp only [eval_const, e9]; simp [go_sem]
    · intro a w1 hB ho hp K hK
      have e1 : a.eval (.tmp 1) = (.pointer (some ⟨w23.heap.size, 0, none⟩)) := ho 1 (by kernel_rfl)
      refine hop_val (wanted_at rfl (j := 1) (d := 10) (b := true) (by kernel_rfl) (hp 1 10 (by kernel_rfl))) ?_ (hK (.pointer (some ⟨w23.heap.size, 0, none⟩)) _ rfl (Below.refl _ _))
      unfold execOp; simp only [e1]; simp [go_sem]
    · intro a w1 hB ho hp K hK
      have e11 : a.eval (.tmp 11) = (.pointer (some ⟨w23.heap.size, 0, none⟩)) := hp 2 11 (by kernel_rfl)
      obtain ⟨u1, u2, u3, u4, u5, u6, u7, u8, u9⟩ := H_a.out.below hB
      exact hop_load (wanted_at rfl (j := 1) (d := 10) (b := true) (by kernel_rfl) (hp 1 10 (by kernel_rfl))) rfl e11 (run_ldz u1 u2) (hK _ _ rfl (Below.refl _ _))
    · intro a w1 hB ho hp K hK
      refine hop_call (wanted_at rfl (j := 1) (d := 10) (b := true) (by kernel_rfl) (hp 1 10 (by kernel_rfl))) rfl (args := #[.int .i64 (-1)]) (by simp only [List.map_toArray, List.map_cons, List.map_nil, eval_const]) (ent7 (by kernel_rfl) _ _) (zof_v (-1) (by omega) (by omega) _) ?_
      rintro e w2 ⟨s, A, n, c, rfl, p, k, B⟩
      exact ⟨_, rfl, hK _ _ ⟨s, A, n, c, rfl, p, by omega⟩ B⟩
    · intro a w1 hB ho hp K hK
      have e12 : a.eval (.tmp 12) = (.agg #[.bool s23, .slice A23 n23 c23]) := hp 3 12 (by kernel_rfl)
      obtain ⟨s13, A13, n13, c13, e13, p13, k13⟩ : IsC (-1) 1 (a.eval (.tmp 13)) w1 := hp 4 13 (by kernel_rfl)
      refine hop_call (wanted_at rfl (j := 1) (d := 10) (b := true) (by kernel_rfl) (hp 1 10 (by kernel_rfl))) rfl (args := #[(.agg #[.bool s23, .slice A23 n23 c23]), (.agg #[.bool s13, .slice A13 n13 c13])]) (by simp only [List.map_toArray, List.map_cons, List.map_nil, eval_const, e12, e13]) (ent7 (by kernel_rfl) _ _) (zsame_yes (pq.below hB).nv p13.zv (by omega) (by omega) HN.out) ?_
      rintro e w2 ⟨rfl, B⟩
      exact ⟨_, rfl, hK _ _ rfl B⟩
    · intro a w1 hB ho hp K hK
      have e10 : a.eval (.tmp 10) = (.bool true) := hp 1 10 (by kernel_rfl)
      have e14 : a.eval (.tmp 14) = (.bool true) := hp 5 14 (by kernel_rfl)
      refine hop_val (wanted_none rfl) ?_ (hK (.bool true) _ rfl (Below.refl _ _))
      unfold execOp; simp only [eval_const, e10, e14]; simp [go_sem]
    · intro a w1 hB ho hp K hK
      have e15 : a.eval (.tmp 15) = (.bool true) := hp 6 15 (by kernel_rfl)
      refine hop_val (wanted_none rfl) ?_ (hK (.bool true) _ rfl (Below.refl _ _))
      unfold execOp; simp only [eval_const, e15]; simp [go_sem]
    · intro a w1 hB ho hp K hK
      have e1 : a.eval (.tmp 1) = (.pointer (some ⟨w23.heap.size, 0, none⟩)) := ho 1 (by kernel_rfl)
      refine hop_val (wanted_at rfl (j := 7) (d := 16) (b := true) (by kernel_rfl) (hp 7 16 (by kernel_rfl))) ?_ (hK (.pointer (some ⟨w23.heap.size, 2, none⟩)) _ rfl (Below.refl _ _))
      unfold execOp; simp only [e1]; simp [go_sem]
    · intro a w1 hB ho hp K hK
      have e17 : a.eval (.tmp 17) = (.pointer (some ⟨w23.heap.size, 2, none⟩)) := hp 8 17 (by kernel_rfl)
      obtain ⟨u1, u2, u3, u4, u5, u6, u7, u8, u9⟩ := H_a.out.below hB
      exact hop_load (wanted_at rfl (j := 7) (d := 16) (b := true) (by kernel_rfl) (hp 7 16 (by kernel_rfl))) rfl e17 (run_ldz u3 u4) (hK _ _ rfl (Below.refl _ _))
    · intro a w1 hB ho hp K hK
      refine hop_call (wanted_at rfl (j := 7) (d := 16) (b := true) (by kernel_rfl) (hp 7 16 (by kernel_rfl))) rfl (args := #[.int .i64 (2)]) (by simp only [List.map_toArray, List.map_cons, List.map_nil, eval_const]) (ent7 (by kernel_rfl) _ _) (zof_v 2 (by omega) (by omega) _) ?_
      rintro e w2 ⟨s, A, n, c, rfl, p, k, B⟩
      exact ⟨_, rfl, hK _ _ ⟨s, A, n, c, rfl, p, by omega⟩ B⟩
    · intro a w1 hB ho hp K hK
      have e18 : a.eval (.tmp 18) = (.agg #[.bool t23, .slice D23 m23 d23]) := hp 9 18 (by kernel_rfl)
      obtain ⟨s19, A19, n19, c19, e19, p19, k19⟩ : IsC 2 1 (a.eval (.tmp 19)) w1 := hp 10 19 (by kernel_rfl)
      refine hop_call (wanted_at rfl (j := 7) (d := 16) (b := true) (by kernel_rfl) (hp 7 16 (by kernel_rfl))) rfl (args := #[(.agg #[.bool t23, .slice D23 m23 d23]), (.agg #[.bool s19, .slice A19 n19 c19])]) (by simp only [List.map_toArray, List.map_cons, List.map_nil, eval_const, e18, e19]) (ent7 (by kernel_rfl) _ _) (zsame_yes (pq.below hB).dv p19.zv (by omega) (by omega) HD.out) ?_
      rintro e w2 ⟨rfl, B⟩
      exact ⟨_, rfl, hK _ _ rfl B⟩
    · intro a w1 hB ho hp K hK
      have e16 : a.eval (.tmp 16) = (.bool true) := hp 7 16 (by kernel_rfl)
      have e20 : a.eval (.tmp 20) = (.bool true) := hp 11 20 (by kernel_rfl)
      refine hop_val (wanted_none rfl) ?_ (hK (.bool true) _ rfl (Below.refl _ _))
      unfold execOp; simp only [eval_const, e16, e20]; simp [go_sem]
    · intro a w1 hB ho hp K hK
      have e21 : a.eval (.tmp 21) = (.bool true) := hp 12 21 (by kernel_rfl)
      refine hop_val (wanted_none rfl) ?_ (hK (.bool true) _ rfl (Below.refl _ _))
      unfold execOp; simp only [eval_const, e21]; simp [go_sem]
    · intro a w1 hB ho hp K hK
      have e1 : a.eval (.tmp 1) = (.pointer (some ⟨w23.heap.size, 0, none⟩)) := ho 1 (by kernel_rfl)
      obtain ⟨u1, u2, u3, u4, u5, u6, u7, u8, u9⟩ := H_a.out.below hB
      exact hop_load (wanted_at rfl (j := 13) (d := 22) (b := true) (by kernel_rfl) (hp 13 22 (by kernel_rfl))) rfl e1 (run_ldq u1 u2 u3 u4) (hK _ _ rfl (Below.refl _ _))
    · intro a w1 hB ho hp K hK
      have e23 : a.eval (.tmp 23) = (.agg #[.bool s23, .slice A23 n23 c23, .bool t23, .slice D23 m23 d23]) := hp 14 23 (by kernel_rfl)
      refine hop_call (wanted_at rfl (j := 13) (d := 22) (b := true) (by kernel_rfl) (hp 13 22 (by kernel_rfl))) rfl (args := #[(.agg #[.bool s23, .slice A23 n23 c23, .bool t23, .slice D23 m23 d23])]) (by simp only [List.map_toArray, List.map_cons, List.map_nil, eval_const, e23]) (ent7 (by kernel_rfl) _ _) ((PR _) ▸ qprint_v (k := 1) (pq.below hB).nv (pq.below hB).dv (by omega) (by omega) (by omega) (by omega)) ?_
      rintro e w2 ⟨rfl, B⟩
      exact ⟨_, rfl, hK _ _ rfl B⟩
    · intro a w1 hB ho hp K hK
      have e24 : a.eval (.tmp 24) = (.string ({ data := #[45, 49, 47, 50] } : ByteArray)) := hp 15 24 (by kernel_rfl)
      refine hop_val (wanted_at rfl (j := 13) (d := 22) (b := true) (by kernel_rfl) (hp 13 22 (by kernel_rfl))) ?_ (hK (.bool true) _ rfl (Below.refl _ _))
      unfold execOp; simp only [eval_const, e24]; simp [go_sem]
    · intro a w1 hB ho hp K hK
      have e22 : a.eval (.tmp 22) = (.bool true) := hp 13 22 (by kernel_rfl)
      have e25 : a.eval (.tmp 25) = (.bool true) := hp 16 25 (by kernel_rfl)
      refine hop_val (wanted_none rfl) ?_ (hK (.bool true) _ rfl (Below.refl _ _))
      unfold execOp; simp only [eval_const, e22, e25]; simp [go_sem]
    · intro a w1 hB ho hp K hK
      have e26 : a.eval (.tmp 26) = (.bool true) := hp 17 26 (by kernel_rfl)
      refine hop_val (wanted_none rfl) ?_ (hK (.bool true) _ rfl (Below.refl _ _))
      unfold execOp; simp only [eval_const, e26]; simp [go_sem]
  intro w25 B25
  refine EndAll.one rfl fun vv hv => ?_
  obtain rfl : vv = (.bool true) := hv
  refine EndAll.one rfl fun vv hv => ?_
  obtain rfl : vv = (.bool true) := hv
  refine EndAll.one rfl fun vv hv => ?_
  obtain rfl : vv = (.pointer (some ⟨w23.heap.size, 0, none⟩)) := hv
  refine EndAll.one rfl fun vv hv => ?_
  obtain rfl : vv = (.agg #[.bool s23, .slice A23 n23 c23]) := hv
  refine EndAll.one rfl fun vv hv => ?_
  obtain ⟨s26, A26, n26, c26, rfl, p26, k26⟩ : IsC (-1) 1 vv w25 := hv
  refine EndAll.one rfl fun vv hv => ?_
  obtain rfl : vv = (.bool true) := hv
  refine EndAll.one rfl fun vv hv => ?_
  obtain rfl : vv = (.bool true) := hv
  refine EndAll.one rfl fun vv hv => ?_
  obtain rfl : vv = (.bool true) := hv
  refine EndAll.one rfl fun vv hv => ?_
  obtain rfl : vv = (.pointer (some ⟨w23.heap.size, 2, none⟩)) := hv
  refine EndAll.one rfl fun vv hv => ?_
  obtain rfl : vv = (.agg #[.bool t23, .slice D23 m23 d23]) := hv
  refine EndAll.one rfl fun vv hv => ?_
  obtain ⟨s27, A27, n27, c27, rfl, p27, k27⟩ : IsC 2 1 vv w25 := hv
  refine EndAll.one rfl fun vv hv => ?_
  obtain rfl : vv = (.bool true) := hv
  refine EndAll.one rfl fun vv hv => ?_
  obtain rfl : vv = (.bool true) := hv
  refine EndAll.one rfl fun vv hv => ?_
  obtain rfl : vv = (.bool true) := hv
  refine EndAll.one rfl fun vv hv => ?_
  obtain rfl : vv = (.agg #[.bool s23, .slice A23 n23 c23, .bool t23, .slice D23 m23 d23]) := hv
  refine EndAll.one rfl fun vv hv => ?_
  obtain rfl : vv = (.string ({ data := #[45, 49, 47, 50] } : ByteArray)) := hv
  refine EndAll.one rfl fun vv hv => ?_
  obtain rfl : vv = (.bool true) := hv
  refine EndAll.one rfl fun vv hv => ?_
  obtain rfl : vv = (.bool true) := hv
  refine EndAll.one rfl fun vv hv => ?_
  obtain rfl : vv = (.bool true) := hv
  refine EndAll.nil (l := []) rfl ?_
  simp only [Act.put, List.setIfInBounds_toArray, List.set_cons_zero, List.set_cons_succ]
  replace H_a := Lib.hid (H_a.out.below B25)
  replace pq := pq.below B25
  replace hW := hW.trans (B25.mono hW.size)
  clear B25
  go_wp2_with fail
  go_ret
  exact ⟨rfl, hW⟩
end Go.Proofs.Ytfpncmhaoadfdaa
