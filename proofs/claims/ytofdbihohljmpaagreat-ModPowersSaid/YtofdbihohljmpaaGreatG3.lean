/-
  The walk of ModPowers.
-/
import Derived.Test.YtofdbihohljmpaaGreatModD
/-! The walk of ModPowers. -/
namespace Go.Proofs.YtofdbihohljmpaaGreat
open Go.RowKit
set_option linter.unusedVariables false
set_option linter.unusedSimpArgs false

/-- A whole number in a variable, and a truth. -/
def VarIs (bb : Bool) (w0 : World) (z : Int) (k : Nat) (v b : Value) (wx : World) : Prop := VarCut w0 z k v wx ∧ b = .bool bb
/-- The power of the inverse in a variable. -/
def PwV (w0 : World) (x y : Int) (n k : Nat) (v b : Value) (wx : World) : Prop := ∃ X, (0 ≤ X ∧ X < y ∧ X * x % y = 1 % y) ∧ VarCut w0 (X ^ n % y) k v wx ∧ b = .bool true
theorem PwV.mk {w0 wx : World} {x y X : Int} {n k : Nat} {v : Value} (h : 0 ≤ X ∧ X < y ∧ X * x % y = 1 % y) (c : VarCut w0 (X ^ n % y) k v wx) : PwV w0 x y n k v (.bool true) wx := ⟨X, h, c, rfl⟩
theorem inv_one {x y X Z : Int} (h : 0 ≤ X ∧ X < y ∧ X * x % y = 1 % y) (k : 0 ≤ Z ∧ Z < y ∧ Z * x % y = 1 % y) : X = Z := by
  have e : X % y = Z % y := by
    have a1 : X * (Z * x) % y = X % y := by
      rw [Int.mul_emod, k.2.2, ← Int.mul_emod, Int.mul_one]
    have a2 : Z * (X * x) % y = Z % y := by
      rw [Int.mul_emod, h.2.2, ← Int.mul_emod, Int.mul_one]
    rw [← a1, ← a2]
    congr 1
    rw [← Int.mul_assoc, ← Int.mul_assoc, Int.mul_comm X Z]
  rwa [Int.emod_eq_of_lt h.1 h.2.1, Int.emod_eq_of_lt k.1 k.2.1] at e
theorem tmod13 (e : Int) : -12 ≤ e.tmod 13 ∧ e.tmod 13 ≤ 12 := by
  have h := Int.natAbs_tmod e 13
  have : (13 : Int).natAbs = 13 := rfl
  rw [this] at h
  omega
theorem pow_cong (x y : Int) (v : Nat) : decide (y ∣ x ^ v % y - x ^ v) = true :=
  decide_eq_true (Int.dvd_of_emod_eq_zero (Int.emod_eq_emod_iff_emod_sub_eq_zero.1 (Int.emod_emod _ _)))
/-- What the loop of powers holds. -/
def MpAt (w : World) (g8 gx g13 : Nat) (s8 : Bool) (A8 : Option Addr) (n8 c8 : Nat) (p : Int) (sx : Bool) (AX : Option Addr) (nx cx : Nat) (x : Int) (gb : Nat) (t : Bool) (B : Option Addr) (m d : Nat) (y : Int) (i : Nat) (wr : World) : Prop :=
  ∃ s A n c, Ib wr g13 s A n c ∧ Zc wr s A n c (x ^ i) ∧ n ≤ 1 + 16 * i ∧ Ib wr g8 s8 A8 n8 c8 ∧ Zv wr s8 A8 n8 c8 p ∧ Ib wr gx sx AX nx cx ∧ Zv wr sx AX nx cx x ∧ Ib wr gb t B m d ∧ Zv wr t B m d y ∧ g8 < g13 ∧ gx < g13 ∧ gb < g13 ∧ w.heap.size ≤ g13 ∧ Below w.heap.size w wr
theorem MpAt.put {w wr w1 : World} {g8 gx g13 : Nat} {s8 : Bool} {A8 : Option Addr} {n8 c8 : Nat} {p : Int} {sx : Bool} {AX : Option Addr} {nx cx : Nat} {x : Int} {gb : Nat} {t : Bool} {B : Option Addr} {m d : Nat} {y : Int} {i : Nat} {s1 : Bool} {A1 : Option Addr} {n1 c1 : Nat} (H : MpAt w g8 gx g13 s8 A8 n8 c8 p sx AX nx cx x gb t B m d y i wr) (hb : Below wr.heap.size wr w1) (q : Zc w1 s1 A1 n1 c1 (x ^ i * x)) (hn : n1 ≤ 1 + 16 * (i + 1)) :
    MpAt w g8 gx g13 s8 A8 n8 c8 p sx AX nx cx x gb t B m d y (i + 1) ((w1.setCell ⟨g13, 0, none⟩ (.bool s1)).setCell ⟨g13, 1, none⟩ (.slice A1 n1 c1)) := by
  obtain ⟨s, A, n, c, I, pz, hk, I8, p8, IX, px, IB, pb, h1, h2, h3, h4, hW⟩ := H
  have J := I.below hb
  refine ⟨s1, A1, n1, c1, J.own, ?_, hn, (I8.below hb).put (l := 0) (e := 0) (u := true) (C := none) (by omega), (p8.below hb).put J, (IX.below hb).put (l := 0) (e := 0) (u := true) (C := none) (by omega), (px.below hb).put J, (IB.below hb).put (l := 0) (e := 0) (u := true) (C := none) (by omega), (pb.below hb).put J, h1, h2, h3, h4, below_put (hW.trans (hb.mono hW.size)) (by omega)⟩
  rw [Int.pow_succ]
  exact q.put J
set_option maxRecDepth 100000 in
set_option maxHeartbeats 16000000 in
theorem mp_few {A B : Option Addr} {n m c d : Nat} {s t : Bool} {x y e0 N : Int} {w : World} (hx : Zv w s A n c x) (hy : Zv w t B m d y) (hN : e0.tmod 13 = N) (hNl : -12 ≤ N) (hNu : N ≤ 12) (hn : n ≤ 9223372036854775807) (hm : m ≤ 9223372036854775807) (hf : ¬ (n ≤ 2 ∧ m ≤ 2)) :
    Calls Tryz.prog 3 #[.agg #[.bool s, .slice A n c], .agg #[.bool t, .slice B m d], .int .i8 e0] w (TruePost w) := by
  obtain ⟨w3, hw3, IA, IB, z0⟩ := open2 w s t A B n c m d
  have HW := Lib.hid hw3.symm
  replace hx := hx.below z0
  replace hy := hy.below z0
  have hW := z0
  have H_a := Lib.hid IA
  have H_b := Lib.hid IB
  have HNE := Lib.hid hN
  clear hw3 IA IB z0 hN
  have HF : Hid (decide (n ≤ 2 ∧ m ≤ 2 ∧ m ≤ 2) = false) := Lib.hid (decide_eq_false fun k => hf ⟨k.1, k.2.1⟩)
  clear hf
  go_enter Tryz.func3, Tryz.ntmps3
  obtain ⟨a1, a2, a3, a4, a5⟩ := H_a.out
  obtain ⟨b1, b2, b3, b4, b5⟩ := H_b.out
  go_wp2_with fail
  rw [HW.out]
  clear a1 a2 a3 a4 a5 b1 b2 b3 b4 b5
  refine (mawake_calls _).mono ?_
  rintro e w21 ⟨rfl, B21⟩
  replace H_a := Lib.hid (H_a.out.below B21)
  replace H_b := Lib.hid (H_b.out.below B21)
  replace hx := hx.below B21
  replace hy := hy.below B21
  replace hW := hW.trans (B21.mono hW.size)
  clear B21
  obtain ⟨a1, a2, a3, a4, a5⟩ := H_a.out
  obtain ⟨b1, b2, b3, b4, b5⟩ := H_b.out
  go_wp2_with fail
  clear a1 a2 a3 a4 a5 b1 b2 b3 b4 b5
  refine (mfew_v (k := 2) (b := false) hn hm hm (by omega) HF.out).mono ?_
  rintro e w22 ⟨rfl, B22⟩
  replace H_a := Lib.hid (H_a.out.below B22)
  replace H_b := Lib.hid (H_b.out.below B22)
  replace hx := hx.below B22
  replace hy := hy.below B22
  replace hW := hW.trans (B22.mono hW.size)
  clear B22
  obtain ⟨a1, a2, a3, a4, a5⟩ := H_a.out
  obtain ⟨b1, b2, b3, b4, b5⟩ := H_b.out
  go_wp2_with fail
  clear a1 a2 a3 a4 a5 b1 b2 b3 b4 b5
  refine (mawake_calls _).mono ?_
  rintro e w23 ⟨rfl, B23⟩
  replace H_a := Lib.hid (H_a.out.below B23)
  replace H_b := Lib.hid (H_b.out.below B23)
  replace hx := hx.below B23
  replace hy := hy.below B23
  replace hW := hW.trans (B23.mono hW.size)
  clear B23
  go_wp2_with fail
  go_ret
  exact ⟨rfl, hW⟩
set_option maxRecDepth 100000 in
set_option maxHeartbeats 16000000 in
theorem mp_badp {A B : Option Addr} {n m c d : Nat} {s t : Bool} {x y e0 N : Int} {w : World} (hx : Zv w s A n c x) (hy : Zv w t B m d y) (hN : e0.tmod 13 = N) (hNl : -12 ≤ N) (hNu : N ≤ 12) (h1 : n ≤ 2) (h2 : m ≤ 2) (hs : 0 ≤ N) (h0 : y ≤ 0) :
    Calls Tryz.prog 3 #[.agg #[.bool s, .slice A n c], .agg #[.bool t, .slice B m d], .int .i8 e0] w (TruePost w) := by
  obtain ⟨w3, hw3, IA, IB, z0⟩ := open2 w s t A B n c m d
  have HW := Lib.hid hw3.symm
  replace hx := hx.below z0
  replace hy := hy.below z0
  have hW := z0
  have H_a := Lib.hid IA
  have H_b := Lib.hid IB
  have HNE := Lib.hid hN
  clear hw3 IA IB z0 hN
  obtain ⟨sy, hsy⟩ : ∃ r, y.sign = r := ⟨_, rfl⟩
  have hs0 : sy ≤ 0 := by
    rcases Int.lt_or_eq_of_le h0 with h | h
    · rw [← hsy, Int.sign_eq_neg_one_of_neg h]; omega
    · rw [← hsy, h]; decide
  have HSY := Lib.hid hsy
  clear hsy
  go_enter Tryz.func3, Tryz.ntmps3
  obtain ⟨a1, a2, a3, a4, a5⟩ := H_a.out
  obtain ⟨b1, b2, b3, b4, b5⟩ := H_b.out
  go_wp2_with fail
  rw [HW.out]
  clear a1 a2 a3 a4 a5 b1 b2 b3 b4 b5
  refine (mawake_calls _).mono ?_
  rintro e w21 ⟨rfl, B21⟩
  replace H_a := Lib.hid (H_a.out.below B21)
  replace H_b := Lib.hid (H_b.out.below B21)
  replace hx := hx.below B21
  replace hy := hy.below B21
  replace hW := hW.trans (B21.mono hW.size)
  clear B21
  obtain ⟨a1, a2, a3, a4, a5⟩ := H_a.out
  obtain ⟨b1, b2, b3, b4, b5⟩ := H_b.out
  go_wp2_with fail
  clear a1 a2 a3 a4 a5 b1 b2 b3 b4 b5
  refine (mfew_v (k := 2) (b := true) (by omega) (by omega) (by omega) (by omega) (by rw [decide_eq_true_iff]; omega)).mono ?_
  rintro e w22 ⟨rfl, B22⟩
  replace H_a := Lib.hid (H_a.out.below B22)
  replace H_b := Lib.hid (H_b.out.below B22)
  replace hx := hx.below B22
  replace hy := hy.below B22
  replace hW := hW.trans (B22.mono hW.size)
  clear B22
  have hN := HNE.out
  obtain ⟨a1, a2, a3, a4, a5⟩ := H_a.out
  obtain ⟨b1, b2, b3, b4, b5⟩ := H_b.out
  go_wp2_with fail
  clear a1 a2 a3 a4 a5 b1 b2 b3 b4 b5
  go_upto_region 4 with fail
  clear hN
  go_cut [8, 9] (VarIs false w22 0 0)
  case first =>
    obtain ⟨a1, a2, a3, a4, a5⟩ := H_a.out
    obtain ⟨b1, b2, b3, b4, b5⟩ := H_b.out
    have an : ¬ (w22.heap.size = w.heap.size) := by omega
    have am : ¬ (w.heap.size = w22.heap.size) := by omega
    have bn : ¬ (w22.heap.size = (w.heap.size + 1)) := by omega
    have bm : ¬ ((w.heap.size + 1) = w22.heap.size) := by omega
    go_region_held3 (fun w' => w'.cell? ⟨w.heap.size, 0, none⟩ = some (.bool s) ∧ w'.cell? ⟨w.heap.size, 1, none⟩ = some (.slice A n c) ∧ w'.cell? ⟨(w.heap.size + 1), 0, none⟩ = some (.bool t) ∧ w'.cell? ⟨(w.heap.size + 1), 1, none⟩ = some (.slice B m d)) (go_keep) (first
      | (go_at_call 8; (with_reducible refine (zof_v N (by omega) (by omega) _).mono ?_); rintro e w23 ⟨s23, A23, n23, c23, rfl, p23, k23, B23⟩; have Q23 := zup (below_drew _) B23; obtain ⟨ax23, ay23, af23, ag23, az23⟩ := H_a.out.below Q23; have an23 : ¬ (w23.heap.size = w.heap.size) := (by omega); have am23 : ¬ (w.heap.size = w23.heap.size) := (by omega); obtain ⟨bx23, by23, bf23, bg23, bz23⟩ := H_b.out.below Q23; have bn23 : ¬ (w23.heap.size = (w.heap.size + 1)) := (by omega); have bm23 : ¬ ((w.heap.size + 1) = w23.heap.size) := (by omega))
      | (go_at_call 8; (with_reducible refine (zof_v N (by omega) (by omega) _).mono ?_); rintro e w23 ⟨s23, A23, n23, c23, rfl, p23, k23, B23⟩; have Q23 := zup (zbd _ _) B23; have J23 := (Ib.newd w22 false none 0 0 25).below B23; have g23 := Nat.le_refl w22.heap.size; obtain ⟨ax23, ay23, af23, ag23, az23⟩ := H_a.out.below Q23; have an23 : ¬ (w23.heap.size = w.heap.size) := (by omega); have am23 : ¬ (w.heap.size = w23.heap.size) := (by omega); obtain ⟨bx23, by23, bf23, bg23, bz23⟩ := H_b.out.below Q23; have bn23 : ¬ (w23.heap.size = (w.heap.size + 1)) := (by omega); have bm23 : ¬ ((w.heap.size + 1) = w23.heap.size) := (by omega); have Jc23 := J23; obtain ⟨jx23, jy23, jf23, jg23, jz23⟩ := Jc23)
      | (go_at_call 7; (with_reducible refine (pow_nopos (hx.below Q23) p23.zv (hy.below Q23) (by omega) (by omega) (by omega) hs h0).mono ?_); rintro e w24 ⟨rfl, B24⟩; have p24 := Zc.none0 w24; have Q24 := zup Q23 B24; have R24 := B24; have J24 := J23.below B24; have g24 := g23; obtain ⟨ax24, ay24, af24, ag24, az24⟩ := H_a.out.below Q24; have an24 : ¬ (w24.heap.size = w.heap.size) := (by omega); have am24 : ¬ (w.heap.size = w24.heap.size) := (by omega); obtain ⟨bx24, by24, bf24, bg24, bz24⟩ := H_b.out.below Q24; have bn24 : ¬ (w24.heap.size = (w.heap.size + 1)) := (by omega); have bm24 : ¬ ((w.heap.size + 1) = w24.heap.size) := (by omega); have Jc24 := J24; obtain ⟨jx24, jy24, jf24, jg24, jz24⟩ := Jc24)
      | (go_at_call 7; (with_reducible refine (pow_nopos (hx.below Q23) p23.zv (hy.below Q23) (by omega) (by omega) (by omega) hs h0).mono ?_); rintro e w24 ⟨rfl, B24⟩; have p24 := Zc.none0 w24; have Q24 := zup Q23 B24; have R24 := B24; obtain ⟨ax24, ay24, af24, ag24, az24⟩ := H_a.out.below Q24; have an24 : ¬ (w24.heap.size = w.heap.size) := (by omega); have am24 : ¬ (w.heap.size = w24.heap.size) := (by omega); obtain ⟨bx24, by24, bf24, bg24, bz24⟩ := H_b.out.below Q24; have bn24 : ¬ (w24.heap.size = (w.heap.size + 1)) := (by omega); have bm24 : ¬ ((w.heap.size + 1) = w24.heap.size) := (by omega))
      | (go_at_call 7; (with_reducible refine (pow_nopos (hx.below (zup Q23 (zba _ _))) (p23.below (zba _ _)).zv (hy.below (zup Q23 (zba _ _))) (by omega) (by omega) (by omega) hs h0).mono ?_); rintro e w24 ⟨rfl, B24⟩; have p24 := Zc.none0 w24; have Q24 := zup (zup Q23 (zba _ _)) B24; have R24 := zup (zba w23 _) B24; have J24 := (Ib.new w23 false none 0 0 25).below B24; have g24 := Q23.size; obtain ⟨ax24, ay24, af24, ag24, az24⟩ := H_a.out.below Q24; have an24 : ¬ (w24.heap.size = w.heap.size) := (by omega); have am24 : ¬ (w.heap.size = w24.heap.size) := (by omega); obtain ⟨bx24, by24, bf24, bg24, bz24⟩ := H_b.out.below Q24; have bn24 : ¬ (w24.heap.size = (w.heap.size + 1)) := (by omega); have bm24 : ¬ ((w.heap.size + 1) = w24.heap.size) := (by omega); have Jc24 := J24; obtain ⟨jx24, jy24, jf24, jg24, jz24⟩ := Jc24)
      | fail)
    all_goals
      first
      | have P := Lib.hid (VarCut.put (w0 := w22) (z := 0) (k := 0) J24 p24 Q24 g24 (by omega))
      | have P := Lib.hid (VarCut.new (w0 := w22) (z := 0) (k := 0) (t := 25) p24 Q24 (by omega))
      go_wp2_with fail
      go_meet
      exact ⟨P.out, rfl⟩
  case rest =>
    obtain ⟨⟨g25, s25, A25, n25, c25, rfl, hg25, I25, p25, k25, B25⟩, rfl⟩ := hcut
    obtain ⟨w25, hw25⟩ : ∃ x, x = wc := ⟨_, rfl⟩
    subst hw25
    have lt_a_p : w.heap.size < g25 := Nat.lt_of_lt_of_le H_a.out.2.2.2.2 hg25
    have lt_b_p : (w.heap.size + 1) < g25 := Nat.lt_of_lt_of_le H_b.out.2.2.2.2 hg25
    have lw_p : w.heap.size ≤ g25 := Nat.le_trans hW.size hg25
    replace H_a := Lib.hid (H_a.out.below B25)
    replace H_b := Lib.hid (H_b.out.below B25)
    replace hx := hx.below B25
    replace hy := hy.below B25
    replace hW := hW.trans (B25.mono hW.size)
    have H_p := Lib.hid I25
    clear B25 I25 hg25
    have pq := p25
    clear p25
    obtain ⟨a1, a2, a3, a4, a5⟩ := H_a.out
    obtain ⟨b1, b2, b3, b4, b5⟩ := H_b.out
    obtain ⟨p1, p2, p3, p4, p5⟩ := H_p.out
    go_wp2_with fail
    clear a1 a2 a3 a4 a5 b1 b2 b3 b4 b5 p1 p2 p3 p4 p5
    refine (zsign_v hy (by omega) HSY.out).mono ?_
    rintro e w26 ⟨rfl, B26⟩
    replace H_a := Lib.hid (H_a.out.below B26)
    replace H_b := Lib.hid (H_b.out.below B26)
    replace H_p := Lib.hid (H_p.out.below B26)
    replace hx := hx.below B26
    replace hy := hy.below B26
    replace pq := pq.below B26
    replace hW := hW.trans (B26.mono hW.size)
    clear B26
    obtain ⟨a1, a2, a3, a4, a5⟩ := H_a.out
    obtain ⟨b1, b2, b3, b4, b5⟩ := H_b.out
    obtain ⟨p1, p2, p3, p4, p5⟩ := H_p.out
    go_wp2_with fail
    clear a1 a2 a3 a4 a5 b1 b2 b3 b4 b5 p1 p2 p3 p4 p5
    refine (zsign_v pq.zv (by omega) (show (0 : Int).sign = 0 from rfl)).mono ?_
    rintro e w27 ⟨rfl, B27⟩
    replace H_a := Lib.hid (H_a.out.below B27)
    replace H_b := Lib.hid (H_b.out.below B27)
    replace H_p := Lib.hid (H_p.out.below B27)
    replace hx := hx.below B27
    replace hy := hy.below B27
    replace pq := pq.below B27
    replace hW := hW.trans (B27.mono hW.size)
    clear B27
    go_wp2_with fail
    go_ret
    exact ⟨rfl, hW⟩
set_option maxRecDepth 100000 in
set_option maxHeartbeats 16000000 in
theorem mp_badn {A B : Option Addr} {n m c d : Nat} {s t : Bool} {x y e0 N : Int} {w : World} (hx : Zv w s A n c x) (hy : Zv w t B m d y) (hN : e0.tmod 13 = N) (hNl : -12 ≤ N) (hNu : N ≤ 12) (h1 : n ≤ 2) (h2 : m ≤ 2) (hs : N < 0) (h0 : y ≤ 0) :
    Calls Tryz.prog 3 #[.agg #[.bool s, .slice A n c], .agg #[.bool t, .slice B m d], .int .i8 e0] w (TruePost w) := by
  obtain ⟨w3, hw3, IA, IB, z0⟩ := open2 w s t A B n c m d
  have HW := Lib.hid hw3.symm
  replace hx := hx.below z0
  replace hy := hy.below z0
  have hW := z0
  have H_a := Lib.hid IA
  have H_b := Lib.hid IB
  have HNE := Lib.hid hN
  clear hw3 IA IB z0 hN
  obtain ⟨sy, hsy⟩ : ∃ r, y.sign = r := ⟨_, rfl⟩
  have hs0 : sy ≤ 0 := by
    rcases Int.lt_or_eq_of_le h0 with h | h
    · rw [← hsy, Int.sign_eq_neg_one_of_neg h]; omega
    · rw [← hsy, h]; decide
  have HSY := Lib.hid hsy
  clear hsy
  go_enter Tryz.func3, Tryz.ntmps3
  obtain ⟨a1, a2, a3, a4, a5⟩ := H_a.out
  obtain ⟨b1, b2, b3, b4, b5⟩ := H_b.out
  go_wp2_with fail
  rw [HW.out]
  clear a1 a2 a3 a4 a5 b1 b2 b3 b4 b5
  refine (mawake_calls _).mono ?_
  rintro e w21 ⟨rfl, B21⟩
  replace H_a := Lib.hid (H_a.out.below B21)
  replace H_b := Lib.hid (H_b.out.below B21)
  replace hx := hx.below B21
  replace hy := hy.below B21
  replace hW := hW.trans (B21.mono hW.size)
  clear B21
  obtain ⟨a1, a2, a3, a4, a5⟩ := H_a.out
  obtain ⟨b1, b2, b3, b4, b5⟩ := H_b.out
  go_wp2_with fail
  clear a1 a2 a3 a4 a5 b1 b2 b3 b4 b5
  refine (mfew_v (k := 2) (b := true) (by omega) (by omega) (by omega) (by omega) (by rw [decide_eq_true_iff]; omega)).mono ?_
  rintro e w22 ⟨rfl, B22⟩
  replace H_a := Lib.hid (H_a.out.below B22)
  replace H_b := Lib.hid (H_b.out.below B22)
  replace hx := hx.below B22
  replace hy := hy.below B22
  replace hW := hW.trans (B22.mono hW.size)
  clear B22
  have hN := HNE.out
  obtain ⟨a1, a2, a3, a4, a5⟩ := H_a.out
  obtain ⟨b1, b2, b3, b4, b5⟩ := H_b.out
  go_wp2_with fail
  clear a1 a2 a3 a4 a5 b1 b2 b3 b4 b5
  go_upto_region 4 with fail
  clear hN
  go_cut [8, 9] (VarIs false w22 0 0)
  case first =>
    obtain ⟨a1, a2, a3, a4, a5⟩ := H_a.out
    obtain ⟨b1, b2, b3, b4, b5⟩ := H_b.out
    have an : ¬ (w22.heap.size = w.heap.size) := by omega
    have am : ¬ (w.heap.size = w22.heap.size) := by omega
    have bn : ¬ (w22.heap.size = (w.heap.size + 1)) := by omega
    have bm : ¬ ((w.heap.size + 1) = w22.heap.size) := by omega
    go_region_held3 (fun w' => w'.cell? ⟨w.heap.size, 0, none⟩ = some (.bool s) ∧ w'.cell? ⟨w.heap.size, 1, none⟩ = some (.slice A n c) ∧ w'.cell? ⟨(w.heap.size + 1), 0, none⟩ = some (.bool t) ∧ w'.cell? ⟨(w.heap.size + 1), 1, none⟩ = some (.slice B m d)) (go_keep) (first
      | (go_at_call 8; (with_reducible refine (zof_v N (by omega) (by omega) _).mono ?_); rintro e w23 ⟨s23, A23, n23, c23, rfl, p23, k23, B23⟩; have Q23 := zup (below_drew _) B23; obtain ⟨ax23, ay23, af23, ag23, az23⟩ := H_a.out.below Q23; have an23 : ¬ (w23.heap.size = w.heap.size) := (by omega); have am23 : ¬ (w.heap.size = w23.heap.size) := (by omega); obtain ⟨bx23, by23, bf23, bg23, bz23⟩ := H_b.out.below Q23; have bn23 : ¬ (w23.heap.size = (w.heap.size + 1)) := (by omega); have bm23 : ¬ ((w.heap.size + 1) = w23.heap.size) := (by omega))
      | (go_at_call 8; (with_reducible refine (zof_v N (by omega) (by omega) _).mono ?_); rintro e w23 ⟨s23, A23, n23, c23, rfl, p23, k23, B23⟩; have Q23 := zup (zbd _ _) B23; have J23 := (Ib.newd w22 false none 0 0 25).below B23; have g23 := Nat.le_refl w22.heap.size; obtain ⟨ax23, ay23, af23, ag23, az23⟩ := H_a.out.below Q23; have an23 : ¬ (w23.heap.size = w.heap.size) := (by omega); have am23 : ¬ (w.heap.size = w23.heap.size) := (by omega); obtain ⟨bx23, by23, bf23, bg23, bz23⟩ := H_b.out.below Q23; have bn23 : ¬ (w23.heap.size = (w.heap.size + 1)) := (by omega); have bm23 : ¬ ((w.heap.size + 1) = w23.heap.size) := (by omega); have Jc23 := J23; obtain ⟨jx23, jy23, jf23, jg23, jz23⟩ := Jc23)
      | (go_at_call 7; (with_reducible refine (pow_noneg (hx.below Q23) p23.zv (hy.below Q23) (by omega) (by omega) (by omega) hs h0).mono ?_); rintro e w24 ⟨rfl, B24⟩; have p24 := Zc.none0 w24; have Q24 := zup Q23 B24; have R24 := B24; have J24 := J23.below B24; have g24 := g23; obtain ⟨ax24, ay24, af24, ag24, az24⟩ := H_a.out.below Q24; have an24 : ¬ (w24.heap.size = w.heap.size) := (by omega); have am24 : ¬ (w.heap.size = w24.heap.size) := (by omega); obtain ⟨bx24, by24, bf24, bg24, bz24⟩ := H_b.out.below Q24; have bn24 : ¬ (w24.heap.size = (w.heap.size + 1)) := (by omega); have bm24 : ¬ ((w.heap.size + 1) = w24.heap.size) := (by omega); have Jc24 := J24; obtain ⟨jx24, jy24, jf24, jg24, jz24⟩ := Jc24)
      | (go_at_call 7; (with_reducible refine (pow_noneg (hx.below Q23) p23.zv (hy.below Q23) (by omega) (by omega) (by omega) hs h0).mono ?_); rintro e w24 ⟨rfl, B24⟩; have p24 := Zc.none0 w24; have Q24 := zup Q23 B24; have R24 := B24; obtain ⟨ax24, ay24, af24, ag24, az24⟩ := H_a.out.below Q24; have an24 : ¬ (w24.heap.size = w.heap.size) := (by omega); have am24 : ¬ (w.heap.size = w24.heap.size) := (by omega); obtain ⟨bx24, by24, bf24, bg24, bz24⟩ := H_b.out.below Q24; have bn24 : ¬ (w24.heap.size = (w.heap.size + 1)) := (by omega); have bm24 : ¬ ((w.heap.size + 1) = w24.heap.size) := (by omega))
      | (go_at_call 7; (with_reducible refine (pow_noneg (hx.below (zup Q23 (zba _ _))) (p23.below (zba _ _)).zv (hy.below (zup Q23 (zba _ _))) (by omega) (by omega) (by omega) hs h0).mono ?_); rintro e w24 ⟨rfl, B24⟩; have p24 := Zc.none0 w24; have Q24 := zup (zup Q23 (zba _ _)) B24; have R24 := zup (zba w23 _) B24; have J24 := (Ib.new w23 false none 0 0 25).below B24; have g24 := Q23.size; obtain ⟨ax24, ay24, af24, ag24, az24⟩ := H_a.out.below Q24; have an24 : ¬ (w24.heap.size = w.heap.size) := (by omega); have am24 : ¬ (w.heap.size = w24.heap.size) := (by omega); obtain ⟨bx24, by24, bf24, bg24, bz24⟩ := H_b.out.below Q24; have bn24 : ¬ (w24.heap.size = (w.heap.size + 1)) := (by omega); have bm24 : ¬ ((w.heap.size + 1) = w24.heap.size) := (by omega); have Jc24 := J24; obtain ⟨jx24, jy24, jf24, jg24, jz24⟩ := Jc24)
      | fail)
    all_goals
      first
      | have P := Lib.hid (VarCut.put (w0 := w22) (z := 0) (k := 0) J24 p24 Q24 g24 (by omega))
      | have P := Lib.hid (VarCut.new (w0 := w22) (z := 0) (k := 0) (t := 25) p24 Q24 (by omega))
      go_wp2_with fail
      go_meet
      exact ⟨P.out, rfl⟩
  case rest =>
    obtain ⟨⟨g25, s25, A25, n25, c25, rfl, hg25, I25, p25, k25, B25⟩, rfl⟩ := hcut
    obtain ⟨w25, hw25⟩ : ∃ x, x = wc := ⟨_, rfl⟩
    subst hw25
    have lt_a_p : w.heap.size < g25 := Nat.lt_of_lt_of_le H_a.out.2.2.2.2 hg25
    have lt_b_p : (w.heap.size + 1) < g25 := Nat.lt_of_lt_of_le H_b.out.2.2.2.2 hg25
    have lw_p : w.heap.size ≤ g25 := Nat.le_trans hW.size hg25
    replace H_a := Lib.hid (H_a.out.below B25)
    replace H_b := Lib.hid (H_b.out.below B25)
    replace hx := hx.below B25
    replace hy := hy.below B25
    replace hW := hW.trans (B25.mono hW.size)
    have H_p := Lib.hid I25
    clear B25 I25 hg25
    have pq := p25
    clear p25
    obtain ⟨a1, a2, a3, a4, a5⟩ := H_a.out
    obtain ⟨b1, b2, b3, b4, b5⟩ := H_b.out
    obtain ⟨p1, p2, p3, p4, p5⟩ := H_p.out
    go_wp2_with fail
    clear a1 a2 a3 a4 a5 b1 b2 b3 b4 b5 p1 p2 p3 p4 p5
    refine (zsign_v hy (by omega) HSY.out).mono ?_
    rintro e w26 ⟨rfl, B26⟩
    replace H_a := Lib.hid (H_a.out.below B26)
    replace H_b := Lib.hid (H_b.out.below B26)
    replace H_p := Lib.hid (H_p.out.below B26)
    replace hx := hx.below B26
    replace hy := hy.below B26
    replace pq := pq.below B26
    replace hW := hW.trans (B26.mono hW.size)
    clear B26
    obtain ⟨a1, a2, a3, a4, a5⟩ := H_a.out
    obtain ⟨b1, b2, b3, b4, b5⟩ := H_b.out
    obtain ⟨p1, p2, p3, p4, p5⟩ := H_p.out
    go_wp2_with fail
    clear a1 a2 a3 a4 a5 b1 b2 b3 b4 b5 p1 p2 p3 p4 p5
    refine (zsign_v pq.zv (by omega) (show (0 : Int).sign = 0 from rfl)).mono ?_
    rintro e w27 ⟨rfl, B27⟩
    replace H_a := Lib.hid (H_a.out.below B27)
    replace H_b := Lib.hid (H_b.out.below B27)
    replace H_p := Lib.hid (H_p.out.below B27)
    replace hx := hx.below B27
    replace hy := hy.below B27
    replace pq := pq.below B27
    replace hW := hW.trans (B27.mono hW.size)
    clear B27
    go_wp2_with fail
    go_ret
    exact ⟨rfl, hW⟩
set_option maxRecDepth 100000 in
set_option maxHeartbeats 16000000 in
theorem mp_noinv {A B : Option Addr} {n m c d : Nat} {s t : Bool} {x y e0 N : Int} {w : World} (hx : Zv w s A n c x) (hy : Zv w t B m d y) (hN : e0.tmod 13 = N) (hNl : -12 ≤ N) (hNu : N ≤ 12) (h1 : n ≤ 2) (h2 : m ≤ 2) (hs : N < 0) (h0 : 0 < y) (hg : Nat.gcd x.natAbs y.natAbs ≠ 1) :
    Calls Tryz.prog 3 #[.agg #[.bool s, .slice A n c], .agg #[.bool t, .slice B m d], .int .i8 e0] w (TruePost w) := by
  obtain ⟨w3, hw3, IA, IB, z0⟩ := open2 w s t A B n c m d
  have HW := Lib.hid hw3.symm
  replace hx := hx.below z0
  replace hy := hy.below z0
  have hW := z0
  have H_a := Lib.hid IA
  have H_b := Lib.hid IB
  have HNE := Lib.hid hN
  clear hw3 IA IB z0 hN
  have HSY : Hid (y.sign = 1) := Lib.hid (Int.sign_eq_one_of_pos h0)
  have HG := Lib.hid hg
  clear hg
  have b0 : decide (N < 0) = true := decide_eq_true hs
  go_enter Tryz.func3, Tryz.ntmps3
  obtain ⟨a1, a2, a3, a4, a5⟩ := H_a.out
  obtain ⟨b1, b2, b3, b4, b5⟩ := H_b.out
  go_wp2_with fail
  rw [HW.out]
  clear a1 a2 a3 a4 a5 b1 b2 b3 b4 b5
  refine (mawake_calls _).mono ?_
  rintro e w21 ⟨rfl, B21⟩
  replace H_a := Lib.hid (H_a.out.below B21)
  replace H_b := Lib.hid (H_b.out.below B21)
  replace hx := hx.below B21
  replace hy := hy.below B21
  replace hW := hW.trans (B21.mono hW.size)
  clear B21
  obtain ⟨a1, a2, a3, a4, a5⟩ := H_a.out
  obtain ⟨b1, b2, b3, b4, b5⟩ := H_b.out
  go_wp2_with fail
  clear a1 a2 a3 a4 a5 b1 b2 b3 b4 b5
  refine (mfew_v (k := 2) (b := true) (by omega) (by omega) (by omega) (by omega) (by rw [decide_eq_true_iff]; omega)).mono ?_
  rintro e w22 ⟨rfl, B22⟩
  replace H_a := Lib.hid (H_a.out.below B22)
  replace H_b := Lib.hid (H_b.out.below B22)
  replace hx := hx.below B22
  replace hy := hy.below B22
  replace hW := hW.trans (B22.mono hW.size)
  clear B22
  have hN := HNE.out
  obtain ⟨a1, a2, a3, a4, a5⟩ := H_a.out
  obtain ⟨b1, b2, b3, b4, b5⟩ := H_b.out
  go_wp2_with fail
  clear a1 a2 a3 a4 a5 b1 b2 b3 b4 b5
  go_upto_region 4 with fail
  clear hN
  go_cut [8, 9] (VarIs false w22 0 0)
  case first =>
    obtain ⟨a1, a2, a3, a4, a5⟩ := H_a.out
    obtain ⟨b1, b2, b3, b4, b5⟩ := H_b.out
    have an : ¬ (w22.heap.size = w.heap.size) := by omega
    have am : ¬ (w.heap.size = w22.heap.size) := by omega
    have bn : ¬ (w22.heap.size = (w.heap.size + 1)) := by omega
    have bm : ¬ ((w.heap.size + 1) = w22.heap.size) := by omega
    go_region_held3 (fun w' => w'.cell? ⟨w.heap.size, 0, none⟩ = some (.bool s) ∧ w'.cell? ⟨w.heap.size, 1, none⟩ = some (.slice A n c) ∧ w'.cell? ⟨(w.heap.size + 1), 0, none⟩ = some (.bool t) ∧ w'.cell? ⟨(w.heap.size + 1), 1, none⟩ = some (.slice B m d)) (go_keep) (first
      | (go_at_call 8; (with_reducible refine (zof_v N (by omega) (by omega) _).mono ?_); rintro e w23 ⟨s23, A23, n23, c23, rfl, p23, k23, B23⟩; have Q23 := zup (below_drew _) B23; obtain ⟨ax23, ay23, af23, ag23, az23⟩ := H_a.out.below Q23; have an23 : ¬ (w23.heap.size = w.heap.size) := (by omega); have am23 : ¬ (w.heap.size = w23.heap.size) := (by omega); obtain ⟨bx23, by23, bf23, bg23, bz23⟩ := H_b.out.below Q23; have bn23 : ¬ (w23.heap.size = (w.heap.size + 1)) := (by omega); have bm23 : ¬ ((w.heap.size + 1) = w23.heap.size) := (by omega))
      | (go_at_call 8; (with_reducible refine (zof_v N (by omega) (by omega) _).mono ?_); rintro e w23 ⟨s23, A23, n23, c23, rfl, p23, k23, B23⟩; have Q23 := zup (zbd _ _) B23; have J23 := (Ib.newd w22 false none 0 0 25).below B23; have g23 := Nat.le_refl w22.heap.size; obtain ⟨ax23, ay23, af23, ag23, az23⟩ := H_a.out.below Q23; have an23 : ¬ (w23.heap.size = w.heap.size) := (by omega); have am23 : ¬ (w.heap.size = w23.heap.size) := (by omega); obtain ⟨bx23, by23, bf23, bg23, bz23⟩ := H_b.out.below Q23; have bn23 : ¬ (w23.heap.size = (w.heap.size + 1)) := (by omega); have bm23 : ¬ ((w.heap.size + 1) = w23.heap.size) := (by omega); have Jc23 := J23; obtain ⟨jx23, jy23, jf23, jg23, jz23⟩ := Jc23)
      | (go_at_call 7; (with_reducible refine (pow_noinv (hx.below Q23) p23.zv (hy.below Q23) (by omega) (by omega) (by omega) hs h0 HG.out).mono ?_); rintro e w24 ⟨rfl, B24⟩; have p24 := Zc.none0 w24; have Q24 := zup Q23 B24; have R24 := B24; have J24 := J23.below B24; have g24 := g23; obtain ⟨ax24, ay24, af24, ag24, az24⟩ := H_a.out.below Q24; have an24 : ¬ (w24.heap.size = w.heap.size) := (by omega); have am24 : ¬ (w.heap.size = w24.heap.size) := (by omega); obtain ⟨bx24, by24, bf24, bg24, bz24⟩ := H_b.out.below Q24; have bn24 : ¬ (w24.heap.size = (w.heap.size + 1)) := (by omega); have bm24 : ¬ ((w.heap.size + 1) = w24.heap.size) := (by omega); have Jc24 := J24; obtain ⟨jx24, jy24, jf24, jg24, jz24⟩ := Jc24)
      | (go_at_call 7; (with_reducible refine (pow_noinv (hx.below Q23) p23.zv (hy.below Q23) (by omega) (by omega) (by omega) hs h0 HG.out).mono ?_); rintro e w24 ⟨rfl, B24⟩; have p24 := Zc.none0 w24; have Q24 := zup Q23 B24; have R24 := B24; obtain ⟨ax24, ay24, af24, ag24, az24⟩ := H_a.out.below Q24; have an24 : ¬ (w24.heap.size = w.heap.size) := (by omega); have am24 : ¬ (w.heap.size = w24.heap.size) := (by omega); obtain ⟨bx24, by24, bf24, bg24, bz24⟩ := H_b.out.below Q24; have bn24 : ¬ (w24.heap.size = (w.heap.size + 1)) := (by omega); have bm24 : ¬ ((w.heap.size + 1) = w24.heap.size) := (by omega))
      | (go_at_call 7; (with_reducible refine (pow_noinv (hx.below (zup Q23 (zba _ _))) (p23.below (zba _ _)).zv (hy.below (zup Q23 (zba _ _))) (by omega) (by omega) (by omega) hs h0 HG.out).mono ?_); rintro e w24 ⟨rfl, B24⟩; have p24 := Zc.none0 w24; have Q24 := zup (zup Q23 (zba _ _)) B24; have R24 := zup (zba w23 _) B24; have J24 := (Ib.new w23 false none 0 0 25).below B24; have g24 := Q23.size; obtain ⟨ax24, ay24, af24, ag24, az24⟩ := H_a.out.below Q24; have an24 : ¬ (w24.heap.size = w.heap.size) := (by omega); have am24 : ¬ (w.heap.size = w24.heap.size) := (by omega); obtain ⟨bx24, by24, bf24, bg24, bz24⟩ := H_b.out.below Q24; have bn24 : ¬ (w24.heap.size = (w.heap.size + 1)) := (by omega); have bm24 : ¬ ((w.heap.size + 1) = w24.heap.size) := (by omega); have Jc24 := J24; obtain ⟨jx24, jy24, jf24, jg24, jz24⟩ := Jc24)
      | fail)
    all_goals
      first
      | have P := Lib.hid (VarCut.put (w0 := w22) (z := 0) (k := 0) J24 p24 Q24 g24 (by omega))
      | have P := Lib.hid (VarCut.new (w0 := w22) (z := 0) (k := 0) (t := 25) p24 Q24 (by omega))
      go_wp2_with fail
      go_meet
      exact ⟨P.out, rfl⟩
  case rest =>
    obtain ⟨⟨g25, s25, A25, n25, c25, rfl, hg25, I25, p25, k25, B25⟩, rfl⟩ := hcut
    obtain ⟨w25, hw25⟩ : ∃ x, x = wc := ⟨_, rfl⟩
    subst hw25
    have lt_a_p : w.heap.size < g25 := Nat.lt_of_lt_of_le H_a.out.2.2.2.2 hg25
    have lt_b_p : (w.heap.size + 1) < g25 := Nat.lt_of_lt_of_le H_b.out.2.2.2.2 hg25
    have lw_p : w.heap.size ≤ g25 := Nat.le_trans hW.size hg25
    replace H_a := Lib.hid (H_a.out.below B25)
    replace H_b := Lib.hid (H_b.out.below B25)
    replace hx := hx.below B25
    replace hy := hy.below B25
    replace hW := hW.trans (B25.mono hW.size)
    have H_p := Lib.hid I25
    clear B25 I25 hg25
    have pq := p25
    clear p25
    obtain ⟨a1, a2, a3, a4, a5⟩ := H_a.out
    obtain ⟨b1, b2, b3, b4, b5⟩ := H_b.out
    obtain ⟨p1, p2, p3, p4, p5⟩ := H_p.out
    go_wp2_with fail
    clear a1 a2 a3 a4 a5 b1 b2 b3 b4 b5 p1 p2 p3 p4 p5
    refine (zsign_v hy (by omega) HSY.out).mono ?_
    rintro e w26 ⟨rfl, B26⟩
    replace H_a := Lib.hid (H_a.out.below B26)
    replace H_b := Lib.hid (H_b.out.below B26)
    replace H_p := Lib.hid (H_p.out.below B26)
    replace hx := hx.below B26
    replace hy := hy.below B26
    replace pq := pq.below B26
    replace hW := hW.trans (B26.mono hW.size)
    clear B26
    have z27 := zba w26 (.cells #[.bool s, .slice A n c] 25)
    obtain ⟨w27, hw27⟩ : ∃ w', w' = w26.alloc (.cells #[.bool s, .slice A n c] 25) := ⟨_, rfl⟩
    have I27 : Ib w27 w26.heap.size s A n c := by rw [hw27]; exact Ib.new _ _ _ _ _ _
    rw [← hw27] at z27
    have HW27 := Lib.hid hw27.symm
    have O_a := H_a
    have O_b := H_b
    have O_p := H_p
    replace H_a := Lib.hid (H_a.out.below z27)
    replace H_b := Lib.hid (H_b.out.below z27)
    replace H_p := Lib.hid (H_p.out.below z27)
    replace hx := hx.below z27
    replace hy := hy.below z27
    replace pq := pq.below z27
    replace hW := hW.trans (z27.mono hW.size)
    have H_x := Lib.hid I27
    clear z27 hw27 I27
    obtain ⟨a1, a2, a3, a4, a5⟩ := O_a.out
    obtain ⟨b1, b2, b3, b4, b5⟩ := O_b.out
    obtain ⟨p1, p2, p3, p4, p5⟩ := O_p.out
    go_wp2_with fail
    rw [HW27.out]
    clear a1 a2 a3 a4 a5 b1 b2 b3 b4 b5 p1 p2 p3 p4 p5 O_a O_b O_p
    refine (inv_no hx hy (by omega) (by omega) h0 HG.out).mono ?_
    rintro e w28 ⟨rfl, B28⟩
    replace H_a := Lib.hid (H_a.out.below B28)
    replace H_b := Lib.hid (H_b.out.below B28)
    replace H_p := Lib.hid (H_p.out.below B28)
    replace H_x := Lib.hid (H_x.out.below B28)
    replace hx := hx.below B28
    replace hy := hy.below B28
    replace pq := pq.below B28
    replace hW := hW.trans (B28.mono hW.size)
    clear B28
    have z29 := zba w28 (.cells #[.bool false, .slice none 0 0] 25)
    obtain ⟨w29, hw29⟩ : ∃ w', w' = w28.alloc (.cells #[.bool false, .slice none 0 0] 25) := ⟨_, rfl⟩
    have I29 : Ib w29 w28.heap.size false none 0 0 := by rw [hw29]; exact Ib.new _ _ _ _ _ _
    rw [← hw29] at z29
    have HW29 := Lib.hid hw29.symm
    have O_a := H_a
    have O_b := H_b
    have O_p := H_p
    have O_x := H_x
    replace H_a := Lib.hid (H_a.out.below z29)
    replace H_b := Lib.hid (H_b.out.below z29)
    replace H_p := Lib.hid (H_p.out.below z29)
    replace H_x := Lib.hid (H_x.out.below z29)
    replace hx := hx.below z29
    replace hy := hy.below z29
    replace pq := pq.below z29
    replace hW := hW.trans (z29.mono hW.size)
    have H_i := Lib.hid I29
    clear z29 hw29 I29
    obtain ⟨a1, a2, a3, a4, a5⟩ := O_a.out
    obtain ⟨b1, b2, b3, b4, b5⟩ := O_b.out
    obtain ⟨p1, p2, p3, p4, p5⟩ := O_p.out
    obtain ⟨x1, x2, x3, x4, x5⟩ := O_x.out
    go_wp2_with fail
    rw [HW29.out]
    clear a1 a2 a3 a4 a5 b1 b2 b3 b4 b5 p1 p2 p3 p4 p5 x1 x2 x3 x4 x5 O_a O_b O_p O_x
    refine (zsign_v pq.zv (by omega) (show (0 : Int).sign = 0 from rfl)).mono ?_
    rintro e w30 ⟨rfl, B30⟩
    replace H_a := Lib.hid (H_a.out.below B30)
    replace H_b := Lib.hid (H_b.out.below B30)
    replace H_p := Lib.hid (H_p.out.below B30)
    replace H_x := Lib.hid (H_x.out.below B30)
    replace H_i := Lib.hid (H_i.out.below B30)
    replace hx := hx.below B30
    replace hy := hy.below B30
    replace pq := pq.below B30
    replace hW := hW.trans (B30.mono hW.size)
    clear B30
    go_wp2_with fail
    go_ret
    exact ⟨rfl, hW⟩
set_option maxRecDepth 100000 in
set_option maxHeartbeats 16000000 in
theorem mp_yesp {A B : Option Addr} {n m c d : Nat} {s t : Bool} {x y e0 N : Int} {w : World} (hx : Zv w s A n c x) (hy : Zv w t B m d y) (hN : e0.tmod 13 = N) (hNl : -12 ≤ N) (hNu : N ≤ 12) (h1 : n ≤ 2) (h2 : m ≤ 2) (hs : 0 ≤ N) (h0 : 0 < y) :
    Calls Tryz.prog 3 #[.agg #[.bool s, .slice A n c], .agg #[.bool t, .slice B m d], .int .i8 e0] w (TruePost w) := by
  obtain ⟨w3, hw3, IA, IB, z0⟩ := open2 w s t A B n c m d
  have HW := Lib.hid hw3.symm
  replace hx := hx.below z0
  replace hy := hy.below z0
  have hW := z0
  have H_a := Lib.hid IA
  have H_b := Lib.hid IB
  have HNE := Lib.hid hN
  clear hw3 IA IB z0 hN
  have HSY : Hid (y.sign = 1) := Lib.hid (Int.sign_eq_one_of_pos h0)
  obtain ⟨v, hv⟩ : ∃ v, N.natAbs = v := ⟨_, rfl⟩
  have hv12 : v ≤ 12 := by omega
  have b0 : decide (N < 0) = false := decide_eq_false (by omega)
  have hvn : N = (v : Int) := by omega
  have HV := Lib.hid hv
  have HVN := Lib.hid hvn
  clear hv hvn
  go_enter Tryz.func3, Tryz.ntmps3
  obtain ⟨a1, a2, a3, a4, a5⟩ := H_a.out
  obtain ⟨b1, b2, b3, b4, b5⟩ := H_b.out
  go_wp2_with fail
  rw [HW.out]
  clear a1 a2 a3 a4 a5 b1 b2 b3 b4 b5
  refine (mawake_calls _).mono ?_
  rintro e w21 ⟨rfl, B21⟩
  replace H_a := Lib.hid (H_a.out.below B21)
  replace H_b := Lib.hid (H_b.out.below B21)
  replace hx := hx.below B21
  replace hy := hy.below B21
  replace hW := hW.trans (B21.mono hW.size)
  clear B21
  obtain ⟨a1, a2, a3, a4, a5⟩ := H_a.out
  obtain ⟨b1, b2, b3, b4, b5⟩ := H_b.out
  go_wp2_with fail
  clear a1 a2 a3 a4 a5 b1 b2 b3 b4 b5
  refine (mfew_v (k := 2) (b := true) (by omega) (by omega) (by omega) (by omega) (by rw [decide_eq_true_iff]; omega)).mono ?_
  rintro e w22 ⟨rfl, B22⟩
  replace H_a := Lib.hid (H_a.out.below B22)
  replace H_b := Lib.hid (H_b.out.below B22)
  replace hx := hx.below B22
  replace hy := hy.below B22
  replace hW := hW.trans (B22.mono hW.size)
  clear B22
  have hN := HNE.out
  obtain ⟨a1, a2, a3, a4, a5⟩ := H_a.out
  obtain ⟨b1, b2, b3, b4, b5⟩ := H_b.out
  go_wp2_with fail
  clear a1 a2 a3 a4 a5 b1 b2 b3 b4 b5
  go_upto_region 4 with fail
  clear hN
  go_cut [8, 9] (VarIs true w22 (x ^ N.natAbs % y) m)
  case first =>
    obtain ⟨a1, a2, a3, a4, a5⟩ := H_a.out
    obtain ⟨b1, b2, b3, b4, b5⟩ := H_b.out
    have an : ¬ (w22.heap.size = w.heap.size) := by omega
    have am : ¬ (w.heap.size = w22.heap.size) := by omega
    have bn : ¬ (w22.heap.size = (w.heap.size + 1)) := by omega
    have bm : ¬ ((w.heap.size + 1) = w22.heap.size) := by omega
    go_region_held3 (fun w' => w'.cell? ⟨w.heap.size, 0, none⟩ = some (.bool s) ∧ w'.cell? ⟨w.heap.size, 1, none⟩ = some (.slice A n c) ∧ w'.cell? ⟨(w.heap.size + 1), 0, none⟩ = some (.bool t) ∧ w'.cell? ⟨(w.heap.size + 1), 1, none⟩ = some (.slice B m d)) (go_keep) (first
      | (go_at_call 8; (with_reducible refine (zof_v N (by omega) (by omega) _).mono ?_); rintro e w23 ⟨s23, A23, n23, c23, rfl, p23, k23, B23⟩; have Q23 := zup (below_drew _) B23; obtain ⟨ax23, ay23, af23, ag23, az23⟩ := H_a.out.below Q23; have an23 : ¬ (w23.heap.size = w.heap.size) := (by omega); have am23 : ¬ (w.heap.size = w23.heap.size) := (by omega); obtain ⟨bx23, by23, bf23, bg23, bz23⟩ := H_b.out.below Q23; have bn23 : ¬ (w23.heap.size = (w.heap.size + 1)) := (by omega); have bm23 : ¬ ((w.heap.size + 1) = w23.heap.size) := (by omega))
      | (go_at_call 8; (with_reducible refine (zof_v N (by omega) (by omega) _).mono ?_); rintro e w23 ⟨s23, A23, n23, c23, rfl, p23, k23, B23⟩; have Q23 := zup (zbd _ _) B23; have J23 := (Ib.newd w22 false none 0 0 25).below B23; have g23 := Nat.le_refl w22.heap.size; obtain ⟨ax23, ay23, af23, ag23, az23⟩ := H_a.out.below Q23; have an23 : ¬ (w23.heap.size = w.heap.size) := (by omega); have am23 : ¬ (w.heap.size = w23.heap.size) := (by omega); obtain ⟨bx23, by23, bf23, bg23, bz23⟩ := H_b.out.below Q23; have bn23 : ¬ (w23.heap.size = (w.heap.size + 1)) := (by omega); have bm23 : ¬ ((w.heap.size + 1) = w23.heap.size) := (by omega); have Jc23 := J23; obtain ⟨jx23, jy23, jf23, jg23, jz23⟩ := Jc23)
      | (go_at_call 7; (with_reducible refine (pow_yespos (hx.below Q23) p23.zv (hy.below Q23) (by omega) (by omega) (by omega) hs h0).mono ?_); rintro e w24 ⟨s24, A24, n24, c24, rfl, p24, k24, B24⟩; have Q24 := zup Q23 B24; have R24 := B24; have J24 := J23.below B24; have g24 := g23; obtain ⟨ax24, ay24, af24, ag24, az24⟩ := H_a.out.below Q24; have an24 : ¬ (w24.heap.size = w.heap.size) := (by omega); have am24 : ¬ (w.heap.size = w24.heap.size) := (by omega); obtain ⟨bx24, by24, bf24, bg24, bz24⟩ := H_b.out.below Q24; have bn24 : ¬ (w24.heap.size = (w.heap.size + 1)) := (by omega); have bm24 : ¬ ((w.heap.size + 1) = w24.heap.size) := (by omega); have Jc24 := J24; obtain ⟨jx24, jy24, jf24, jg24, jz24⟩ := Jc24)
      | (go_at_call 7; (with_reducible refine (pow_yespos (hx.below Q23) p23.zv (hy.below Q23) (by omega) (by omega) (by omega) hs h0).mono ?_); rintro e w24 ⟨s24, A24, n24, c24, rfl, p24, k24, B24⟩; have Q24 := zup Q23 B24; have R24 := B24; obtain ⟨ax24, ay24, af24, ag24, az24⟩ := H_a.out.below Q24; have an24 : ¬ (w24.heap.size = w.heap.size) := (by omega); have am24 : ¬ (w.heap.size = w24.heap.size) := (by omega); obtain ⟨bx24, by24, bf24, bg24, bz24⟩ := H_b.out.below Q24; have bn24 : ¬ (w24.heap.size = (w.heap.size + 1)) := (by omega); have bm24 : ¬ ((w.heap.size + 1) = w24.heap.size) := (by omega))
      | (go_at_call 7; (with_reducible refine (pow_yespos (hx.below (zup Q23 (zba _ _))) (p23.below (zba _ _)).zv (hy.below (zup Q23 (zba _ _))) (by omega) (by omega) (by omega) hs h0).mono ?_); rintro e w24 ⟨s24, A24, n24, c24, rfl, p24, k24, B24⟩; have Q24 := zup (zup Q23 (zba _ _)) B24; have R24 := zup (zba w23 _) B24; have J24 := (Ib.new w23 false none 0 0 25).below B24; have g24 := Q23.size; obtain ⟨ax24, ay24, af24, ag24, az24⟩ := H_a.out.below Q24; have an24 : ¬ (w24.heap.size = w.heap.size) := (by omega); have am24 : ¬ (w.heap.size = w24.heap.size) := (by omega); obtain ⟨bx24, by24, bf24, bg24, bz24⟩ := H_b.out.below Q24; have bn24 : ¬ (w24.heap.size = (w.heap.size + 1)) := (by omega); have bm24 : ¬ ((w.heap.size + 1) = w24.heap.size) := (by omega); have Jc24 := J24; obtain ⟨jx24, jy24, jf24, jg24, jz24⟩ := Jc24)
      | fail)
    all_goals
      first
      | have P := Lib.hid (VarCut.put (w0 := w22) (z := (x ^ N.natAbs % y)) (k := m) J24 p24 Q24 g24 (by omega))
      | have P := Lib.hid (VarCut.new (w0 := w22) (z := (x ^ N.natAbs % y)) (k := m) (t := 25) p24 Q24 (by omega))
      go_wp2_with fail
      go_meet
      exact ⟨P.out, rfl⟩
  case rest =>
    obtain ⟨⟨g25, s25, A25, n25, c25, rfl, hg25, I25, p25, k25, B25⟩, rfl⟩ := hcut
    obtain ⟨w25, hw25⟩ : ∃ x, x = wc := ⟨_, rfl⟩
    subst hw25
    have lt_a_p : w.heap.size < g25 := Nat.lt_of_lt_of_le H_a.out.2.2.2.2 hg25
    have lt_b_p : (w.heap.size + 1) < g25 := Nat.lt_of_lt_of_le H_b.out.2.2.2.2 hg25
    have lw_p : w.heap.size ≤ g25 := Nat.le_trans hW.size hg25
    replace H_a := Lib.hid (H_a.out.below B25)
    replace H_b := Lib.hid (H_b.out.below B25)
    replace hx := hx.below B25
    replace hy := hy.below B25
    replace hW := hW.trans (B25.mono hW.size)
    have H_p := Lib.hid I25
    clear B25 I25 hg25
    have pq := p25
    clear p25
    rw [HV.out] at pq
    obtain ⟨a1, a2, a3, a4, a5⟩ := H_a.out
    obtain ⟨b1, b2, b3, b4, b5⟩ := H_b.out
    obtain ⟨p1, p2, p3, p4, p5⟩ := H_p.out
    go_wp2_with fail
    clear a1 a2 a3 a4 a5 b1 b2 b3 b4 b5 p1 p2 p3 p4 p5
    refine (zsign_v hy (by omega) HSY.out).mono ?_
    rintro e w26 ⟨rfl, B26⟩
    replace H_a := Lib.hid (H_a.out.below B26)
    replace H_b := Lib.hid (H_b.out.below B26)
    replace H_p := Lib.hid (H_p.out.below B26)
    replace hx := hx.below B26
    replace hy := hy.below B26
    replace pq := pq.below B26
    replace hW := hW.trans (B26.mono hW.size)
    clear B26
    have lt_a_x : w.heap.size < w26.heap.size := H_a.out.2.2.2.2
    have lt_b_x : (w.heap.size + 1) < w26.heap.size := H_b.out.2.2.2.2
    have lt_p_x : g25 < w26.heap.size := H_p.out.2.2.2.2
    have lw_x : w.heap.size ≤ w26.heap.size := hW.size
    have z27 := zba w26 (.cells #[.bool s, .slice A n c] 25)
    obtain ⟨w27, hw27⟩ : ∃ w', w' = w26.alloc (.cells #[.bool s, .slice A n c] 25) := ⟨_, rfl⟩
    have I27 : Ib w27 w26.heap.size s A n c := by rw [hw27]; exact Ib.new _ _ _ _ _ _
    rw [← hw27] at z27
    have HW27 := Lib.hid hw27.symm
    have O_a := H_a
    have O_b := H_b
    have O_p := H_p
    replace H_a := Lib.hid (H_a.out.below z27)
    replace H_b := Lib.hid (H_b.out.below z27)
    replace H_p := Lib.hid (H_p.out.below z27)
    replace hx := hx.below z27
    replace hy := hy.below z27
    replace pq := pq.below z27
    replace hW := hW.trans (z27.mono hW.size)
    have H_x := Lib.hid I27
    clear z27 hw27 I27
    obtain ⟨a1, a2, a3, a4, a5⟩ := O_a.out
    obtain ⟨b1, b2, b3, b4, b5⟩ := O_b.out
    obtain ⟨p1, p2, p3, p4, p5⟩ := O_p.out
    go_wp2_with fail
    rw [HW27.out]
    clear a1 a2 a3 a4 a5 b1 b2 b3 b4 b5 p1 p2 p3 p4 p5 O_a O_b O_p
    refine (zof_v 1 (by omega) (by omega) _).mono ?_
    rintro e w28 ⟨s28, A28, n28, c28, rfl, p1, k28, B28⟩
    replace H_a := Lib.hid (H_a.out.below B28)
    replace H_b := Lib.hid (H_b.out.below B28)
    replace H_p := Lib.hid (H_p.out.below B28)
    replace H_x := Lib.hid (H_x.out.below B28)
    replace hx := hx.below B28
    replace hy := hy.below B28
    replace pq := pq.below B28
    replace hW := hW.trans (B28.mono hW.size)
    clear B28
    have hvn := HVN.out
    have z29 := zba w28 (.cells #[.bool s28, .slice A28 n28 c28] 25)
    obtain ⟨w29, hw29⟩ : ∃ w', w' = w28.alloc (.cells #[.bool s28, .slice A28 n28 c28] 25) := ⟨_, rfl⟩
    have I29 : Ib w29 w28.heap.size s28 A28 n28 c28 := by rw [hw29]; exact Ib.new _ _ _ _ _ _
    rw [← hw29] at z29
    have HW29 := Lib.hid hw29.symm
    have O_a := H_a
    have lt_a_u : w.heap.size < w28.heap.size := H_a.out.2.2.2.2
    have O_b := H_b
    have lt_b_u : (w.heap.size + 1) < w28.heap.size := H_b.out.2.2.2.2
    have O_p := H_p
    have lt_p_u : g25 < w28.heap.size := H_p.out.2.2.2.2
    have O_x := H_x
    have lt_x_u : w26.heap.size < w28.heap.size := H_x.out.2.2.2.2
    have lw_u : w.heap.size ≤ w28.heap.size := hW.size
    replace H_a := Lib.hid (H_a.out.below z29)
    replace H_b := Lib.hid (H_b.out.below z29)
    replace H_p := Lib.hid (H_p.out.below z29)
    replace H_x := Lib.hid (H_x.out.below z29)
    replace hx := hx.below z29
    replace hy := hy.below z29
    replace pq := pq.below z29
    replace p1 := p1.below z29
    replace hW := hW.trans (z29.mono hW.size)
    have H_u := Lib.hid I29
    clear z29 hw29 I29
    have hX1 : 0 ≤ y := by omega
    have HM : Hid (MpAt w g25 w26.heap.size w28.heap.size s25 A25 n25 c25 (x ^ v % y) s A n c x (w.heap.size + 1) t B m d y 0 w29) := Lib.hid ⟨s28, A28, n28, c28, H_u.out, by rw [Int.pow_zero]; exact p1, by omega, H_p.out, pq.zv, H_x.out, hx, H_b.out, hy, lt_p_u, lt_x_u, lt_b_u, lw_u, hW⟩
    obtain ⟨a1, a2, a3, a4, a5⟩ := O_a.out
    obtain ⟨b1, b2, b3, b4, b5⟩ := O_b.out
    obtain ⟨p1, p2, p3, p4, p5⟩ := O_p.out
    obtain ⟨x1, x2, x3, x4, x5⟩ := O_x.out
    go_wp2_with fail
    rw [HW29.out]
    clear a1 a2 a3 a4 a5 b1 b2 b3 b4 b5 p1 p2 p3 p4 p5 x1 x2 x3 x4 x5 O_a O_b O_p O_x
    clear hvn
    clear hx hy pq p1 H_a H_b H_p H_x H_u hW
    go_loopw [14] (fun i wr => ∃ k : Nat, k ≤ v ∧ i = .int .i64 (k : Int) ∧ MpAt w g25 w26.heap.size w28.heap.size s25 A25 n25 c25 (x ^ v % y) s A n c x (w.heap.size + 1) t B m d y k wr) (fun i _ => v - (intOf i).toNat)
    case atStart => exact ⟨0, by omega, rfl, HM.out⟩
    case round =>
    clear HM
    obtain ⟨k, hk, rfl, HA⟩ := hrel
    have HA' := HA
    obtain ⟨s7, A7, n7, c7, IU, pu, ku, IP, pp, IX, px, IB, pb, l1, l2, l3, l4, hW⟩ := HA
    have H_u := Lib.hid IU
    have H_p := Lib.hid IP
    have H_x := Lib.hid IX
    have H_b := Lib.hid IB
    clear IU IP IX IB
    have hvn := HVN.out
    by_cases hkv : k < v
    · have bk : decide ((k : Int) < (v : Int)) = true := decide_eq_true (by omega)
      have HAH := Lib.hid HA'
      clear HA'
      obtain ⟨p1, p2, p3, p4, p5⟩ := H_p.out
      obtain ⟨x1, x2, x3, x4, x5⟩ := H_x.out
      obtain ⟨b1, b2, b3, b4, b5⟩ := H_b.out
      obtain ⟨u1, u2, u3, u4, u5⟩ := H_u.out
      go_wp2_with fail
      clear p1 p2 p3 p4 p5 x1 x2 x3 x4 x5 b1 b2 b3 b4 b5 u1 u2 u3 u4 u5
      refine (zmul_v pu.zv px (by omega) (by omega)).mono ?_
      rintro e w90 ⟨s9, A9, n9, c9, rfl, q9, k9, B9⟩
      have P := Lib.hid (HAH.out.put B9 q9 (by omega))
      replace H_u := Lib.hid (H_u.out.below B9)
      obtain ⟨u1, u2, u3, u4, u5⟩ := H_u.out
      clear pu px pp pb q9 H_x H_p H_b HAH B9
      go_wp2_with fail
      go_roundw
      case rel => exact ⟨k + 1, by omega, by go_num, P.out⟩
      case measure => simp [intOf]; omega
    · obtain rfl : k = v := by omega
      clear HA' hkv
      have hr0 : 0 ≤ x ^ k % y := Int.emod_nonneg _ (by omega)
      have hr1 : x ^ k % y < y := Int.emod_lt_of_pos _ h0
      obtain ⟨p1, p2, p3, p4, p5⟩ := H_p.out
      obtain ⟨x1, x2, x3, x4, x5⟩ := H_x.out
      obtain ⟨b1, b2, b3, b4, b5⟩ := H_b.out
      obtain ⟨u1, u2, u3, u4, u5⟩ := H_u.out
      go_wp2_with fail
      clear p1 p2 p3 p4 p5 x1 x2 x3 x4 x5 b1 b2 b3 b4 b5 u1 u2 u3 u4 u5
      refine (rwithin_v pp pb (by omega) (by omega) hr0 hr1).mono ?_
      rintro e w301 ⟨rfl, B301⟩
      replace H_p := Lib.hid (H_p.out.below B301)
      replace H_x := Lib.hid (H_x.out.below B301)
      replace H_b := Lib.hid (H_b.out.below B301)
      replace H_u := Lib.hid (H_u.out.below B301)
      replace pp := pp.below B301
      replace px := px.below B301
      replace pb := pb.below B301
      replace pu := pu.below B301
      replace hW := hW.trans (B301.mono hW.size)
      clear B301
      obtain ⟨p1, p2, p3, p4, p5⟩ := H_p.out
      obtain ⟨x1, x2, x3, x4, x5⟩ := H_x.out
      obtain ⟨b1, b2, b3, b4, b5⟩ := H_b.out
      obtain ⟨u1, u2, u3, u4, u5⟩ := H_u.out
      go_wp2_with fail
      clear p1 p2 p3 p4 p5 x1 x2 x3 x4 x5 b1 b2 b3 b4 b5 u1 u2 u3 u4 u5
      refine (rcong_v (b := true) pp pu.zv pb (by omega) (by omega) (by omega) (by omega) (pow_cong x y k)).mono ?_
      rintro e w302 ⟨rfl, B302⟩
      replace H_p := Lib.hid (H_p.out.below B302)
      replace H_x := Lib.hid (H_x.out.below B302)
      replace H_b := Lib.hid (H_b.out.below B302)
      replace H_u := Lib.hid (H_u.out.below B302)
      replace pp := pp.below B302
      replace px := px.below B302
      replace pb := pb.below B302
      replace pu := pu.below B302
      replace hW := hW.trans (B302.mono hW.size)
      clear B302
      go_wp2_with fail
      go_ret
      exact ⟨rfl, hW⟩
set_option maxRecDepth 100000 in
set_option maxHeartbeats 16000000 in
theorem mp_yesn {A B : Option Addr} {n m c d : Nat} {s t : Bool} {x y e0 N : Int} {w : World} (hx : Zv w s A n c x) (hy : Zv w t B m d y) (hN : e0.tmod 13 = N) (hNl : -12 ≤ N) (hNu : N ≤ 12) (h1 : n ≤ 2) (h2 : m ≤ 2) (hs : N < 0) (h0 : 0 < y) (hg : Nat.gcd x.natAbs y.natAbs = 1) :
    Calls Tryz.prog 3 #[.agg #[.bool s, .slice A n c], .agg #[.bool t, .slice B m d], .int .i8 e0] w (TruePost w) := by
  obtain ⟨w3, hw3, IA, IB, z0⟩ := open2 w s t A B n c m d
  have HW := Lib.hid hw3.symm
  replace hx := hx.below z0
  replace hy := hy.below z0
  have hW := z0
  have H_a := Lib.hid IA
  have H_b := Lib.hid IB
  have HNE := Lib.hid hN
  clear hw3 IA IB z0 hN
  have HSY : Hid (y.sign = 1) := Lib.hid (Int.sign_eq_one_of_pos h0)
  obtain ⟨v, hv⟩ : ∃ v, N.natAbs = v := ⟨_, rfl⟩
  have hv12 : v ≤ 12 := by omega
  have HG := Lib.hid hg
  clear hg
  have b0 : decide (N < 0) = true := decide_eq_true hs
  have hvn : -N = (v : Int) := by omega
  have HV := Lib.hid hv
  have HVN := Lib.hid hvn
  clear hv hvn
  go_enter Tryz.func3, Tryz.ntmps3
  obtain ⟨a1, a2, a3, a4, a5⟩ := H_a.out
  obtain ⟨b1, b2, b3, b4, b5⟩ := H_b.out
  go_wp2_with fail
  rw [HW.out]
  clear a1 a2 a3 a4 a5 b1 b2 b3 b4 b5
  refine (mawake_calls _).mono ?_
  rintro e w21 ⟨rfl, B21⟩
  replace H_a := Lib.hid (H_a.out.below B21)
  replace H_b := Lib.hid (H_b.out.below B21)
  replace hx := hx.below B21
  replace hy := hy.below B21
  replace hW := hW.trans (B21.mono hW.size)
  clear B21
  obtain ⟨a1, a2, a3, a4, a5⟩ := H_a.out
  obtain ⟨b1, b2, b3, b4, b5⟩ := H_b.out
  go_wp2_with fail
  clear a1 a2 a3 a4 a5 b1 b2 b3 b4 b5
  refine (mfew_v (k := 2) (b := true) (by omega) (by omega) (by omega) (by omega) (by rw [decide_eq_true_iff]; omega)).mono ?_
  rintro e w22 ⟨rfl, B22⟩
  replace H_a := Lib.hid (H_a.out.below B22)
  replace H_b := Lib.hid (H_b.out.below B22)
  replace hx := hx.below B22
  replace hy := hy.below B22
  replace hW := hW.trans (B22.mono hW.size)
  clear B22
  have hN := HNE.out
  obtain ⟨a1, a2, a3, a4, a5⟩ := H_a.out
  obtain ⟨b1, b2, b3, b4, b5⟩ := H_b.out
  go_wp2_with fail
  clear a1 a2 a3 a4 a5 b1 b2 b3 b4 b5
  go_upto_region 4 with fail
  clear hN
  go_cut [8, 9] (PwV w22 x y N.natAbs m)
  case first =>
    obtain ⟨a1, a2, a3, a4, a5⟩ := H_a.out
    obtain ⟨b1, b2, b3, b4, b5⟩ := H_b.out
    have an : ¬ (w22.heap.size = w.heap.size) := by omega
    have am : ¬ (w.heap.size = w22.heap.size) := by omega
    have bn : ¬ (w22.heap.size = (w.heap.size + 1)) := by omega
    have bm : ¬ ((w.heap.size + 1) = w22.heap.size) := by omega
    go_region_held3 (fun w' => w'.cell? ⟨w.heap.size, 0, none⟩ = some (.bool s) ∧ w'.cell? ⟨w.heap.size, 1, none⟩ = some (.slice A n c) ∧ w'.cell? ⟨(w.heap.size + 1), 0, none⟩ = some (.bool t) ∧ w'.cell? ⟨(w.heap.size + 1), 1, none⟩ = some (.slice B m d)) (go_keep) (first
      | (go_at_call 8; (with_reducible refine (zof_v N (by omega) (by omega) _).mono ?_); rintro e w23 ⟨s23, A23, n23, c23, rfl, p23, k23, B23⟩; have Q23 := zup (below_drew _) B23; obtain ⟨ax23, ay23, af23, ag23, az23⟩ := H_a.out.below Q23; have an23 : ¬ (w23.heap.size = w.heap.size) := (by omega); have am23 : ¬ (w.heap.size = w23.heap.size) := (by omega); obtain ⟨bx23, by23, bf23, bg23, bz23⟩ := H_b.out.below Q23; have bn23 : ¬ (w23.heap.size = (w.heap.size + 1)) := (by omega); have bm23 : ¬ ((w.heap.size + 1) = w23.heap.size) := (by omega))
      | (go_at_call 8; (with_reducible refine (zof_v N (by omega) (by omega) _).mono ?_); rintro e w23 ⟨s23, A23, n23, c23, rfl, p23, k23, B23⟩; have Q23 := zup (zbd _ _) B23; have J23 := (Ib.newd w22 false none 0 0 25).below B23; have g23 := Nat.le_refl w22.heap.size; obtain ⟨ax23, ay23, af23, ag23, az23⟩ := H_a.out.below Q23; have an23 : ¬ (w23.heap.size = w.heap.size) := (by omega); have am23 : ¬ (w.heap.size = w23.heap.size) := (by omega); obtain ⟨bx23, by23, bf23, bg23, bz23⟩ := H_b.out.below Q23; have bn23 : ¬ (w23.heap.size = (w.heap.size + 1)) := (by omega); have bm23 : ¬ ((w.heap.size + 1) = w23.heap.size) := (by omega); have Jc23 := J23; obtain ⟨jx23, jy23, jf23, jg23, jz23⟩ := Jc23)
      | (go_at_call 7; (with_reducible refine (pow_yesneg (hx.below Q23) p23.zv (hy.below Q23) (by omega) (by omega) (by omega) hs h0 HG.out).mono ?_); rintro e w24 ⟨X, hX, s24, A24, n24, c24, rfl, p24, k24, B24⟩; have hX' := hX; have Q24 := zup Q23 B24; have R24 := B24; have J24 := J23.below B24; have g24 := g23; obtain ⟨ax24, ay24, af24, ag24, az24⟩ := H_a.out.below Q24; have an24 : ¬ (w24.heap.size = w.heap.size) := (by omega); have am24 : ¬ (w.heap.size = w24.heap.size) := (by omega); obtain ⟨bx24, by24, bf24, bg24, bz24⟩ := H_b.out.below Q24; have bn24 : ¬ (w24.heap.size = (w.heap.size + 1)) := (by omega); have bm24 : ¬ ((w.heap.size + 1) = w24.heap.size) := (by omega); have Jc24 := J24; obtain ⟨jx24, jy24, jf24, jg24, jz24⟩ := Jc24)
      | (go_at_call 7; (with_reducible refine (pow_yesneg (hx.below Q23) p23.zv (hy.below Q23) (by omega) (by omega) (by omega) hs h0 HG.out).mono ?_); rintro e w24 ⟨X, hX, s24, A24, n24, c24, rfl, p24, k24, B24⟩; have hX' := hX; have Q24 := zup Q23 B24; have R24 := B24; obtain ⟨ax24, ay24, af24, ag24, az24⟩ := H_a.out.below Q24; have an24 : ¬ (w24.heap.size = w.heap.size) := (by omega); have am24 : ¬ (w.heap.size = w24.heap.size) := (by omega); obtain ⟨bx24, by24, bf24, bg24, bz24⟩ := H_b.out.below Q24; have bn24 : ¬ (w24.heap.size = (w.heap.size + 1)) := (by omega); have bm24 : ¬ ((w.heap.size + 1) = w24.heap.size) := (by omega))
      | (go_at_call 7; (with_reducible refine (pow_yesneg (hx.below (zup Q23 (zba _ _))) (p23.below (zba _ _)).zv (hy.below (zup Q23 (zba _ _))) (by omega) (by omega) (by omega) hs h0 HG.out).mono ?_); rintro e w24 ⟨X, hX, s24, A24, n24, c24, rfl, p24, k24, B24⟩; have hX' := hX; have Q24 := zup (zup Q23 (zba _ _)) B24; have R24 := zup (zba w23 _) B24; have J24 := (Ib.new w23 false none 0 0 25).below B24; have g24 := Q23.size; obtain ⟨ax24, ay24, af24, ag24, az24⟩ := H_a.out.below Q24; have an24 : ¬ (w24.heap.size = w.heap.size) := (by omega); have am24 : ¬ (w.heap.size = w24.heap.size) := (by omega); obtain ⟨bx24, by24, bf24, bg24, bz24⟩ := H_b.out.below Q24; have bn24 : ¬ (w24.heap.size = (w.heap.size + 1)) := (by omega); have bm24 : ¬ ((w.heap.size + 1) = w24.heap.size) := (by omega); have Jc24 := J24; obtain ⟨jx24, jy24, jf24, jg24, jz24⟩ := Jc24)
      | fail)
    all_goals
      first
      | have P := Lib.hid (VarCut.put (w0 := w22) (z := (X ^ N.natAbs % y)) (k := m) J24 p24 Q24 g24 (by omega))
      | have P := Lib.hid (VarCut.new (w0 := w22) (z := (X ^ N.natAbs % y)) (k := m) (t := 25) p24 Q24 (by omega))
      go_wp2_with fail
      go_meet
      exact PwV.mk hX P.out
  case rest =>
    obtain ⟨X, hX, ⟨g25, s25, A25, n25, c25, rfl, hg25, I25, p25, k25, B25⟩, rfl⟩ := hcut
    obtain ⟨w25, hw25⟩ : ∃ x, x = wc := ⟨_, rfl⟩
    subst hw25
    have lt_a_p : w.heap.size < g25 := Nat.lt_of_lt_of_le H_a.out.2.2.2.2 hg25
    have lt_b_p : (w.heap.size + 1) < g25 := Nat.lt_of_lt_of_le H_b.out.2.2.2.2 hg25
    have lw_p : w.heap.size ≤ g25 := Nat.le_trans hW.size hg25
    replace H_a := Lib.hid (H_a.out.below B25)
    replace H_b := Lib.hid (H_b.out.below B25)
    replace hx := hx.below B25
    replace hy := hy.below B25
    replace hW := hW.trans (B25.mono hW.size)
    have H_p := Lib.hid I25
    clear B25 I25 hg25
    have pq := p25
    clear p25
    rw [HV.out] at pq
    have HX := Lib.hid hX
    clear hX
    obtain ⟨a1, a2, a3, a4, a5⟩ := H_a.out
    obtain ⟨b1, b2, b3, b4, b5⟩ := H_b.out
    obtain ⟨p1, p2, p3, p4, p5⟩ := H_p.out
    go_wp2_with fail
    clear a1 a2 a3 a4 a5 b1 b2 b3 b4 b5 p1 p2 p3 p4 p5
    refine (zsign_v hy (by omega) HSY.out).mono ?_
    rintro e w26 ⟨rfl, B26⟩
    replace H_a := Lib.hid (H_a.out.below B26)
    replace H_b := Lib.hid (H_b.out.below B26)
    replace H_p := Lib.hid (H_p.out.below B26)
    replace hx := hx.below B26
    replace hy := hy.below B26
    replace pq := pq.below B26
    replace hW := hW.trans (B26.mono hW.size)
    clear B26
    have lt_a_x : w.heap.size < w26.heap.size := H_a.out.2.2.2.2
    have lt_b_x : (w.heap.size + 1) < w26.heap.size := H_b.out.2.2.2.2
    have lt_p_x : g25 < w26.heap.size := H_p.out.2.2.2.2
    have lw_x : w.heap.size ≤ w26.heap.size := hW.size
    have z27 := zba w26 (.cells #[.bool s, .slice A n c] 25)
    obtain ⟨w27, hw27⟩ : ∃ w', w' = w26.alloc (.cells #[.bool s, .slice A n c] 25) := ⟨_, rfl⟩
    have I27 : Ib w27 w26.heap.size s A n c := by rw [hw27]; exact Ib.new _ _ _ _ _ _
    rw [← hw27] at z27
    have HW27 := Lib.hid hw27.symm
    have O_a := H_a
    have O_b := H_b
    have O_p := H_p
    replace H_a := Lib.hid (H_a.out.below z27)
    replace H_b := Lib.hid (H_b.out.below z27)
    replace H_p := Lib.hid (H_p.out.below z27)
    replace hx := hx.below z27
    replace hy := hy.below z27
    replace pq := pq.below z27
    replace hW := hW.trans (z27.mono hW.size)
    have H_x := Lib.hid I27
    clear z27 hw27 I27
    obtain ⟨a1, a2, a3, a4, a5⟩ := O_a.out
    obtain ⟨b1, b2, b3, b4, b5⟩ := O_b.out
    obtain ⟨p1, p2, p3, p4, p5⟩ := O_p.out
    go_wp2_with fail
    rw [HW27.out]
    clear a1 a2 a3 a4 a5 b1 b2 b3 b4 b5 p1 p2 p3 p4 p5 O_a O_b O_p
    refine (inv_yes hx hy (by omega) (by omega) h0 HG.out).mono ?_
    rintro e w28 ⟨Z, ⟨s28, A28, n28, c28, rfl, pz, k28, B28⟩, hZ⟩
    replace H_a := Lib.hid (H_a.out.below B28)
    replace H_b := Lib.hid (H_b.out.below B28)
    replace H_p := Lib.hid (H_p.out.below B28)
    replace H_x := Lib.hid (H_x.out.below B28)
    replace hx := hx.below B28
    replace hy := hy.below B28
    replace pq := pq.below B28
    replace hW := hW.trans (B28.mono hW.size)
    clear B28
    obtain rfl : X = Z := inv_one HX.out hZ.out
    clear hZ
    obtain ⟨w29, hw29⟩ : ∃ w', w' = zput w28 w26.heap.size s28 A28 n28 c28 := ⟨_, rfl⟩
    have HW29 : Hid ((w28.setCell ⟨w26.heap.size, 0, none⟩ (.bool s28)).setCell ⟨w26.heap.size, 1, none⟩ (.slice A28 n28 c28) = w29) := Lib.hid hw29.symm
    have OI := H_x.out
    have O_a := H_a
    have O_b := H_b
    have O_p := H_p
    have O_x := H_x
    have nn_a : ¬ (w26.heap.size = w.heap.size) := by omega
    have nm_a : ¬ (w.heap.size = w26.heap.size) := by omega
    replace H_a : Hid (Ib w29 w.heap.size s A n c) := Lib.hid (by rw [hw29]; exact H_a.out.put (l := 0) (e := 0) (u := true) (C := none) nm_a)
    have nn_b : ¬ (w26.heap.size = (w.heap.size + 1)) := by omega
    have nm_b : ¬ ((w.heap.size + 1) = w26.heap.size) := by omega
    replace H_b : Hid (Ib w29 (w.heap.size + 1) t B m d) := Lib.hid (by rw [hw29]; exact H_b.out.put (l := 0) (e := 0) (u := true) (C := none) nm_b)
    have nn_p : ¬ (w26.heap.size = g25) := by omega
    have nm_p : ¬ (g25 = w26.heap.size) := by omega
    replace H_p : Hid (Ib w29 g25 s25 A25 n25 c25) := Lib.hid (by rw [hw29]; exact H_p.out.put (l := 0) (e := 0) (u := true) (C := none) nm_p)
    replace H_x : Hid (Ib w29 w26.heap.size s28 A28 n28 c28) := Lib.hid (by rw [hw29]; exact OI.own)
    replace hx := hx.put (s' := s28) (A' := A28) (n' := n28) (c' := c28) OI
    rw [← hw29] at hx
    replace hy := hy.put (s' := s28) (A' := A28) (n' := n28) (c' := c28) OI
    rw [← hw29] at hy
    replace pq := pq.put (s' := s28) (A' := A28) (n' := n28) (c' := c28) OI
    rw [← hw29] at pq
    replace pz := pz.put (s' := s28) (A' := A28) (n' := n28) (c' := c28) OI
    rw [← hw29] at pz
    replace hW : Below w.heap.size w w29 := by rw [hw29]; exact below_put hW lw_x
    clear hw29 OI
    have z30 := zba w29 (.cells #[.bool s28, .slice A28 n28 c28] 25)
    obtain ⟨w30, hw30⟩ : ∃ w', w' = w29.alloc (.cells #[.bool s28, .slice A28 n28 c28] 25) := ⟨_, rfl⟩
    have HW30 := Lib.hid hw30.symm
    rw [← hw30] at z30
    replace H_a := Lib.hid (H_a.out.below z30)
    replace H_b := Lib.hid (H_b.out.below z30)
    replace H_p := Lib.hid (H_p.out.below z30)
    replace H_x := Lib.hid (H_x.out.below z30)
    replace hx := hx.below z30
    replace hy := hy.below z30
    replace pq := pq.below z30
    replace pz := pz.below z30
    replace hW := hW.trans (z30.mono hW.size)
    clear z30
    have hvn := HVN.out
    obtain ⟨a1, a2, a3, a4, a5⟩ := O_a.out
    obtain ⟨b1, b2, b3, b4, b5⟩ := O_b.out
    obtain ⟨p1, p2, p3, p4, p5⟩ := O_p.out
    obtain ⟨x1, x2, x3, x4, x5⟩ := O_x.out
    go_wp2_with fail
    rw [HW29.out]
    rw [HW30.out]
    clear a1 a2 a3 a4 a5 b1 b2 b3 b4 b5 p1 p2 p3 p4 p5 x1 x2 x3 x4 x5 O_a O_b O_p O_x nn_a nm_a nn_b nm_b nn_p nm_p
    refine (zof_v 1 (by omega) (by omega) _).mono ?_
    rintro e w31 ⟨s31, A31, n31, c31, rfl, p1, k31, B31⟩
    replace H_a := Lib.hid (H_a.out.below B31)
    replace H_b := Lib.hid (H_b.out.below B31)
    replace H_p := Lib.hid (H_p.out.below B31)
    replace H_x := Lib.hid (H_x.out.below B31)
    replace hx := hx.below B31
    replace hy := hy.below B31
    replace pq := pq.below B31
    replace pz := pz.below B31
    replace hW := hW.trans (B31.mono hW.size)
    clear B31
    have z32 := zba w31 (.cells #[.bool s31, .slice A31 n31 c31] 25)
    obtain ⟨w32, hw32⟩ : ∃ w', w' = w31.alloc (.cells #[.bool s31, .slice A31 n31 c31] 25) := ⟨_, rfl⟩
    have I32 : Ib w32 w31.heap.size s31 A31 n31 c31 := by rw [hw32]; exact Ib.new _ _ _ _ _ _
    rw [← hw32] at z32
    have HW32 := Lib.hid hw32.symm
    have O_a := H_a
    have lt_a_u : w.heap.size < w31.heap.size := H_a.out.2.2.2.2
    have O_b := H_b
    have lt_b_u : (w.heap.size + 1) < w31.heap.size := H_b.out.2.2.2.2
    have O_p := H_p
    have lt_p_u : g25 < w31.heap.size := H_p.out.2.2.2.2
    have O_x := H_x
    have lt_x_u : w26.heap.size < w31.heap.size := H_x.out.2.2.2.2
    have lw_u : w.heap.size ≤ w31.heap.size := hW.size
    replace H_a := Lib.hid (H_a.out.below z32)
    replace H_b := Lib.hid (H_b.out.below z32)
    replace H_p := Lib.hid (H_p.out.below z32)
    replace H_x := Lib.hid (H_x.out.below z32)
    replace hx := hx.below z32
    replace hy := hy.below z32
    replace pq := pq.below z32
    replace pz := pz.below z32
    replace p1 := p1.below z32
    replace hW := hW.trans (z32.mono hW.size)
    have H_u := Lib.hid I32
    clear z32 hw32 I32
    have hX1 : 0 ≤ y := by omega
    have HM : Hid (MpAt w g25 w26.heap.size w31.heap.size s25 A25 n25 c25 (X ^ v % y) s28 A28 n28 c28 X (w.heap.size + 1) t B m d y 0 w32) := Lib.hid ⟨s31, A31, n31, c31, H_u.out, by rw [Int.pow_zero]; exact p1, by omega, H_p.out, pq.zv, H_x.out, pz.zv, H_b.out, hy, lt_p_u, lt_x_u, lt_b_u, lw_u, hW⟩
    obtain ⟨a1, a2, a3, a4, a5⟩ := O_a.out
    obtain ⟨b1, b2, b3, b4, b5⟩ := O_b.out
    obtain ⟨p1, p2, p3, p4, p5⟩ := O_p.out
    obtain ⟨x1, x2, x3, x4, x5⟩ := O_x.out
    go_wp2_with fail
    rw [HW32.out]
    clear a1 a2 a3 a4 a5 b1 b2 b3 b4 b5 p1 p2 p3 p4 p5 x1 x2 x3 x4 x5 O_a O_b O_p O_x
    clear hvn
    clear hx hy pq pz p1 H_a H_b H_p H_x H_u hW
    go_loopw [14] (fun i wr => ∃ k : Nat, k ≤ v ∧ i = .int .i64 (k : Int) ∧ MpAt w g25 w26.heap.size w31.heap.size s25 A25 n25 c25 (X ^ v % y) s28 A28 n28 c28 X (w.heap.size + 1) t B m d y k wr) (fun i _ => v - (intOf i).toNat)
    case atStart => exact ⟨0, by omega, rfl, HM.out⟩
    case round =>
    clear HM
    obtain ⟨k, hk, rfl, HA⟩ := hrel
    have HA' := HA
    obtain ⟨s7, A7, n7, c7, IU, pu, ku, IP, pp, IX, px, IB, pb, l1, l2, l3, l4, hW⟩ := HA
    have H_u := Lib.hid IU
    have H_p := Lib.hid IP
    have H_x := Lib.hid IX
    have H_b := Lib.hid IB
    clear IU IP IX IB
    have hvn := HVN.out
    by_cases hkv : k < v
    · have bk : decide ((k : Int) < (v : Int)) = true := decide_eq_true (by omega)
      have HAH := Lib.hid HA'
      clear HA'
      obtain ⟨p1, p2, p3, p4, p5⟩ := H_p.out
      obtain ⟨x1, x2, x3, x4, x5⟩ := H_x.out
      obtain ⟨b1, b2, b3, b4, b5⟩ := H_b.out
      obtain ⟨u1, u2, u3, u4, u5⟩ := H_u.out
      go_wp2_with fail
      clear p1 p2 p3 p4 p5 x1 x2 x3 x4 x5 b1 b2 b3 b4 b5 u1 u2 u3 u4 u5
      refine (zmul_v pu.zv px (by omega) (by omega)).mono ?_
      rintro e w90 ⟨s9, A9, n9, c9, rfl, q9, k9, B9⟩
      have P := Lib.hid (HAH.out.put B9 q9 (by omega))
      replace H_u := Lib.hid (H_u.out.below B9)
      obtain ⟨u1, u2, u3, u4, u5⟩ := H_u.out
      clear pu px pp pb q9 H_x H_p H_b HAH B9
      go_wp2_with fail
      go_roundw
      case rel => exact ⟨k + 1, by omega, by go_num, P.out⟩
      case measure => simp [intOf]; omega
    · obtain rfl : k = v := by omega
      clear HA' hkv
      have hr0 : 0 ≤ X ^ k % y := Int.emod_nonneg _ (by omega)
      have hr1 : X ^ k % y < y := Int.emod_lt_of_pos _ h0
      obtain ⟨p1, p2, p3, p4, p5⟩ := H_p.out
      obtain ⟨x1, x2, x3, x4, x5⟩ := H_x.out
      obtain ⟨b1, b2, b3, b4, b5⟩ := H_b.out
      obtain ⟨u1, u2, u3, u4, u5⟩ := H_u.out
      go_wp2_with fail
      clear p1 p2 p3 p4 p5 x1 x2 x3 x4 x5 b1 b2 b3 b4 b5 u1 u2 u3 u4 u5
      refine (rwithin_v pp pb (by omega) (by omega) hr0 hr1).mono ?_
      rintro e w301 ⟨rfl, B301⟩
      replace H_p := Lib.hid (H_p.out.below B301)
      replace H_x := Lib.hid (H_x.out.below B301)
      replace H_b := Lib.hid (H_b.out.below B301)
      replace H_u := Lib.hid (H_u.out.below B301)
      replace pp := pp.below B301
      replace px := px.below B301
      replace pb := pb.below B301
      replace pu := pu.below B301
      replace hW := hW.trans (B301.mono hW.size)
      clear B301
      obtain ⟨p1, p2, p3, p4, p5⟩ := H_p.out
      obtain ⟨x1, x2, x3, x4, x5⟩ := H_x.out
      obtain ⟨b1, b2, b3, b4, b5⟩ := H_b.out
      obtain ⟨u1, u2, u3, u4, u5⟩ := H_u.out
      go_wp2_with fail
      clear p1 p2 p3 p4 p5 x1 x2 x3 x4 x5 b1 b2 b3 b4 b5 u1 u2 u3 u4 u5
      refine (rcong_v (b := true) pp pu.zv pb (by omega) (by omega) (by omega) (by omega) (pow_cong X y k)).mono ?_
      rintro e w302 ⟨rfl, B302⟩
      replace H_p := Lib.hid (H_p.out.below B302)
      replace H_x := Lib.hid (H_x.out.below B302)
      replace H_b := Lib.hid (H_b.out.below B302)
      replace H_u := Lib.hid (H_u.out.below B302)
      replace pp := pp.below B302
      replace px := px.below B302
      replace pb := pb.below B302
      replace pu := pu.below B302
      replace hW := hW.trans (B302.mono hW.size)
      clear B302
      go_wp2_with fail
      go_ret
      exact ⟨rfl, hW⟩
theorem mpowers_calls (A B : Option Addr) (n m c d : Nat) (s t : Bool) (x y e0 : Int) (w : World) (hx : Zv w s A n c x) (hy : Zv w t B m d y) (hn : n ≤ 9223372036854775807) (hm : m ≤ 9223372036854775807) :
    Calls Tryz.prog 3 #[.agg #[.bool s, .slice A n c], .agg #[.bool t, .slice B m d], .int .i8 e0] w (TruePost w) := by
  obtain ⟨hl, hu⟩ := tmod13 e0
  by_cases hf : n ≤ 2 ∧ m ≤ 2
  · by_cases h0 : y ≤ 0
    · by_cases hs : e0.tmod 13 < 0
      · exact mp_badn hx hy rfl hl hu hf.1 hf.2 hs h0
      · exact mp_badp hx hy rfl hl hu hf.1 hf.2 (by omega) h0
    · by_cases hs : e0.tmod 13 < 0
      · by_cases hg : Nat.gcd x.natAbs y.natAbs = 1
        · exact mp_yesn hx hy rfl hl hu hf.1 hf.2 hs (by omega) hg
        · exact mp_noinv hx hy rfl hl hu hf.1 hf.2 hs (by omega) hg
      · exact mp_yesp hx hy rfl hl hu hf.1 hf.2 (by omega) (by omega)
  · exact mp_few hx hy rfl hl hu hn hm hf
end Go.Proofs.YtofdbihohljmpaaGreat
