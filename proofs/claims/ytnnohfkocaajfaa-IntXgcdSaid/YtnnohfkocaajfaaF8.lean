/-
  The walk of IntXgcd.
-/
import Derived.Test.YtnnohfkocaajfaaWayF
/-! The walk of IntXgcd. -/
namespace Go.Proofs.Ytnnohfkocaajfaa
open Go.RowKit
set_option linter.unusedVariables false
set_option linter.unusedSimpArgs false

/-- Three whole numbers in new memory. -/
theorem opentri (w : World) (s t u : Bool) (A B C : Option Addr) (n c m d l e : Nat) :
    ∃ w3, w3 = (((w.alloc (.cells #[.bool s, .slice A n c] 40)).alloc (.cells #[.bool t, .slice B m d] 40)).alloc (.cells #[.bool u, .slice C l e] 40)) ∧
      Ib w3 w.heap.size s A n c ∧ Ib w3 (w.heap.size + 1) t B m d ∧ Ib w3 (w.heap.size + 1 + 1) u C l e ∧ Below w.heap.size w w3 := by
  obtain ⟨w2, hw2, IA, IB, z⟩ := open2 w s t A B n c m d
  have e1 : w2.heap.size = w.heap.size + 1 + 1 := by rw [hw2]; simp
  refine ⟨w2.alloc (.cells #[.bool u, .slice C l e] 40), by rw [hw2], IA.below (zba _ _), IB.below (zba _ _), ?_, zup z (zba _ _)⟩
  rw [← e1]
  exact Ib.new _ _ _ _ _ _
/-- A whole number in a variable, and true. -/
def VarOk (w0 : World) (z : Int) (k : Nat) (v b : Value) (wx : World) : Prop := VarCut w0 z k v wx ∧ b = .bool true
theorem sign_abs (x : Int) : x.sign * x = (x.natAbs : Int) := by
  rcases Int.lt_trichotomy x 0 with h | h | h
  · rw [Int.sign_eq_neg_one_of_neg h]; omega
  · subst h; rfl
  · rw [Int.sign_eq_one_of_pos h]; omega
theorem sign_bounds (x : Int) : -1 ≤ x.sign ∧ x.sign ≤ 1 := by
  rcases Int.lt_trichotomy x 0 with h | h | h
  · rw [Int.sign_eq_neg_one_of_neg h]; omega
  · subst h; decide
  · rw [Int.sign_eq_one_of_pos h]; omega
theorem sign_pos {x : Int} (h : 0 ≤ x) : 0 ≤ x.sign := by
  rcases Int.lt_or_eq_of_le h with h | h
  · rw [Int.sign_eq_one_of_pos h]; omega
  · rw [← h]; decide
set_option maxRecDepth 100000 in
set_option maxHeartbeats 8000000 in
theorem ixgcd_no {A B : Option Addr} {n m c d : Nat} {s t : Bool} {x y : Int} {w : World} (hx : Zv w s A n c x) (hy : Zv w t B m d y) (h1 : n ≤ 6) (h2 : m ≤ 6) (h0 : y = 0) :
    Calls Try.prog 6 #[.agg #[.bool s, .slice A n c], .agg #[.bool t, .slice B m d]] w (TruePost w) := by
  obtain ⟨w3, hw3, IA, IB, z0⟩ := open2 w s t A B n c m d
  have HW := Lib.hid hw3.symm
  replace hx := hx.below z0
  replace hy := hy.below z0
  have hW := z0
  have H_a := Lib.hid IA
  have H_b := Lib.hid IB
  clear hw3 IA IB z0
  subst h0
  obtain ⟨r, hr⟩ : ∃ r, x.sign = r := ⟨_, rfl⟩
  obtain ⟨r1, r2⟩ := sign_bounds x
  rw [hr] at r1 r2
  have hrx : r * x = (x.natAbs : Int) := by rw [← hr]; exact sign_abs x
  have HE : Hid (r * x + 0 * 0 = (x.natAbs : Int)) := Lib.hid (by rw [hrx]; omega)
  have HGG : Hid (((Nat.gcd x.natAbs (0 : Int).natAbs : Nat) : Int) = (x.natAbs : Int)) := Lib.hid (by simp)
  obtain ⟨sa, hsa⟩ : ∃ r, (x.natAbs : Int).sign = r := ⟨_, rfl⟩
  have hs0 : ¬ sa < 0 := by have := sign_pos (x := (x.natAbs : Int)) (by omega); omega
  have HSA := Lib.hid hsa
  have HR := Lib.hid hr
  clear hr hrx hsa
  go_enter Try.func6, Try.ntmps6
  obtain ⟨a1, a2, a3, a4, a5⟩ := H_a.out
  obtain ⟨b1, b2, b3, b4, b5⟩ := H_b.out
  go_wp2_with fail
  rw [HW.out]
  clear a1 a2 a3 a4 a5 b1 b2 b3 b4 b5
  refine (zawake_calls _).mono ?_
  rintro e w21 ⟨rfl, B21⟩
  replace H_a := Lib.hid (H_a.out.below B21)
  replace H_b := Lib.hid (H_b.out.below B21)
  replace hx := hx.below B21
  replace hy := hy.below B21
  replace hW := hW.trans (B21.mono hW.size)
  clear B21
  obtain ⟨a1, a2, a3, a4, a5⟩ := H_a.out
  obtain ⟨b1, b2, b3, b4, b5⟩ := H_b.out
  go_wp2_with fail
  clear a1 a2 a3 a4 a5 b1 b2 b3 b4 b5
  refine (zfew_v (k := 6) (b := true) (by omega) (by omega) (by omega) (by omega) (by rw [decide_eq_true_iff]; omega)).mono ?_
  rintro e w22 ⟨rfl, B22⟩
  replace H_a := Lib.hid (H_a.out.below B22)
  replace H_b := Lib.hid (H_b.out.below B22)
  replace hx := hx.below B22
  replace hy := hy.below B22
  replace hW := hW.trans (B22.mono hW.size)
  clear B22
  obtain ⟨a1, a2, a3, a4, a5⟩ := H_a.out
  obtain ⟨b1, b2, b3, b4, b5⟩ := H_b.out
  go_wp2_with fail
  clear a1 a2 a3 a4 a5 b1 b2 b3 b4 b5
  refine (zxgcd_no hx hy (by omega) (by omega) HR.out r1 r2).mono ?_
  rintro e w23 ⟨s23, A23, n23, c23, t23, D23, m23, d23, bz23, E23, l23, f23, rfl, pg, px, py, kg, kx, ky, B23⟩
  replace H_a := Lib.hid (H_a.out.below B23)
  replace H_b := Lib.hid (H_b.out.below B23)
  replace hx := hx.below B23
  replace hy := hy.below B23
  replace hW := hW.trans (B23.mono hW.size)
  clear B23
  obtain ⟨w24, hw24, I24, J24, K24, z24⟩ := opentri w23 s23 t23 bz23 A23 D23 E23 n23 c23 m23 d23 l23 f23
  have HW24 := Lib.hid hw24.symm
  have O_a := H_a
  have O_b := H_b
  replace H_a := Lib.hid (H_a.out.below z24)
  replace H_b := Lib.hid (H_b.out.below z24)
  replace hx := hx.below z24
  replace hy := hy.below z24
  replace pg := pg.below z24
  replace px := px.below z24
  replace py := py.below z24
  replace hW := hW.trans (z24.mono hW.size)
  have H_g := Lib.hid I24
  have H_x := Lib.hid J24
  have H_y := Lib.hid K24
  clear z24 hw24 I24 J24 K24
  obtain ⟨a1, a2, a3, a4, a5⟩ := O_a.out
  obtain ⟨b1, b2, b3, b4, b5⟩ := O_b.out
  go_wp2_with fail
  rw [HW24.out]
  clear a1 a2 a3 a4 a5 b1 b2 b3 b4 b5 O_a O_b
  go_upto_region 4 with fail
  go_cut [8] (VarCut w24 (r * x + 0 * 0) 40)
  case first =>
    obtain ⟨a1, a2, a3, a4, a5⟩ := H_a.out
    obtain ⟨b1, b2, b3, b4, b5⟩ := H_b.out
    obtain ⟨g1, g2, g3, g4, g5⟩ := H_g.out
    obtain ⟨x1, x2, x3, x4, x5⟩ := H_x.out
    obtain ⟨y1, y2, y3, y4, y5⟩ := H_y.out
    have an : ¬ (w24.heap.size = w.heap.size) := by omega
    have am : ¬ (w.heap.size = w24.heap.size) := by omega
    have bn : ¬ (w24.heap.size = (w.heap.size + 1)) := by omega
    have bm : ¬ ((w.heap.size + 1) = w24.heap.size) := by omega
    have gn : ¬ (w24.heap.size = w23.heap.size) := by omega
    have gm : ¬ (w23.heap.size = w24.heap.size) := by omega
    have xn : ¬ (w24.heap.size = (w23.heap.size + 1)) := by omega
    have xm : ¬ ((w23.heap.size + 1) = w24.heap.size) := by omega
    have yn : ¬ (w24.heap.size = (w23.heap.size + 1 + 1)) := by omega
    have ym : ¬ ((w23.heap.size + 1 + 1) = w24.heap.size) := by omega
    go_region_held3 (fun w' => w'.cell? ⟨w.heap.size, 0, none⟩ = some (.bool s) ∧ w'.cell? ⟨w.heap.size, 1, none⟩ = some (.slice A n c) ∧ w'.cell? ⟨(w.heap.size + 1), 0, none⟩ = some (.bool t) ∧ w'.cell? ⟨(w.heap.size + 1), 1, none⟩ = some (.slice B m d) ∧ w'.cell? ⟨w23.heap.size, 0, none⟩ = some (.bool s23) ∧ w'.cell? ⟨w23.heap.size, 1, none⟩ = some (.slice A23 n23 c23) ∧ w'.cell? ⟨(w23.heap.size + 1), 0, none⟩ = some (.bool t23) ∧ w'.cell? ⟨(w23.heap.size + 1), 1, none⟩ = some (.slice D23 m23 d23) ∧ w'.cell? ⟨(w23.heap.size + 1 + 1), 0, none⟩ = some (.bool bz23) ∧ w'.cell? ⟨(w23.heap.size + 1 + 1), 1, none⟩ = some (.slice E23 l23 f23)) (go_keep) (first
      | (go_at_call 23; (with_reducible refine (zmul_v (px.below (below_drew _)).zv (hx.below (below_drew _)) (by omega) (by omega)).mono ?_); rintro e w25 ⟨s25, A25, n25, c25, rfl, p25, k25, B25⟩; have Q25 := zup (below_drew _) B25; obtain ⟨ax25, ay25, af25, ag25, az25⟩ := H_a.out.below Q25; have an25 : ¬ (w25.heap.size = w.heap.size) := (by omega); have am25 : ¬ (w.heap.size = w25.heap.size) := (by omega); obtain ⟨bx25, by25, bf25, bg25, bz25⟩ := H_b.out.below Q25; have bn25 : ¬ (w25.heap.size = (w.heap.size + 1)) := (by omega); have bm25 : ¬ ((w.heap.size + 1) = w25.heap.size) := (by omega); obtain ⟨gx25, gy25, gf25, gg25, gz25⟩ := H_g.out.below Q25; have gn25 : ¬ (w25.heap.size = w23.heap.size) := (by omega); have gm25 : ¬ (w23.heap.size = w25.heap.size) := (by omega); obtain ⟨xx25, xy25, xf25, xg25, xz25⟩ := H_x.out.below Q25; have xn25 : ¬ (w25.heap.size = (w23.heap.size + 1)) := (by omega); have xm25 : ¬ ((w23.heap.size + 1) = w25.heap.size) := (by omega); obtain ⟨yx25, yy25, yf25, yg25, yz25⟩ := H_y.out.below Q25; have yn25 : ¬ (w25.heap.size = (w23.heap.size + 1 + 1)) := (by omega); have ym25 : ¬ ((w23.heap.size + 1 + 1) = w25.heap.size) := (by omega))
      | (go_at_call 23; (with_reducible refine (zmul_v (px.below (zbd _ _)).zv (hx.below (zbd _ _)) (by omega) (by omega)).mono ?_); rintro e w25 ⟨s25, A25, n25, c25, rfl, p25, k25, B25⟩; have Q25 := zup (zbd _ _) B25; have J25 := (Ib.newd w24 false none 0 0 40).below B25; have g25 := Nat.le_refl w24.heap.size; obtain ⟨ax25, ay25, af25, ag25, az25⟩ := H_a.out.below Q25; have an25 : ¬ (w25.heap.size = w.heap.size) := (by omega); have am25 : ¬ (w.heap.size = w25.heap.size) := (by omega); obtain ⟨bx25, by25, bf25, bg25, bz25⟩ := H_b.out.below Q25; have bn25 : ¬ (w25.heap.size = (w.heap.size + 1)) := (by omega); have bm25 : ¬ ((w.heap.size + 1) = w25.heap.size) := (by omega); obtain ⟨gx25, gy25, gf25, gg25, gz25⟩ := H_g.out.below Q25; have gn25 : ¬ (w25.heap.size = w23.heap.size) := (by omega); have gm25 : ¬ (w23.heap.size = w25.heap.size) := (by omega); obtain ⟨xx25, xy25, xf25, xg25, xz25⟩ := H_x.out.below Q25; have xn25 : ¬ (w25.heap.size = (w23.heap.size + 1)) := (by omega); have xm25 : ¬ ((w23.heap.size + 1) = w25.heap.size) := (by omega); obtain ⟨yx25, yy25, yf25, yg25, yz25⟩ := H_y.out.below Q25; have yn25 : ¬ (w25.heap.size = (w23.heap.size + 1 + 1)) := (by omega); have ym25 : ¬ ((w23.heap.size + 1 + 1) = w25.heap.size) := (by omega); have Jc25 := J25; obtain ⟨jx25, jy25, jf25, jg25, jz25⟩ := Jc25)
      | (go_at_call 23; (with_reducible refine (zmul_v (py.below Q25).zv (hy.below Q25) (by omega) (by omega)).mono ?_); rintro e w26 ⟨s26, A26, n26, c26, rfl, p26, k26, B26⟩; have Q26 := zup Q25 B26; have R26 := B26; have J26 := J25.below B26; have g26 := g25; obtain ⟨ax26, ay26, af26, ag26, az26⟩ := H_a.out.below Q26; have an26 : ¬ (w26.heap.size = w.heap.size) := (by omega); have am26 : ¬ (w.heap.size = w26.heap.size) := (by omega); obtain ⟨bx26, by26, bf26, bg26, bz26⟩ := H_b.out.below Q26; have bn26 : ¬ (w26.heap.size = (w.heap.size + 1)) := (by omega); have bm26 : ¬ ((w.heap.size + 1) = w26.heap.size) := (by omega); obtain ⟨gx26, gy26, gf26, gg26, gz26⟩ := H_g.out.below Q26; have gn26 : ¬ (w26.heap.size = w23.heap.size) := (by omega); have gm26 : ¬ (w23.heap.size = w26.heap.size) := (by omega); obtain ⟨xx26, xy26, xf26, xg26, xz26⟩ := H_x.out.below Q26; have xn26 : ¬ (w26.heap.size = (w23.heap.size + 1)) := (by omega); have xm26 : ¬ ((w23.heap.size + 1) = w26.heap.size) := (by omega); obtain ⟨yx26, yy26, yf26, yg26, yz26⟩ := H_y.out.below Q26; have yn26 : ¬ (w26.heap.size = (w23.heap.size + 1 + 1)) := (by omega); have ym26 : ¬ ((w23.heap.size + 1 + 1) = w26.heap.size) := (by omega); have Jc26 := J26; obtain ⟨jx26, jy26, jf26, jg26, jz26⟩ := Jc26)
      | (go_at_call 23; (with_reducible refine (zmul_v (py.below Q25).zv (hy.below Q25) (by omega) (by omega)).mono ?_); rintro e w26 ⟨s26, A26, n26, c26, rfl, p26, k26, B26⟩; have Q26 := zup Q25 B26; have R26 := B26; obtain ⟨ax26, ay26, af26, ag26, az26⟩ := H_a.out.below Q26; have an26 : ¬ (w26.heap.size = w.heap.size) := (by omega); have am26 : ¬ (w.heap.size = w26.heap.size) := (by omega); obtain ⟨bx26, by26, bf26, bg26, bz26⟩ := H_b.out.below Q26; have bn26 : ¬ (w26.heap.size = (w.heap.size + 1)) := (by omega); have bm26 : ¬ ((w.heap.size + 1) = w26.heap.size) := (by omega); obtain ⟨gx26, gy26, gf26, gg26, gz26⟩ := H_g.out.below Q26; have gn26 : ¬ (w26.heap.size = w23.heap.size) := (by omega); have gm26 : ¬ (w23.heap.size = w26.heap.size) := (by omega); obtain ⟨xx26, xy26, xf26, xg26, xz26⟩ := H_x.out.below Q26; have xn26 : ¬ (w26.heap.size = (w23.heap.size + 1)) := (by omega); have xm26 : ¬ ((w23.heap.size + 1) = w26.heap.size) := (by omega); obtain ⟨yx26, yy26, yf26, yg26, yz26⟩ := H_y.out.below Q26; have yn26 : ¬ (w26.heap.size = (w23.heap.size + 1 + 1)) := (by omega); have ym26 : ¬ ((w23.heap.size + 1 + 1) = w26.heap.size) := (by omega))
      | (go_at_call 23; (with_reducible refine (zmul_v (py.below (zup Q25 (zba _ _))).zv (hy.below (zup Q25 (zba _ _))) (by omega) (by omega)).mono ?_); rintro e w26 ⟨s26, A26, n26, c26, rfl, p26, k26, B26⟩; have Q26 := zup (zup Q25 (zba _ _)) B26; have R26 := zup (zba w25 _) B26; have J26 := (Ib.new w25 false none 0 0 40).below B26; have g26 := Q25.size; obtain ⟨ax26, ay26, af26, ag26, az26⟩ := H_a.out.below Q26; have an26 : ¬ (w26.heap.size = w.heap.size) := (by omega); have am26 : ¬ (w.heap.size = w26.heap.size) := (by omega); obtain ⟨bx26, by26, bf26, bg26, bz26⟩ := H_b.out.below Q26; have bn26 : ¬ (w26.heap.size = (w.heap.size + 1)) := (by omega); have bm26 : ¬ ((w.heap.size + 1) = w26.heap.size) := (by omega); obtain ⟨gx26, gy26, gf26, gg26, gz26⟩ := H_g.out.below Q26; have gn26 : ¬ (w26.heap.size = w23.heap.size) := (by omega); have gm26 : ¬ (w23.heap.size = w26.heap.size) := (by omega); obtain ⟨xx26, xy26, xf26, xg26, xz26⟩ := H_x.out.below Q26; have xn26 : ¬ (w26.heap.size = (w23.heap.size + 1)) := (by omega); have xm26 : ¬ ((w23.heap.size + 1) = w26.heap.size) := (by omega); obtain ⟨yx26, yy26, yf26, yg26, yz26⟩ := H_y.out.below Q26; have yn26 : ¬ (w26.heap.size = (w23.heap.size + 1 + 1)) := (by omega); have ym26 : ¬ ((w23.heap.size + 1 + 1) = w26.heap.size) := (by omega); have Jc26 := J26; obtain ⟨jx26, jy26, jf26, jg26, jz26⟩ := Jc26)
      | (go_at_call 22; (with_reducible refine (zadd_v (p25.below R26).zv p26.zv (by omega) (by omega)).mono ?_); rintro e w27 ⟨s27, A27, n27, c27, rfl, p27, k27, B27⟩; have Q27 := zup Q26 B27; have R27 := B27; have J27 := J26.below B27; have g27 := g26; obtain ⟨ax27, ay27, af27, ag27, az27⟩ := H_a.out.below Q27; have an27 : ¬ (w27.heap.size = w.heap.size) := (by omega); have am27 : ¬ (w.heap.size = w27.heap.size) := (by omega); obtain ⟨bx27, by27, bf27, bg27, bz27⟩ := H_b.out.below Q27; have bn27 : ¬ (w27.heap.size = (w.heap.size + 1)) := (by omega); have bm27 : ¬ ((w.heap.size + 1) = w27.heap.size) := (by omega); obtain ⟨gx27, gy27, gf27, gg27, gz27⟩ := H_g.out.below Q27; have gn27 : ¬ (w27.heap.size = w23.heap.size) := (by omega); have gm27 : ¬ (w23.heap.size = w27.heap.size) := (by omega); obtain ⟨xx27, xy27, xf27, xg27, xz27⟩ := H_x.out.below Q27; have xn27 : ¬ (w27.heap.size = (w23.heap.size + 1)) := (by omega); have xm27 : ¬ ((w23.heap.size + 1) = w27.heap.size) := (by omega); obtain ⟨yx27, yy27, yf27, yg27, yz27⟩ := H_y.out.below Q27; have yn27 : ¬ (w27.heap.size = (w23.heap.size + 1 + 1)) := (by omega); have ym27 : ¬ ((w23.heap.size + 1 + 1) = w27.heap.size) := (by omega); have Jc27 := J27; obtain ⟨jx27, jy27, jf27, jg27, jz27⟩ := Jc27)
      | (go_at_call 22; (with_reducible refine (zadd_v (p25.below R26).zv p26.zv (by omega) (by omega)).mono ?_); rintro e w27 ⟨s27, A27, n27, c27, rfl, p27, k27, B27⟩; have Q27 := zup Q26 B27; have R27 := B27; obtain ⟨ax27, ay27, af27, ag27, az27⟩ := H_a.out.below Q27; have an27 : ¬ (w27.heap.size = w.heap.size) := (by omega); have am27 : ¬ (w.heap.size = w27.heap.size) := (by omega); obtain ⟨bx27, by27, bf27, bg27, bz27⟩ := H_b.out.below Q27; have bn27 : ¬ (w27.heap.size = (w.heap.size + 1)) := (by omega); have bm27 : ¬ ((w.heap.size + 1) = w27.heap.size) := (by omega); obtain ⟨gx27, gy27, gf27, gg27, gz27⟩ := H_g.out.below Q27; have gn27 : ¬ (w27.heap.size = w23.heap.size) := (by omega); have gm27 : ¬ (w23.heap.size = w27.heap.size) := (by omega); obtain ⟨xx27, xy27, xf27, xg27, xz27⟩ := H_x.out.below Q27; have xn27 : ¬ (w27.heap.size = (w23.heap.size + 1)) := (by omega); have xm27 : ¬ ((w23.heap.size + 1) = w27.heap.size) := (by omega); obtain ⟨yx27, yy27, yf27, yg27, yz27⟩ := H_y.out.below Q27; have yn27 : ¬ (w27.heap.size = (w23.heap.size + 1 + 1)) := (by omega); have ym27 : ¬ ((w23.heap.size + 1 + 1) = w27.heap.size) := (by omega))
      | (go_at_call 22; (with_reducible refine (zadd_v ((p25.below R26).below (zba _ _)).zv (p26.below (zba _ _)).zv (by omega) (by omega)).mono ?_); rintro e w27 ⟨s27, A27, n27, c27, rfl, p27, k27, B27⟩; have Q27 := zup (zup Q26 (zba _ _)) B27; have R27 := zup (zba w26 _) B27; have J27 := (Ib.new w26 false none 0 0 40).below B27; have g27 := Q26.size; obtain ⟨ax27, ay27, af27, ag27, az27⟩ := H_a.out.below Q27; have an27 : ¬ (w27.heap.size = w.heap.size) := (by omega); have am27 : ¬ (w.heap.size = w27.heap.size) := (by omega); obtain ⟨bx27, by27, bf27, bg27, bz27⟩ := H_b.out.below Q27; have bn27 : ¬ (w27.heap.size = (w.heap.size + 1)) := (by omega); have bm27 : ¬ ((w.heap.size + 1) = w27.heap.size) := (by omega); obtain ⟨gx27, gy27, gf27, gg27, gz27⟩ := H_g.out.below Q27; have gn27 : ¬ (w27.heap.size = w23.heap.size) := (by omega); have gm27 : ¬ (w23.heap.size = w27.heap.size) := (by omega); obtain ⟨xx27, xy27, xf27, xg27, xz27⟩ := H_x.out.below Q27; have xn27 : ¬ (w27.heap.size = (w23.heap.size + 1)) := (by omega); have xm27 : ¬ ((w23.heap.size + 1) = w27.heap.size) := (by omega); obtain ⟨yx27, yy27, yf27, yg27, yz27⟩ := H_y.out.below Q27; have yn27 : ¬ (w27.heap.size = (w23.heap.size + 1 + 1)) := (by omega); have ym27 : ¬ ((w23.heap.size + 1 + 1) = w27.heap.size) := (by omega); have Jc27 := J27; obtain ⟨jx27, jy27, jf27, jg27, jz27⟩ := Jc27)
      | fail)
    all_goals
      first
      | have P := Lib.hid (VarCut.put (w0 := w24) (z := (r * x + 0 * 0)) (k := 40) J27 p27 Q27 g27 (by omega))
      | have P := Lib.hid (VarCut.new (w0 := w24) (z := (r * x + 0 * 0)) (k := 40) (t := 40) p27 Q27 (by omega))
      go_wp2_with fail
      go_meet
      exact P.out
  case rest =>
    obtain ⟨g28, s28, A28, n28, c28, rfl, hg28, I28, p28, k28, B28⟩ := hcut
    obtain ⟨w28, hw28⟩ : ∃ x, x = wc := ⟨_, rfl⟩
    subst hw28
    have lt_a_sum : w.heap.size < g28 := Nat.lt_of_lt_of_le H_a.out.2.2.2.2 hg28
    have lt_b_sum : (w.heap.size + 1) < g28 := Nat.lt_of_lt_of_le H_b.out.2.2.2.2 hg28
    have lt_g_sum : w23.heap.size < g28 := Nat.lt_of_lt_of_le H_g.out.2.2.2.2 hg28
    have lt_x_sum : (w23.heap.size + 1) < g28 := Nat.lt_of_lt_of_le H_x.out.2.2.2.2 hg28
    have lt_y_sum : (w23.heap.size + 1 + 1) < g28 := Nat.lt_of_lt_of_le H_y.out.2.2.2.2 hg28
    have lw_sum : w.heap.size ≤ g28 := Nat.le_trans hW.size hg28
    replace H_a := Lib.hid (H_a.out.below B28)
    replace H_b := Lib.hid (H_b.out.below B28)
    replace H_g := Lib.hid (H_g.out.below B28)
    replace H_x := Lib.hid (H_x.out.below B28)
    replace H_y := Lib.hid (H_y.out.below B28)
    replace hx := hx.below B28
    replace hy := hy.below B28
    replace pg := pg.below B28
    replace px := px.below B28
    replace py := py.below B28
    replace hW := hW.trans (B28.mono hW.size)
    have H_sum := Lib.hid I28
    clear B28 I28 hg28
    have ps := p28
    clear p28
    obtain ⟨a1, a2, a3, a4, a5⟩ := H_a.out
    obtain ⟨b1, b2, b3, b4, b5⟩ := H_b.out
    obtain ⟨g1, g2, g3, g4, g5⟩ := H_g.out
    obtain ⟨x1, x2, x3, x4, x5⟩ := H_x.out
    obtain ⟨y1, y2, y3, y4, y5⟩ := H_y.out
    obtain ⟨sum1, sum2, sum3, sum4, sum5⟩ := H_sum.out
    go_wp2_with fail
    clear a1 a2 a3 a4 a5 b1 b2 b3 b4 b5 g1 g2 g3 g4 g5 x1 x2 x3 x4 x5 y1 y2 y3 y4 y5 sum1 sum2 sum3 sum4 sum5
    obtain ⟨a1, a2, a3, a4, a5⟩ := H_a.out
    obtain ⟨b1, b2, b3, b4, b5⟩ := H_b.out
    obtain ⟨g1, g2, g3, g4, g5⟩ := H_g.out
    obtain ⟨x1, x2, x3, x4, x5⟩ := H_x.out
    obtain ⟨y1, y2, y3, y4, y5⟩ := H_y.out
    obtain ⟨sum1, sum2, sum3, sum4, sum5⟩ := H_sum.out
    go_region_held3 (fun w' => w'.cell? ⟨w.heap.size, 0, none⟩ = some (.bool s) ∧ w'.cell? ⟨w.heap.size, 1, none⟩ = some (.slice A n c) ∧ w'.cell? ⟨(w.heap.size + 1), 0, none⟩ = some (.bool t) ∧ w'.cell? ⟨(w.heap.size + 1), 1, none⟩ = some (.slice B m d) ∧ w'.cell? ⟨w23.heap.size, 0, none⟩ = some (.bool s23) ∧ w'.cell? ⟨w23.heap.size, 1, none⟩ = some (.slice A23 n23 c23) ∧ w'.cell? ⟨(w23.heap.size + 1), 0, none⟩ = some (.bool t23) ∧ w'.cell? ⟨(w23.heap.size + 1), 1, none⟩ = some (.slice D23 m23 d23) ∧ w'.cell? ⟨(w23.heap.size + 1 + 1), 0, none⟩ = some (.bool bz23) ∧ w'.cell? ⟨(w23.heap.size + 1 + 1), 1, none⟩ = some (.slice E23 l23 f23) ∧ w'.cell? ⟨g28, 0, none⟩ = some (.bool s28) ∧ w'.cell? ⟨g28, 1, none⟩ = some (.slice A28 n28 c28)) (go_keep) (first
      | (go_at_call 25; (with_reducible refine (zgcd_v (hx.below (below_drew _)) (hy.below (below_drew _)) (by omega) (by omega) HGG.out).mono ?_); rintro e w29 ⟨s29, A29, n29, c29, rfl, p29, k29, B29⟩; have Q29 := zup (below_drew _) B29; obtain ⟨ax29, ay29, af29, ag29, az29⟩ := H_a.out.below Q29; obtain ⟨bx29, by29, bf29, bg29, bz29⟩ := H_b.out.below Q29; obtain ⟨gx29, gy29, gf29, gg29, gz29⟩ := H_g.out.below Q29; obtain ⟨xx29, xy29, xf29, xg29, xz29⟩ := H_x.out.below Q29; obtain ⟨yx29, yy29, yf29, yg29, yz29⟩ := H_y.out.below Q29; obtain ⟨sumx29, sumy29, sumf29, sumg29, sumz29⟩ := H_sum.out.below Q29)
      | (go_at_call 24; (with_reducible refine (zsame_yes (pg.below Q29).zv p29.zv (by omega) (by omega) rfl).mono ?_); rintro e w30 ⟨rfl, B30⟩; have Q30 := zup Q29 B30; obtain ⟨ax30, ay30, af30, ag30, az30⟩ := H_a.out.below Q30; obtain ⟨bx30, by30, bf30, bg30, bz30⟩ := H_b.out.below Q30; obtain ⟨gx30, gy30, gf30, gg30, gz30⟩ := H_g.out.below Q30; obtain ⟨xx30, xy30, xf30, xg30, xz30⟩ := H_x.out.below Q30; obtain ⟨yx30, yy30, yf30, yg30, yz30⟩ := H_y.out.below Q30; obtain ⟨sumx30, sumy30, sumf30, sumg30, sumz30⟩ := H_sum.out.below Q30)
      | (go_at_call 24; (with_reducible refine (zsame_yes (ps.below Q30).zv (pg.below Q30).zv (by omega) (by omega) HE.out).mono ?_); rintro e w31 ⟨rfl, B31⟩; have Q31 := zup Q30 B31; obtain ⟨ax31, ay31, af31, ag31, az31⟩ := H_a.out.below Q31; obtain ⟨bx31, by31, bf31, bg31, bz31⟩ := H_b.out.below Q31; obtain ⟨gx31, gy31, gf31, gg31, gz31⟩ := H_g.out.below Q31; obtain ⟨xx31, xy31, xf31, xg31, xz31⟩ := H_x.out.below Q31; obtain ⟨yx31, yy31, yf31, yg31, yz31⟩ := H_y.out.below Q31; obtain ⟨sumx31, sumy31, sumf31, sumg31, sumz31⟩ := H_sum.out.below Q31)
      | (go_at_call 26; (with_reducible refine (zsign_v (pg.below Q31).zv (by omega) HSA.out).mono ?_); rintro e w32 ⟨rfl, B32⟩; have Q32 := zup Q31 B32; obtain ⟨ax32, ay32, af32, ag32, az32⟩ := H_a.out.below Q32; obtain ⟨bx32, by32, bf32, bg32, bz32⟩ := H_b.out.below Q32; obtain ⟨gx32, gy32, gf32, gg32, gz32⟩ := H_g.out.below Q32; obtain ⟨xx32, xy32, xf32, xg32, xz32⟩ := H_x.out.below Q32; obtain ⟨yx32, yy32, yf32, yg32, yz32⟩ := H_y.out.below Q32; obtain ⟨sumx32, sumy32, sumf32, sumg32, sumz32⟩ := H_sum.out.below Q32)
      | fail)
    clear a1 a2 a3 a4 a5 b1 b2 b3 b4 b5 g1 g2 g3 g4 g5 x1 x2 x3 x4 x5 y1 y2 y3 y4 y5 sum1 sum2 sum3 sum4 sum5 ax29 ay29 af29 ag29 az29 bx29 by29 bf29 bg29 bz29 gx29 gy29 gf29 gg29 gz29 xx29 xy29 xf29 xg29 xz29 yx29 yy29 yf29 yg29 yz29 sumx29 sumy29 sumf29 sumg29 sumz29 ax30 ay30 af30 ag30 az30 bx30 by30 bf30 bg30 bz30 gx30 gy30 gf30 gg30 gz30 xx30 xy30 xf30 xg30 xz30 yx30 yy30 yf30 yg30 yz30 sumx30 sumy30 sumf30 sumg30 sumz30 ax31 ay31 af31 ag31 az31 bx31 by31 bf31 bg31 bz31 gx31 gy31 gf31 gg31 gz31 xx31 xy31 xf31 xg31 xz31 yx31 yy31 yf31 yg31 yz31 sumx31 sumy31 sumf31 sumg31 sumz31 ax32 ay32 af32 ag32 az32 bx32 by32 bf32 bg32 bz32 gx32 gy32 gf32 gg32 gz32 xx32 xy32 xf32 xg32 xz32 yx32 yy32 yf32 yg32 yz32 sumx32 sumy32 sumf32 sumg32 sumz32
    replace H_a := Lib.hid (H_a.out.below Q32)
    replace H_b := Lib.hid (H_b.out.below Q32)
    replace H_g := Lib.hid (H_g.out.below Q32)
    replace H_x := Lib.hid (H_x.out.below Q32)
    replace H_y := Lib.hid (H_y.out.below Q32)
    replace H_sum := Lib.hid (H_sum.out.below Q32)
    replace hx := hx.below Q32
    replace hy := hy.below Q32
    replace pg := pg.below Q32
    replace px := px.below Q32
    replace py := py.below Q32
    replace ps := ps.below Q32
    replace hW := hW.trans (Q32.mono hW.size)
    clear B29 Q29 B30 Q30 B31 Q31 B32 Q32 p29
    obtain ⟨a1, a2, a3, a4, a5⟩ := H_a.out
    obtain ⟨b1, b2, b3, b4, b5⟩ := H_b.out
    obtain ⟨g1, g2, g3, g4, g5⟩ := H_g.out
    obtain ⟨x1, x2, x3, x4, x5⟩ := H_x.out
    obtain ⟨y1, y2, y3, y4, y5⟩ := H_y.out
    obtain ⟨sum1, sum2, sum3, sum4, sum5⟩ := H_sum.out
    go_wp2_with fail
    clear a1 a2 a3 a4 a5 b1 b2 b3 b4 b5 g1 g2 g3 g4 g5 x1 x2 x3 x4 x5 y1 y2 y3 y4 y5 sum1 sum2 sum3 sum4 sum5
    refine (zsign_v hy (by omega) (show (0 : Int).sign = 0 from rfl)).mono ?_
    rintro e w33 ⟨rfl, B33⟩
    replace H_a := Lib.hid (H_a.out.below B33)
    replace H_b := Lib.hid (H_b.out.below B33)
    replace H_g := Lib.hid (H_g.out.below B33)
    replace H_x := Lib.hid (H_x.out.below B33)
    replace H_y := Lib.hid (H_y.out.below B33)
    replace H_sum := Lib.hid (H_sum.out.below B33)
    replace hx := hx.below B33
    replace hy := hy.below B33
    replace pg := pg.below B33
    replace px := px.below B33
    replace py := py.below B33
    replace ps := ps.below B33
    replace hW := hW.trans (B33.mono hW.size)
    clear B33
    obtain ⟨a1, a2, a3, a4, a5⟩ := H_a.out
    obtain ⟨b1, b2, b3, b4, b5⟩ := H_b.out
    obtain ⟨g1, g2, g3, g4, g5⟩ := H_g.out
    obtain ⟨x1, x2, x3, x4, x5⟩ := H_x.out
    obtain ⟨y1, y2, y3, y4, y5⟩ := H_y.out
    obtain ⟨sum1, sum2, sum3, sum4, sum5⟩ := H_sum.out
    go_wp2_with fail
    clear a1 a2 a3 a4 a5 b1 b2 b3 b4 b5 g1 g2 g3 g4 g5 x1 x2 x3 x4 x5 y1 y2 y3 y4 y5 sum1 sum2 sum3 sum4 sum5
    obtain ⟨a1, a2, a3, a4, a5⟩ := H_a.out
    obtain ⟨b1, b2, b3, b4, b5⟩ := H_b.out
    obtain ⟨g1, g2, g3, g4, g5⟩ := H_g.out
    obtain ⟨x1, x2, x3, x4, x5⟩ := H_x.out
    obtain ⟨y1, y2, y3, y4, y5⟩ := H_y.out
    obtain ⟨sum1, sum2, sum3, sum4, sum5⟩ := H_sum.out
    go_region_held3 (fun w' => w'.cell? ⟨w.heap.size, 0, none⟩ = some (.bool s) ∧ w'.cell? ⟨w.heap.size, 1, none⟩ = some (.slice A n c) ∧ w'.cell? ⟨(w.heap.size + 1), 0, none⟩ = some (.bool t) ∧ w'.cell? ⟨(w.heap.size + 1), 1, none⟩ = some (.slice B m d) ∧ w'.cell? ⟨w23.heap.size, 0, none⟩ = some (.bool s23) ∧ w'.cell? ⟨w23.heap.size, 1, none⟩ = some (.slice A23 n23 c23) ∧ w'.cell? ⟨(w23.heap.size + 1), 0, none⟩ = some (.bool t23) ∧ w'.cell? ⟨(w23.heap.size + 1), 1, none⟩ = some (.slice D23 m23 d23) ∧ w'.cell? ⟨(w23.heap.size + 1 + 1), 0, none⟩ = some (.bool bz23) ∧ w'.cell? ⟨(w23.heap.size + 1 + 1), 1, none⟩ = some (.slice E23 l23 f23) ∧ w'.cell? ⟨g28, 0, none⟩ = some (.bool s28) ∧ w'.cell? ⟨g28, 1, none⟩ = some (.slice A28 n28 c28)) (go_keep) (first
      | (go_at_call 26; (with_reducible refine (zsign_v (py.below (below_drew _)).zv (by omega) (show (0 : Int).sign = 0 from rfl)).mono ?_); rintro e w34 ⟨rfl, B34⟩; have Q34 := zup (below_drew _) B34; obtain ⟨ax34, ay34, af34, ag34, az34⟩ := H_a.out.below Q34; obtain ⟨bx34, by34, bf34, bg34, bz34⟩ := H_b.out.below Q34; obtain ⟨gx34, gy34, gf34, gg34, gz34⟩ := H_g.out.below Q34; obtain ⟨xx34, xy34, xf34, xg34, xz34⟩ := H_x.out.below Q34; obtain ⟨yx34, yy34, yf34, yg34, yz34⟩ := H_y.out.below Q34; obtain ⟨sumx34, sumy34, sumf34, sumg34, sumz34⟩ := H_sum.out.below Q34)
      | (go_at_call 26; (with_reducible refine (zsign_v (hx.below Q34) (by omega) HR.out).mono ?_); rintro e w35 ⟨rfl, B35⟩; have Q35 := zup Q34 B35; obtain ⟨ax35, ay35, af35, ag35, az35⟩ := H_a.out.below Q35; obtain ⟨bx35, by35, bf35, bg35, bz35⟩ := H_b.out.below Q35; obtain ⟨gx35, gy35, gf35, gg35, gz35⟩ := H_g.out.below Q35; obtain ⟨xx35, xy35, xf35, xg35, xz35⟩ := H_x.out.below Q35; obtain ⟨yx35, yy35, yf35, yg35, yz35⟩ := H_y.out.below Q35; obtain ⟨sumx35, sumy35, sumf35, sumg35, sumz35⟩ := H_sum.out.below Q35)
      | (go_at_call 27; (with_reducible refine (zof_v r (by omega) (by omega) _).mono ?_); rintro e w36 ⟨s36, A36, n36, c36, rfl, p36, k36, B36⟩; have Q36 := zup Q35 B36; obtain ⟨ax36, ay36, af36, ag36, az36⟩ := H_a.out.below Q36; obtain ⟨bx36, by36, bf36, bg36, bz36⟩ := H_b.out.below Q36; obtain ⟨gx36, gy36, gf36, gg36, gz36⟩ := H_g.out.below Q36; obtain ⟨xx36, xy36, xf36, xg36, xz36⟩ := H_x.out.below Q36; obtain ⟨yx36, yy36, yf36, yg36, yz36⟩ := H_y.out.below Q36; obtain ⟨sumx36, sumy36, sumf36, sumg36, sumz36⟩ := H_sum.out.below Q36)
      | (go_at_call 24; (with_reducible refine (zsame_yes (px.below Q36).zv p36.zv (by omega) (by omega) rfl).mono ?_); rintro e w37 ⟨rfl, B37⟩; have Q37 := zup Q36 B37; obtain ⟨ax37, ay37, af37, ag37, az37⟩ := H_a.out.below Q37; obtain ⟨bx37, by37, bf37, bg37, bz37⟩ := H_b.out.below Q37; obtain ⟨gx37, gy37, gf37, gg37, gz37⟩ := H_g.out.below Q37; obtain ⟨xx37, xy37, xf37, xg37, xz37⟩ := H_x.out.below Q37; obtain ⟨yx37, yy37, yf37, yg37, yz37⟩ := H_y.out.below Q37; obtain ⟨sumx37, sumy37, sumf37, sumg37, sumz37⟩ := H_sum.out.below Q37)
      | fail)
    clear a1 a2 a3 a4 a5 b1 b2 b3 b4 b5 g1 g2 g3 g4 g5 x1 x2 x3 x4 x5 y1 y2 y3 y4 y5 sum1 sum2 sum3 sum4 sum5 ax34 ay34 af34 ag34 az34 bx34 by34 bf34 bg34 bz34 gx34 gy34 gf34 gg34 gz34 xx34 xy34 xf34 xg34 xz34 yx34 yy34 yf34 yg34 yz34 sumx34 sumy34 sumf34 sumg34 sumz34 ax35 ay35 af35 ag35 az35 bx35 by35 bf35 bg35 bz35 gx35 gy35 gf35 gg35 gz35 xx35 xy35 xf35 xg35 xz35 yx35 yy35 yf35 yg35 yz35 sumx35 sumy35 sumf35 sumg35 sumz35 ax36 ay36 af36 ag36 az36 bx36 by36 bf36 bg36 bz36 gx36 gy36 gf36 gg36 gz36 xx36 xy36 xf36 xg36 xz36 yx36 yy36 yf36 yg36 yz36 sumx36 sumy36 sumf36 sumg36 sumz36 ax37 ay37 af37 ag37 az37 bx37 by37 bf37 bg37 bz37 gx37 gy37 gf37 gg37 gz37 xx37 xy37 xf37 xg37 xz37 yx37 yy37 yf37 yg37 yz37 sumx37 sumy37 sumf37 sumg37 sumz37
    replace H_a := Lib.hid (H_a.out.below Q37)
    replace H_b := Lib.hid (H_b.out.below Q37)
    replace H_g := Lib.hid (H_g.out.below Q37)
    replace H_x := Lib.hid (H_x.out.below Q37)
    replace H_y := Lib.hid (H_y.out.below Q37)
    replace H_sum := Lib.hid (H_sum.out.below Q37)
    replace hx := hx.below Q37
    replace hy := hy.below Q37
    replace pg := pg.below Q37
    replace px := px.below Q37
    replace py := py.below Q37
    replace ps := ps.below Q37
    replace hW := hW.trans (Q37.mono hW.size)
    clear B34 Q34 B35 Q35 B36 Q36 B37 Q37 p36
    go_wp2_with fail
    go_ret
    exact ⟨rfl, hW⟩
set_option maxRecDepth 100000 in
set_option maxHeartbeats 8000000 in
theorem ixgcd_yes {A B : Option Addr} {n m c d : Nat} {s t : Bool} {x y : Int} {w : World} (hx : Zv w s A n c x) (hy : Zv w t B m d y) (h1 : n ≤ 6) (h2 : m ≤ 6) (h0 : y ≠ 0) :
    Calls Try.prog 6 #[.agg #[.bool s, .slice A n c], .agg #[.bool t, .slice B m d]] w (TruePost w) := by
  obtain ⟨w3, hw3, IA, IB, z0⟩ := open2 w s t A B n c m d
  have HW := Lib.hid hw3.symm
  replace hx := hx.below z0
  replace hy := hy.below z0
  have hW := z0
  have H_a := Lib.hid IA
  have H_b := Lib.hid IB
  clear hw3 IA IB z0
  obtain ⟨sr, hr⟩ : ∃ r, y.sign = r := ⟨_, rfl⟩
  have hsy : (sr == 0) = false := by rw [beq_eq_false_iff_ne, ← hr]; intro h; exact h0 (Int.sign_eq_zero_iff_zero.1 h)
  have HSY := Lib.hid hr
  have HSB := Lib.hid hsy
  have hg0 : 0 < Nat.gcd x.natAbs y.natAbs := Nat.gcd_pos_of_pos_right _ (by omega)
  clear hr hsy
  go_enter Try.func6, Try.ntmps6
  obtain ⟨a1, a2, a3, a4, a5⟩ := H_a.out
  obtain ⟨b1, b2, b3, b4, b5⟩ := H_b.out
  go_wp2_with fail
  rw [HW.out]
  clear a1 a2 a3 a4 a5 b1 b2 b3 b4 b5
  refine (zawake_calls _).mono ?_
  rintro e w21 ⟨rfl, B21⟩
  replace H_a := Lib.hid (H_a.out.below B21)
  replace H_b := Lib.hid (H_b.out.below B21)
  replace hx := hx.below B21
  replace hy := hy.below B21
  replace hW := hW.trans (B21.mono hW.size)
  clear B21
  obtain ⟨a1, a2, a3, a4, a5⟩ := H_a.out
  obtain ⟨b1, b2, b3, b4, b5⟩ := H_b.out
  go_wp2_with fail
  clear a1 a2 a3 a4 a5 b1 b2 b3 b4 b5
  refine (zfew_v (k := 6) (b := true) (by omega) (by omega) (by omega) (by omega) (by rw [decide_eq_true_iff]; omega)).mono ?_
  rintro e w22 ⟨rfl, B22⟩
  replace H_a := Lib.hid (H_a.out.below B22)
  replace H_b := Lib.hid (H_b.out.below B22)
  replace hx := hx.below B22
  replace hy := hy.below B22
  replace hW := hW.trans (B22.mono hW.size)
  clear B22
  obtain ⟨a1, a2, a3, a4, a5⟩ := H_a.out
  obtain ⟨b1, b2, b3, b4, b5⟩ := H_b.out
  go_wp2_with fail
  clear a1 a2 a3 a4 a5 b1 b2 b3 b4 b5
  refine (zxgcd_yes hx hy (by omega) (by omega) h0).mono ?_
  rintro e w23 ⟨G, X, Y, ⟨s23, A23, n23, c23, t23, D23, m23, d23, bz23, E23, l23, f23, rfl, pg, px, py, kg, kx, ky, B23⟩, hG, hXY, hz⟩
  replace H_a := Lib.hid (H_a.out.below B23)
  replace H_b := Lib.hid (H_b.out.below B23)
  replace hx := hx.below B23
  replace hy := hy.below B23
  replace hW := hW.trans (B23.mono hW.size)
  clear B23
  obtain ⟨z, hzg, hX0, hXz⟩ := hz.out
  have HGG : Hid (((Nat.gcd x.natAbs y.natAbs : Nat) : Int) = G) := Lib.hid hG.out.symm
  have hGp : G ≠ 0 := by have := hG.out; omega
  have hG0 : 0 ≤ G := by have := hG.out; omega
  have HST : Hid ((z : Int) * G = (y.natAbs : Int)) := Lib.hid (by rw [hG.out, ← Int.natCast_mul, hzg])
  obtain ⟨sa, hsa⟩ : ∃ r, G.sign = r := ⟨_, rfl⟩
  have hs0 : ¬ sa < 0 := by have := sign_pos hG0; omega
  have HSA := Lib.hid hsa
  obtain ⟨sx, hsx⟩ : ∃ r, X.sign = r := ⟨_, rfl⟩
  have hs1 : 0 ≤ sx := by have := sign_pos hX0; omega
  have HSX := Lib.hid hsx
  have HCM : Hid ((X - (z : Int)).sign = -1) := Lib.hid (Int.sign_eq_neg_one_of_neg (by omega))
  clear hsa hsx hzg hz
  obtain ⟨w24, hw24, I24, J24, K24, z24⟩ := opentri w23 s23 t23 bz23 A23 D23 E23 n23 c23 m23 d23 l23 f23
  have HW24 := Lib.hid hw24.symm
  have O_a := H_a
  have O_b := H_b
  replace H_a := Lib.hid (H_a.out.below z24)
  replace H_b := Lib.hid (H_b.out.below z24)
  replace hx := hx.below z24
  replace hy := hy.below z24
  replace pg := pg.below z24
  replace px := px.below z24
  replace py := py.below z24
  replace hW := hW.trans (z24.mono hW.size)
  have H_g := Lib.hid I24
  have H_x := Lib.hid J24
  have H_y := Lib.hid K24
  clear z24 hw24 I24 J24 K24
  obtain ⟨a1, a2, a3, a4, a5⟩ := O_a.out
  obtain ⟨b1, b2, b3, b4, b5⟩ := O_b.out
  go_wp2_with fail
  rw [HW24.out]
  clear a1 a2 a3 a4 a5 b1 b2 b3 b4 b5 O_a O_b
  go_upto_region 4 with fail
  go_cut [8] (VarCut w24 (X * x + Y * y) 60)
  case first =>
    obtain ⟨a1, a2, a3, a4, a5⟩ := H_a.out
    obtain ⟨b1, b2, b3, b4, b5⟩ := H_b.out
    obtain ⟨g1, g2, g3, g4, g5⟩ := H_g.out
    obtain ⟨x1, x2, x3, x4, x5⟩ := H_x.out
    obtain ⟨y1, y2, y3, y4, y5⟩ := H_y.out
    have an : ¬ (w24.heap.size = w.heap.size) := by omega
    have am : ¬ (w.heap.size = w24.heap.size) := by omega
    have bn : ¬ (w24.heap.size = (w.heap.size + 1)) := by omega
    have bm : ¬ ((w.heap.size + 1) = w24.heap.size) := by omega
    have gn : ¬ (w24.heap.size = w23.heap.size) := by omega
    have gm : ¬ (w23.heap.size = w24.heap.size) := by omega
    have xn : ¬ (w24.heap.size = (w23.heap.size + 1)) := by omega
    have xm : ¬ ((w23.heap.size + 1) = w24.heap.size) := by omega
    have yn : ¬ (w24.heap.size = (w23.heap.size + 1 + 1)) := by omega
    have ym : ¬ ((w23.heap.size + 1 + 1) = w24.heap.size) := by omega
    go_region_held3 (fun w' => w'.cell? ⟨w.heap.size, 0, none⟩ = some (.bool s) ∧ w'.cell? ⟨w.heap.size, 1, none⟩ = some (.slice A n c) ∧ w'.cell? ⟨(w.heap.size + 1), 0, none⟩ = some (.bool t) ∧ w'.cell? ⟨(w.heap.size + 1), 1, none⟩ = some (.slice B m d) ∧ w'.cell? ⟨w23.heap.size, 0, none⟩ = some (.bool s23) ∧ w'.cell? ⟨w23.heap.size, 1, none⟩ = some (.slice A23 n23 c23) ∧ w'.cell? ⟨(w23.heap.size + 1), 0, none⟩ = some (.bool t23) ∧ w'.cell? ⟨(w23.heap.size + 1), 1, none⟩ = some (.slice D23 m23 d23) ∧ w'.cell? ⟨(w23.heap.size + 1 + 1), 0, none⟩ = some (.bool bz23) ∧ w'.cell? ⟨(w23.heap.size + 1 + 1), 1, none⟩ = some (.slice E23 l23 f23)) (go_keep) (first
      | (go_at_call 23; (with_reducible refine (zmul_v (px.below (below_drew _)).zv (hx.below (below_drew _)) (by omega) (by omega)).mono ?_); rintro e w25 ⟨s25, A25, n25, c25, rfl, p25, k25, B25⟩; have Q25 := zup (below_drew _) B25; obtain ⟨ax25, ay25, af25, ag25, az25⟩ := H_a.out.below Q25; have an25 : ¬ (w25.heap.size = w.heap.size) := (by omega); have am25 : ¬ (w.heap.size = w25.heap.size) := (by omega); obtain ⟨bx25, by25, bf25, bg25, bz25⟩ := H_b.out.below Q25; have bn25 : ¬ (w25.heap.size = (w.heap.size + 1)) := (by omega); have bm25 : ¬ ((w.heap.size + 1) = w25.heap.size) := (by omega); obtain ⟨gx25, gy25, gf25, gg25, gz25⟩ := H_g.out.below Q25; have gn25 : ¬ (w25.heap.size = w23.heap.size) := (by omega); have gm25 : ¬ (w23.heap.size = w25.heap.size) := (by omega); obtain ⟨xx25, xy25, xf25, xg25, xz25⟩ := H_x.out.below Q25; have xn25 : ¬ (w25.heap.size = (w23.heap.size + 1)) := (by omega); have xm25 : ¬ ((w23.heap.size + 1) = w25.heap.size) := (by omega); obtain ⟨yx25, yy25, yf25, yg25, yz25⟩ := H_y.out.below Q25; have yn25 : ¬ (w25.heap.size = (w23.heap.size + 1 + 1)) := (by omega); have ym25 : ¬ ((w23.heap.size + 1 + 1) = w25.heap.size) := (by omega))
      | (go_at_call 23; (with_reducible refine (zmul_v (px.below (zbd _ _)).zv (hx.below (zbd _ _)) (by omega) (by omega)).mono ?_); rintro e w25 ⟨s25, A25, n25, c25, rfl, p25, k25, B25⟩; have Q25 := zup (zbd _ _) B25; have J25 := (Ib.newd w24 false none 0 0 40).below B25; have g25 := Nat.le_refl w24.heap.size; obtain ⟨ax25, ay25, af25, ag25, az25⟩ := H_a.out.below Q25; have an25 : ¬ (w25.heap.size = w.heap.size) := (by omega); have am25 : ¬ (w.heap.size = w25.heap.size) := (by omega); obtain ⟨bx25, by25, bf25, bg25, bz25⟩ := H_b.out.below Q25; have bn25 : ¬ (w25.heap.size = (w.heap.size + 1)) := (by omega); have bm25 : ¬ ((w.heap.size + 1) = w25.heap.size) := (by omega); obtain ⟨gx25, gy25, gf25, gg25, gz25⟩ := H_g.out.below Q25; have gn25 : ¬ (w25.heap.size = w23.heap.size) := (by omega); have gm25 : ¬ (w23.heap.size = w25.heap.size) := (by omega); obtain ⟨xx25, xy25, xf25, xg25, xz25⟩ := H_x.out.below Q25; have xn25 : ¬ (w25.heap.size = (w23.heap.size + 1)) := (by omega); have xm25 : ¬ ((w23.heap.size + 1) = w25.heap.size) := (by omega); obtain ⟨yx25, yy25, yf25, yg25, yz25⟩ := H_y.out.below Q25; have yn25 : ¬ (w25.heap.size = (w23.heap.size + 1 + 1)) := (by omega); have ym25 : ¬ ((w23.heap.size + 1 + 1) = w25.heap.size) := (by omega); have Jc25 := J25; obtain ⟨jx25, jy25, jf25, jg25, jz25⟩ := Jc25)
      | (go_at_call 23; (with_reducible refine (zmul_v (py.below Q25).zv (hy.below Q25) (by omega) (by omega)).mono ?_); rintro e w26 ⟨s26, A26, n26, c26, rfl, p26, k26, B26⟩; have Q26 := zup Q25 B26; have R26 := B26; have J26 := J25.below B26; have g26 := g25; obtain ⟨ax26, ay26, af26, ag26, az26⟩ := H_a.out.below Q26; have an26 : ¬ (w26.heap.size = w.heap.size) := (by omega); have am26 : ¬ (w.heap.size = w26.heap.size) := (by omega); obtain ⟨bx26, by26, bf26, bg26, bz26⟩ := H_b.out.below Q26; have bn26 : ¬ (w26.heap.size = (w.heap.size + 1)) := (by omega); have bm26 : ¬ ((w.heap.size + 1) = w26.heap.size) := (by omega); obtain ⟨gx26, gy26, gf26, gg26, gz26⟩ := H_g.out.below Q26; have gn26 : ¬ (w26.heap.size = w23.heap.size) := (by omega); have gm26 : ¬ (w23.heap.size = w26.heap.size) := (by omega); obtain ⟨xx26, xy26, xf26, xg26, xz26⟩ := H_x.out.below Q26; have xn26 : ¬ (w26.heap.size = (w23.heap.size + 1)) := (by omega); have xm26 : ¬ ((w23.heap.size + 1) = w26.heap.size) := (by omega); obtain ⟨yx26, yy26, yf26, yg26, yz26⟩ := H_y.out.below Q26; have yn26 : ¬ (w26.heap.size = (w23.heap.size + 1 + 1)) := (by omega); have ym26 : ¬ ((w23.heap.size + 1 + 1) = w26.heap.size) := (by omega); have Jc26 := J26; obtain ⟨jx26, jy26, jf26, jg26, jz26⟩ := Jc26)
      | (go_at_call 23; (with_reducible refine (zmul_v (py.below Q25).zv (hy.below Q25) (by omega) (by omega)).mono ?_); rintro e w26 ⟨s26, A26, n26, c26, rfl, p26, k26, B26⟩; have Q26 := zup Q25 B26; have R26 := B26; obtain ⟨ax26, ay26, af26, ag26, az26⟩ := H_a.out.below Q26; have an26 : ¬ (w26.heap.size = w.heap.size) := (by omega); have am26 : ¬ (w.heap.size = w26.heap.size) := (by omega); obtain ⟨bx26, by26, bf26, bg26, bz26⟩ := H_b.out.below Q26; have bn26 : ¬ (w26.heap.size = (w.heap.size + 1)) := (by omega); have bm26 : ¬ ((w.heap.size + 1) = w26.heap.size) := (by omega); obtain ⟨gx26, gy26, gf26, gg26, gz26⟩ := H_g.out.below Q26; have gn26 : ¬ (w26.heap.size = w23.heap.size) := (by omega); have gm26 : ¬ (w23.heap.size = w26.heap.size) := (by omega); obtain ⟨xx26, xy26, xf26, xg26, xz26⟩ := H_x.out.below Q26; have xn26 : ¬ (w26.heap.size = (w23.heap.size + 1)) := (by omega); have xm26 : ¬ ((w23.heap.size + 1) = w26.heap.size) := (by omega); obtain ⟨yx26, yy26, yf26, yg26, yz26⟩ := H_y.out.below Q26; have yn26 : ¬ (w26.heap.size = (w23.heap.size + 1 + 1)) := (by omega); have ym26 : ¬ ((w23.heap.size + 1 + 1) = w26.heap.size) := (by omega))
      | (go_at_call 23; (with_reducible refine (zmul_v (py.below (zup Q25 (zba _ _))).zv (hy.below (zup Q25 (zba _ _))) (by omega) (by omega)).mono ?_); rintro e w26 ⟨s26, A26, n26, c26, rfl, p26, k26, B26⟩; have Q26 := zup (zup Q25 (zba _ _)) B26; have R26 := zup (zba w25 _) B26; have J26 := (Ib.new w25 false none 0 0 40).below B26; have g26 := Q25.size; obtain ⟨ax26, ay26, af26, ag26, az26⟩ := H_a.out.below Q26; have an26 : ¬ (w26.heap.size = w.heap.size) := (by omega); have am26 : ¬ (w.heap.size = w26.heap.size) := (by omega); obtain ⟨bx26, by26, bf26, bg26, bz26⟩ := H_b.out.below Q26; have bn26 : ¬ (w26.heap.size = (w.heap.size + 1)) := (by omega); have bm26 : ¬ ((w.heap.size + 1) = w26.heap.size) := (by omega); obtain ⟨gx26, gy26, gf26, gg26, gz26⟩ := H_g.out.below Q26; have gn26 : ¬ (w26.heap.size = w23.heap.size) := (by omega); have gm26 : ¬ (w23.heap.size = w26.heap.size) := (by omega); obtain ⟨xx26, xy26, xf26, xg26, xz26⟩ := H_x.out.below Q26; have xn26 : ¬ (w26.heap.size = (w23.heap.size + 1)) := (by omega); have xm26 : ¬ ((w23.heap.size + 1) = w26.heap.size) := (by omega); obtain ⟨yx26, yy26, yf26, yg26, yz26⟩ := H_y.out.below Q26; have yn26 : ¬ (w26.heap.size = (w23.heap.size + 1 + 1)) := (by omega); have ym26 : ¬ ((w23.heap.size + 1 + 1) = w26.heap.size) := (by omega); have Jc26 := J26; obtain ⟨jx26, jy26, jf26, jg26, jz26⟩ := Jc26)
      | (go_at_call 22; (with_reducible refine (zadd_v (p25.below R26).zv p26.zv (by omega) (by omega)).mono ?_); rintro e w27 ⟨s27, A27, n27, c27, rfl, p27, k27, B27⟩; have Q27 := zup Q26 B27; have R27 := B27; have J27 := J26.below B27; have g27 := g26; obtain ⟨ax27, ay27, af27, ag27, az27⟩ := H_a.out.below Q27; have an27 : ¬ (w27.heap.size = w.heap.size) := (by omega); have am27 : ¬ (w.heap.size = w27.heap.size) := (by omega); obtain ⟨bx27, by27, bf27, bg27, bz27⟩ := H_b.out.below Q27; have bn27 : ¬ (w27.heap.size = (w.heap.size + 1)) := (by omega); have bm27 : ¬ ((w.heap.size + 1) = w27.heap.size) := (by omega); obtain ⟨gx27, gy27, gf27, gg27, gz27⟩ := H_g.out.below Q27; have gn27 : ¬ (w27.heap.size = w23.heap.size) := (by omega); have gm27 : ¬ (w23.heap.size = w27.heap.size) := (by omega); obtain ⟨xx27, xy27, xf27, xg27, xz27⟩ := H_x.out.below Q27; have xn27 : ¬ (w27.heap.size = (w23.heap.size + 1)) := (by omega); have xm27 : ¬ ((w23.heap.size + 1) = w27.heap.size) := (by omega); obtain ⟨yx27, yy27, yf27, yg27, yz27⟩ := H_y.out.below Q27; have yn27 : ¬ (w27.heap.size = (w23.heap.size + 1 + 1)) := (by omega); have ym27 : ¬ ((w23.heap.size + 1 + 1) = w27.heap.size) := (by omega); have Jc27 := J27; obtain ⟨jx27, jy27, jf27, jg27, jz27⟩ := Jc27)
      | (go_at_call 22; (with_reducible refine (zadd_v (p25.below R26).zv p26.zv (by omega) (by omega)).mono ?_); rintro e w27 ⟨s27, A27, n27, c27, rfl, p27, k27, B27⟩; have Q27 := zup Q26 B27; have R27 := B27; obtain ⟨ax27, ay27, af27, ag27, az27⟩ := H_a.out.below Q27; have an27 : ¬ (w27.heap.size = w.heap.size) := (by omega); have am27 : ¬ (w.heap.size = w27.heap.size) := (by omega); obtain ⟨bx27, by27, bf27, bg27, bz27⟩ := H_b.out.below Q27; have bn27 : ¬ (w27.heap.size = (w.heap.size + 1)) := (by omega); have bm27 : ¬ ((w.heap.size + 1) = w27.heap.size) := (by omega); obtain ⟨gx27, gy27, gf27, gg27, gz27⟩ := H_g.out.below Q27; have gn27 : ¬ (w27.heap.size = w23.heap.size) := (by omega); have gm27 : ¬ (w23.heap.size = w27.heap.size) := (by omega); obtain ⟨xx27, xy27, xf27, xg27, xz27⟩ := H_x.out.below Q27; have xn27 : ¬ (w27.heap.size = (w23.heap.size + 1)) := (by omega); have xm27 : ¬ ((w23.heap.size + 1) = w27.heap.size) := (by omega); obtain ⟨yx27, yy27, yf27, yg27, yz27⟩ := H_y.out.below Q27; have yn27 : ¬ (w27.heap.size = (w23.heap.size + 1 + 1)) := (by omega); have ym27 : ¬ ((w23.heap.size + 1 + 1) = w27.heap.size) := (by omega))
      | (go_at_call 22; (with_reducible refine (zadd_v ((p25.below R26).below (zba _ _)).zv (p26.below (zba _ _)).zv (by omega) (by omega)).mono ?_); rintro e w27 ⟨s27, A27, n27, c27, rfl, p27, k27, B27⟩; have Q27 := zup (zup Q26 (zba _ _)) B27; have R27 := zup (zba w26 _) B27; have J27 := (Ib.new w26 false none 0 0 40).below B27; have g27 := Q26.size; obtain ⟨ax27, ay27, af27, ag27, az27⟩ := H_a.out.below Q27; have an27 : ¬ (w27.heap.size = w.heap.size) := (by omega); have am27 : ¬ (w.heap.size = w27.heap.size) := (by omega); obtain ⟨bx27, by27, bf27, bg27, bz27⟩ := H_b.out.below Q27; have bn27 : ¬ (w27.heap.size = (w.heap.size + 1)) := (by omega); have bm27 : ¬ ((w.heap.size + 1) = w27.heap.size) := (by omega); obtain ⟨gx27, gy27, gf27, gg27, gz27⟩ := H_g.out.below Q27; have gn27 : ¬ (w27.heap.size = w23.heap.size) := (by omega); have gm27 : ¬ (w23.heap.size = w27.heap.size) := (by omega); obtain ⟨xx27, xy27, xf27, xg27, xz27⟩ := H_x.out.below Q27; have xn27 : ¬ (w27.heap.size = (w23.heap.size + 1)) := (by omega); have xm27 : ¬ ((w23.heap.size + 1) = w27.heap.size) := (by omega); obtain ⟨yx27, yy27, yf27, yg27, yz27⟩ := H_y.out.below Q27; have yn27 : ¬ (w27.heap.size = (w23.heap.size + 1 + 1)) := (by omega); have ym27 : ¬ ((w23.heap.size + 1 + 1) = w27.heap.size) := (by omega); have Jc27 := J27; obtain ⟨jx27, jy27, jf27, jg27, jz27⟩ := Jc27)
      | fail)
    all_goals
      first
      | have P := Lib.hid (VarCut.put (w0 := w24) (z := (X * x + Y * y)) (k := 60) J27 p27 Q27 g27 (by omega))
      | have P := Lib.hid (VarCut.new (w0 := w24) (z := (X * x + Y * y)) (k := 60) (t := 40) p27 Q27 (by omega))
      go_wp2_with fail
      go_meet
      exact P.out
  case rest =>
    obtain ⟨g28, s28, A28, n28, c28, rfl, hg28, I28, p28, k28, B28⟩ := hcut
    obtain ⟨w28, hw28⟩ : ∃ x, x = wc := ⟨_, rfl⟩
    subst hw28
    have lt_a_sum : w.heap.size < g28 := Nat.lt_of_lt_of_le H_a.out.2.2.2.2 hg28
    have lt_b_sum : (w.heap.size + 1) < g28 := Nat.lt_of_lt_of_le H_b.out.2.2.2.2 hg28
    have lt_g_sum : w23.heap.size < g28 := Nat.lt_of_lt_of_le H_g.out.2.2.2.2 hg28
    have lt_x_sum : (w23.heap.size + 1) < g28 := Nat.lt_of_lt_of_le H_x.out.2.2.2.2 hg28
    have lt_y_sum : (w23.heap.size + 1 + 1) < g28 := Nat.lt_of_lt_of_le H_y.out.2.2.2.2 hg28
    have lw_sum : w.heap.size ≤ g28 := Nat.le_trans hW.size hg28
    replace H_a := Lib.hid (H_a.out.below B28)
    replace H_b := Lib.hid (H_b.out.below B28)
    replace H_g := Lib.hid (H_g.out.below B28)
    replace H_x := Lib.hid (H_x.out.below B28)
    replace H_y := Lib.hid (H_y.out.below B28)
    replace hx := hx.below B28
    replace hy := hy.below B28
    replace pg := pg.below B28
    replace px := px.below B28
    replace py := py.below B28
    replace hW := hW.trans (B28.mono hW.size)
    have H_sum := Lib.hid I28
    clear B28 I28 hg28
    have ps := p28
    clear p28
    obtain ⟨a1, a2, a3, a4, a5⟩ := H_a.out
    obtain ⟨b1, b2, b3, b4, b5⟩ := H_b.out
    obtain ⟨g1, g2, g3, g4, g5⟩ := H_g.out
    obtain ⟨x1, x2, x3, x4, x5⟩ := H_x.out
    obtain ⟨y1, y2, y3, y4, y5⟩ := H_y.out
    obtain ⟨sum1, sum2, sum3, sum4, sum5⟩ := H_sum.out
    go_wp2_with fail
    clear a1 a2 a3 a4 a5 b1 b2 b3 b4 b5 g1 g2 g3 g4 g5 x1 x2 x3 x4 x5 y1 y2 y3 y4 y5 sum1 sum2 sum3 sum4 sum5
    obtain ⟨a1, a2, a3, a4, a5⟩ := H_a.out
    obtain ⟨b1, b2, b3, b4, b5⟩ := H_b.out
    obtain ⟨g1, g2, g3, g4, g5⟩ := H_g.out
    obtain ⟨x1, x2, x3, x4, x5⟩ := H_x.out
    obtain ⟨y1, y2, y3, y4, y5⟩ := H_y.out
    obtain ⟨sum1, sum2, sum3, sum4, sum5⟩ := H_sum.out
    go_region_held3 (fun w' => w'.cell? ⟨w.heap.size, 0, none⟩ = some (.bool s) ∧ w'.cell? ⟨w.heap.size, 1, none⟩ = some (.slice A n c) ∧ w'.cell? ⟨(w.heap.size + 1), 0, none⟩ = some (.bool t) ∧ w'.cell? ⟨(w.heap.size + 1), 1, none⟩ = some (.slice B m d) ∧ w'.cell? ⟨w23.heap.size, 0, none⟩ = some (.bool s23) ∧ w'.cell? ⟨w23.heap.size, 1, none⟩ = some (.slice A23 n23 c23) ∧ w'.cell? ⟨(w23.heap.size + 1), 0, none⟩ = some (.bool t23) ∧ w'.cell? ⟨(w23.heap.size + 1), 1, none⟩ = some (.slice D23 m23 d23) ∧ w'.cell? ⟨(w23.heap.size + 1 + 1), 0, none⟩ = some (.bool bz23) ∧ w'.cell? ⟨(w23.heap.size + 1 + 1), 1, none⟩ = some (.slice E23 l23 f23) ∧ w'.cell? ⟨g28, 0, none⟩ = some (.bool s28) ∧ w'.cell? ⟨g28, 1, none⟩ = some (.slice A28 n28 c28)) (go_keep) (first
      | (go_at_call 25; (with_reducible refine (zgcd_v (hx.below (below_drew _)) (hy.below (below_drew _)) (by omega) (by omega) HGG.out).mono ?_); rintro e w29 ⟨s29, A29, n29, c29, rfl, p29, k29, B29⟩; have Q29 := zup (below_drew _) B29; obtain ⟨ax29, ay29, af29, ag29, az29⟩ := H_a.out.below Q29; obtain ⟨bx29, by29, bf29, bg29, bz29⟩ := H_b.out.below Q29; obtain ⟨gx29, gy29, gf29, gg29, gz29⟩ := H_g.out.below Q29; obtain ⟨xx29, xy29, xf29, xg29, xz29⟩ := H_x.out.below Q29; obtain ⟨yx29, yy29, yf29, yg29, yz29⟩ := H_y.out.below Q29; obtain ⟨sumx29, sumy29, sumf29, sumg29, sumz29⟩ := H_sum.out.below Q29)
      | (go_at_call 24; (with_reducible refine (zsame_yes (pg.below Q29).zv p29.zv (by omega) (by omega) rfl).mono ?_); rintro e w30 ⟨rfl, B30⟩; have Q30 := zup Q29 B30; obtain ⟨ax30, ay30, af30, ag30, az30⟩ := H_a.out.below Q30; obtain ⟨bx30, by30, bf30, bg30, bz30⟩ := H_b.out.below Q30; obtain ⟨gx30, gy30, gf30, gg30, gz30⟩ := H_g.out.below Q30; obtain ⟨xx30, xy30, xf30, xg30, xz30⟩ := H_x.out.below Q30; obtain ⟨yx30, yy30, yf30, yg30, yz30⟩ := H_y.out.below Q30; obtain ⟨sumx30, sumy30, sumf30, sumg30, sumz30⟩ := H_sum.out.below Q30)
      | (go_at_call 24; (with_reducible refine (zsame_yes (ps.below Q30).zv (pg.below Q30).zv (by omega) (by omega) hXY.out).mono ?_); rintro e w31 ⟨rfl, B31⟩; have Q31 := zup Q30 B31; obtain ⟨ax31, ay31, af31, ag31, az31⟩ := H_a.out.below Q31; obtain ⟨bx31, by31, bf31, bg31, bz31⟩ := H_b.out.below Q31; obtain ⟨gx31, gy31, gf31, gg31, gz31⟩ := H_g.out.below Q31; obtain ⟨xx31, xy31, xf31, xg31, xz31⟩ := H_x.out.below Q31; obtain ⟨yx31, yy31, yf31, yg31, yz31⟩ := H_y.out.below Q31; obtain ⟨sumx31, sumy31, sumf31, sumg31, sumz31⟩ := H_sum.out.below Q31)
      | (go_at_call 26; (with_reducible refine (zsign_v (pg.below Q31).zv (by omega) HSA.out).mono ?_); rintro e w32 ⟨rfl, B32⟩; have Q32 := zup Q31 B32; obtain ⟨ax32, ay32, af32, ag32, az32⟩ := H_a.out.below Q32; obtain ⟨bx32, by32, bf32, bg32, bz32⟩ := H_b.out.below Q32; obtain ⟨gx32, gy32, gf32, gg32, gz32⟩ := H_g.out.below Q32; obtain ⟨xx32, xy32, xf32, xg32, xz32⟩ := H_x.out.below Q32; obtain ⟨yx32, yy32, yf32, yg32, yz32⟩ := H_y.out.below Q32; obtain ⟨sumx32, sumy32, sumf32, sumg32, sumz32⟩ := H_sum.out.below Q32)
      | fail)
    clear a1 a2 a3 a4 a5 b1 b2 b3 b4 b5 g1 g2 g3 g4 g5 x1 x2 x3 x4 x5 y1 y2 y3 y4 y5 sum1 sum2 sum3 sum4 sum5 ax29 ay29 af29 ag29 az29 bx29 by29 bf29 bg29 bz29 gx29 gy29 gf29 gg29 gz29 xx29 xy29 xf29 xg29 xz29 yx29 yy29 yf29 yg29 yz29 sumx29 sumy29 sumf29 sumg29 sumz29 ax30 ay30 af30 ag30 az30 bx30 by30 bf30 bg30 bz30 gx30 gy30 gf30 gg30 gz30 xx30 xy30 xf30 xg30 xz30 yx30 yy30 yf30 yg30 yz30 sumx30 sumy30 sumf30 sumg30 sumz30 ax31 ay31 af31 ag31 az31 bx31 by31 bf31 bg31 bz31 gx31 gy31 gf31 gg31 gz31 xx31 xy31 xf31 xg31 xz31 yx31 yy31 yf31 yg31 yz31 sumx31 sumy31 sumf31 sumg31 sumz31 ax32 ay32 af32 ag32 az32 bx32 by32 bf32 bg32 bz32 gx32 gy32 gf32 gg32 gz32 xx32 xy32 xf32 xg32 xz32 yx32 yy32 yf32 yg32 yz32 sumx32 sumy32 sumf32 sumg32 sumz32
    replace H_a := Lib.hid (H_a.out.below Q32)
    replace H_b := Lib.hid (H_b.out.below Q32)
    replace H_g := Lib.hid (H_g.out.below Q32)
    replace H_x := Lib.hid (H_x.out.below Q32)
    replace H_y := Lib.hid (H_y.out.below Q32)
    replace H_sum := Lib.hid (H_sum.out.below Q32)
    replace hx := hx.below Q32
    replace hy := hy.below Q32
    replace pg := pg.below Q32
    replace px := px.below Q32
    replace py := py.below Q32
    replace ps := ps.below Q32
    replace hW := hW.trans (Q32.mono hW.size)
    clear B29 Q29 B30 Q30 B31 Q31 B32 Q32 p29
    have hsb := HSB.out
    obtain ⟨a1, a2, a3, a4, a5⟩ := H_a.out
    obtain ⟨b1, b2, b3, b4, b5⟩ := H_b.out
    obtain ⟨g1, g2, g3, g4, g5⟩ := H_g.out
    obtain ⟨x1, x2, x3, x4, x5⟩ := H_x.out
    obtain ⟨y1, y2, y3, y4, y5⟩ := H_y.out
    obtain ⟨sum1, sum2, sum3, sum4, sum5⟩ := H_sum.out
    go_wp2_with fail
    clear a1 a2 a3 a4 a5 b1 b2 b3 b4 b5 g1 g2 g3 g4 g5 x1 x2 x3 x4 x5 y1 y2 y3 y4 y5 sum1 sum2 sum3 sum4 sum5
    refine (zsign_v hy (by omega) HSY.out).mono ?_
    rintro e w33 ⟨rfl, B33⟩
    replace H_a := Lib.hid (H_a.out.below B33)
    replace H_b := Lib.hid (H_b.out.below B33)
    replace H_g := Lib.hid (H_g.out.below B33)
    replace H_x := Lib.hid (H_x.out.below B33)
    replace H_y := Lib.hid (H_y.out.below B33)
    replace H_sum := Lib.hid (H_sum.out.below B33)
    replace hx := hx.below B33
    replace hy := hy.below B33
    replace pg := pg.below B33
    replace px := px.below B33
    replace py := py.below B33
    replace ps := ps.below B33
    replace hW := hW.trans (B33.mono hW.size)
    clear B33
    clear py ps
    clear H_y H_sum H_a
    clear hx
    obtain ⟨b1, b2, b3, b4, b5⟩ := H_b.out
    obtain ⟨g1, g2, g3, g4, g5⟩ := H_g.out
    obtain ⟨x1, x2, x3, x4, x5⟩ := H_x.out
    go_wp2_with fail
    clear b1 b2 b3 b4 b5 g1 g2 g3 g4 g5 x1 x2 x3 x4 x5
    go_upto_region 9 with fail
    go_cut [9, 10] (VarOk w33 (z : Int) 10)
    case first =>
      obtain ⟨b1, b2, b3, b4, b5⟩ := H_b.out
      obtain ⟨g1, g2, g3, g4, g5⟩ := H_g.out
      obtain ⟨x1, x2, x3, x4, x5⟩ := H_x.out
      have bn : ¬ (w33.heap.size = (w.heap.size + 1)) := by omega
      have bm : ¬ ((w.heap.size + 1) = w33.heap.size) := by omega
      have gn : ¬ (w33.heap.size = w23.heap.size) := by omega
      have gm : ¬ (w23.heap.size = w33.heap.size) := by omega
      have xn : ¬ (w33.heap.size = (w23.heap.size + 1)) := by omega
      have xm : ¬ ((w23.heap.size + 1) = w33.heap.size) := by omega
      go_region_held3 (fun w' => w'.cell? ⟨(w.heap.size + 1), 0, none⟩ = some (.bool t) ∧ w'.cell? ⟨(w.heap.size + 1), 1, none⟩ = some (.slice B m d) ∧ w'.cell? ⟨w23.heap.size, 0, none⟩ = some (.bool s23) ∧ w'.cell? ⟨w23.heap.size, 1, none⟩ = some (.slice A23 n23 c23) ∧ w'.cell? ⟨(w23.heap.size + 1), 0, none⟩ = some (.bool t23) ∧ w'.cell? ⟨(w23.heap.size + 1), 1, none⟩ = some (.slice D23 m23 d23)) (go_keep) (first
        | (go_at_call 29; (with_reducible refine (zabs_v (hy.below (below_drew _)) (by omega)).mono ?_); rintro e w34 ⟨s34, A34, n34, c34, rfl, p34, k34, B34⟩; have Q34 := zup (below_drew _) B34; obtain ⟨bx34, by34, bf34, bg34, bz34⟩ := H_b.out.below Q34; have bn34 : ¬ (w34.heap.size = (w.heap.size + 1)) := (by omega); have bm34 : ¬ ((w.heap.size + 1) = w34.heap.size) := (by omega); obtain ⟨gx34, gy34, gf34, gg34, gz34⟩ := H_g.out.below Q34; have gn34 : ¬ (w34.heap.size = w23.heap.size) := (by omega); have gm34 : ¬ (w23.heap.size = w34.heap.size) := (by omega); obtain ⟨xx34, xy34, xf34, xg34, xz34⟩ := H_x.out.below Q34; have xn34 : ¬ (w34.heap.size = (w23.heap.size + 1)) := (by omega); have xm34 : ¬ ((w23.heap.size + 1) = w34.heap.size) := (by omega))
        | (go_at_call 29; (with_reducible refine (zabs_v (hy.below (zbd _ _)) (by omega)).mono ?_); rintro e w34 ⟨s34, A34, n34, c34, rfl, p34, k34, B34⟩; have Q34 := zup (zbd _ _) B34; have J34 := (Ib.newd w33 false none 0 0 40).below B34; have g34 := Nat.le_refl w33.heap.size; obtain ⟨bx34, by34, bf34, bg34, bz34⟩ := H_b.out.below Q34; have bn34 : ¬ (w34.heap.size = (w.heap.size + 1)) := (by omega); have bm34 : ¬ ((w.heap.size + 1) = w34.heap.size) := (by omega); obtain ⟨gx34, gy34, gf34, gg34, gz34⟩ := H_g.out.below Q34; have gn34 : ¬ (w34.heap.size = w23.heap.size) := (by omega); have gm34 : ¬ (w23.heap.size = w34.heap.size) := (by omega); obtain ⟨xx34, xy34, xf34, xg34, xz34⟩ := H_x.out.below Q34; have xn34 : ¬ (w34.heap.size = (w23.heap.size + 1)) := (by omega); have xm34 : ¬ ((w23.heap.size + 1) = w34.heap.size) := (by omega); have Jc34 := J34; obtain ⟨jx34, jy34, jf34, jg34, jz34⟩ := Jc34)
        | (go_at_call 28; (with_reducible refine (zexact_yes p34.zv (pg.below Q34).zv (by omega) (by omega) hGp HST.out).mono ?_); rintro e w35 ⟨s35, A35, n35, c35, rfl, p35, k35, B35⟩; have Q35 := zup Q34 B35; have R35 := B35; have J35 := J34.below B35; have g35 := g34; obtain ⟨bx35, by35, bf35, bg35, bz35⟩ := H_b.out.below Q35; have bn35 : ¬ (w35.heap.size = (w.heap.size + 1)) := (by omega); have bm35 : ¬ ((w.heap.size + 1) = w35.heap.size) := (by omega); obtain ⟨gx35, gy35, gf35, gg35, gz35⟩ := H_g.out.below Q35; have gn35 : ¬ (w35.heap.size = w23.heap.size) := (by omega); have gm35 : ¬ (w23.heap.size = w35.heap.size) := (by omega); obtain ⟨xx35, xy35, xf35, xg35, xz35⟩ := H_x.out.below Q35; have xn35 : ¬ (w35.heap.size = (w23.heap.size + 1)) := (by omega); have xm35 : ¬ ((w23.heap.size + 1) = w35.heap.size) := (by omega); have Jc35 := J35; obtain ⟨jx35, jy35, jf35, jg35, jz35⟩ := Jc35)
        | (go_at_call 28; (with_reducible refine (zexact_yes p34.zv (pg.below Q34).zv (by omega) (by omega) hGp HST.out).mono ?_); rintro e w35 ⟨s35, A35, n35, c35, rfl, p35, k35, B35⟩; have Q35 := zup Q34 B35; have R35 := B35; obtain ⟨bx35, by35, bf35, bg35, bz35⟩ := H_b.out.below Q35; have bn35 : ¬ (w35.heap.size = (w.heap.size + 1)) := (by omega); have bm35 : ¬ ((w.heap.size + 1) = w35.heap.size) := (by omega); obtain ⟨gx35, gy35, gf35, gg35, gz35⟩ := H_g.out.below Q35; have gn35 : ¬ (w35.heap.size = w23.heap.size) := (by omega); have gm35 : ¬ (w23.heap.size = w35.heap.size) := (by omega); obtain ⟨xx35, xy35, xf35, xg35, xz35⟩ := H_x.out.below Q35; have xn35 : ¬ (w35.heap.size = (w23.heap.size + 1)) := (by omega); have xm35 : ¬ ((w23.heap.size + 1) = w35.heap.size) := (by omega))
        | (go_at_call 28; (with_reducible refine (zexact_yes (p34.below (zba _ _)).zv (pg.below (zup Q34 (zba _ _))).zv (by omega) (by omega) hGp HST.out).mono ?_); rintro e w35 ⟨s35, A35, n35, c35, rfl, p35, k35, B35⟩; have Q35 := zup (zup Q34 (zba _ _)) B35; have R35 := zup (zba w34 _) B35; have J35 := (Ib.new w34 false none 0 0 40).below B35; have g35 := Q34.size; obtain ⟨bx35, by35, bf35, bg35, bz35⟩ := H_b.out.below Q35; have bn35 : ¬ (w35.heap.size = (w.heap.size + 1)) := (by omega); have bm35 : ¬ ((w.heap.size + 1) = w35.heap.size) := (by omega); obtain ⟨gx35, gy35, gf35, gg35, gz35⟩ := H_g.out.below Q35; have gn35 : ¬ (w35.heap.size = w23.heap.size) := (by omega); have gm35 : ¬ (w23.heap.size = w35.heap.size) := (by omega); obtain ⟨xx35, xy35, xf35, xg35, xz35⟩ := H_x.out.below Q35; have xn35 : ¬ (w35.heap.size = (w23.heap.size + 1)) := (by omega); have xm35 : ¬ ((w23.heap.size + 1) = w35.heap.size) := (by omega); have Jc35 := J35; obtain ⟨jx35, jy35, jf35, jg35, jz35⟩ := Jc35)
        | fail)
      all_goals
        first
        | have P := Lib.hid (VarCut.put (w0 := w33) (z := (z : Int)) (k := 10) J35 p35 Q35 g35 (by omega))
        | have P := Lib.hid (VarCut.new (w0 := w33) (z := (z : Int)) (k := 10) (t := 40) p35 Q35 (by omega))
        go_wp2_with fail
        go_meet
        exact ⟨P.out, rfl⟩
    case rest =>
      obtain ⟨⟨g36, s36, A36, n36, c36, rfl, hg36, I36, p36, k36, B36⟩, rfl⟩ := hcut
      obtain ⟨w36, hw36⟩ : ∃ x, x = wc := ⟨_, rfl⟩
      subst hw36
      have lt_b_st : (w.heap.size + 1) < g36 := Nat.lt_of_lt_of_le H_b.out.2.2.2.2 hg36
      have lt_g_st : w23.heap.size < g36 := Nat.lt_of_lt_of_le H_g.out.2.2.2.2 hg36
      have lt_x_st : (w23.heap.size + 1) < g36 := Nat.lt_of_lt_of_le H_x.out.2.2.2.2 hg36
      have lw_st : w.heap.size ≤ g36 := Nat.le_trans hW.size hg36
      replace H_b := Lib.hid (H_b.out.below B36)
      replace H_g := Lib.hid (H_g.out.below B36)
      replace H_x := Lib.hid (H_x.out.below B36)
      replace hy := hy.below B36
      replace pg := pg.below B36
      replace px := px.below B36
      replace hW := hW.trans (B36.mono hW.size)
      have H_st := Lib.hid I36
      clear B36 I36 hg36
      have pq := p36
      clear p36
      clear hsb
      obtain ⟨b1, b2, b3, b4, b5⟩ := H_b.out
      obtain ⟨g1, g2, g3, g4, g5⟩ := H_g.out
      obtain ⟨x1, x2, x3, x4, x5⟩ := H_x.out
      obtain ⟨st1, st2, st3, st4, st5⟩ := H_st.out
      go_wp2_with fail
      clear b1 b2 b3 b4 b5 g1 g2 g3 g4 g5 x1 x2 x3 x4 x5 st1 st2 st3 st4 st5
      refine (zsign_v px.zv (by omega) HSX.out).mono ?_
      rintro e w37 ⟨rfl, B37⟩
      replace H_b := Lib.hid (H_b.out.below B37)
      replace H_g := Lib.hid (H_g.out.below B37)
      replace H_x := Lib.hid (H_x.out.below B37)
      replace H_st := Lib.hid (H_st.out.below B37)
      replace hy := hy.below B37
      replace pg := pg.below B37
      replace px := px.below B37
      replace pq := pq.below B37
      replace hW := hW.trans (B37.mono hW.size)
      clear B37
      obtain ⟨b1, b2, b3, b4, b5⟩ := H_b.out
      obtain ⟨g1, g2, g3, g4, g5⟩ := H_g.out
      obtain ⟨x1, x2, x3, x4, x5⟩ := H_x.out
      obtain ⟨st1, st2, st3, st4, st5⟩ := H_st.out
      go_wp2_with fail
      clear b1 b2 b3 b4 b5 g1 g2 g3 g4 g5 x1 x2 x3 x4 x5 st1 st2 st3 st4 st5
      refine (zcmp_v px.zv pq.zv (by omega) (by omega) HCM.out).mono ?_
      rintro e w38 ⟨rfl, B38⟩
      replace H_b := Lib.hid (H_b.out.below B38)
      replace H_g := Lib.hid (H_g.out.below B38)
      replace H_x := Lib.hid (H_x.out.below B38)
      replace H_st := Lib.hid (H_st.out.below B38)
      replace hy := hy.below B38
      replace pg := pg.below B38
      replace px := px.below B38
      replace pq := pq.below B38
      replace hW := hW.trans (B38.mono hW.size)
      clear B38
      go_wp2_with fail
      go_ret
      exact ⟨rfl, hW⟩
set_option maxRecDepth 100000 in
set_option maxHeartbeats 4000000 in
theorem ixgcd_calls (A B : Option Addr) (n m c d : Nat) (s t : Bool) (x y : Int) (w : World) (hx : Zv w s A n c x) (hy : Zv w t B m d y) (hn : n ≤ 9223372036854775807) (hm : m ≤ 9223372036854775807) :
    Calls Try.prog 6 #[.agg #[.bool s, .slice A n c], .agg #[.bool t, .slice B m d]] w (TruePost w) := by
  by_cases h : n ≤ 6 ∧ m ≤ 6
  · by_cases h0 : y = 0
    · exact ixgcd_no hx hy h.1 h.2 h0
    · exact ixgcd_yes hx hy h.1 h.2 h0
  · obtain ⟨w3, hw3, IA, IB, z0⟩ := open2 w s t A B n c m d
    have HW := Lib.hid hw3.symm
    have hW := z0
    have H_a := Lib.hid IA
    have H_b := Lib.hid IB
    have hf : decide (n ≤ 6 ∧ m ≤ 6 ∧ n ≤ 6) = false := by rw [decide_eq_false_iff_not]; intro k; exact h ⟨k.1, k.2.1⟩
    have HFW := Lib.hid hf
    clear hw3 IA IB z0 h hx hy hf
    go_enter Try.func6, Try.ntmps6
    obtain ⟨a1, a2, a3, a4, a5⟩ := H_a.out
    obtain ⟨b1, b2, b3, b4, b5⟩ := H_b.out
    go_wp2_with fail
    rw [HW.out]
    clear a1 a2 a3 a4 a5 b1 b2 b3 b4 b5
    refine (zawake_calls _).mono ?_
    rintro e w21 ⟨rfl, B21⟩
    replace H_a := Lib.hid (H_a.out.below B21)
    replace H_b := Lib.hid (H_b.out.below B21)
    replace hW := hW.trans (B21.mono hW.size)
    clear B21
    obtain ⟨a1, a2, a3, a4, a5⟩ := H_a.out
    obtain ⟨b1, b2, b3, b4, b5⟩ := H_b.out
    go_wp2_with fail
    clear a1 a2 a3 a4 a5 b1 b2 b3 b4 b5
    refine (zfew_v (k := 6) (b := false) hn hm hn (by omega) HFW.out).mono ?_
    rintro e w22 ⟨rfl, B22⟩
    replace H_a := Lib.hid (H_a.out.below B22)
    replace H_b := Lib.hid (H_b.out.below B22)
    replace hW := hW.trans (B22.mono hW.size)
    clear B22
    obtain ⟨a1, a2, a3, a4, a5⟩ := H_a.out
    obtain ⟨b1, b2, b3, b4, b5⟩ := H_b.out
    go_wp2_with fail
    clear a1 a2 a3 a4 a5 b1 b2 b3 b4 b5
    refine (zawake_calls _).mono ?_
    rintro e w23 ⟨rfl, B23⟩
    replace H_a := Lib.hid (H_a.out.below B23)
    replace H_b := Lib.hid (H_b.out.below B23)
    replace hW := hW.trans (B23.mono hW.size)
    clear B23
    go_wp2_with fail
    go_ret
    exact ⟨rfl, hW⟩
end Go.Proofs.Ytnnohfkocaajfaa
