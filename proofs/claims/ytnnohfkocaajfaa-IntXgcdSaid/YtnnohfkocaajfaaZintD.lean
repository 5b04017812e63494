/-
  Package zint: Exact, Round; quincunxlaw05.awake and few.
-/
import Derived.Test.YtnnohfkocaajfaaZintC
import Derived.Deep.QuietTactic
import Derived.BigQuiet
/-! Contracts: zint.Exact, Round; quincunxlaw05.awake, few. -/
namespace Go.Proofs.Ytnnohfkocaajfaa
open Go.RowKit
set_option linter.unusedVariables false
set_option linter.unusedSimpArgs false

theorem exact_val {s t : Bool} {X Y : Nat} {x y q : Int} (ex : x = sg s X) (ey : y = sg t Y) (h0 : 0 < Y) (hq : q * y = x) : X % Y = 0 ∧ sg (!(s == t)) (X / Y) = q := by
  have e1 : q.natAbs * Y = X := by
    have := congrArg Int.natAbs hq
    rwa [Int.natAbs_mul, ex, ey, sg_abs, sg_abs] at this
  have e2 : X / Y = q.natAbs := by rw [← e1]; exact Nat.mul_div_cancel _ h0
  refine ⟨by rw [← e1]; exact Nat.mul_mod_left _ _, ?_⟩
  have e3 : sg (!(s == t)) (X / Y) * y = q * y := by
    have h1 := sg_mul (!(s == t)) t (X / Y) Y
    have h2 : X / Y * Y = X := by rw [e2, e1]
    rw [h2] at h1
    rw [hq, ey, ← h1, ex]
    cases s <;> cases t <;> rfl
  have hy : y ≠ 0 := by rw [ey]; cases t <;> simp [sg] <;> omega
  exact Int.eq_of_mul_eq_mul_right hy e3
set_option maxHeartbeats 400000 in
/-- zint.Exact. -/
theorem zexact_yes {A B : Option Addr} {n m c d : Nat} {s t : Bool} {x y q : Int} {w : World} (hx : Zv w s A n c x) (hy : Zv w t B m d y) (hn : n ≤ 549755813888) (hm : m ≤ 549755813888) (h0 : y ≠ 0) (hq : q * y = x) :
    Calls Try.prog 28 #[.agg #[.bool s, .slice A n c], .agg #[.bool t, .slice B m d]] w (ZPowPost q n w) := by
  obtain ⟨w3, hw3, IA, IB, IR, z0⟩ := open3 w s t A B n c m d
  obtain ⟨hx1, ex⟩ := hx.up z0
  obtain ⟨hy1, ey⟩ := hy.up z0
  have hY : 0 < y.natAbs := by omega
  obtain ⟨hmod, hs⟩ := exact_val ex.out ey.out hY hq
  generalize x.natAbs = X at *
  generalize y.natAbs = Y at *
  obtain ⟨b, hb⟩ : ∃ b, (!(s == t)) = b := ⟨_, rfl⟩
  rw [hb] at hs
  have HZ := Lib.hid z0
  have HS := Lib.hid hs
  have HW := Lib.hid hw3.symm
  have HM := Lib.hid hmod
  have HA := Lib.hid IA
  have HB := Lib.hid IB
  have HR := Lib.hid IR
  clear hx hy ex ey hs z0 hw3 IR h0 hq hmod
  obtain ⟨a1, a2, a3, a4, a5⟩ := IA
  obtain ⟨b1, b2, b3, b4, b5⟩ := IB
  go_enter Try.func28, Try.ntmps28
  go_wp2_with fail
  rw [HW.out]
  refine (exact_v hx1 hy1 hn hm hY HM.out).mono ?_
  rintro e w4 ⟨A4, n4, c4, rfl, p4, k4, B4⟩
  obtain ⟨u1, u2, _⟩ := HA.out.below B4
  obtain ⟨u3, u4, _⟩ := HB.out.below B4
  clear a1 a2 a3 a4 a5 b1 b2 b3 b4 b5 hx1 hy1
  go_wp2_with fail
  refine (signed_v p4).mono ?_
  rintro e w5 ⟨s5, A5, n5, c5, rfl, p5, k5, B5⟩
  have Q5 := zup B4 B5
  rw [HS.out] at p5
  obtain ⟨r1, r2, r3, r4, r5⟩ := HR.out.below Q5
  have P := Lib.hid (zfin2 p5 ⟨r1, r2, r3, r4, r5⟩ (k := n) (by omega) (by omega) (zup HZ.out Q5))
  clear p4 p5 B4 B5 Q5 k4 k5 u1 u2 u3 u4
  go_wp2_with fail
  exact bodyPost_ret (v := .tuple #[.agg #[.bool s5, .slice A5 n5 c5], .bool true]) (by simp [results, Try.results28, go_sem, r1, r2]) rfl P.out
theorem zexact_false {A B : Option Addr} {n m c d : Nat} {s t : Bool} {x y : Int} {w : World} (hx : Zv w s A n c x) (hy : Zv w t B m d y) (hn : n ≤ 549755813888) (hm : m ≤ 549755813888) (h0 : y = 0 ∨ x.natAbs % y.natAbs ≠ 0) :
    Calls Try.prog 28 #[.agg #[.bool s, .slice A n c], .agg #[.bool t, .slice B m d]] w (ZNoPost w) := by
  obtain ⟨w3, hw3, IA, IB, IR, z0⟩ := open3 w s t A B n c m d
  obtain ⟨hx1, ex⟩ := hx.up z0
  obtain ⟨hy1, ey⟩ := hy.up z0
  have C : ∀ w, Nv w A n c x.natAbs → Nv w B m d y.natAbs → Calls Try.prog 38 #[.slice A n c, .slice B m d] w (NoPost w) := fun w ha hb => by
    by_cases h : y = 0
    · subst h
      exact exact_none ha hb hn hm
    · rcases h0 with h0 | h0
      · exact absurd h0 h
      · exact exact_no ha hb hn hm (by omega) h0
  obtain ⟨b, hb⟩ : ∃ b, (!(s == t)) = b := ⟨_, rfl⟩
  have HC := Lib.hid (C w3 hx1 hy1)
  have HZ := Lib.hid z0
  have HW := Lib.hid hw3.symm
  have HA := Lib.hid IA
  have HB := Lib.hid IB
  have HR := Lib.hid IR
  clear hx hy ex ey z0 hw3 IR h0 C hx1 hy1
  obtain ⟨a1, a2, a3, a4, a5⟩ := IA
  obtain ⟨b1, b2, b3, b4, b5⟩ := IB
  go_enter Try.func28, Try.ntmps28
  go_wp2_with fail
  rw [HW.out]
  refine HC.out.mono ?_
  rintro e w4 ⟨rfl, B4⟩
  obtain ⟨u1, u2, _⟩ := HA.out.below B4
  obtain ⟨u3, u4, _⟩ := HB.out.below B4
  clear a1 a2 a3 a4 a5 b1 b2 b3 b4 b5
  go_wp2_with fail
  refine (signed_calls none 0 0 b false w4 (by simp)).mono ?_
  rintro e w5 ⟨rfl, B5⟩
  have Q5 := zup B4 B5
  obtain ⟨r1, r2, r3, r4, r5⟩ := HR.out.below Q5
  have P := Lib.hid (below_put (zup HZ.out Q5) (g := w.heap.size + 1 + 1) (A := none) (n := 0) (c := 0) (s := false) (by omega))
  clear B4 B5 Q5 u1 u2 u3 u4
  go_wp2_with fail
  exact bodyPost_ret (v := .tuple #[.agg #[.bool false, .slice none 0 0], .bool false]) (by simp [results, Try.results28, go_sem, r1, r2]) rfl ⟨rfl, P.out⟩

/-- quincunxlaw05.few. -/
theorem zfew_v {A B C : Option Addr} {n m l c d e' : Nat} {s t u b : Bool} {k : Nat} {w : World} (hn : n ≤ 9223372036854775807) (hm : m ≤ 9223372036854775807) (hl : l ≤ 9223372036854775807) (hk : k ≤ 100) (hb : decide (n ≤ k ∧ m ≤ k ∧ l ≤ k) = b) :
    Calls Try.prog 20 #[.agg #[.bool s, .slice A n c], .agg #[.bool t, .slice B m d], .agg #[.bool u, .slice C l e'], .int .i64 k] w fun e w' => e = .returned (.bool b) ∧ Below w.heap.size w w' := by
  have z0 := zba3 w (.cells #[.bool s, .slice A n c] 40) (.cells #[.bool t, .slice B m d] 40) (.cells #[.bool u, .slice C l e'] 40)
  have HZ := Lib.hid z0
  clear z0
  by_cases h1 : n ≤ k
  · by_cases h2 : m ≤ k
    · by_cases h3 : l ≤ k
      · obtain rfl : b = true := by rw [← hb, decide_eq_true_iff]; exact ⟨h1, h2, h3⟩
        clear hb
        go_enter Try.func20, Try.ntmps20
        go_wp2_with fail
        go_ret
        exact ⟨rfl, HZ.out⟩
      · obtain rfl : b = false := by rw [← hb, decide_eq_false_iff_not]; omega
        clear hb
        go_enter Try.func20, Try.ntmps20
        go_wp2_with fail
        go_ret
        exact ⟨rfl, HZ.out⟩
    · obtain rfl : b = false := by rw [← hb, decide_eq_false_iff_not]; omega
      clear hb
      go_enter Try.func20, Try.ntmps20
      go_wp2_with fail
      go_ret
      exact ⟨rfl, HZ.out⟩
  · obtain rfl : b = false := by rw [← hb, decide_eq_false_iff_not]; omega
    clear hb
    go_enter Try.func20, Try.ntmps20
    go_wp2_with fail
    go_ret
    exact ⟨rfl, HZ.out⟩
/-- quincunxlaw05.awake. -/
theorem zawake_calls (w : World) : Calls Try.prog 19 #[] w (TruePost w) := by
  have hW := Below.refl w.heap.size w
  go_enter Try.func19, Try.ntmps19
  go_wp2_with fail
  refine (zof_v (-7) (by omega) (by omega) _).mono ?_
  rintro e w1 ⟨s1, A1, n1, c1, rfl, p1, k1, B1⟩
  replace hW := hW.trans (B1.mono hW.size)
  go_wp2_with fail
  refine (zof_v 2 (by omega) (by omega) _).mono ?_
  rintro e w2 ⟨s2, A2, n2, c2, rfl, p2, k2, B2⟩
  replace p1 := p1.below B2
  replace hW := hW.trans (B2.mono hW.size)
  have ht : s2 = false := by rw [p2.2.out]; rfl
  have hs : s1 = true := by rw [p1.2.out]; rfl
  subst ht hs
  go_wp2_with fail
  refine (zfloor_v (q := -4) (r := 1) p1.zv p2.zv (by omega) (by omega) (by omega) (by decide) (by decide)).mono ?_
  rintro e w3 ⟨s3, A3, n3, c3, s4, A4, n4, c4, rfl, p3, p4, k3, k4, B3⟩
  replace hW := hW.trans (B3.mono hW.size)
  clear p1 p2 B1 B2 B3
  obtain ⟨w4, hw4, I3, I4, z0⟩ := open2 w3 s3 s4 A3 A4 n3 c3 n4 c4
  have HW := Lib.hid hw4.symm
  have q3 := p3.below z0
  have q4 := p4.below z0
  have hW4 := Lib.hid (hW.trans (z0.mono hW.size))
  clear p3 p4 z0 hw4 hW
  have HI3 := Lib.hid I3
  have HI4 := Lib.hid I4
  obtain ⟨a1, a2, a3, a4, a5⟩ := I3
  obtain ⟨b1, b2, b3, b4, b5⟩ := I4
  go_wp2_with fail
  rw [HW.out]
  have HQ3 := Lib.hid q3
  have HQ4 := Lib.hid q4
  clear q3 q4
  go_region_held3 (fun w' => w'.cell? ⟨w3.heap.size, 0, none⟩ = some (.bool s3) ∧ w'.cell? ⟨w3.heap.size, 1, none⟩ = some (.slice A3 n3 c3) ∧ w'.cell? ⟨w3.heap.size + 1, 0, none⟩ = some (.bool s4) ∧ w'.cell? ⟨w3.heap.size + 1, 1, none⟩ = some (.slice A4 n4 c4)) (go_keep) (first
    | (go_at_call 27; (with_reducible refine (zof_v (-4) (by omega) (by omega) _).mono ?_); rintro e w5 ⟨s5, A5, n5, c5, rfl, p5, k5, B5⟩; have Q5 := zup (below_drew _) B5; obtain ⟨u1, u2, _⟩ := HI3.out.below Q5; obtain ⟨u3, u4, _⟩ := HI4.out.below Q5)
    | (go_at_call 24; (with_reducible refine (zsame_yes (x := -4) (HQ3.out.below Q5).zv p5.zv (by omega) (by omega) rfl).mono ?_); rintro e w6 ⟨rfl, B6⟩; have Q6 := zup Q5 B6; obtain ⟨v1, v2, _⟩ := HI3.out.below Q6; obtain ⟨v3, v4, _⟩ := HI4.out.below Q6)
    | (go_at_call 27; (with_reducible refine (zof_v 1 (by omega) (by omega) _).mono ?_); rintro e w7 ⟨s7, A7, n7, c7, rfl, p7, k7, B7⟩; have Q7 := zup Q6 B7; obtain ⟨x1, x2, _⟩ := HI3.out.below Q7; obtain ⟨x3, x4, _⟩ := HI4.out.below Q7)
    | (go_at_call 24; (with_reducible refine (zsame_yes (x := 1) (HQ4.out.below Q7).zv p7.zv (by omega) (by omega) rfl).mono ?_); rintro e w8 ⟨rfl, B8⟩; have Q8 := zup Q7 B8; obtain ⟨y1, y2, _⟩ := HI3.out.below Q8; obtain ⟨y3, y4, _⟩ := HI4.out.below Q8)
    | (go_at_call 26; (with_reducible refine (zsign_v (z := -4) (r := -1) (HQ3.out.below Q8).zv (by omega) rfl).mono ?_); rintro e w9 ⟨rfl, B9⟩; have Q9 := zup Q8 B9; obtain ⟨z1, z2, _⟩ := HI3.out.below Q9; obtain ⟨z3, z4, _⟩ := HI4.out.below Q9))
  have P := Lib.hid (hW4.out.trans (Q9.mono hW4.out.size))
  go_wp2_with fail
  go_ret
  exact ⟨rfl, P.out⟩

/-- The whole number z is next to x / y, the greater one of two. -/
def RoundOk (x y z : Int) : Prop := (0 < y → -y ≤ 2 * (x - z * y) ∧ 2 * (x - z * y) < y) ∧ (y < 0 → y ≤ -(2 * (x - z * y)) ∧ -(2 * (x - z * y)) < -y)
theorem round_lo {x y q : Int} {t : Bool} {R Y : Nat} (ey : y = sg t Y) (hY : 0 < Y) (e : q * y + sg t R = x) (hR : R < Y) (h : R * 2 < Y) : RoundOk x y q := by
  have e2 : x - q * y = sg t R := by omega
  unfold RoundOk
  rw [e2]
  cases t <;> simp [sg] at ey ⊢ <;> omega
theorem round_hi {x y q : Int} {t : Bool} {R Y : Nat} (ey : y = sg t Y) (hY : 0 < Y) (e : q * y + sg t R = x) (hR : R < Y) (h : Y ≤ R * 2) : RoundOk x y (q + 1) := by
  have e2 : x - (q + 1) * y = sg t R - y := by rw [Int.add_mul]; omega
  unfold RoundOk
  rw [e2]
  cases t <;> simp [sg] at ey ⊢ <;> omega
/-- What zint.Round answers. -/
def RdPost (x y : Int) (k : Nat) (w : World) (e : Ending) (w' : World) : Prop := ∃ z, RoundOk x y z ∧ ZPowPost z k w e w'

end Go.Proofs.Ytnnohfkocaajfaa

/-! What a law's variable holds behind a region that draws its order, and that makes the variable. -/
namespace Go.Proofs.Ytnnohfkocaajfaa
open Go.RowKit
/-- The slot v points to a whole number z in memory that is new since w0. -/
def VarCut (w0 : World) (z : Int) (k : Nat) (v : Value) (wx : World) : Prop :=
  ∃ g s A n c, v = .pointer (some ⟨g, 0, none⟩) ∧ w0.heap.size ≤ g ∧ Ib wx g s A n c ∧ Zc wx s A n c z ∧ n ≤ k ∧ Below w0.heap.size w0 wx
theorem VarCut.put {w0 w : World} {z : Int} {k g n c m d : Nat} {s t : Bool} {A B : Option Addr} (j : Ib w g t B m d) (p : Zc w s A n c z) (q : Below w0.heap.size w0 w) (hg : w0.heap.size ≤ g) (hk : n ≤ k) :
    VarCut w0 z k (.pointer (some ⟨g, 0, none⟩)) ((w.setCell ⟨g, 0, none⟩ (.bool s)).setCell ⟨g, 1, none⟩ (.slice A n c)) :=
  ⟨g, s, A, n, c, rfl, hg, j.own, p.put j, hk, below_put q hg⟩
theorem VarCut.new {w0 w : World} {z : Int} {k n c : Nat} {s : Bool} {A : Option Addr} {t : TypeId} (p : Zc w s A n c z) (q : Below w0.heap.size w0 w) (hk : n ≤ k) :
    VarCut w0 z k (.pointer (some ⟨w.heap.size, 0, none⟩)) (w.alloc (.cells #[.bool s, .slice A n c] t)) :=
  ⟨_, s, A, n, c, rfl, q.size, Ib.new _ _ _ _ _ _, p.below (zba _ _), hk, zup q (zba _ _)⟩
theorem zbd (w : World) (o : Obj) : Below w.heap.size w (w.alloc o).drew := zup (zba w o) (below_drew _)
theorem zbd2 (w : World) (o p : Obj) : Below w.heap.size w ((w.alloc o).alloc p).drew := zup (zba2 w o p) (below_drew _)
theorem Ib.newd (w : World) (s : Bool) (A : Option Addr) (n c : Nat) (t : TypeId) : Ib (w.alloc (.cells #[.bool s, .slice A n c] t)).drew w.heap.size s A n c := (Ib.new w s A n c t).below (below_drew _)
end Go.Proofs.Ytnnohfkocaajfaa
