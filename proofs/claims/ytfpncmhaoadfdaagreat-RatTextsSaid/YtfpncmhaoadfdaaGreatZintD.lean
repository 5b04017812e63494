/-
  Package zint: Exact, Round; quincunxlaw05.awake and few.
-/
import Derived.Test.YtfpncmhaoadfdaaGreatZintC
import Derived.Deep.QuietTactic
import Derived.BigQuiet
/-! Contracts: zint.Exact, Round; quincunxlaw05.awake, few. -/
namespace Go.Proofs.YtfpncmhaoadfdaaGreat
open Go.RowKit
set_option linter.unusedVariables false
set_option linter.unusedSimpArgs false

theorem exact_val {s t : Bool} {X Y : Nat} {x y q : Int} (ex : x = sg s X) (ey : y = sg t Y) (h0 : 0 < Y) (hq : q * y = x) : X % Y = 0 ∧ sg (!(s == t)) (X / Y) = q := by
  have e1 : q.natAbs * Y = X := by
    have := congrArg Int.natAbs hq
    rwa [Int.natAbs_mul, ex, ey, sg_abs, sg_abs] at this
  have e2 : X / Y = q.natAbs := by rw [← e1]; exact Nat.mul_div_cancel _ h0
  refine ⟨by rw [← e1]; exact Nat.mul_mod_left _ _, ?_⟩
  have e3 : sg (!(s == t)) (X / Y) * y = q * y := by
    have h1 := sg_mul (!(s == t)) t (X / Y) Y
    have h2 : X / Y * Y = X := by rw [e2, e1]
    rw [h2] at h1
    rw [hq, ey, ← h1, ex]
    cases s <;> cases t <;> rfl
  have hy : y ≠ 0 := by rw [ey]; cases t <;> simp [sg] <;> omega
  exact Int.eq_of_mul_eq_mul_right hy e3
set_option maxHeartbeats 400000 in
/-- zint.Exact. -/
theorem zexact_yes {A B : Option Addr} {n m c d : Nat} {s t : Bool} {x y q : Int} {w : World} (hx : Zv w s A n c x) (hy : Zv w t B m d y) (hn : n ≤ 549755813888) (hm : m ≤ 549755813888) (h0 : y ≠ 0) (hq : q * y = x) :
    Calls Tryz.prog 32 #[.agg #[.bool s, .slice A n c], .agg #[.bool t, .slice B m d]] w (ZPowPost q n w) := by
  obtain ⟨w3, hw3, IA, IB, IR, z0⟩ := open3 w s t A B n c m d
  obtain ⟨hx1, ex⟩ := hx.up z0
  obtain ⟨hy1, ey⟩ := hy.up z0
  have hY : 0 < y.natAbs := by omega
  obtain ⟨hmod, hs⟩ := exact_val ex.out ey.out hY hq
  generalize x.natAbs = X at *
  generalize y.natAbs = Y at *
  obtain ⟨b, hb⟩ : ∃ b, (!(s == t)) = b := ⟨_, rfl⟩
  rw [hb] at hs
  have HZ := Lib.hid z0
  have HS := Lib.hid hs
  have HW := Lib.hid hw3.symm
  have HM := Lib.hid hmod
  have HA := Lib.hid IA
  have HB := Lib.hid IB
  have HR := Lib.hid IR
  clear hx hy ex ey hs z0 hw3 IR h0 hq hmod
  obtain ⟨a1, a2, a3, a4, a5⟩ := IA
  obtain ⟨b1, b2, b3, b4, b5⟩ := IB
  go_enter Tryz.func32, Tryz.ntmps32
  go_wp2_with fail
  rw [HW.out]
  refine (exact_v hx1 hy1 hn hm hY HM.out).mono ?_
  rintro e w4 ⟨A4, n4, c4, rfl, p4, k4, B4⟩
  obtain ⟨u1, u2, _⟩ := HA.out.below B4
  obtain ⟨u3, u4, _⟩ := HB.out.below B4
  clear a1 a2 a3 a4 a5 b1 b2 b3 b4 b5 hx1 hy1
  go_wp2_with fail
  refine (signed_v p4).mono ?_
  rintro e w5 ⟨s5, A5, n5, c5, rfl, p5, k5, B5⟩
  have Q5 := zup B4 B5
  rw [HS.out] at p5
  obtain ⟨r1, r2, r3, r4, r5⟩ := HR.out.below Q5
  have P := Lib.hid (zfin2 p5 ⟨r1, r2, r3, r4, r5⟩ (k := n) (by omega) (by omega) (zup HZ.out Q5))
  clear p4 p5 B4 B5 Q5 k4 k5 u1 u2 u3 u4
  go_wp2_with fail
  exact bodyPost_ret (v := .tuple #[.agg #[.bool s5, .slice A5 n5 c5], .bool true]) (by simp [results, Tryz.results32, go_sem, r1, r2]) rfl P.out
theorem zexact_false {A B : Option Addr} {n m c d : Nat} {s t : Bool} {x y : Int} {w : World} (hx : Zv w s A n c x) (hy : Zv w t B m d y) (hn : n ≤ 549755813888) (hm : m ≤ 549755813888) (h0 : y = 0 ∨ x.natAbs % y.natAbs ≠ 0) :
    Calls Tryz.prog 32 #[.agg #[.bool s, .slice A n c], .agg #[.bool t, .slice B m d]] w (ZNoPost w) := by
  obtain ⟨w3, hw3, IA, IB, IR, z0⟩ := open3 w s t A B n c m d
  obtain ⟨hx1, ex⟩ := hx.up z0
  obtain ⟨hy1, ey⟩ := hy.up z0
  have C : ∀ w, Nv w A n c x.natAbs → Nv w B m d y.natAbs → Calls Tryz.prog 44 #[.slice A n c, .slice B m d] w (NoPost w) := fun w ha hb => by
    by_cases h : y = 0
    · subst h
      exact exact_none ha hb hn hm
    · rcases h0 with h0 | h0
      · exact absurd h0 h
      · exact exact_no ha hb hn hm (by omega) h0
  obtain ⟨b, hb⟩ : ∃ b, (!(s == t)) = b := ⟨_, rfl⟩
  have HC := Lib.hid (C w3 hx1 hy1)
  have HZ := Lib.hid z0
  have HW := Lib.hid hw3.symm
  have HA := Lib.hid IA
  have HB := Lib.hid IB
  have HR := Lib.hid IR
  clear hx hy ex ey z0 hw3 IR h0 C hx1 hy1
  obtain ⟨a1, a2, a3, a4, a5⟩ := IA
  obtain ⟨b1, b2, b3, b4, b5⟩ := IB
  go_enter Tryz.func32, Tryz.ntmps32
  go_wp2_with fail
  rw [HW.out]
  refine HC.out.mono ?_
  rintro e w4 ⟨rfl, B4⟩
  obtain ⟨u1, u2, _⟩ := HA.out.below B4
  obtain ⟨u3, u4, _⟩ := HB.out.below B4
  clear a1 a2 a3 a4 a5 b1 b2 b3 b4 b5
  go_wp2_with fail
  refine (signed_calls none 0 0 b false w4 (by simp)).mono ?_
  rintro e w5 ⟨rfl, B5⟩
  have Q5 := zup B4 B5
  obtain ⟨r1, r2, r3, r4, r5⟩ := HR.out.below Q5
  have P := Lib.hid (below_put (zup HZ.out Q5) (g := w.heap.size + 1 + 1) (A := none) (n := 0) (c := 0) (s := false) (by omega))
  clear B4 B5 Q5 u1 u2 u3 u4
  go_wp2_with fail
  exact bodyPost_ret (v := .tuple #[.agg #[.bool false, .slice none 0 0], .bool false]) (by simp [results, Tryz.results32, go_sem, r1, r2]) rfl ⟨rfl, P.out⟩

/-- The whole number z is next to x / y, the greater one of two. -/
def RoundOk (x y z : Int) : Prop := (0 < y → -y ≤ 2 * (x - z * y) ∧ 2 * (x - z * y) < y) ∧ (y < 0 → y ≤ -(2 * (x - z * y)) ∧ -(2 * (x - z * y)) < -y)
theorem round_lo {x y q : Int} {t : Bool} {R Y : Nat} (ey : y = sg t Y) (hY : 0 < Y) (e : q * y + sg t R = x) (hR : R < Y) (h : R * 2 < Y) : RoundOk x y q := by
  have e2 : x - q * y = sg t R := by omega
  unfold RoundOk
  rw [e2]
  cases t <;> simp [sg] at ey ⊢ <;> omega
theorem round_hi {x y q : Int} {t : Bool} {R Y : Nat} (ey : y = sg t Y) (hY : 0 < Y) (e : q * y + sg t R = x) (hR : R < Y) (h : Y ≤ R * 2) : RoundOk x y (q + 1) := by
  have e2 : x - (q + 1) * y = sg t R - y := by rw [Int.add_mul]; omega
  unfold RoundOk
  rw [e2]
  cases t <;> simp [sg] at ey ⊢ <;> omega
/-- What zint.Round answers. -/
def RdPost (x y : Int) (k : Nat) (w : World) (e : Ending) (w' : World) : Prop := ∃ z, RoundOk x y z ∧ ZPowPost z k w e w'

end Go.Proofs.YtfpncmhaoadfdaaGreat

/-! What a law's variable holds behind a region that draws its order, and that makes the variable. -/
namespace Go.Proofs.YtfpncmhaoadfdaaGreat
open Go.RowKit
/-- The slot v points to a whole number z in memory that is new since w0. -/
def VarCut (w0 : World) (z : Int) (k : Nat) (v : Value) (wx : World) : Prop :=
  ∃ g s A n c, v = .pointer (some ⟨g, 0, none⟩) ∧ w0.heap.size ≤ g ∧ Ib wx g s A n c ∧ Zc wx s A n c z ∧ n ≤ k ∧ Below w0.heap.size w0 wx
theorem VarCut.put {w0 w : World} {z : Int} {k g n c m d : Nat} {s t : Bool} {A B : Option Addr} (j : Ib w g t B m d) (p : Zc w s A n c z) (q : Below w0.heap.size w0 w) (hg : w0.heap.size ≤ g) (hk : n ≤ k) :
    VarCut w0 z k (.pointer (some ⟨g, 0, none⟩)) ((w.setCell ⟨g, 0, none⟩ (.bool s)).setCell ⟨g, 1, none⟩ (.slice A n c)) :=
  ⟨g, s, A, n, c, rfl, hg, j.own, p.put j, hk, below_put q hg⟩
theorem VarCut.new {w0 w : World} {z : Int} {k n c : Nat} {s : Bool} {A : Option Addr} {t : TypeId} (p : Zc w s A n c z) (q : Below w0.heap.size w0 w) (hk : n ≤ k) :
    VarCut w0 z k (.pointer (some ⟨w.heap.size, 0, none⟩)) (w.alloc (.cells #[.bool s, .slice A n c] t)) :=
  ⟨_, s, A, n, c, rfl, q.size, Ib.new _ _ _ _ _ _, p.below (zba _ _), hk, zup q (zba _ _)⟩
theorem zbd (w : World) (o : Obj) : Below w.heap.size w (w.alloc o).drew := zup (zba w o) (below_drew _)
theorem zbd2 (w : World) (o p : Obj) : Below w.heap.size w ((w.alloc o).alloc p).drew := zup (zba2 w o p) (below_drew _)
theorem Ib.newd (w : World) (s : Bool) (A : Option Addr) (n c : Nat) (t : TypeId) : Ib (w.alloc (.cells #[.bool s, .slice A n c] t)).drew w.heap.size s A n c := (Ib.new w s A n c t).below (below_drew _)
end Go.Proofs.YtfpncmhaoadfdaaGreat
