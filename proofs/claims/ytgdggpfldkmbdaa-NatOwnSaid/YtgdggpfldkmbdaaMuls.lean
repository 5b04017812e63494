/-
  For every input quincunxlaw01.NatMuls returns true and leaves what was there as it was: the walk.
-/
import Derived.Test.YtgdggpfldkmbdaaNat9
import Derived.Test.YtgdggpfldkmbdaaOrder
import Derived.Deep.DeepCutAuto
namespace Go.Proofs.Ytgdggpfldkmbdaa
open Go.RowKit

/-- The box of the two words. -/
def Bx (w : World) (g p q : Nat) : Prop := Blk w g 37 .u64 [p, q] ∨ Blk w g 38 .u64 [p, q]
theorem Bx.below {w w' : World} {g p q : Nat} (h : Bx w g p q) (hb : Below w.heap.size w w') : Bx w' g p q := by
  rcases h with h | h
  · exact .inl (Blk.below h hb h.lt)
  · exact .inr (Blk.below h hb h.lt)
theorem Bx.rd {w : World} {g p q : Nat} (h : Bx w g p q) (off : Nat) : Rd w .u64 (some ⟨g, off, none⟩) ([p, q].drop off) := by
  rcases h with h | h
  · exact h.rd off
  · exact h.rd off
theorem Bx.cell0 {w : World} {g p q : Nat} (h : Bx w g p q) : w.cell? ⟨g, 0, none⟩ = some (.int .u64 p) := by
  rcases h with h | h
  · exact h.cell (j := 0) (by simp)
  · exact h.cell (j := 0) (by simp)
theorem Bx.cell1 {w : World} {g p q : Nat} (h : Bx w g p q) : w.cell? ⟨g, 1, none⟩ = some (.int .u64 q) := by
  rcases h with h | h
  · exact h.cell (j := 1) (by simp)
  · exact h.cell (j := 1) (by simp)
theorem Bx.nv_low {w : World} {g p q : Nat} (h : Bx w g p q) (hp : p < 18446744073709551616) : Nv w (some ⟨g, 0, none⟩) 1 2 p :=
  ⟨[p], (h.rd 0).take 1, rfl, by omega, by omega, (Low.nil _).cons hp, by simp [ev]⟩
theorem Bx.nv_high {w : World} {g p q : Nat} (h : Bx w g p q) (hq : q < 18446744073709551616) : Nv w (some ⟨g, 1, none⟩) 1 1 q :=
  ⟨[q], h.rd 1, rfl, by omega, by omega, (Low.nil _).cons hq, by simp [ev]⟩

theorem Bx.drew {w : World} {g p q : Nat} (h : Bx w g p q) : Bx w.drew g p q := h

/-- Behind 'p, q := From(w[:1]), From(w[1:])'. -/
def PqCut (wb : World) (p q : Nat) (v u : Value) (wx : World) : Prop :=
  ∃ (A B : Option Addr) (n c m d : Nat), v = .slice A n c ∧ u = .slice B m d ∧ Dv wx A n c p ∧ Dv wx B m d q ∧ n ≤ 4 ∧ m ≤ 4 ∧ Below wb.heap.size wb wx

theorem rmul_v {A B : Option Addr} {n m c d x y : Nat} {w : World} (hx : Dv w A n c x) (hy : Dv w B m d y) (hn : n ≤ 1099511627776) (hm : m ≤ 1099511627776) :
    Calls Try.prog 21 #[.slice A n c, .slice B m d] w (DvPost (x * y) (n + m) w) := rmul_calls A B n m c d x y w hx hy hn hm

set_option maxHeartbeats 1000000 in
theorem muls_few (A B : Option Addr) (n m c d : Nat) (x y p q : Nat) (w : World) (ha : Nv w A n c x) (hb : Nv w B m d y) (h1 : (n : Int) ≤ 20) (h2 : (m : Int) ≤ 20) (hp : p < 18446744073709551616) (hq : q < 18446744073709551616) :
    Calls Try.prog 4 #[.slice A n c, .slice B m d, .agg #[.int .u64 p, .int .u64 q]] w (TruePost w) := by
  have hW := (Below.refl w.heap.size w).alloc (Nat.le_refl _) (.cells #[.int .u64 p, .int .u64 q] 38)
  have b3 : ((0 : Nat) : Int) ≤ 20 := by omega
  have hbox : Bx (w.alloc (.cells #[.int .u64 p, .int .u64 q] 38)) w.heap.size p q := .inr (heap_alloc_new w _)
  replace ha := ha.below hW
  replace hb := hb.below hW
  go_enter Try.func4, Try.ntmps4
  go_wp2_with fail
  refine (awake_calls _).mono ?_
  rintro e w1 ⟨rfl, B1⟩
  replace ha := ha.below B1
  replace hb := hb.below B1
  replace hbox := hbox.below B1
  replace hW := hW.trans (B1.mono hW.size)
  go_wp2_with fail
  refine (few_yes _ _ _ _ _ _ _ _ _ _ _ (by omega) (by omega) (by omega)).mono ?_
  rintro e w2 ⟨rfl, rfl⟩
  go_wp2_with fail
  refine (from_v ha (by omega)).mono ?_
  rintro e w3 ⟨A3, n3, c3, rfl, dx, k3, B3⟩
  replace ha := ha.below B3
  replace hb := hb.below B3
  replace hbox := hbox.below B3
  replace hW := hW.trans (B3.mono hW.size)
  go_wp2_with fail
  refine (from_v hb (by omega)).mono ?_
  rintro e w4 ⟨A4, n4, c4, rfl, dy, k4, B4⟩
  replace ha := ha.below B4
  replace hb := hb.below B4
  replace hbox := hbox.below B4
  replace dx := dx.below B4
  replace hW := hW.trans (B4.mono hW.size)
  go_upto_region 4 with fail
  go_cut [9, 10] (PqCut w4 p q)
  case first =>
    go_region_with (first
      | (go_at_call_of 11 (Value.slice (some ⟨w.heap.size, 0, none⟩) 1 2); refine (from_v (w := World.drew _) (hbox.drew.nv_low hp) (by omega)).mono ?_; rintro e w5 ⟨A5, n5, c5, rfl, p5, k5, b5⟩)
      | (go_at_call_of 11 (Value.slice (some ⟨w.heap.size, 1, none⟩) 1 1); refine (from_v ((hbox.drew.below b5).nv_high hq) (by omega)).mono ?_; rintro e w6 ⟨A6, n6, c6, rfl, p6, k6, b6⟩))
    all_goals
      go_wp2_with fail
      go_meet
      exact ⟨A5, A6, n5, c5, n6, c6, rfl, rfl, p5.below b6, p6, by omega, by omega, ((Below.refl _ _).drew).trans (b5.trans (b6.mono b5.size))⟩
  case rest =>
    obtain ⟨A5, A6, n5, c5, n6, c6, rfl, rfl, dp, dq, k5, k6, B5⟩ := hcut
    replace ha := ha.below B5
    replace hb := hb.below B5
    replace hbox := hbox.below B5
    replace dx := dx.below B5
    replace dy := dy.below B5
    replace hW := hW.trans (B5.mono hW.size)
    go_wp2_with fail
    refine (mulc_v ha hb (by omega) (by omega)).mono ?_
    rintro e w21 ⟨A21, n21, c21, rfl, m1, k21, B21⟩
    replace ha := ha.below B21
    replace hb := hb.below B21
    replace hbox := hbox.below B21
    replace dx := dx.below B21
    replace dy := dy.below B21
    replace dp := dp.below B21
    replace dq := dq.below B21
    replace hW := hW.trans (B21.mono hW.size)
    go_wp2_with fail
    refine (rmul_v dx dy (by omega) (by omega)).mono ?_
    rintro e w22 ⟨A22, n22, c22, rfl, m2, k22, B22⟩
    replace ha := ha.below B22
    replace hb := hb.below B22
    replace hbox := hbox.below B22
    replace dx := dx.below B22
    replace dy := dy.below B22
    replace dp := dp.below B22
    replace dq := dq.below B22
    replace m1 := m1.below B22
    replace hW := hW.trans (B22.mono hW.size)
    go_wp2_with fail
    refine (is_v m1 m2 (by omega) rfl).mono ?_
    rintro e w23 ⟨rfl, B23⟩
    replace ha := ha.below B23
    replace hb := hb.below B23
    replace hbox := hbox.below B23
    replace dx := dx.below B23
    replace dy := dy.below B23
    replace dp := dp.below B23
    replace dq := dq.below B23
    replace m1 := m1.below B23
    replace m2 := m2.below B23
    replace hW := hW.trans (B23.mono hW.size)
    clear m1 m2
    have b0 := hbox.cell0
    have b1 := hbox.cell1
    go_wp2_with fail
    clear b0 b1
    refine (muladd_v ha (by omega) hp hq).mono ?_
    rintro e w24 ⟨A24, n24, c24, rfl, m3, k24, B24⟩
    replace ha := ha.below B24
    replace hb := hb.below B24
    replace hbox := hbox.below B24
    replace dx := dx.below B24
    replace dy := dy.below B24
    replace dp := dp.below B24
    replace dq := dq.below B24
    replace hW := hW.trans (B24.mono hW.size)
    go_wp2_with fail
    refine (rmul_v dx dp (by omega) (by omega)).mono ?_
    rintro e w25 ⟨A25, n25, c25, rfl, m4, k25, B25⟩
    replace ha := ha.below B25
    replace hb := hb.below B25
    replace hbox := hbox.below B25
    replace dx := dx.below B25
    replace dy := dy.below B25
    replace dp := dp.below B25
    replace dq := dq.below B25
    replace m3 := m3.below B25
    replace hW := hW.trans (B25.mono hW.size)
    go_wp2_with fail
    refine (radd_v m4 dq (by omega) (by omega)).mono ?_
    rintro e w26 ⟨A26, n26, c26, rfl, m5, k26, B26⟩
    replace ha := ha.below B26
    replace hb := hb.below B26
    replace hbox := hbox.below B26
    replace dx := dx.below B26
    replace dy := dy.below B26
    replace dp := dp.below B26
    replace dq := dq.below B26
    replace m3 := m3.below B26
    replace m4 := m4.below B26
    replace hW := hW.trans (B26.mono hW.size)
    go_wp2_with fail
    refine (is_v m3 m5 (by omega) rfl).mono ?_
    rintro e w27 ⟨rfl, B27⟩
    replace ha := ha.below B27
    replace hb := hb.below B27
    replace hbox := hbox.below B27
    replace dx := dx.below B27
    replace dy := dy.below B27
    replace dp := dp.below B27
    replace dq := dq.below B27
    replace m3 := m3.below B27
    replace m4 := m4.below B27
    replace m5 := m5.below B27
    replace hW := hW.trans (B27.mono hW.size)
    go_wp2
    go_ret
    exact ⟨rfl, hW⟩

theorem muls_calls (A B : Option Addr) (n m c d : Nat) (x y p q : Nat) (w : World) (ha : Nv w A n c x) (hb : Nv w B m d y) (hp : p < 18446744073709551616) (hq : q < 18446744073709551616) :
    Calls Try.prog 4 #[.slice A n c, .slice B m d, .agg #[.int .u64 p, .int .u64 q]] w (TruePost w) := by
  by_cases h : ((n : Int) ≤ 20 ∧ (m : Int) ≤ 20 ∧ ((0 : Nat) : Int) ≤ 20)
  · exact muls_few A B n m c d x y p q w ha hb h.1 h.2.1 hp hq
  · have hW := (Below.refl w.heap.size w).alloc (Nat.le_refl _) (.cells #[.int .u64 p, .int .u64 q] 38)
    go_enter Try.func4, Try.ntmps4
    go_wp2_with fail
    refine (awake_calls _).mono ?_
    rintro e w1 ⟨rfl, B1⟩
    replace hW := hW.trans (B1.mono hW.size)
    go_wp2_with fail
    refine (few_no _ _ _ _ _ _ _ _ _ _ _ h).mono ?_
    rintro e w2 ⟨rfl, rfl⟩
    clear h
    go_wp2_with fail
    refine (awake_calls _).mono ?_
    rintro e w3 ⟨rfl, B3⟩
    replace hW := hW.trans (B3.mono hW.size)
    go_wp2
    go_ret
    exact ⟨rfl, hW⟩
end Go.Proofs.Ytgdggpfldkmbdaa
