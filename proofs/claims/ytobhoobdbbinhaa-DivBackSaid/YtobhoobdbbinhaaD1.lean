/-
  The walks of DivSmall, DivBack.
-/
import Derived.Test.YtobhoobdbbinhaaDivE
/-! The walks of DivSmall, DivBack. -/
namespace Go.Proofs.Ytobhoobdbbinhaa
open Go.RowKit
set_option linter.unusedVariables false

theorem bits_v {A : Option Addr} {n c x : Nat} {w : World} (hx : Nv w A n c x) (hn : n ≤ 1099511627776) :
    Calls Try.prog 18 #[.slice A n c] w fun e w' => e = .returned (.int .i64 (bl x)) ∧ w = w' := by
  obtain ⟨xs, h1, h2, h3, h4, h5, rfl⟩ := hx
  exact bits_calls A n c xs w h1 h2 h3 h4 h5 hn
theorem bl_pos {x : Nat} (h : 0 < x) : 0 < bl x := bl_lt.2 (by simpa using h)

set_option maxHeartbeats 1000000 in
theorem dsmall_calls (A : Option Addr) (n c x0 x : Nat) (w : World) (ha : Nv w A n c x0) (hx : x < 18446744073709551616) (hn : n ≤ 9223372036854775807) :
    Calls Try.prog 5 #[.slice A n c, .int .u64 x] w (TruePost w) := by
  have hW := Below.refl w.heap.size w
  by_cases h1 : (n : Int) ≤ 20
  · rcases Nat.eq_zero_or_pos x with rfl | hx0
    · rw [show (((0 : Nat) : Int)) = 0 from rfl]
      go_enter Try.func5, Try.ntmps5
      go_wp2_with fail
      refine (dawake_calls _).mono ?_
      rintro e w1 ⟨rfl, B1⟩
      replace ha := ha.below B1
      replace hW := hW.trans (B1.mono hW.size)
      go_wp2_with fail
      refine (small_none).mono ?_
      rintro e w2 ⟨rfl, rfl⟩
      go_wp2
      go_ret
      exact ⟨rfl, hW⟩
    · have b1 : ((x : Int) == 0) = false := by rw [beq_eq_false_iff_ne]; omega
      go_enter Try.func5, Try.ntmps5
      go_wp2_with fail
      refine (dawake_calls _).mono ?_
      rintro e w1 ⟨rfl, B1⟩
      replace ha := ha.below B1
      replace hW := hW.trans (B1.mono hW.size)
      go_wp2_with fail
      refine (small_v ha (by omega) hx0 hx).mono ?_
      rintro e w2 ⟨A2, n2, c2, rfl, sq, k2, B2⟩
      replace ha := ha.below B2
      replace hW := hW.trans (B2.mono hW.size)
      go_wp2_with fail
      refine (ofc_v x hx _).mono ?_
      rintro e w3 ⟨A3, n3, c3, rfl, ox, k3, B3⟩
      replace ha := ha.below B3
      replace sq := sq.below B3
      replace hW := hW.trans (B3.mono hW.size)
      go_wp2_with fail
      refine (dm_v ha ox.nv (by omega) (by omega) hx0).mono ?_
      rintro e w4 ⟨A4, n4, c4, A4', n4', c4', rfl, du, dv, k4, k4', B4⟩
      replace ha := ha.below B4
      replace sq := sq.below B4
      replace ox := ox.below B4
      replace hW := hW.trans (B4.mono hW.size)
      go_wp2_with fail
      refine (same_v sq du rfl).mono ?_
      rintro e w5 ⟨rfl, B5⟩
      replace ha := ha.below B5
      replace sq := sq.below B5
      replace ox := ox.below B5
      replace du := du.below B5
      replace dv := dv.below B5
      replace hW := hW.trans (B5.mono hW.size)
      go_wp2_with fail
      refine (ofc_v (x0 % x) (Nat.lt_trans (Nat.mod_lt _ hx0) hx) _).mono ?_
      rintro e w6 ⟨A6, n6, c6, rfl, orr, k6, B6⟩
      replace ha := ha.below B6
      replace sq := sq.below B6
      replace ox := ox.below B6
      replace du := du.below B6
      replace dv := dv.below B6
      replace hW := hW.trans (B6.mono hW.size)
      go_wp2_with fail
      refine (same_v orr dv rfl).mono ?_
      rintro e w7 ⟨rfl, B7⟩
      replace ha := ha.below B7
      replace sq := sq.below B7
      replace ox := ox.below B7
      replace du := du.below B7
      replace dv := dv.below B7
      replace orr := orr.below B7
      replace hW := hW.trans (B7.mono hW.size)
      go_wp2
      go_ret
      exact ⟨rfl, hW⟩
  · go_enter Try.func5, Try.ntmps5
    go_wp2_with fail
    refine (dawake_calls _).mono ?_
    rintro e w1 ⟨rfl, B1⟩
    replace hW := hW.trans (B1.mono hW.size)
    go_wp2_with fail
    refine (dawake_calls _).mono ?_
    rintro e w2 ⟨rfl, B2⟩
    replace hW := hW.trans (B2.mono hW.size)
    go_wp2
    go_ret
    exact ⟨rfl, hW⟩


set_option maxHeartbeats 1000000 in
theorem dback_calls (A B : Option Addr) (n m c d x y : Nat) (w : World) (ha : Nv w A n c x) (hb : Nv w B m d y) (hn : n ≤ 9223372036854775807) (hm : m ≤ 9223372036854775807) :
    Calls Try.prog 4 #[.slice A n c, .slice B m d] w (TruePost w) := by
  have hW := Below.refl w.heap.size w
  by_cases h1 : (n : Int) ≤ 30
  · by_cases h2 : (m : Int) ≤ 30
    · rcases Nat.eq_zero_or_pos y with hy | hy
      · have b1 : (((bl y : Nat) : Int) == 0) = true := by rw [hy]; rfl
        clear hy
        go_enter Try.func4, Try.ntmps4
        go_wp2_with fail
        refine (dawake_calls _).mono ?_
        rintro e w1 ⟨rfl, B1⟩
        replace ha := ha.below B1
        replace hb := hb.below B1
        replace hW := hW.trans (B1.mono hW.size)
        go_wp2_with fail
        refine (bits_v hb (by omega)).mono ?_
        rintro e w2 ⟨rfl, rfl⟩
        go_wp2_with fail
        refine (dawake_calls _).mono ?_
        rintro e w3 ⟨rfl, B3⟩
        replace ha := ha.below B3
        replace hb := hb.below B3
        replace hW := hW.trans (B3.mono hW.size)
        go_wp2
        go_ret
        exact ⟨rfl, hW⟩
      · have b2 := bl_pos hy
        have b1 : (((bl y : Nat) : Int) == 0) = false := by rw [beq_eq_false_iff_ne]; omega
        clear b2
        go_enter Try.func4, Try.ntmps4
        go_wp2_with fail
        refine (dawake_calls _).mono ?_
        rintro e w1 ⟨rfl, B1⟩
        replace ha := ha.below B1
        replace hb := hb.below B1
        replace hW := hW.trans (B1.mono hW.size)
        go_wp2_with fail
        refine (bits_v hb (by omega)).mono ?_
        rintro e w2 ⟨rfl, rfl⟩
        go_wp2_with fail
        refine (dm_v ha hb (by omega) (by omega) hy).mono ?_
        rintro e w3 ⟨A3, n3, c3, A3', n3', c3', rfl, du, dv, k3, k3', B3⟩
        replace ha := ha.below B3
        replace hb := hb.below B3
        replace hW := hW.trans (B3.mono hW.size)
        go_wp2_with fail
        refine (cmp_as dv.nv hb (cmpN_lt (Nat.mod_lt _ hy))).mono ?_
        rintro e w4 ⟨rfl, B4⟩
        replace ha := ha.below B4
        replace hb := hb.below B4
        replace du := du.below B4
        replace dv := dv.below B4
        replace hW := hW.trans (B4.mono hW.size)
        go_wp2_with fail
        refine (mulc_v du.nv hb (by omega) (by omega)).mono ?_
        rintro e w5 ⟨A5, n5, c5, rfl, m1, k5, B5⟩
        replace ha := ha.below B5
        replace hb := hb.below B5
        replace du := du.below B5
        replace dv := dv.below B5
        replace hW := hW.trans (B5.mono hW.size)
        go_wp2_with fail
        refine (addc_v m1.nv dv.nv (by omega) (by omega)).mono ?_
        rintro e w6 ⟨A6, n6, c6, rfl, m2, k6, B6⟩
        replace ha := ha.below B6
        replace hb := hb.below B6
        replace du := du.below B6
        replace dv := dv.below B6
        replace m1 := m1.below B6
        replace hW := hW.trans (B6.mono hW.size)
        go_wp2_with fail
        refine (cmp_same_v m2.nv ha (by rw [Nat.mul_comm]; exact Nat.div_add_mod _ _)).mono ?_
        rintro e w7 ⟨rfl, B7⟩
        replace ha := ha.below B7
        replace hb := hb.below B7
        replace du := du.below B7
        replace dv := dv.below B7
        replace m1 := m1.below B7
        replace m2 := m2.below B7
        replace hW := hW.trans (B7.mono hW.size)
        go_wp2
        go_ret
        exact ⟨rfl, hW⟩
    · go_enter Try.func4, Try.ntmps4
      go_wp2_with fail
      refine (dawake_calls _).mono ?_
      rintro e w1 ⟨rfl, B1⟩
      replace hW := hW.trans (B1.mono hW.size)
      go_wp2_with fail
      refine (dawake_calls _).mono ?_
      rintro e w2 ⟨rfl, B2⟩
      replace hW := hW.trans (B2.mono hW.size)
      go_wp2
      go_ret
      exact ⟨rfl, hW⟩

  · go_enter Try.func4, Try.ntmps4
    go_wp2_with fail
    refine (dawake_calls _).mono ?_
    rintro e w1 ⟨rfl, B1⟩
    replace hW := hW.trans (B1.mono hW.size)
    go_wp2_with fail
    refine (dawake_calls _).mono ?_
    rintro e w2 ⟨rfl, B2⟩
    replace hW := hW.trans (B2.mono hW.size)
    go_wp2
    go_ret
    exact ⟨rfl, hW⟩

end Go.Proofs.Ytobhoobdbbinhaa
