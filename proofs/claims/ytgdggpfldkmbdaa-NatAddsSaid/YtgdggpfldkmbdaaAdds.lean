/-
  For every input quincunxlaw01.NatAdds returns true and leaves what was there as it was: the walk.
-/
import Derived.Test.YtgdggpfldkmbdaaVal
import Derived.Test.YtgdggpfldkmbdaaOrder
namespace Go.Proofs.Ytgdggpfldkmbdaa
open Go.RowKit

set_option maxHeartbeats 1000000 in
theorem adds_ge (A B : Option Addr) (n m c d : Nat) (x y : Nat) (r : Int) (w : World) (ha : Nv w A n c x) (hb : Nv w B m d y)
    (h1 : (n : Int) ≤ 40) (h2 : (m : Int) ≤ 40) (E1 : Hid (cmpN x y = r)) (g1 : 0 ≤ r) (h : y ≤ x) :
    Calls Try.prog 3 #[.slice A n c, .slice B m d] w (TruePost w) := by
  have hW := Below.refl w.heap.size w
  have b3 : ((0 : Nat) : Int) ≤ 40 := by omega
  go_enter Try.func3, Try.ntmps3
  go_wp2_with fail
  refine (awake_calls _).mono ?_
  rintro e w1 ⟨rfl, B1⟩
  replace ha := ha.below B1
  replace hb := hb.below B1
  replace hW := hW.trans (B1.mono hW.size)
  go_wp2_with fail
  refine (few_yes _ _ _ _ _ _ _ _ _ _ _ (by omega) (by omega) (by omega)).mono ?_
  rintro e w2 ⟨rfl, rfl⟩
  go_wp2_with fail
  refine (from_v ha (by omega)).mono ?_
  rintro e w3 ⟨A3, n3, c3, rfl, dx, k3, B3⟩
  replace ha := ha.below B3
  replace hb := hb.below B3
  replace hW := hW.trans (B3.mono hW.size)
  go_wp2_with fail
  refine (from_v hb (by omega)).mono ?_
  rintro e w4 ⟨A4, n4, c4, rfl, dy, k4, B4⟩
  replace ha := ha.below B4
  replace hb := hb.below B4
  replace dx := dx.below B4
  replace hW := hW.trans (B4.mono hW.size)
  go_wp2_with fail
  refine (rcmp_v dx dy E1.out).mono ?_
  rintro e w5 ⟨rfl, B5⟩
  replace ha := ha.below B5
  replace hb := hb.below B5
  replace dx := dx.below B5
  replace dy := dy.below B5
  replace hW := hW.trans (B5.mono hW.size)
  go_wp2_with fail
  refine (subc_yes ha hb (by omega) h).mono ?_
  rintro e w6 ⟨A6, n6, c6, rfl, hd, k6, B6⟩
  replace ha := ha.below B6
  replace hb := hb.below B6
  replace dx := dx.below B6
  replace dy := dy.below B6
  replace hW := hW.trans (B6.mono hW.size)
  go_wp2_with fail
  refine (cmp_as ha hb E1.out).mono ?_
  rintro e w7 ⟨rfl, B7⟩
  replace ha := ha.below B7
  replace hb := hb.below B7
  replace dx := dx.below B7
  replace dy := dy.below B7
  replace hd := hd.below B7
  replace hW := hW.trans (B7.mono hW.size)
  go_wp2_with fail
  refine (addc_v ha hb (by omega) (by omega)).mono ?_
  rintro e w8 ⟨A8, n8, c8, rfl, s1, k8, B8⟩
  replace ha := ha.below B8
  replace hb := hb.below B8
  replace dx := dx.below B8
  replace dy := dy.below B8
  replace hd := hd.below B8
  replace hW := hW.trans (B8.mono hW.size)
  go_wp2_with fail
  refine (radd_v dx dy (by omega) (by omega)).mono ?_
  rintro e w9 ⟨A9, n9, c9, rfl, s2, k9, B9⟩
  replace ha := ha.below B9
  replace hb := hb.below B9
  replace dx := dx.below B9
  replace dy := dy.below B9
  replace hd := hd.below B9
  replace s1 := s1.below B9
  replace hW := hW.trans (B9.mono hW.size)
  go_wp2_with fail
  refine (is_v s1 s2 (by omega) rfl).mono ?_
  rintro e w10 ⟨rfl, B10⟩
  replace ha := ha.below B10
  replace hb := hb.below B10
  replace dx := dx.below B10
  replace dy := dy.below B10
  replace hd := hd.below B10
  replace s1 := s1.below B10
  replace s2 := s2.below B10
  replace hW := hW.trans (B10.mono hW.size)
  go_wp2_with fail
  clear s1 s2
  refine (normc_v ha (by omega)).mono ?_
  rintro e w11 ⟨A11, n11, c11, rfl, s3, k11, B11⟩
  replace ha := ha.below B11
  replace hb := hb.below B11
  replace dx := dx.below B11
  replace dy := dy.below B11
  replace hd := hd.below B11
  replace hW := hW.trans (B11.mono hW.size)
  go_wp2_with fail
  refine (is_v s3 dx (by omega) rfl).mono ?_
  rintro e w12 ⟨rfl, B12⟩
  replace ha := ha.below B12
  replace hb := hb.below B12
  replace dx := dx.below B12
  replace dy := dy.below B12
  replace hd := hd.below B12
  replace s3 := s3.below B12
  replace hW := hW.trans (B12.mono hW.size)
  go_wp2_with fail
  clear s3
  refine (rsub_v dx dy (by omega) h).mono ?_
  rintro e w13 ⟨A13, n13, c13, rfl, s4, k13, B13⟩
  replace ha := ha.below B13
  replace hb := hb.below B13
  replace dx := dx.below B13
  replace dy := dy.below B13
  replace hd := hd.below B13
  replace hW := hW.trans (B13.mono hW.size)
  go_wp2_with fail
  refine (is_v hd s4 (by omega) rfl).mono ?_
  rintro e w14 ⟨rfl, B14⟩
  replace ha := ha.below B14
  replace hb := hb.below B14
  replace dx := dx.below B14
  replace dy := dy.below B14
  replace hd := hd.below B14
  replace s4 := s4.below B14
  replace hW := hW.trans (B14.mono hW.size)
  go_wp2
  go_ret
  exact ⟨rfl, hW⟩

set_option maxHeartbeats 1000000 in
theorem adds_lt (A B : Option Addr) (n m c d : Nat) (x y : Nat) (r : Int) (w : World) (ha : Nv w A n c x) (hb : Nv w B m d y)
    (h1 : (n : Int) ≤ 40) (h2 : (m : Int) ≤ 40) (E1 : Hid (cmpN x y = r)) (g1 : r < 0) (h : x < y) :
    Calls Try.prog 3 #[.slice A n c, .slice B m d] w (TruePost w) := by
  have hW := Below.refl w.heap.size w
  have b3 : ((0 : Nat) : Int) ≤ 40 := by omega
  go_enter Try.func3, Try.ntmps3
  go_wp2_with fail
  refine (awake_calls _).mono ?_
  rintro e w1 ⟨rfl, B1⟩
  replace ha := ha.below B1
  replace hb := hb.below B1
  replace hW := hW.trans (B1.mono hW.size)
  go_wp2_with fail
  refine (few_yes _ _ _ _ _ _ _ _ _ _ _ (by omega) (by omega) (by omega)).mono ?_
  rintro e w2 ⟨rfl, rfl⟩
  go_wp2_with fail
  refine (from_v ha (by omega)).mono ?_
  rintro e w3 ⟨A3, n3, c3, rfl, dx, k3, B3⟩
  replace ha := ha.below B3
  replace hb := hb.below B3
  replace hW := hW.trans (B3.mono hW.size)
  go_wp2_with fail
  refine (from_v hb (by omega)).mono ?_
  rintro e w4 ⟨A4, n4, c4, rfl, dy, k4, B4⟩
  replace ha := ha.below B4
  replace hb := hb.below B4
  replace dx := dx.below B4
  replace hW := hW.trans (B4.mono hW.size)
  go_wp2_with fail
  refine (rcmp_v dx dy E1.out).mono ?_
  rintro e w5 ⟨rfl, B5⟩
  replace ha := ha.below B5
  replace hb := hb.below B5
  replace dx := dx.below B5
  replace dy := dy.below B5
  replace hW := hW.trans (B5.mono hW.size)
  go_wp2_with fail
  refine (sub_no ha hb (by omega) h).mono ?_
  rintro e w6 ⟨⟨A6, c6, rfl⟩, B6⟩
  replace ha := ha.below B6
  replace hb := hb.below B6
  replace dx := dx.below B6
  replace dy := dy.below B6
  replace hW := hW.trans (B6.mono hW.size)
  go_wp2_with fail
  refine (cmp_as ha hb E1.out).mono ?_
  rintro e w7 ⟨rfl, B7⟩
  replace ha := ha.below B7
  replace hb := hb.below B7
  replace dx := dx.below B7
  replace dy := dy.below B7
  replace hW := hW.trans (B7.mono hW.size)
  go_wp2_with fail
  refine (addc_v ha hb (by omega) (by omega)).mono ?_
  rintro e w8 ⟨A8, n8, c8, rfl, s1, k8, B8⟩
  replace ha := ha.below B8
  replace hb := hb.below B8
  replace dx := dx.below B8
  replace dy := dy.below B8
  replace hW := hW.trans (B8.mono hW.size)
  go_wp2_with fail
  refine (radd_v dx dy (by omega) (by omega)).mono ?_
  rintro e w9 ⟨A9, n9, c9, rfl, s2, k9, B9⟩
  replace ha := ha.below B9
  replace hb := hb.below B9
  replace dx := dx.below B9
  replace dy := dy.below B9
  replace s1 := s1.below B9
  replace hW := hW.trans (B9.mono hW.size)
  go_wp2_with fail
  refine (is_v s1 s2 (by omega) rfl).mono ?_
  rintro e w10 ⟨rfl, B10⟩
  replace ha := ha.below B10
  replace hb := hb.below B10
  replace dx := dx.below B10
  replace dy := dy.below B10
  replace s1 := s1.below B10
  replace s2 := s2.below B10
  replace hW := hW.trans (B10.mono hW.size)
  go_wp2_with fail
  clear s1 s2
  refine (normc_v ha (by omega)).mono ?_
  rintro e w11 ⟨A11, n11, c11, rfl, s3, k11, B11⟩
  replace ha := ha.below B11
  replace hb := hb.below B11
  replace dx := dx.below B11
  replace dy := dy.below B11
  replace hW := hW.trans (B11.mono hW.size)
  go_wp2_with fail
  refine (is_v s3 dx (by omega) rfl).mono ?_
  rintro e w12 ⟨rfl, B12⟩
  replace ha := ha.below B12
  replace hb := hb.below B12
  replace dx := dx.below B12
  replace dy := dy.below B12
  replace s3 := s3.below B12
  replace hW := hW.trans (B12.mono hW.size)
  go_wp2
  go_ret
  exact ⟨rfl, hW⟩

theorem adds_calls (A B : Option Addr) (n m c d : Nat) (x y : Nat) (w : World) (ha : Nv w A n c x) (hb : Nv w B m d y) :
    Calls Try.prog 3 #[.slice A n c, .slice B m d] w (TruePost w) := by
  by_cases h : ((n : Int) ≤ 40 ∧ (m : Int) ≤ 40 ∧ ((0 : Nat) : Int) ≤ 40)
  · rcases Nat.lt_or_ge x y with hl | hl
    · exact adds_lt A B n m c d x y _ w ha hb h.1 h.2.1 rfl (by rw [cmpN_lt hl]; omega) hl
    · refine adds_ge A B n m c d x y _ w ha hb h.1 h.2.1 rfl ?_ hl
      have := @cmpN_le y x
      rw [cmpN_swap x y] at this
      omega
  · have hW := Below.refl w.heap.size w
    go_enter Try.func3, Try.ntmps3
    go_wp2_with fail
    refine (awake_calls _).mono ?_
    rintro e w1 ⟨rfl, B1⟩
    replace hW := hW.trans (B1.mono hW.size)
    go_wp2_with fail
    refine (few_no _ _ _ _ _ _ _ _ _ _ _ h).mono ?_
    rintro e w2 ⟨rfl, rfl⟩
    clear h
    go_wp2_with fail
    refine (awake_calls _).mono ?_
    rintro e w3 ⟨rfl, B3⟩
    replace hW := hW.trans (B3.mono hW.size)
    go_wp2
    go_ret
    exact ⟨rfl, hW⟩
end Go.Proofs.Ytgdggpfldkmbdaa
