/-
  Package modn: joinAll.
-/
import Derived.Test.YtbcopicoldnahaaGreatCrtF
import Derived.Test.YtbcopicoldnahaaGreatCrtG
import Derived.RegionTactic
import Derived.BigRegion
import Derived.Deep.RegionHeld3
import Derived.Deep.RegionLaw
import Derived.Deep.LoopGhost
/-! Contract: modn.joinAll. -/
namespace Go.Proofs.YtbcopicoldnahaaGreat
open Go.RowKit
set_option linter.unusedVariables false
set_option linter.unusedSimpArgs false

/-- The rests and moduli of classes. -/
def prs (R : List Cls) : List (Int × Int) := R.map fun x => (x.r, x.q)
/-- Rests are below their moduli. -/
def ClsIn (R : List Cls) : Prop := ∀ x, x ∈ R → 0 ≤ x.r ∧ x.r < x.q
theorem prs_perm {R R' : List Cls} (h : R.Perm R') : (prs R).Perm (prs R') := h.map _
theorem ClsIn.perm {R R' : List Cls} (h : ClsIn R) (k : R'.Perm R) : ClsIn R' := fun x hx => h x (k.subset hx)
theorem SameL.perm' {R R' : List Cls} {L : List (Int × Int)} (h : SameL (prs R) L) (k : R'.Perm R) : SameL (prs R') L := (SameL.perm (prs_perm k)).trans h
theorem Zc.le {w : World} {s : Bool} {A : Option Addr} {n c N : Nat} {z : Int} (h : Zc w s A n c z) (hz : z.natAbs < 18446744073709551616 ^ N) : n ≤ N := by
  have := cn_len_of_lt 18446744073709551616 z.natAbs N (by omega) hz
  rw [h.1.2.1] at this
  exact this
/-- What joinAll answers. -/
def JaPost (b : Nat) (L : List (Int × Int)) (w : World) (e : Ending) (w' : World) : Prop :=
  (∃ x : Cls, e = .returned (.tuple #[.agg #[.bool x.s, .slice x.A x.n x.c, .bool x.t, .slice x.B x.m x.d], .bool true]) ∧ x.ok w' ∧ (0 ≤ x.r ∧ x.r < x.q ∧ x.q.natAbs = lcmL L ∧ Sat L x.r) ∧ Below b w w') ∨
    (e = .returned (.tuple #[.agg #[.bool false, .slice none 0 0, .bool false, .slice none 0 0], .bool false]) ∧ ¬ Agree L ∧ Below b w w')
theorem ja_one {x : Cls} {L : List (Int × Int)} (h : SameL (prs [x]) L) (h0 : 0 ≤ x.r ∧ x.r < x.q) : 0 ≤ x.r ∧ x.r < x.q ∧ x.q.natAbs = lcmL L ∧ Sat L x.r := by
  have e : ∀ z : Int, x.q ∣ z ↔ ((lcmL L : Nat) : Int) ∣ z := fun z => by
    rw [← dvs_lcm, ← h.2 z]
    exact ⟨fun k y hy => by simp [prs] at hy; subst hy; exact k, fun k => k (x.r, x.q) (by simp [prs])⟩
  refine ⟨h0.1, h0.2, ?_, ?_⟩
  · have e1 := Int.natAbs_dvd_natAbs.2 ((e x.q).1 (Int.dvd_refl _))
    have e2 := Int.natAbs_dvd_natAbs.2 ((e ((lcmL L : Nat) : Int)).2 (Int.dvd_refl _))
    rw [Int.natAbs_natCast] at e1 e2
    exact Nat.dvd_antisymm e2 e1
  · rw [← h.1]
    intro y hy
    simp [prs] at hy
    subst hy
    exact ⟨0, by simp⟩
theorem ja_yes {b g : Nat} {L : List (Int × Int)} {w w2 : World} {x : Cls} (hB : Blk4 w2 g) (hx : x.ok w2) (hp : 0 ≤ x.r ∧ x.r < x.q ∧ x.q.natAbs = lcmL L ∧ Sat L x.r) (hk : Below b w w2) (hg : b ≤ g) :
    JaPost b L w (.returned (.tuple #[.agg #[.bool x.s, .slice x.A x.n x.c, .bool x.t, .slice x.B x.m x.d], .bool true])) (clput w2 g x.s x.A x.n x.c x.t x.B x.m x.d) :=
  .inl ⟨x, rfl, ⟨zc_blk4 hx.1 hB, zc_blk4 hx.2.1 hB, hx.2.2⟩, hp, below_clput hk hg⟩
theorem ja_no {b g : Nat} {L : List (Int × Int)} {w w2 : World} (hp : ¬ Agree L) (hk : Below b w w2) (hg : b ≤ g) :
    JaPost b L w (.returned (.tuple #[.agg #[.bool false, .slice none 0 0, .bool false, .slice none 0 0], .bool false])) (clput w2 g false none 0 0 false none 0 0) :=
  .inr ⟨rfl, hp, below_clput hk hg⟩
/-- In the loop: k classes are left. -/
def JaRel (b : Nat) (w : World) (p g rb : Nat) (L : List (Int × Int)) (k : Nat) (wr : World) : Prop :=
  ∃ (R : List Cls) (q : Nat), R.length = k ∧ 0 < k ∧ k ≤ 1000 ∧ CPile b wr p g R q ∧ ClsOk wr R ∧ ClsIn R ∧ SameL (prs R) L ∧ Blk4 wr rb ∧ Hc b w wr
theorem ja_len {N : Nat} {R M : Int} {X L : List (Int × Int)} (h : SameL (X ++ [(R, M)]) L) (hP : PosL L) (hN : Hid (lcmL L < 18446744073709551616 ^ N)) (h0 : 0 ≤ R) (h1 : R < M) : R.natAbs < 18446744073709551616 ^ N ∧ M.natAbs < 18446744073709551616 ^ N := by
  have e := h.le hP (x := (R, M)) (by simp) (by show 0 < M; omega)
  have e : M.natAbs ≤ lcmL L := e
  have k := hN.out
  have r : R.natAbs ≤ M.natAbs := by omega
  exact ⟨Nat.lt_of_le_of_lt (Nat.le_trans r e) k, Nat.lt_of_le_of_lt e k⟩
set_option maxRecDepth 100000 in
set_option maxHeartbeats 4000000 in
theorem joinall_none {b p g q : Nat} {L : List (Int × Int)} {w : World} (h : CPile b w p g [] q) (hL : SameL (prs []) L) (hb : b ≤ w.heap.size) :
    Calls Tryz.prog 15 #[.pointer (some ⟨p, 0, none⟩)] w (JaPost b L w) := by
  obtain ⟨w1, hw1⟩ : ∃ w1, w1 = w.alloc (.cells #[.bool false, .slice none 0 0, .bool false, .slice none 0 0] 40) := ⟨_, rfl⟩
  have z0 : Below w.heap.size w w1 := by rw [hw1]; exact zba _ _
  have B0 : Blk4 w1 w.heap.size := by rw [hw1]; exact Blk4.new _ _ _ _ _ _ _ _ _
  have HW := Lib.hid hw1.symm
  clear hw1
  go_enter Tryz.func15, Tryz.ntmps15
  go_wp2_with fail
  rw [HW.out]
  refine (clen_calls (h.below z0)).mono ?_
  rintro e w2 ⟨rfl, rfl⟩
  go_wp2_with fail
  refine (zof_v 1 (by omega) (by omega) _).mono ?_
  rintro e w3 ⟨s, A, n, c, rfl, p3, k3, B3⟩
  have Q := B0.shp (Shp.of_below B3)
  obtain ⟨v0, v1, v2, v3, c0, c1, c2, c3, _⟩ := Q.cells
  have f0 := Q.free 0
  have f1 := Q.free 1
  have f2 := Q.free 2
  have f3 := Q.free 3
  have hk : Below b w w3 := (z0.mono hb).trans (B3.mono (Nat.le_trans hb z0.size))
  have J : SameL (prs [⟨false, none, 0, 0, s, A, n, c, 0, 1⟩]) L := by
    refine SameL.trans ⟨fun z => ⟨fun _ x hx => (by cases hx), fun _ x hx => ?_⟩, fun z => ⟨fun _ x hx => (by cases hx), fun _ x hx => ?_⟩⟩ hL
    · simp [prs] at hx; subst hx; exact ⟨z, by simp⟩
    · simp [prs] at hx; subst hx; exact ⟨z, by simp⟩
  have P : Hid _ := Lib.hid (ja_yes (x := ⟨false, none, 0, 0, s, A, n, c, 0, 1⟩) Q ⟨Zc.none0 w3, p3, by show 0 ≤ 1048576; omega, by show n ≤ 1048576; omega⟩ (ja_one J ⟨Int.le_refl _, by show (0 : Int) < 1; omega⟩) hk hb)
  unfold clput at P
  clear J Q
  go_wp2_with fail
  exact bodyPost_ret (v := .tuple #[.agg #[.bool false, .slice none 0 0, .bool s, .slice A n c], .bool true]) (by simp [results, Tryz.results15, go_sem, c0, c1, c2, c3]) rfl P.out
set_option maxRecDepth 100000 in
set_option maxHeartbeats 16000000 in
theorem joinall_some {b p g q N : Nat} {R : List Cls} {L : List (Int × Int)} {w : World} (h : CPile b w p g R q) (ho : ClsOk w R) (hi : ClsIn R) (hL : SameL (prs R) L) (hP : PosL L) (hN : Hid (lcmL L < 18446744073709551616 ^ N)) (hN2 : N ≤ 1048576) (hR : R.length ≤ 1000) (hpos : 0 < R.length) (hb : b ≤ w.heap.size) :
    Calls Tryz.prog 15 #[.pointer (some ⟨p, 0, none⟩)] w (JaPost b L w) := by
  obtain ⟨w1, hw1⟩ : ∃ w1, w1 = w.alloc (.cells #[.bool false, .slice none 0 0, .bool false, .slice none 0 0] 40) := ⟨_, rfl⟩
  have z0 : Below w.heap.size w w1 := by rw [hw1]; exact zba _ _
  have B0 : Blk4 w1 w.heap.size := by rw [hw1]; exact Blk4.new _ _ _ _ _ _ _ _ _
  have HW := Lib.hid hw1.symm
  clear hw1
  have hne : (((R.length : Nat) : Int) == 0) = false := by rw [beq_eq_false_iff_ne]; omega
  have k0 : Hc b w w1 := Hc.of_below z0 hb
  have hl := h.lt
  go_enter Tryz.func15, Tryz.ntmps15
  go_wp2_with fail
  rw [HW.out]
  refine (clen_calls (h.below z0)).mono ?_
  rintro e w2 ⟨rfl, rfl⟩
  go_wp2
  go_loopg [] R.length (fun k wr => JaRel b w p g w.heap.size L k wr)
  case atStart => exact ⟨R, q, rfl, hpos, hR, h.below z0, ho.below z0, hi, hL, B0, k0⟩
  case round =>
    clear h ho hi hL k0 B0 z0 hne
    obtain ⟨R1, q1, hk, hp1, hk2, h1, o1, i1, s1, b1, k1⟩ := hrel
    have hb1 : b ≤ wr.heap.size := Nat.le_trans hb k1.1.size
    have hl1 : R1.length ≤ 1000 := by omega
    have HK := Lib.hid hk
    clear hk
    by_cases hgt : 1 < R1.length
    · go_wp2_with fail
      refine (clen_calls h1).mono ?_
      rintro e w1 ⟨rfl, rfl⟩
      go_wp2_with fail
      refine (ctake_calls h1 o1 hl1 hb1 (by omega)).mono ?_
      rintro e w2 ⟨r, R2, he, p1, h2, k2⟩
      obtain rfl : e = .returned (.agg #[.bool r.s, .slice r.A r.n r.c, .bool r.t, .slice r.B r.m r.d]) := he
      have hl2 : R2.length + 1 = R1.length := p1.length_eq
      have o2 := (o1.perm p1).hc k2
      have o2' : ClsOk w2 R2 := fun x hx => o2 x (List.mem_cons_of_mem _ hx)
      have hb2 : b ≤ w2.heap.size := Nat.le_trans hb1 k2.1.size
      go_wp2_with fail
      refine (ctake_calls h2 o2' (by omega) hb2 (by omega)).mono ?_
      rintro e w3 ⟨s, R3, he, p2, h3, k3⟩
      obtain rfl : e = .returned (.agg #[.bool s.s, .slice s.A s.n s.c, .bool s.t, .slice s.B s.m s.d]) := he
      have hl3 : R3.length + 1 = R2.length := p2.length_eq
      have hb3 : b ≤ w3.heap.size := Nat.le_trans hb2 k3.1.size
      have o3 := (o2'.perm p2).hc k3
      have or : r.ok w3 := (o2 r List.mem_cons_self).hc k3
      have os : s.ok w3 := o3 s List.mem_cons_self
      have o3' : ClsOk w3 R3 := fun x hx => o3 x (List.mem_cons_of_mem _ hx)
      have p12 : (r :: s :: R3).Perm R1 := (p2.cons r).trans p1
      have i3 := i1.perm p12
      have s3 : SameL ((r.r, r.q) :: (s.r, s.q) :: prs R3) L := s1.perm' p12
      have ir := i3 r List.mem_cons_self
      have is := i3 s (by simp)
      have i3' : ClsIn R3 := fun x hx => i3 x (by simp [hx])
      have k13 := k1.trans (k2.trans k3)
      have b3 : Blk4 w3 w.heap.size := b1.shp (k2.trans k3).2.2
      have L2 := Lib.hid hl2
      have L3 := Lib.hid hl3
      have IR := Lib.hid ir
      have IS := Lib.hid is
      clear hl2 hl3 o2 o2' o1 h1 h2 i1 i3 s1 b1 k1 k2 k3 p1 p2 p12 o3 ir is
      obtain ⟨w4, hw4⟩ : ∃ w4, w4 = (w3.alloc (.cells #[.bool r.s, .slice r.A r.n r.c, .bool r.t, .slice r.B r.m r.d] 40)).alloc (.cells #[.bool s.s, .slice s.A s.n s.c, .bool s.t, .slice s.B s.m s.d] 40) := ⟨_, rfl⟩
      have z4 : Below w3.heap.size w3 w4 := by rw [hw4]; exact zba2 _ _ _
      have HW4 := Lib.hid hw4.symm
      clear hw4
      replace h3 := h3.below z4
      replace or := or.below z4
      replace os := os.below z4
      replace o3' := o3'.below z4
      have k4 := k13.trans (Hc.of_below z4 hb3)
      have b4 := b3.shp (Shp.of_below z4)
      have hb4 : b ≤ w4.heap.size := Nat.le_trans hb3 z4.size
      clear z4 k13 b3
      by_cases hG : ((Nat.gcd s.q.natAbs r.q.natAbs : Nat) : Int) ∣ r.r - s.r
      · go_wp2_with fail
        rw [HW4.out]
        refine (join_yes or.1 or.2.1 os.1 os.2.1 or.2.2.1 or.2.2.2 os.2.2.1 os.2.2.2 (by have := IR.out; omega) (by have := IS.out; omega) IS.out.1 IS.out.2 hG).mono ?_
        rintro e w5 ⟨RR, M, HJ, ts, tA, tn, tc, tt, tB, tm, td, rfl, pr, pm, kr, km, B5⟩
        have J := SameL.trans (SameL.join (L := prs R3) HJ) s3
        have len := ja_len J hP hN HJ.1 HJ.2.1
        have tn1 := pr.le len.1
        have tm1 := pm.le len.2
        obtain ⟨t, ht⟩ : ∃ t : Cls, t = ⟨ts, tA, tn, tc, tt, tB, tm, td, RR, M⟩ := ⟨_, rfl⟩
        have ot : t.ok w5 := by rw [ht]; exact ⟨pr, pm, by show tn ≤ 1048576; omega, by show tm ≤ 1048576; omega⟩
        have it : 0 ≤ t.r ∧ t.r < t.q := by rw [ht]; exact ⟨HJ.1, HJ.2.1⟩
        have J2 : SameL (prs (R3 ++ [t])) L := by rw [ht]; simp only [prs, List.map_append, List.map_cons, List.map_nil]; exact J
        obtain rfl : ts = t.s := by rw [ht]
        obtain rfl : tA = t.A := by rw [ht]
        obtain rfl : tn = t.n := by rw [ht]
        obtain rfl : tc = t.c := by rw [ht]
        obtain rfl : tt = t.t := by rw [ht]
        obtain rfl : tB = t.B := by rw [ht]
        obtain rfl : tm = t.m := by rw [ht]
        obtain rfl : td = t.d := by rw [ht]
        replace h3 := h3.below B5
        replace o3' := o3'.below B5
        have o5 : ClsOk w5 (R3 ++ [t]) := fun x hx => by
          rcases List.mem_append.1 hx with hx | hx
          · exact o3' x hx
          · simp only [List.mem_singleton] at hx
            subst hx
            exact ot
        have i5 : ClsIn (R3 ++ [t]) := fun x hx => by
          rcases List.mem_append.1 hx with hx | hx
          · exact i3' x hx
          · simp only [List.mem_singleton] at hx
            subst hx
            exact it
        have k5 := k4.trans (Hc.of_below B5 hb4)
        have b5 := b4.shp (Shp.of_below B5)
        have hb5 : b ≤ w5.heap.size := Nat.le_trans hb4 B5.size
        clear B5 ot it J len tn1 tm1 ht pr pm kr km HJ k4 b4 or os o3' i3' s3
        have z6 := zba w5 (.cells #[.bool t.s, .slice t.A t.n t.c, .bool t.t, .slice t.B t.m t.d] 40)
        replace h3 := h3.below z6
        replace o5 := o5.below z6
        replace k5 := k5.trans (Hc.of_below z6 hb5)
        replace b5 := b5.shp (Shp.of_below z6)
        replace hb5 := Nat.le_trans hb5 z6.size
        clear z6
        go_wp2_with fail
        refine (cput_calls h3 o5 (by have := L2.out; have := L3.out; omega) hb5).mono ?_
        rintro e w6 ⟨rfl, R5, p5, h5, k6⟩
        have J : Hid (JaRel b w p g w.heap.size L (R1.length - 1) w6) := by
          have e1 := p5.length_eq
          rw [List.length_append, List.length_singleton] at e1
          have e2 := L2.out
          have e3 := L3.out
          exact ⟨R5, _, by omega, by omega, by omega, h5, (o5.perm p5).hc k6, i5.perm p5, J2.perm' p5, b5.shp k6.2.2, k5.trans k6⟩
        clear h5 k6 p5 k5 b5 o5 i5 J2
        go_wp2
        go_roundg (R1.length - 1)
        case measure => have := HK.out; omega
        case rel => exact J.out
      · have hA := SameL.none s3 hP hG
        go_wp2_with fail
        rw [HW4.out]
        refine (join_no or.1 or.2.1 os.1 os.2.1 or.2.2.1 or.2.2.2 os.2.2.1 os.2.2.2 (by have := IR.out; omega) (by have := IS.out; omega) IS.out.1 IS.out.2 hG).mono ?_
        rintro e w5 ⟨rfl, B5⟩
        have z6 := zba w5 (.cells #[.bool false, .slice none 0 0, .bool false, .slice none 0 0] 40)
        have b5 := (b4.shp (Shp.of_below B5)).shp (Shp.of_below z6)
        have k5 := (k4.trans (Hc.of_below B5 hb4)).trans (Hc.of_below z6 (Nat.le_trans hb4 B5.size))
        obtain ⟨v0, v1, v2, v3, c0, c1, c2, c3, _⟩ := b5.cells
        have f0 := b5.free 0
        have f1 := b5.free 1
        have f2 := b5.free 2
        have f3 := b5.free 3
        have P := Lib.hid (ja_no (b := b) (g := w.heap.size) (w := w) hA k5.1 hb)
        unfold clput at P
        clear hA z6 b5 k5 k4 b4 or os o3' i3' s3 h3
        go_wp2_with fail
        exact bodyPost_ret (v := .tuple #[.agg #[.bool false, .slice none 0 0, .bool false, .slice none 0 0], .bool false]) (by simp [results, Tryz.results15, go_sem, c0, c1, c2, c3]) rfl P.out
    · have h11 : R1.length = 1 := by have := HK.out; omega
      have H11 := Lib.hid h11
      go_wp2_with fail
      refine (clen_calls h1).mono ?_
      rintro e w1 ⟨rfl, rfl⟩
      rw [H11.out]
      go_wp2_with fail
      refine (ctake_calls h1 o1 hl1 hb1 (by omega)).mono ?_
      rintro e w2 ⟨r, R2, he, p1, h2, k2⟩
      obtain rfl : e = .returned (.agg #[.bool r.s, .slice r.A r.n r.c, .bool r.t, .slice r.B r.m r.d]) := he
      have hl2 : R2.length + 1 = R1.length := p1.length_eq
      have h20 : R2 = [] := List.eq_nil_of_length_eq_zero (by omega)
      subst h20
      have or := ((o1.perm p1).hc k2) r List.mem_cons_self
      have ir := (i1.perm p1) r List.mem_cons_self
      have sr := s1.perm' p1
      have b2 := b1.shp k2.2.2
      have k12 := k1.trans k2
      obtain ⟨v0, v1, v2, v3, c0, c1, c2, c3, _⟩ := b2.cells
      have f0 := b2.free 0
      have f1 := b2.free 1
      have f2 := b2.free 2
      have f3 := b2.free 3
      have P := Lib.hid (ja_yes b2 or (ja_one sr ir) k12.1 hb)
      unfold clput at P
      clear h11 hl2 or ir sr b2 k12 h2 p1 k2
      go_wp2_with fail
      exact bodyPost_ret (v := .tuple #[.agg #[.bool r.s, .slice r.A r.n r.c, .bool r.t, .slice r.B r.m r.d], .bool true]) (by simp [results, Tryz.results15, go_sem, c0, c1, c2, c3]) rfl P.out
theorem joinall_calls {b p g q N : Nat} {R : List Cls} {L : List (Int × Int)} {w : World} (h : CPile b w p g R q) (ho : ClsOk w R) (hi : ClsIn R) (hL : SameL (prs R) L) (hP : PosL L) (hN : Hid (lcmL L < 18446744073709551616 ^ N)) (hN2 : N ≤ 1048576) (hR : R.length ≤ 1000) (hb : b ≤ w.heap.size) :
    Calls Tryz.prog 15 #[.pointer (some ⟨p, 0, none⟩)] w (JaPost b L w) := by
  rcases Nat.eq_zero_or_pos R.length with h0 | hpos
  · obtain rfl := List.eq_nil_of_length_eq_zero h0
    exact joinall_none h hL hb
  · exact joinall_some h ho hi hL hP hN hN2 hR hpos hb
end Go.Proofs.YtbcopicoldnahaaGreat
