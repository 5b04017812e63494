/-
  BarT
-/
import Derived.Test.YtcdkdanfiimlkaaPk39
import Derived.RegionTactic
import Derived.BigRegion
import Derived.Deep.RegionWith

/-! Contract: the rows when they are reduced, and the pivots. -/
namespace Go.Proofs.Ytcdkdanfiimlkaa
open Go.RowKit
set_option linter.unusedVariables false
set_option linter.unusedSimpArgs false

def kT3 (x y z : FK) : FK := .f (fun v w => ∃ a b c, v = .tuple #[a, b, c] ∧ x.F a w ∧ y.F b w ∧ z.F c w) (fun v w w' ⟨a, b, c, e, h1, h2, h3⟩ hb => ⟨a, b, c, e, x.stays _ _ _ h1 hb, y.stays _ _ _ h2 hb, z.stays _ _ _ h3 hb⟩)
theorem kT3_0 {x y z : FK} : ∀ v w, (kT3 x y z).F v w → ∃ vs : Array Value, ∃ u, v = .tuple vs ∧ vs[0]? = some u ∧ x.F u w := fun v w ⟨a, b, c, e, h1, h2, h3⟩ => ⟨_, a, e, rfl, h1⟩
theorem kT3_1 {x y z : FK} : ∀ v w, (kT3 x y z).F v w → ∃ vs : Array Value, ∃ u, v = .tuple vs ∧ vs[1]? = some u ∧ y.F u w := fun v w ⟨a, b, c, e, h1, h2, h3⟩ => ⟨_, b, e, rfl, h2⟩
theorem kT3_2 {x y z : FK} : ∀ v w, (kT3 x y z).F v w → ∃ vs : Array Value, ∃ u, v = .tuple vs ∧ vs[2]? = some u ∧ z.F u w := fun v w ⟨a, b, c, e, h1, h2, h3⟩ => ⟨_, c, e, rfl, h3⟩
/-- The rows when they are reduced. -/
def IsEch (r c k : Nat) (F : Nat → Nat → Int) : FVal := fun v w => ∃ s G M h, DT.Red r c c F s G (DT.piv r F c) M h ∧ IsM true r c k M v w
def kEch (r c k : Nat) (F : Nat → Nat → Int) : FK := .f (IsEch r c k F) (fun v w w' ⟨s, G, M, h, h1, h2⟩ hb => ⟨s, G, M, h, h1, (kM true r c k M).stays _ _ _ h2 hb⟩)
theorem IsEch.mt {r c k : Nat} {F : Nat → Nat → Int} {v : Value} {w : World} (h : IsEch r c k F v w) : ∃ A n d M, v = .agg #[.int .i64 (r : Int), .int .i64 (c : Int), .slice A n d] ∧ Mt true w r c A n d k M := by
  obtain ⟨s, G, M, h, h1, A, n, d, e, h2⟩ := h
  exact ⟨A, n, d, M, e, h2⟩
theorem OwnI.gro' {w w' : World} {b g n : Nat} {e : TypeId} {v : Value} {xs : List Value} (h : OwnI w b e v n xs) (hg : w.grownBy w' (some g)) (hne : v.ownBlock ≠ some g) : OwnI w' b e v n xs := h.kept hg hne
/-- What stands behind the join. -/
theorem ech_mid {b g H r c k kk n' c' n6 d6 cp : Nat} {F M : Nat → Nat → Int} {G : DT.Mx} {h : Int} {s sa : Bool} {Ap A' A6 : Option Addr} {rows : List Value} {w w5 w6 : World} (hm : RAt x0 b w5 g H r c kk (fun _ => kk) M (DT.piv r F c) h s (.slice Ap (DT.piv r F c).length cp) sa A' n' c' rows) (hr : DT.Red r c c F s G (DT.piv r F c) M h)
    (b2 : Bx w5 (w.heap.size + 1) 24 [.int .i64 0, .int .i64 0, .slice none 0 0]) (B0 : Below w.heap.size w w5) (B6 : Below w5.heap.size w5 w6) (hM : Mt true w6 r c A6 n6 d6 kk M) (hgb : b ≤ g) (hkk : kk ≤ kb k r) (hb : w.heap.size + 1 < b) :
    Hid (RetK (kT3 (kEch r c (kb k r) F) (kIz (DT.piv r F c)) (.k (.int .i64 0))) w (.returned (.tuple #[.agg #[.int .i64 (r : Int), .int .i64 (c : Int), .slice A6 n6 d6], .slice Ap (DT.piv r F c).length cp, .int .i64 0])) (((w6.setCell ⟨w.heap.size + 1, 0, none⟩ (.int .i64 (r : Int))).setCell ⟨w.heap.size + 1, 1, none⟩ (.int .i64 (c : Int))).setCell ⟨w.heap.size + 1, 2, none⟩ (.slice A6 n6 d6))) ∧
    (w6.cell? ⟨w.heap.size + 1, 0, none⟩ = some (.int .i64 0) ∧ w6.cell? ⟨w.heap.size + 1, 1, none⟩ = some (.int .i64 0) ∧ w6.cell? ⟨w.heap.size + 1, 2, none⟩ = some (.slice none 0 0) ∧ w6.frozen? ⟨w.heap.size + 1, 0, none⟩ = false ∧ w6.frozen? ⟨w.heap.size + 1, 1, none⟩ = false ∧ w6.frozen? ⟨w.heap.size + 1, 2, none⟩ = false) ∧
    w6.cell? ⟨g, 1, none⟩ = some (.slice Ap (DT.piv r F c).length cp) ∧
    (((w6.setCell ⟨w.heap.size + 1, 0, none⟩ (.int .i64 (r : Int))).setCell ⟨w.heap.size + 1, 1, none⟩ (.int .i64 (c : Int))).setCell ⟨w.heap.size + 1, 2, none⟩ (.slice A6 n6 d6)).cell? ⟨g, 1, none⟩ = some (.slice Ap (DT.piv r F c).length cp) := by
  have b6 := b2.below B6
  have m6 := hm.below B6
  obtain ⟨k0, k1, k2, k3, k4, k5, -⟩ := b6.m3
  have hgr := mput_gro w6 (w.heap.size + 1) (r : Int) (c : Int) A6 n6 d6
  have hne : (Value.slice Ap (DT.piv r F c).length cp).ownBlock ≠ some (w.heap.size + 1) := fun e => by have := (m6.own.lt e).1; omega
  have ho := m6.own.gro' hgr hne
  obtain ⟨Ax, cx, ex, hz⟩ := own_iz (ps := DT.piv r F c) ho.1
  cases ex
  refine ⟨Lib.hid ⟨_, rfl, ⟨_, _, _, rfl, ⟨s, G, M, h, hr, A6, n6, d6, rfl, (hM.put b6).mono hkk⟩, ⟨_, _, rfl, hz⟩, rfl⟩, below_mput (zup B0 B6) (by omega)⟩, ⟨k0, k1, k2, k3, k4, k5⟩, m6.bx.cell 1, ?_⟩
  exact (gro_bx m6.bx hgr (by omega)).cell 1
set_option maxRecDepth 100000 in
set_option maxHeartbeats 4000000 in
/-- Echelon. -/
theorem ech_yes {q : Bool} {r c n d k : Nat} {A : Option Addr} {F : Nat → Nat → Int} {w : World} (ha : Mt q w r c A n d k F) (hk1 : 1 ≤ k) (hK : kb k r ≤ 549755813888) : Calls Try.prog 49 #[.agg #[.int .i64 (r : Int), .int .i64 (c : Int), .slice A n d]] w (RetK (kT3 (kEch r c (kb k r) F) (kIz (DT.piv r F c)) (.k (.int .i64 0))) w) := by
  have h1 := ha.fmd
  have h3 := ha.hr
  have h4 := ha.hc
  obtain ⟨w1, hw1, b1, b2, z1, s1⟩ := boxes2 w 24 24 [.int .i64 (r : Int), .int .i64 (c : Int), .slice A n d] [.int .i64 0, .int .i64 0, .slice none 0 0]
  have HW := Lib.hid hw1
  have HZ := Lib.hid z1
  have h1_ := Lib.hid h1
  clear hw1 z1 h1
  go_enter Try.func49, Try.ntmps49
  go_upto_region 1 with fail
  rw [HW.out]
  refine Run.start 3 ?_
  refine .ld .o (ldM b1 0) ?_
  refine .c1 (.i 0) (x := .k (.bool true)) (by rintro u w2 hB rfl; exact formed_q h1_.out w2) ?_
  refine .nt (.i 1) ?_
  refine .donep [some 6, some 7, some 8] ?_
  intro w2 B2
  change Shut (wpList _ _ _ [] _ _)
  refine ⟨?_⟩
  simp only [Act.put, List.setIfInBounds_toArray, List.set_cons_zero, List.set_cons_succ]
  have B0 := zup HZ.out B2
  replace b1 := b1.below B2
  replace b2 := b2.below B2
  have hM := ha.below B0
  have hl_b1 := b1.lt
  have hl_b2 := b2.lt
  clear B2 HZ ha
  go_upto_region 3 with fail
  refine Run.start 3 ?_
  refine .ld .o (ldM b1 0) ?_
  refine .c1 (.i 0) (x := kRof w2.heap.size r c k F) (by rintro u w4 hB rfl; exact rof_q' (hM.below hB) hk1 (by have := kb_le1 k r; omega) hB.size) ?_
  refine .mf (.i 1) ?_
  refine .donep [some 10, some 11, some 5] ?_
  intro w4 B4
  rintro v3_ -
  rintro v ⟨g, b, rfl, hbb, hbs, hr⟩
  change Shut (wpList _ _ _ [] _ _)
  refine ⟨?_⟩
  simp only [Act.put, List.setIfInBounds_toArray, List.set_cons_zero, List.set_cons_succ]
  replace B0 := zup B0 B4
  replace b1 := b1.below B4
  replace b2 := b2.below B4
  clear B4 hM
  go_upto_region 4 with fail
  refine Run.start 5 ?_
  refine .mv .o ?_
  refine .nc (.i 0) ?_
  refine .fa (.i 1) (fB0 0) ?_
  refine .fa .o (fM1 1) ?_
  refine .ld (.i 3) (ldInt b1 1) ?_
  refine .done [some 12, some 13, some 14, some 15, some 16] ?_
  intro w9 B9
  change Shut (wpList _ _ _ [_] _ _)
  refine ⟨?_⟩
  simp only [Act.put, List.setIfInBounds_toArray, List.set_cons_zero, List.set_cons_succ]
  replace B0 := zup B0 B9
  replace b1 := b1.below B9
  replace b2 := b2.below B9
  have HR := Lib.hid (hr.below B9)
  replace hbs := Nat.le_trans hbs B9.size
  clear B9 hr
  go_wp2_with fail
  refine (reduce_q HR.out (Nat.le_refl _) hbs (by omega) (by omega) hK).mono ?_
  rintro e w5 ⟨rfl, B5, hrs⟩
  have hb5 : w.heap.size ≤ b := by omega
  replace B0 := B0.trans (B5.mono hb5)
  replace b1 := b1.upto (by omega) B5
  replace b2 := b2.upto (by omega) B5
  clear HR B5
  obtain ⟨s, G, ps, M, h, hr, H, vp, sa, A', n', c', rows, hm⟩ := hrs
  obtain ⟨Ap, cp, rfl⟩ := hm.vpf
  have hps := hr.pv
  subst hps
  have bx := hm.bx
  have c0 : w5.cell? ⟨g, 0, none⟩ = some (.slice (some ⟨H, 0, none⟩) r r) := bx.cell 0
  have c1 : w5.cell? ⟨g, 1, none⟩ = some (.slice Ap (DT.piv r F c).length cp) := bx.cell 1
  have i1 : w5.cell? ⟨w.heap.size, 1, none⟩ = some (.int .i64 (c : Int)) := b1.cell 1
  have hgb := hm.bg
  have hkk := kb_le (K := k) hr.nR
  have HMM := Lib.hid hm
  have HRR := Lib.hid hr
  have HB2 := Lib.hid b2
  have HB0 := Lib.hid B0
  clear hm hr bx b1 b2 B0
  go_upto_region 5 with fail
  go_region_with ((go_at_call 92; (with_reducible refine (join_q (HMM.out.hd.below (below_drew _)) HMM.out.len (fun i hi => by obtain ⟨v, e1, e2⟩ := HMM.out.row i hi; exact ⟨v, e1, e2.below (below_drew _)⟩) h3 h4).mono ?_); rintro e w6 ⟨u6, rfl, ⟨A6, n6, d6, rfl, hM6⟩, B6⟩; have Q6 := zup (below_drew _) B6; obtain ⟨P, ⟨j0, j1, j2, j3, j4, j5⟩, k1, l1⟩ := ech_mid HMM.out HRR.out HB2.out HB0.out Q6 hM6 hgb hkk (by omega)))
  all_goals
    go_wp2_with fail
    exact bodyPost_ret (v := .tuple #[.agg #[.int .i64 (r : Int), .int .i64 (c : Int), .slice A6 n6 d6], .slice Ap (DT.piv r F c).length cp, .int .i64 0]) (by simp [results, Try.results49, go_sem, j0, j1, j2]) rfl P.out
set_option maxRecDepth 100000 in
/-- Echelon, of what isn't formed. -/
theorem ech_no {r c : Int} {n d : Nat} {A : Option Addr} {w : World} (h : fmd r c n = false) : Calls Try.prog 49 #[.agg #[.int .i64 r, .int .i64 c, .slice A n d]] w (RetK (.k (.tuple #[.agg #[.int .i64 0, .int .i64 0, .slice none 0 0], .slice none 0 0, .int .i64 2])) w) := by
  obtain ⟨w1, hw1, b1, b2, z1, s1⟩ := boxes2 w 24 24 [.int .i64 r, .int .i64 c, .slice A n d] [.int .i64 0, .int .i64 0, .slice none 0 0]
  have HW := Lib.hid hw1
  have HZ := Lib.hid z1
  have h_ := Lib.hid h
  clear hw1 z1 h s1
  go_enter Try.func49, Try.ntmps49
  go_upto_region 1 with fail
  rw [HW.out]
  refine Run.start 3 ?_
  refine .ld .o (ldM b1 0) ?_
  refine .c1 (.i 0) (x := .k (.bool false)) (by rintro u w2 hB rfl; exact formed_q h_.out w2) ?_
  refine .nf (.i 1) ?_
  refine .donep [some 6, some 7, some 8] ?_
  intro w2 B2
  change Shut (wpList _ _ _ [] _ _)
  refine ⟨?_⟩
  simp only [Act.put, List.setIfInBounds_toArray, List.set_cons_zero, List.set_cons_succ]
  have P : Hid (RetK (.k (.tuple #[.agg #[.int .i64 0, .int .i64 0, .slice none 0 0], .slice none 0 0, .int .i64 2])) w (.returned (.tuple #[.agg #[.int .i64 0, .int .i64 0, .slice none 0 0], .slice none 0 0, .int .i64 2])) (mput w2 (w.heap.size + 1) 0 0 none 0 0)) := Lib.hid ⟨_, rfl, rfl, below_mput (zup HZ.out B2) (by omega)⟩
  unfold mput at P
  obtain ⟨i0, i1, i2, i3, i4, i5, i6⟩ := (b2.below B2).m3
  go_wp2_with fail
  exact bodyPost_ret (v := .tuple #[.agg #[.int .i64 0, .int .i64 0, .slice none 0 0], .slice none 0 0, .int .i64 2]) (by simp [results, Try.results49, go_sem, i0, i1, i2]) rfl P.out
end Go.Proofs.Ytcdkdanfiimlkaa
