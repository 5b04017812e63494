/-
  BarK RefB BarP
-/
import Derived.Test.YtcdkdanfiimlkaaPk32
import Derived.Test.YtcdkdanfiimlkaaPk34
import Derived.Test.YtcdkdanfiimlkaaPk05
import Derived.Test.YtcdkdanfiimlkaaPk02
import Derived.Test.YtcdkdanfiimlkaaPk33
import Derived.Deep.AppendLies

section
/-! What the laws of layer 12 share. -/
namespace Go.Proofs.Ytcdkdanfiimlkaa
open Go.RowKit
set_option linter.unusedVariables false
set_option linter.unusedSimpArgs false

theorem Mt.fput {q : Bool} {w0 w : World} {A B : Option Addr} {r c n d k g m e : Nat} {s' t : Bool} {A' : Option Addr} {n' c' : Nat} {F : Nat → Nat → Int} (h : Mt q w0 r c A n d k F) (hb : Below w0.heap.size w0 w) (hg : w0.heap.size ≤ g) (b : Bx w g 28 [.bool t, .slice B m e]) : Mt q (Go.Proofs.Ytcdkdanfiimlkaa.zput w g s' A' n' c') r c A n d k F :=
  ⟨(h.zl.below hb).gro0 (fun h0 ad e he => by
    obtain ⟨ad', e', hl, -⟩ := h.zl.at' h0
    rw [e] at e'; cases e'
    omega) (b.now (by simp)) (zput_gro _ _ _ _ _ _), h.hr, h.hc⟩
/-- Det, whatever it is of. -/
theorem det_no' {r c : Int} {n d K : Nat} {A : Option Addr} {w : World} (h : (fmd r c n && decide (r = c)) = false) : Calls Try.prog 45 #[.agg #[.int .i64 r, .int .i64 c, .slice A n d]] w (RetK (kT (kC 0 K) (.k (.int .i64 2))) w) :=
  (det_no h).mono fun e w' h => h.mono fun v w2 hv => by
    obtain rfl : v = _ := hv
    exact ⟨_, _, rfl, ⟨_, _, _, _, rfl, Zc.nought w2, Nat.zero_le _⟩, rfl⟩
set_option maxRecDepth 100000 in
/-- The law's square. -/
theorem lsq_q {r c : Int} {A : Option Addr} {n d : Nat} {b : Bool} (hb : (fmd r c n && decide (r = c)) = b) (w : World) : Calls Try.prog 46 #[.agg #[.int .i64 r, .int .i64 c, .slice A n d]] w (RetK (.k (.bool b)) w) := by
  obtain ⟨t1, h1⟩ : ∃ t, fmd r c n = t := ⟨_, rfl⟩
  obtain ⟨t2, h2⟩ : ∃ t, decide (r = c) = t := ⟨_, rfl⟩
  have hb' : b = (t1 && t2) := by rw [← hb, h1, h2]
  have hbb := Lib.hid hb'
  obtain ⟨w1, hw1, b1, z1, s1⟩ := boxes1 w 24 [.int .i64 r, .int .i64 c, .slice A n d]
  have HW := Lib.hid hw1
  have HZ := Lib.hid z1
  have h1_ := Lib.hid h1
  have h2_ := Lib.hid h2
  clear hw1 z1 h1 h2 s1 hb hb'
  go_enter Try.func46, Try.ntmps46
  go_upto_region 1 with fail
  rw [HW.out]
  cases t1
  · refine Run.start 10 ?_
    refine .ld .o (ldM b1 0) ?_
    refine .c1 (.i 0) (x := .k (.bool false)) (by rintro u w2 hB rfl; exact rformed_q h1_.out w2) ?_
    refine .mv (.i 1) ?_
    refine .no ?_
    refine .no ?_
    refine .no ?_
    refine .no ?_
    refine .no ?_
    refine .pk (.i 2) .o false ?_
    refine .mv (.i 8) ?_
    refine .donep [some 3, some 4, some 5, some 6, some 7, some 8, some 9, some 10, some 11, some 2] ?_
    intro w2 B2
    change Shut (wpList _ _ _ [] _ _)
    refine ⟨?_⟩
    simp only [Act.put, List.setIfInBounds_toArray, List.set_cons_zero, List.set_cons_succ]
    cases hbb.out
    go_wp2_with fail
    exact bodyPost_ret (v := .bool false) (by simp [results, Try.results46, go_sem]) rfl (ret_k rfl (zup HZ.out B2))
  · refine Run.start 10 ?_
    refine .ld .o (ldM b1 0) ?_
    refine .c1 (.i 0) (x := .k (.bool true)) (by rintro u w2 hB rfl; exact rformed_q h1_.out w2) ?_
    refine .mv (.i 1) ?_
    refine .fa .o (fM0 0) ?_
    refine .ld (.i 3) (ldInt b1 0) ?_
    refine .fa .o (fM1 1) ?_
    refine .ld (.i 5) (ldInt b1 1) ?_
    refine .two (.i 4) (.i 6) (opEq h2_.out) ?_
    refine .pk (.i 2) (.i 7) true ?_
    refine .mv (.i 8) ?_
    refine .donep [some 3, some 4, some 5, some 6, some 7, some 8, some 9, some 10, some 11, some 2] ?_
    intro w2 B2
    change Shut (wpList _ _ _ [] _ _)
    refine ⟨?_⟩
    simp only [Act.put, List.setIfInBounds_toArray, List.set_cons_zero, List.set_cons_succ]
    cases hbb.out
    go_wp2_with fail
    exact bodyPost_ret (v := .bool t2) (by simp [results, Try.results46, go_sem]) rfl (ret_k rfl (zup HZ.out B2))
set_option maxRecDepth 100000 in
set_option maxHeartbeats 1000000 in
/-- The law's awake. -/
theorem awake12_q (w : World) : Calls Try.prog 44 #[] w (RetK (.k (.bool true)) w) := by
  have B0 := Below.refl w.heap.size w
  go_enter Try.func44, Try.ntmps44
  go_upto_region 1 with fail
  refine Run.start 6 ?_
  refine .bsJ4 .o .o .o .o (x := 1) (y := 2) (z := 3) (u := 4) (by decide) ?_
  refine .c3 .o .o (.i 0) (x := kT (kM true 2 2 1 (fun i j => ([1, 2, 3, 4] : List Int).getD (i * 2 + j) 0)) (.k (.int .i64 0))) (by rintro u v x w2 hB rfl rfl ⟨g, rfl, hl⟩; exact mof_yes (r := 2) (c := 2) hl rfl (by decide) (by decide)) ?_
  refine .mf (.i 1) ?_
  refine .ex (.i 2) 0 kT_0 ?_
  refine .ex (.i 2) 1 kT_1 ?_
  refine .al ?_
  refine .donep [some 6, some 7, some 5, some 8, some 9, some 1] ?_
  intro w2 B2
  rintro v0 -
  rintro v1 -
  rintro v2 -
  rintro v3 ⟨A1, n1, d1, rfl, m1⟩
  rintro g1 hg1 hl1 hc1 -
  change Shut (wpList _ _ _ [_, _] _ _)
  refine ⟨?_⟩
  simp only [Act.put, List.setIfInBounds_toArray, List.set_cons_zero, List.set_cons_succ]
  have b1 := zeroM hc1
  replace B0 := zup B0 B2
  clear B2 hc1
  obtain ⟨w3, hw3⟩ : ∃ x, mput w2 g1 2 2 A1 n1 d1 = x := ⟨_, rfl⟩
  obtain ⟨f0_, f1_, f2_, f3_, f4_, f5_, f6_⟩ := b1.m3
  replace m1 := m1.put (r' := 2) (c' := 2) (C := A1) (n' := n1) (d' := d1) b1
  rw [hw3] at m1
  replace B0 := below_mput (g := g1) (r := 2) (c := 2) (A := A1) (n := n1) (d := d1) B0 (by omega)
  rw [hw3] at B0
  replace b1 := b1.mp (g := g1) (r := 2) (c := 2) (A := A1) (n := n1) (d := d1)
  rw [hw3] at b1
  have Hw3 := Lib.hid hw3
  unfold mput at Hw3
  clear hw3
  go_upto_region 2 with fail
  rw [Hw3.out]
  clear f0_ f1_ f2_ f3_ f4_ f5_ f6_ Hw3
  have hs0 := B0.size
  refine Run.start 6 ?_
  refine .ld .o (ldM b1 0) ?_
  refine .c1 (.i 0) (x := kT (kC (-2) 7) (.k (.int .i64 0))) (by rintro u w2 hB rfl; exact det_yes (r := 2) (m1.below hB) (by decide) (by decide)) ?_
  refine .mf (.i 1) ?_
  refine .ex (.i 2) 0 kT_0 ?_
  refine .ex (.i 2) 1 kT_1 ?_
  refine .al ?_
  refine .donep [some 11, some 12, some 10, some 13, some 14, some 3] ?_
  intro w4 B4
  rintro v1 -
  rintro v2 -
  rintro v3 ⟨s3, A3, n3, c3, rfl, z3, k3⟩
  rintro g3 hg3 hl3 hc3 -
  change Shut (wpList _ _ _ [_, _] _ _)
  refine ⟨?_⟩
  simp only [Act.put, List.setIfInBounds_toArray, List.set_cons_zero, List.set_cons_succ]
  have b3 := zeroZ (T := 0) hc3
  have hs3 := B0.size
  replace B0 := zup B0 B4
  clear B4 hc3 b1 m1
  obtain ⟨w5, hw5⟩ : ∃ x, zput w4 g3 s3 A3 n3 c3 = x := ⟨_, rfl⟩
  obtain ⟨f1_, f2_, f3_, f4_, f5_⟩ := Ib.entry b3
  replace z3 := z3.zp (s' := s3) (A' := A3) (n' := n3) (c' := c3) b3
  rw [hw5] at z3
  replace B0 := below_put (g := g3) (s := s3) (A := A3) (n := n3) (c := c3) B0 (by omega)
  rw [hw5] at B0
  replace b3 := b3.zp (s := s3) (A := A3) (n := n3) (c := c3)
  rw [hw5] at b3
  have Hw5 := Lib.hid hw5
  unfold zput at Hw5
  clear hw5
  go_upto_region 3 with fail
  rw [Hw5.out]
  clear f1_ f2_ f3_ f4_ f5_ Hw5
  refine Run.start 13 ?_
  refine .mv .o ?_
  refine .two (.i 0) .o (opEq (by decide : decide ((0 : Int) = 0) = true)) ?_
  refine .mv (.i 1) ?_
  refine .ld .o (ldZ b3 0) ?_
  refine .c1 .o (x := kC (-2) 1) (by rintro u w2 hB rfl; exact zof_q (by decide) (by decide) w2) ?_
  refine .c2 (.i 3) (.i 4) (x := .k (.bool true)) (by rintro u v w2 hB rfl h2; exact zsame_q ⟨_, _, _, _, rfl, (z3.below hB).zv, k3⟩ h2.v (by decide) (by decide) (by decide)) ?_
  refine .pk (.i 2) (.i 5) true ?_
  refine .mv (.i 6) ?_
  refine .ld .o (ldZ b3 0) ?_
  refine .c1 (.i 8) (x := .k (.int .i64 (-1))) (by rintro u w2 hB rfl; exact zsign_q ⟨_, _, _, _, rfl, (z3.below hB).zv, k3⟩ (by decide) (by decide)) ?_
  refine .two (.i 9) .o (opEq (by decide : decide ((-1 : Int) = -1) = true)) ?_
  refine .pk (.i 7) (.i 10) true ?_
  refine .mv (.i 11) ?_
  refine .done [some 15, some 16, some 17, some 18, some 19, some 20, some 21, some 22, some 23, some 24, some 25, some 26, some 0] ?_
  intro w6 B6
  rintro v4 -
  change Shut (wpList _ _ _ [] _ _)
  refine ⟨?_⟩
  simp only [Act.put, List.setIfInBounds_toArray, List.set_cons_zero, List.set_cons_succ]
  go_wp2_with fail
  exact bodyPost_ret (v := .bool true) (by simp [results, Try.results44, go_sem]) rfl (ret_k rfl (zup B0 B6))
end Go.Proofs.Ytcdkdanfiimlkaa
end

section
/-! The reference of layer 1: half, Half, Twice. -/
namespace Go.Proofs.Ytcdkdanfiimlkaa
open Go.RowKit

/-- Digits that are being halved: k are done. -/
def Halving (xs zs : List Nat) (k : Nat) : Prop := zs.length = k ∧ Low 65536 zs ∧ ev 65536 zs * 2 + nth xs 0 % 2 = pre 65536 xs k + 65536 ^ k * (nth xs k % 2)
theorem Halving.start (xs : List Nat) : Halving xs [] 0 := ⟨rfl, Low.nil _, by simp [ev, pre_zero]⟩
theorem Halving.step {xs zs : List Nat} {k : Nat} (lx : Low 65536 xs) (h : Halving xs zs k) : Halving xs (zs ++ [nth xs k / 2 + nth xs (k + 1) % 2 * 32768]) (k + 1) := by
  obtain ⟨h1, h2, h3⟩ := h
  have := lx.any (by omega) k
  refine ⟨by simp [h1], h2.snoc (by omega), ?_⟩
  rw [ev_snoc, pre_succ, h1, Nat.pow_succ]
  have e := Nat.mod_add_div (nth xs k) 2
  generalize nth xs k / 2 = q at *
  generalize nth xs k % 2 = r at *
  generalize nth xs (k + 1) % 2 = r1 at *
  rw [← e]
  grind
theorem Halving.stop {xs zs : List Nat} {k : Nat} (h : Halving xs zs k) (hk : xs.length ≤ k) : ev 65536 zs = ev 65536 xs / 2 := by
  obtain ⟨h1, h2, h3⟩ := h
  rw [pre_ge _ hk, nth_ge hk] at h3
  omega

end Go.Proofs.Ytcdkdanfiimlkaa

/-! The reference of layer 1: Half, Twice. -/
namespace Go.Proofs.Ytcdkdanfiimlkaa
open Go.RowKit

theorem run_append_nil {P : Program} (w : World) {base : Nat} {t ty e : TypeId} {i : TypeInfo} {size : Nat} (ht : P.underlying t = some (.slice e)) (hi : P.info? e = some i)
    {v : Value} {n : Nat} {xs : List Value} (hown : w.ownsRow base e size v n xs) (c : Nat) : (Builtin.append_ #[t, t] ty #[v, .slice none 0 c]).run P w = .ok v w := by
  rcases hown.2 with ⟨rfl, rfl⟩ | ⟨g, cap, cur, rfl, _, _, hnc, _⟩
  · simp [Builtin.append_, run_underlying ht, sizeOf, typeInfo, hi, Builtin.lenOf, Builtin.firstCells]
  · simp [Builtin.append_, run_underlying ht, sizeOf, typeInfo, hi, Builtin.lenOf, Builtin.firstCells, hnc, storeCells]

/-- An append of a slice that reads as ds, nil or not, to a row of the call's own. -/
theorem wpList_appm {P : Program} (w0 wr : World) {ops : Array Oper} {rest : List Oper} {o : Oper} {a : Act} {Q : Exit → Act → World → Prop} (hgd : o.guard = none) (s x : Operand) (t : TypeId)
    (ho : o.op = .call { callee := .builtin .append, args := #[s, x], argTypes := #[t, t] })
    (e : TypeId) (K : IntKind) (ht : P.underlying t = some (.slice e)) (hinfo : (P.info? e).map (fun i => (i.zero, i.size, i.bytes)) = some (some (.int K 0), 1, 8))
    (v : Value) (zs : List Nat) (hs : a.eval s = v) (hown : OwnV w0 wr e K v zs) (A : Option Addr) (m c : Nat) (ds : List Nat) (hr : Rd wr K A ds) (hm : ds.length = m)
    (hx : a.eval x = .slice A m c) (hlen : zs.length + m ≤ 4398046511104)
    (h : ∀ v' w', OwnV w0 w' e K v' (zs ++ ds) → wpList P ops Q rest (a.put o.dst v') w') :
    wpList P ops Q (o :: rest) a wr := by
  subst hm
  obtain ⟨i, hi, hz0, hz1, hz2⟩ := info_parts hinfo
  obtain ⟨h1, h2⟩ := hown
  rcases A with _ | ad
  · have hd : ds = [] := by
      rcases Nat.eq_zero_or_pos ds.length with h0 | h0
      · exact List.length_eq_zero_iff.1 h0
      · obtain ⟨ad, h, _⟩ := hr h0
        cases h
    subst hd
    refine wpList_plain hgd fun _ hK => ?_
    have hrun := run_append_nil (P := P) (ty := o.type) wr ht hi h1 c
    unfold Oper.wp
    simp only [execOp, ho, resolve, invoke, builtin, Sem.run_bind, Sem.run_pure, Result.andThen_ok, List.map_toArray, List.map_cons, List.map_nil, hs, hx, List.length_nil, hrun]
    exact hK _ _ (h v wr ⟨by simpa using h1, h2⟩)
  · refine wpList_append_own (P := P) _ hgd s x t ho w0.heap.size e i (.int K 0) 1 8 ht hi hz0 hz1 hz2 rfl (by omega) v zs.length (vs K zs) hs h1 ad ds.length c (vs K ds) hx (by rw [vs_length, Nat.mul_one]) ?_ (vs_one _ _) (by unfold maxLen; omega) (by omega) h2.size ?_
    · intro j u hu
      rcases Nat.lt_or_ge j ds.length with hj | hj
      · rw [vs_get hj] at hu
        rw [hr.cell rfl hj, hu]
      · rw [List.getElem?_eq_none (by rw [vs_length]; exact hj)] at hu
        cases hu
    · intro v' w' o1 o2 _
      refine h v' w' ⟨?_, h2.grown o2 h2.size (fun k hk => (h1.lt k hk).1)⟩
      rw [vs_append, List.length_append]
      exact o1

end Go.Proofs.Ytcdkdanfiimlkaa

/-! The reference of layer 1: Half. -/
namespace Go.Proofs.Ytcdkdanfiimlkaa
open Go.RowKit

end Go.Proofs.Ytcdkdanfiimlkaa

/-! For quincunxlaw01.NatBits: the reference's Bits; contracts by value. -/
namespace Go.Proofs.Ytcdkdanfiimlkaa
open Go.RowKit

end Go.Proofs.Ytcdkdanfiimlkaa
end

section
/-! Contracts of the reference: choices. -/
namespace Go.Proofs.Ytcdkdanfiimlkaa
open Go.RowKit
set_option linter.unusedVariables false
set_option linter.unusedSimpArgs false

def ints' (ps : List Nat) : List Value := ps.map fun p : Nat => Value.int .i64 (p : Int)
/-- A list of ints, in a block of ints. -/
structure Iz (w : World) (A : Option Addr) (n c : Nat) (ps : List Nat) : Prop where
  len : ps.length = n
  le : n ≤ c
  cap : c ≤ 9223372036854775807
  at' : 0 < n → ∃ ad cs fr, A = some ad ∧ w.heap[ad.block]? = some (.cells cs 3 fr) ∧ ∀ j, j < n → w.cell? (ad.add j) = some (.int .i64 ((ps.getD j 0 : Nat) : Int))
theorem Iz.nil (w : World) : Iz w none 0 0 [] := ⟨rfl, Nat.le_refl _, by omega, fun h => by omega⟩
theorem Iz.lt {w : World} {A : Option Addr} {n c : Nat} {ps : List Nat} (h : Iz w A n c ps) (h0 : 0 < n) : ∃ ad, A = some ad ∧ ad.block < w.heap.size ∧ ∀ j, j < n → w.cell? (ad.add j) = some (.int .i64 ((ps.getD j 0 : Nat) : Int)) := by
  obtain ⟨ad, cs, fr, e, h1, h2⟩ := h.at' h0
  exact ⟨ad, e, (Array.getElem?_eq_some_iff.1 h1).1, h2⟩
theorem Iz.block {w w' : World} {A : Option Addr} {n c : Nat} {ps : List Nat} (h : Iz w A n c ps) (hb : ∀ (g : Nat) cs fr, w.heap[g]? = some (.cells cs 3 fr) → w'.heap[g]? = w.heap[g]?) : Iz w' A n c ps := ⟨h.len, h.le, h.cap, fun h0 => by
  obtain ⟨ad, cs, fr, e, h1, h2⟩ := h.at' h0
  have hk := hb _ _ _ h1
  exact ⟨ad, cs, fr, e, hk.trans h1, fun j hj => (World.cell?_of_block (by rw [add_block]; exact hk)).trans (h2 j hj)⟩⟩
theorem Iz.below {w w' : World} {A : Option Addr} {n c : Nat} {ps : List Nat} (h : Iz w A n c ps) (hb : Below w.heap.size w w') : Iz w' A n c ps := h.block fun g cs fr e => hb.block g (Array.getElem?_eq_some_iff.1 e).1
theorem row_type {w : World} {b s n g : Nat} {e : TypeId} {v : Value} {xs : List Value} (h : w.ownsRow b e s v n xs) (hg : v.ownBlock = some g) : ∃ cs, w.heap[g]? = some (.cells cs e (0, 0)) := by
  rcases h.2 with ⟨rfl, _⟩ | ⟨g', cap, cur, rfl, hb, hh, _⟩
  · cases hg
  · have e' : g' = g := by simpa [Value.ownBlock] using hg
    subst e'
    exact ⟨cur, hh⟩
/-- A row of another type has grown. -/
theorem Iz.grown {w w' : World} {A : Option Addr} {n c b s m : Nat} {ps : List Nat} {e : TypeId} {v : Value} {xs : List Value} (h : Iz w A n c ps) (ho : w.ownsRow b e s v m xs) (he : e ≠ 3) (hg : w.grownBy w' v.ownBlock) : Iz w' A n c ps := h.block fun g cs fr e1 => hg.block g (Array.getElem?_eq_some_iff.1 e1).1 fun e2 => by
  obtain ⟨cs', e3⟩ := row_type ho e2.symm
  rw [e1] at e3
  injection e3 with e3
  injection e3 with _ e4
  exact he e4.symm
theorem own_iz {w : World} {b n : Nat} {v : Value} {ps : List Nat} (h : w.ownsRow b 3 1 v n (ints' ps)) : ∃ A c, v = .slice A n c ∧ Iz w A n c ps := by
  have hl : ps.length = n := by have := h.1; simpa [ints'] using this
  rcases h.2 with ⟨rfl, rfl⟩ | ⟨g, cap, cur, rfl, hb, hh, hn, hm, hcs, ht⟩
  · exact ⟨none, 0, rfl, hl, Nat.le_refl _, by omega, fun h => by omega⟩
  · refine ⟨_, cap, rfl, hl, hn, by unfold maxLen at hm; omega, fun h0 => ⟨_, _, _, rfl, hh, fun j hj => ?_⟩⟩
    exact h.cells (g := g) rfl j _ (by simp [ints', List.getD, hl, hj])
theorem own_below {w w' : World} {b s n : Nat} {e : TypeId} {v : Value} {xs : List Value} (h : w.ownsRow b e s v n xs) (hb : Below w.heap.size w w') : w'.ownsRow b e s v n xs := h.kept (row := none) ⟨hb.os, hb.tape, hb.output, hb.size, fun k hk _ => hb.block k hk⟩ (by cases hv : v.ownBlock <;> simp)
theorem own_base {w : World} {b b' s n : Nat} {e : TypeId} {v : Value} {xs : List Value} (h : w.ownsRow b e s v n xs) (hb : b' ≤ b) : w.ownsRow b' e s v n xs := by
  refine ⟨h.1, ?_⟩
  rcases h.2 with h1 | ⟨g, cap, cur, h1, h2, h3⟩
  · exact .inl h1
  · exact .inr ⟨g, cap, cur, h1, Nat.le_trans hb h2, h3⟩
theorem info_int2 : (Try.prog.info? 3).map (fun i => (i.zero, i.size, i.bytes)) = some (some (.int .i64 0), 1, 8) := by kernel_rfl
theorem info_is : (Try.prog.info? 64).map (fun i => (i.zero, i.size, i.bytes)) = some (some (.slice none 0 0), 1, 24) := by kernel_rfl
/-- append of a list of ints. -/
theorem wpList_appIz {w : World} {ops : Array Oper} {rest : List Oper} {o : Oper} {a : Act} {Q : Exit → Act → World → Prop} (hgd : o.guard = none) (s x : Operand)
    (ho : o.op = .call { callee := .builtin .append, args := #[s, x], argTypes := #[64, 64] }) (base : Nat)
    (v : Value) (n : Nat) (ps : List Nat) (hs : a.eval s = v) (hown : w.ownsRow base 3 1 v n (ints' ps)) {A : Option Addr} {m c : Nat} {qs : List Nat} (hq : Iz w A m c qs)
    (hx : a.eval x = .slice A m c) (hlen : n + m ≤ 1099511627776) (hbase : base ≤ w.heap.size)
    (h : ∀ v' w', w'.ownsRow base 3 1 v' (n + m) (ints' (ps ++ qs)) → w.grownBy w' v.ownBlock → (v'.ownBlock = v.ownBlock ∨ v'.ownBlock = some w.heap.size) → wpList Try.prog ops Q rest (a.put o.dst v') w') : wpList Try.prog ops Q (o :: rest) a w := by
  obtain ⟨i, hi, hz0, hz1, hz2⟩ := info_parts info_int2
  rcases Nat.eq_zero_or_pos m with h0 | h0
  · subst h0
    obtain rfl : qs = [] := List.length_eq_zero_iff.1 hq.len
    rw [List.append_nil] at h
    cases A with
    | none =>
      have hr := run_append_nil (P := Try.prog) w (t := 64) (ty := o.type) Try.underlying64 hi hown c
      refine wpList_plain hgd fun K hK => ?_
      unfold Oper.wp execOp
      simp only [ho, resolve, invoke, builtin, Sem.run_bind, Sem.run_pure, Result.andThen_ok, List.map_toArray, List.map_cons, List.map_nil, hs, hx, hr]
      exact hK _ _ (h v w hown (World.grownBy.mk rfl rfl rfl (Nat.le_refl _) fun _ _ _ => rfl) (.inl rfl))
    | some ad =>
      obtain ⟨v', w', hr, h2, h3, -, h5⟩ := run_append_own_at (P := Try.prog) w base 64 o.type 3 i (.int .i64 0) 1 8 Try.underlying64 hi hz0 hz1 hz2 rfl (by omega) v n _ hown ad 0 c [] rfl (fun j u hu => by simp at hu) (fun u hu => by simp at hu) (by unfold maxLen; omega) (by omega) hbase
      refine wpList_plain hgd fun K hK => ?_
      unfold Oper.wp execOp
      simp only [ho, resolve, invoke, builtin, Sem.run_bind, Sem.run_pure, Result.andThen_ok, List.map_toArray, List.map_cons, List.map_nil, hs, hx, hr]
      rw [List.append_nil] at h2
      exact hK _ _ (h v' w' h2 h3 h5)
  · obtain ⟨ad, rfl, hlt, hc⟩ := hq.lt h0
    obtain ⟨v', w', hr, h2, h3, -, h5⟩ := run_append_own_at (P := Try.prog) w base 64 o.type 3 i (.int .i64 0) 1 8 Try.underlying64 hi hz0 hz1 hz2 rfl (by omega) v n _ hown ad m c (ints' qs) (by simp [ints', hq.len]) (fun j u hu => by
      have hj : j < qs.length := by
        rcases Nat.lt_or_ge j qs.length with h | h
        · exact h
        · rw [List.getElem?_eq_none (by simp [ints']; exact h)] at hu; cases hu
      have := hc j (by rw [← hq.len]; exact hj)
      simp [ints', hj] at hu
      subst hu
      simpa [List.getD, hj] using this) (fun u hu => by
      simp only [ints', List.mem_map] at hu
      obtain ⟨p, _, rfl⟩ := hu
      rfl) (by unfold maxLen; omega) (by omega) hbase
    refine wpList_plain hgd fun K hK => ?_
    unfold Oper.wp execOp
    simp only [ho, resolve, invoke, builtin, Sem.run_bind, Sem.run_pure, Result.andThen_ok, List.map_toArray, List.map_cons, List.map_nil, hs, hx, hr]
    rw [show ints' ps ++ ints' qs = ints' (ps ++ qs) by simp [ints']] at h2
    exact hK _ _ (h v' w' h2 h3 h5)
/-- append of one value of one cell, laid into a new block just now. -/
theorem wpList_appOne {wr : World} {ops : Array Oper} {rest : List Oper} {o : Oper} {a : Act} {Q : Exit → Act → World → Prop} (hgd : o.guard = none) (s x : Operand) (t e : TypeId) (zv : Value) (bytes : Nat)
    (ho : o.op = .call { callee := .builtin .append, args := #[s, x], argTypes := #[t, t] }) (ht : Try.prog.underlying t = some (.slice e)) (hinfo : (Try.prog.info? e).map (fun i => (i.zero, i.size, i.bytes)) = some (some zv, 1, bytes)) (hzs : zv.cells.size = 1) (hby : bytes ≤ 64) (base : Nat)
    (v : Value) (n : Nat) (xs : List Value) (hs : a.eval s = v) (hown : wr.ownsRow base e 1 v n xs) (u : Value) (h1 : u.oneCell' = true)
    (hx : a.eval x = .slice (some ⟨wr.heap.size, 0, none⟩) 1 1) (hlen : n ≤ 1048576) (hbase : base ≤ wr.heap.size)
    (h : ∀ v' w', w'.ownsRow base e 1 v' (n + 1) (xs ++ [u]) → (wr.alloc (.cells #[u] e)).grownBy w' v.ownBlock → (v'.ownBlock = v.ownBlock ∨ v'.ownBlock = some (wr.heap.size + 1)) → wpList Try.prog ops Q rest (a.put o.dst v') w') : wpList Try.prog ops Q (o :: rest) a (wr.alloc (.cells #[u] e)) := by
  obtain ⟨i, hi, hz0, hz1, hz2⟩ := info_parts hinfo
  have hone : Bx (wr.alloc (.cells #[u] e)) wr.heap.size e [u] := Bx.new wr e [u]
  obtain ⟨v', w', hr, h2, h3, -, h5⟩ := run_append_own_at (P := Try.prog) (wr.alloc (.cells #[u] e)) base t o.type e i zv 1 bytes ht hi hz0 hz1 hz2 hzs (by omega) v n xs (hown.alloc _) ⟨wr.heap.size, 0, none⟩ 1 1 [u] rfl (fun j y hy => by
    rw [add_lit0]
    match j, hy with
    | 0, hy => simp at hy; subst hy; exact hone.cell 0) (by simpa using h1) (by unfold maxLen; omega) (by have : (n + 1) * bytes ≤ (1048576 + 1) * 64 := Nat.mul_le_mul (by omega) hby; omega) (by simp; omega)
  refine wpList_plain hgd fun K hK => ?_
  unfold Oper.wp execOp
  simp only [ho, resolve, invoke, builtin, Sem.run_bind, Sem.run_pure, Result.andThen_ok, List.map_toArray, List.map_cons, List.map_nil, hs, hx, hr]
  exact hK _ _ (h v' w' h2 h3 (by simpa using h5))
/-! ### Lists of lists -/
def LLat (w : World) (vs : List Value) (ll : List (List Nat)) : Prop := vs.length = ll.length ∧ ∀ j, j < ll.length → ∃ A c, vs[j]? = some (.slice A (ll.getD j []).length c) ∧ Iz w A (ll.getD j []).length c (ll.getD j [])
theorem LLat.below {w w' : World} {vs : List Value} {ll : List (List Nat)} (h : LLat w vs ll) (hb : Below w.heap.size w w') : LLat w' vs ll := ⟨h.1, fun j hj => let ⟨A, c, h1, h2⟩ := h.2 j hj; ⟨A, c, h1, h2.below hb⟩⟩
theorem LLat.grown {w w' : World} {vs : List Value} {ll : List (List Nat)} {b s m : Nat} {e : TypeId} {v : Value} {xs : List Value} (h : LLat w vs ll) (ho : w.ownsRow b e s v m xs) (he : e ≠ 3) (hg : w.grownBy w' v.ownBlock) : LLat w' vs ll := ⟨h.1, fun j hj => let ⟨A, c, h1, h2⟩ := h.2 j hj; ⟨A, c, h1, h2.grown ho he hg⟩⟩
theorem LLat.app {w : World} {vs : List Value} {ll : List (List Nat)} {A : Option Addr} {n c : Nat} {ps : List Nat} (h : LLat w vs ll) (hz : Iz w A n c ps) : LLat w (vs ++ [.slice A n c]) (ll ++ [ps]) := by
  refine ⟨by simp [h.1], fun j hj => ?_⟩
  rw [List.length_append, List.length_singleton] at hj
  rcases Nat.lt_or_ge j ll.length with h1 | h1
  · obtain ⟨A', c', h2, h3⟩ := h.2 j h1
    have e : (ll ++ [ps]).getD j [] = ll.getD j [] := by simp [List.getD, List.getElem?_append_left h1]
    exact ⟨A', c', by rw [List.getElem?_append_left (by rw [h.1]; exact h1), e]; exact h2, by rw [e]; exact h3⟩
  · have e0 : j = ll.length := by omega
    subst e0
    have e : (ll ++ [ps]).getD ll.length [] = ps := by simp [List.getD]
    refine ⟨A, c, ?_, ?_⟩
    · rw [List.getElem?_append_right (by rw [h.1]; exact Nat.le_refl _), h.1, Nat.sub_self, e, hz.len]; rfl
    · rw [e, hz.len]; exact hz
/-- A list of lists of the call's own. -/
def IsLo (b : Nat) (ll : List (List Nat)) : FVal := fun v w => ∃ vs, w.ownsRow b 64 1 v ll.length vs ∧ LLat w vs ll
def kLo (b : Nat) (ll : List (List Nat)) : FK := .f (IsLo b ll) (fun v w w' ⟨vs, h1, h2⟩ hb => ⟨vs, own_below h1 hb, h2.below hb⟩)
/-- All rising lists of n numbers below m. -/
def rch : Nat → Nat → List (List Nat)
  | _, 0 => [[]]
  | 0, _ + 1 => []
  | m + 1, n + 1 => if m + 1 < n + 1 then [] else rch m (n + 1) ++ (rch m n).map (· ++ [m])
theorem rch_len : ∀ m n, (rch m n).length ≤ 2 ^ m
  | 0, 0 => by simp [rch]
  | m + 1, 0 => by simp [rch]; exact Nat.one_le_two_pow
  | 0, n + 1 => by simp [rch]
  | m + 1, n + 1 => by
    unfold rch
    split
    · simp
    · rw [List.length_append, List.length_map, Nat.pow_succ]
      have h1 := rch_len m (n + 1)
      have h2 := rch_len m n
      omega
theorem rch_size : ∀ (m n : Nat) (l : List Nat), l ∈ rch m n → l.length = n
  | _, 0, l, h => by simp [rch] at h; subst h; rfl
  | 0, n + 1, l, h => by simp [rch] at h
  | m + 1, n + 1, l, h => by
    unfold rch at h
    split at h
    · simp at h
    · rw [List.mem_append, List.mem_map] at h
      rcases h with h | ⟨x, h, rfl⟩
      · exact rch_size m (n + 1) l h
      · have := rch_size m n x h
        simp [this]
theorem getD_mem {α} {l : List α} {j : Nat} {d : α} (h : j < l.length) : l.getD j d ∈ l := by
  rw [List.getD_eq_getElem?_getD, List.getElem?_eq_getElem h]; exact List.getElem_mem h
end Go.Proofs.Ytcdkdanfiimlkaa
end
