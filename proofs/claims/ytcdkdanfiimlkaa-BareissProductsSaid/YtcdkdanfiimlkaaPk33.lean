/-
  Zvp BarI
-/
import Derived.Test.YtcdkdanfiimlkaaPk16
import Derived.Test.YtcdkdanfiimlkaaPk21

section
/-! append of a whole number to a row of the call's own. -/
namespace Go.Proofs.Ytcdkdanfiimlkaa
open Go.RowKit
set_option linter.unusedVariables false
set_option linter.unusedSimpArgs false

/-- A row of whole numbers that grows, in memory made since w0. -/
structure OwnW (w0 w : World) (k : Nat) (v : Value) (zs : List Int) : Prop where
  row : ∃ vs : List Value, OwnN w w0.heap.size 28 v zs.length vs ∧ ∀ j, j < zs.length → ∃ s A n c, vs[j * 2]? = some (.bool s) ∧ vs[j * 2 + 1]? = some (.slice A n c) ∧ Zv w s A n c (ith zs j) ∧ n ≤ k
  old : Below w0.heap.size w0 w
theorem OwnW.nil (w : World) (k : Nat) : OwnW w w k (.slice none 0 0) [] := ⟨⟨[], ⟨World.ownsRow_nil w _ _ _, fun g cs h => nomatch h⟩, fun j hj => by simp at hj⟩, Below.refl _ _⟩
theorem OwnW.below {w0 w w' : World} {k : Nat} {v : Value} {zs : List Int} (h : OwnW w0 w k v zs) (hb : Below w.heap.size w w') : OwnW w0 w' k v zs := by
  obtain ⟨⟨vs, ⟨h1, h2⟩, h3⟩, h4⟩ := h
  refine ⟨⟨vs, ⟨h1.kept (row := none) ⟨hb.os, hb.tape, hb.output, hb.size, fun k hk _ => hb.block k hk⟩ (by cases hv : v.ownBlock <;> simp), fun g cs hg hc => h2 g cs hg ?_⟩, fun j hj => ?_⟩, h4.trans (hb.mono h4.size)⟩
  · rw [← hb.block g (h1.lt g hg).2]; exact hc
  · obtain ⟨s, A, n, c, c1, c2, c3, c4⟩ := h3 j hj
    exact ⟨s, A, n, c, c1, c2, c3.below hb, c4⟩
theorem OwnW.form {w0 w : World} {k : Nat} {v : Value} {zs : List Int} (h : OwnW w0 w k v zs) : ∃ A c, v = .slice A zs.length c ∧ ZL false w A zs.length c k zs := by
  obtain ⟨⟨vs, ⟨h1, h2⟩, h3⟩, h4⟩ := h
  rcases h1.2 with ⟨rfl, e⟩ | ⟨g, cap, cur, rfl, hb, hh, hn, hm, hcs, ht⟩
  · rw [List.length_eq_zero_iff.1 e]
    exact ⟨none, 0, rfl, ZL.nil _ _ _⟩
  · refine ⟨_, cap, rfl, ⟨rfl, hn, by unfold maxLen at hm; omega, fun h0 => ⟨_, rfl, (Array.getElem?_eq_some_iff.1 hh).1, fun j hj => ?_⟩⟩⟩
    obtain ⟨s, A, n, c, c1, c2, c3, c4⟩ := h3 j hj
    have hc := h1.cells (g := g) rfl
    refine ⟨s, A, n, c, hc _ _ c1, ?_, ⟨c3, fun e => nomatch e⟩, c4⟩
    have := hc _ _ c2
    rw [add_lit0] at this
    rw [add_lit0]
    exact this
theorem Grew.zv {w w' : World} {v v' : Value} (h : Grew w w' v v') {s : Bool} {A : Option Addr} {n c : Nat} {y : Int} (hy : Zv w s A n c y) : Zv w' s A n c y := by
  have h6 := h.by'
  cases hvb : v.ownBlock with
  | none => rw [hvb] at h6; exact hy.below ⟨h6.os, h6.tape, h6.output, h6.size, fun k hk => h6.block k hk (by simp)⟩
  | some g => rw [hvb] at h6; exact hy.gro (h.now g hvb) h6
theorem OwnW.other {w0 w w' : World} {k : Nat} {u v v' : Value} {ys : List Int} (h : OwnW w0 w k u ys) (hG : Grew w w' v v') (hd : Dj u v) (hB : Below w0.heap.size w0 w') : OwnW w0 w' k u ys ∧ Dj u v' := by
  obtain ⟨⟨vs, ⟨h1, h2⟩, h3⟩, h4⟩ := h
  refine ⟨⟨⟨vs, ⟨h1.kept hG.by' hd, fun g cs hg hc => h2 g cs hg ?_⟩, fun j hj => ?_⟩, hB⟩, ?_⟩
  · rw [← hG.by'.block g (h1.lt g hg).2 (by rw [← hg]; exact hd.resolve_left (by rw [hg]; simp))]; exact hc
  · obtain ⟨s, A, n, c, c1, c2, c3, c4⟩ := h3 j hj
    exact ⟨s, A, n, c, c1, c2, hG.zv c3, c4⟩
  · rcases hG.to' with e | e
    · unfold Dj; rw [e]; exact hd
    · unfold Dj
      rw [e]
      cases hu : u.ownBlock with
      | none => exact .inl rfl
      | some g => right; have := (h1.lt g hu).2; simp; omega
/-- One more is put to it; what becomes of other rows. -/
theorem wpList_appgv {P : Program} (w0 w1 : World) {ops : Array Oper} {rest : List Oper} {o : Oper} {a : Act} {Q : Exit → Act → World → Prop} (hgd : o.guard = none) (s x : Operand) (t : TypeId)
    (ho : o.op = .call { callee := .builtin .append, args := #[s, x], argTypes := #[t, t] })
    (ht : P.underlying t = some (.slice 28)) (hinfo : (P.info? 28).map (fun i => (i.zero, i.size, i.bytes)) = some (some (.agg #[.bool false, .slice none 0 0]), 2, 32))
    (k : Nat) (v : Value) (zs : List Int) (hs : a.eval s = v) (hown : OwnW w0 w1 k v zs) {sb : Bool} {A : Option Addr} {n c g : Nat} {z : Int} (hc0 : w1.cell? ⟨g, 0, none⟩ = some (.bool sb)) (hc1 : w1.cell? ⟨g, 1, none⟩ = some (.slice A n c)) (hz : Zv w1 sb A n c z) (hn : n ≤ k)
    (hx : a.eval x = .slice (some ⟨g, 0, none⟩) 1 1) (hlen : zs.length ≤ 1099511627776)
    (h : ∀ v' w', OwnW w0 w' k v' (zs ++ [z]) → Grew w1 w' v v' → wpList P ops Q rest (a.put o.dst v') w') :
    wpList P ops Q (o :: rest) a w1 := by
  obtain ⟨i, hi, hz0, hz1, hz2⟩ := info_parts hinfo
  have hsz := hown.old.size
  have hzz := hz
  obtain ⟨⟨vs, h1, h3⟩, h4⟩ := hown
  obtain ⟨v', w', hr, h5, h6, h8⟩ := run_append_n (P := P) w1 w0.heap.size t o.type 28 i (.agg #[.bool false, .slice none 0 0]) 32 ht hi hz0 hz1 hz2 rfl (fun u hu => by
      simp [Value.cells] at hu
      rcases hu with rfl | rfl <;> exact fun m e => nomatch e) v zs.length vs h1 ⟨g, 0, none⟩ 1 [.bool sb, .slice A n c] rfl (fun j u hu => by
      rw [add_lit0]
      match j, hu with
      | 0, hu => simp at hu; subst hu; exact hc0
      | 1, hu => simp at hu; subst hu; exact hc1) (fun u hu => by
      simp at hu
      rcases hu with rfl | rfl <;> rfl) (fun u hu => by
      simp at hu
      rcases hu with rfl | rfl <;> exact fun m e => nomatch e) (by unfold maxLen; omega) (by omega) (by omega)
  refine wpList_plain hgd fun K hK' => ?_
  unfold Oper.wp execOp
  simp only [ho, resolve, invoke, builtin, Sem.run_bind, Sem.run_pure, Result.andThen_ok, List.map_toArray, List.map_cons, List.map_nil, hs, hx, hr]
  have keep : ∀ {s' : Bool} {A' : Option Addr} {n' c' : Nat} {y : Int}, Zv w1 s' A' n' c' y → Zv w' s' A' n' c' y := fun {s' A' n' c' y} hy => by
    cases hvb : v.ownBlock with
    | none => rw [hvb] at h6; exact hy.below ⟨h6.os, h6.tape, h6.output, h6.size, fun k hk => h6.block k hk (by simp)⟩
    | some g => rw [hvb] at h6; exact hy.gro (h1.wless hvb) h6
  have hvl : vs.length = zs.length * 2 := h1.1.1
  have hG : Grew w1 w' v v' := ⟨h6, fun g hg => h1.wless hg, h8⟩
  refine hK' _ _ (h v' w' ⟨⟨_, by rw [List.length_append]; exact h5, fun j hj => ?_⟩, ?_⟩ hG)
  · rw [List.length_append, List.length_singleton] at hj
    rcases Nat.lt_or_ge j zs.length with hlt | hge
    · obtain ⟨s', A', n', c', c1, c2, c3, c4⟩ := h3 j hlt
      refine ⟨s', A', n', c', by rw [List.getElem?_append_left (by omega)]; exact c1, by rw [List.getElem?_append_left (by omega)]; exact c2, ?_, c4⟩
      rw [show ith (zs ++ [z]) j = ith zs j by simp [ith, List.getD, List.getElem?_append_left hlt]]
      exact keep c3
    · obtain rfl : j = zs.length := by omega
      refine ⟨sb, A, n, c, by rw [List.getElem?_append_right (by omega), hvl, Nat.sub_self]; rfl, by rw [List.getElem?_append_right (by omega), hvl, show zs.length * 2 + 1 - zs.length * 2 = 1 by omega]; rfl, ?_, hn⟩
      rw [show ith (zs ++ [z]) zs.length = z by simp [ith, List.getD]]
      exact keep hzz
  · exact h4.grown h6 h4.size (fun k hk => (h1.1.lt k hk).1)
theorem OwnW.fresh {w0 w : World} {k g : Nat} {v : Value} {zs : List Int} (h : OwnW w0 w k v zs) (hg : w.heap.size ≤ g) : v.ownBlock ≠ some g := fun e => by
  obtain ⟨⟨vs, ⟨h1, _⟩, _⟩, _⟩ := h
  have := (h1.lt g e).2
  omega
theorem OwnW.zp {w0 w : World} {k g m d n c : Nat} {v : Value} {zs : List Int} {s t : Bool} {A B : Option Addr} (h : OwnW w0 w k v zs) (b : Bx w g 28 [.bool t, .slice B m d]) (hg : w0.heap.size ≤ g) (hne : v.ownBlock ≠ some g) : OwnW w0 (Go.Proofs.Ytcdkdanfiimlkaa.zput w g s A n c) k v zs := by
  obtain ⟨⟨vs, ⟨h1, h2⟩, h3⟩, h4⟩ := h
  have hgr : w.grownBy (Go.Proofs.Ytcdkdanfiimlkaa.zput w g s A n c) (some g) := gro_set (q := ⟨g, 1, none⟩) (gro_set (q := ⟨g, 0, none⟩) (gro_refl w (some g)) rfl _) rfl _
  refine ⟨⟨vs, ⟨h1.kept hgr (.inr hne), fun g' cs hg' hc => h2 g' cs hg' ?_⟩, fun j hj => ?_⟩, below_put h4 hg⟩
  · rw [← hgr.block g' (h1.lt g' hg').2 (by rw [← hg']; exact hne)]; exact hc
  · obtain ⟨s', A', n', c', c1, c2, c3, c4⟩ := h3 j hj
    exact ⟨s', A', n', c', c1, c2, Zv.zp c3 b, c4⟩
theorem OwnW.mono {w0 w : World} {k k' : Nat} {v : Value} {zs : List Int} (h : OwnW w0 w k v zs) (hk : k ≤ k') : OwnW w0 w k' v zs := by
  obtain ⟨⟨vs, h1, h3⟩, h4⟩ := h
  exact ⟨⟨vs, h1, fun j hj => by obtain ⟨s', A', n', c', c1, c2, c3, c4⟩ := h3 j hj; exact ⟨s', A', n', c', c1, c2, c3, by omega⟩⟩, h4⟩
end Go.Proofs.Ytcdkdanfiimlkaa
end

section
/-! Contracts of the reference: without a row and a column. -/
namespace Go.Proofs.Ytcdkdanfiimlkaa
open Go.RowKit
set_option linter.unusedVariables false
set_option linter.unusedSimpArgs false

/-- A list of one number, in new memory. -/
def IsOneV (b : Nat) (z : Int) (k : Nat) : FVal := fun v w => ∃ g s A n c, v = .slice (some ⟨g, 0, none⟩) 1 1 ∧ Bx w g 28 [.bool s, .slice A n c] ∧ b ≤ g ∧ Zv w s A n c z ∧ n ≤ k
def kOneV (b : Nat) (z : Int) (k : Nat) : FK := .f (IsOneV b z k) (fun v w w' ⟨g, s, A, n, c, e, h1, h2, h3, h4⟩ hb => ⟨g, s, A, n, c, e, h1.below hb, h2, h3.below hb, h4⟩)
theorem Run.bsv {ops : Array Oper} {Q : Exit → Act → World → Prop} {m i : Nat} {a0 : Act} {w0 : World} {l : List FK} {b : Bool} {id : Nat} (s : Src) {z : Int} {k b0 : Nat} (hb0 : b0 ≤ w0.heap.size) (rest : R ops Q m a0 w0 b id (kOneV b0 z k :: l) (i + 1))
    (hx : s.K l i a0 (bsX (opAt ops i).op) = kV z k := by rfl) (hc : okBs ops m i s = true := by kernel_rfl) (hg : Gd l i (opAt ops i) := by first | exact trivial | exact rfl) : R ops Q m a0 w0 b id l i := by
  unfold okBs at hc
  rw [Bool.and_eq_true] at hc
  obtain ⟨h1, h2⟩ := hc
  refine Run.mem (x := kOneV b0 z k) (fun a w h => ?_) rest (FK.fne _) h1 hg
  split at h2
  · rename_i T xs e
    split at h2
    · rename_i x ex
      obtain ⟨ys⟩ := xs
      simp only at ex
      subst ex
      have e0 : bsX (opAt ops i).op = x := by rw [e]; rfl
      rw [e0] at hx
      rw [Bool.and_eq_true, beq_iff_eq] at h2
      obtain ⟨rfl, h2⟩ := h2
      have := h.src h2
      rw [hx] at this
      obtain ⟨s', A, n, c, ev, hz, hk⟩ := this
      have B := zba w (.cells #[.bool s', .slice A n c] 28)
      refine ⟨_, _, ?_, ⟨w.heap.size, s', A, n, c, rfl, Bx.new w _ _, Nat.le_trans hb0 h.below.size, hz.below B, hk⟩, B⟩
      unfold execOp
      rw [e]
      simp only [List.map_toArray, List.map_cons, List.map_nil, ev]
      simp [run_bsz]
    · cases h2
  · cases h2
theorem take_one' {l : List Int} {m : Nat} (h : m < l.length) : l.take m ++ [ith l m] = l.take (m + 1) := by
  rw [List.take_succ_eq_append_getElem h]; simp [ith, List.getD, h]
section
variable {w0 w w' : World} {k g : Nat} {v v' u : Value} {zs : List Int} {T : TypeId} {cs : List Value}
theorem Grew.bx (h : Grew w w' v v') (b : Bx w g T cs) (hne : v.ownBlock ≠ some g) : Bx w' g T cs := (h.by'.block g b.lt (Ne.symm hne)).trans b
theorem Grew.ne (h : Grew w w' v v') (hg : g < w.heap.size) (hne : v.ownBlock ≠ some g) : v'.ownBlock ≠ some g := by
  rcases h.to' with e | e
  · rw [e]; exact hne
  · rw [e]; intro e2; injection e2 with e2; omega
theorem OwnW.set (h : OwnW w0 w k v zs) (b : Bx w g T cs) (hw : ∀ v, v ∈ cs → ∀ m : Int, v ≠ .int .u64 m) (hg : w0.heap.size ≤ g) (hne : v.ownBlock ≠ some g) (o : Nat) : OwnW w0 (w.setCell ⟨g, o, none⟩ u) k v zs := by
  have hgr : w.grownBy (w.setCell ⟨g, o, none⟩ u) (some g) := gro_set (q := ⟨g, o, none⟩) (gro_refl w (some g)) rfl _
  have hno := b.now hw
  obtain ⟨⟨vs, ⟨h1, h2⟩, h3⟩, h4⟩ := h
  refine ⟨⟨vs, ⟨h1.kept hgr (.inr hne), fun g' cs hg' hc => h2 g' cs hg' ?_⟩, fun j hj => ?_⟩, h4.setCell hg _⟩
  · rw [← hgr.block g' (h1.lt g' hg').2 (by rw [← hg']; exact hne)]; exact hc
  · obtain ⟨s', A', n', c', c1, c2, c3, c4⟩ := h3 j hj
    exact ⟨s', A', n', c', c1, c2, c3.gro hno hgr, c4⟩
theorem OwnW.nil' (h : Below w0.heap.size w0 w) (k : Nat) : OwnW w0 w k (.slice none 0 0) [] := ⟨⟨[], ⟨World.ownsRow_nil w _ _ _, fun g cs h => nomatch h⟩, fun j hj => by simp at hj⟩, h⟩
theorem OwnW.mt {r c n d : Nat} {A : Option Addr} {F : Nat → Nat → Int} (h : OwnW w0 w k (.slice A n d) (Go.Proofs.Ytcdkdanfiimlkaa.mk r c F)) (hr : r ≤ 64) (hc : c ≤ 64) : Mt false w r c A n d k F := by
  obtain ⟨A', c', e, hz⟩ := h.form
  cases e
  exact ⟨hz, hr, hc⟩
end
/-- How many places below a are another than k. -/
def cnt (k a : Nat) : Nat := if a ≤ k then a else a - 1
theorem cnt_zero (k : Nat) : cnt k 0 = 0 := by unfold cnt; rw [if_pos (Nat.zero_le _)]
theorem cnt_same (k : Nat) : cnt k (k + 1) = cnt k k := by unfold cnt; rw [if_neg (by omega), if_pos (Nat.le_refl _)]; omega
theorem cnt_next {k a : Nat} (h : a ≠ k) : cnt k (a + 1) = cnt k a + 1 := by unfold cnt; by_cases e : a ≤ k; rw [if_pos e, if_pos (by omega)]; rw [if_neg e, if_neg (by omega)]; omega
theorem cnt_all {k n : Nat} (h : k < n) : cnt k n = n - 1 := by unfold cnt; rw [if_neg (by omega)]
theorem cnt_lt {k a n : Nat} (hk : k < n) (ha : a < n) (h : a ≠ k) : cnt k a < n - 1 := by unfold cnt; split <;> omega
theorem cnt_skip {k a : Nat} (h : a ≠ k) : DT.skip k (cnt k a) = a := by unfold DT.skip cnt; by_cases e : a ≤ k; rw [if_pos e, if_pos (by omega)]; rw [if_neg e, if_neg (by omega)]; omega
set_option maxRecDepth 100000 in
set_option maxHeartbeats 1000000 in
/-- The reference's Without. -/
theorem rwo_q {q : Bool} {r c n d k i kk : Nat} {A : Option Addr} {F : Nat → Nat → Int} {w : World} (ha : Mt q w r c A n d k F) (hi : i < r) (hkk : kk < c) : Calls Try.prog 90 #[.agg #[.int .i64 (r : Int), .int .i64 (c : Int), .slice A n d], .int .i64 (i : Int), .int .i64 (kk : Int)] w (RetK (kM false (r - 1) (c - 1) k (DT.minor2 F i kk)) w) := by
  have h3 := ha.hr
  have h4 := ha.hc
  obtain ⟨L, hL⟩ : ∃ L, mk (r - 1) (c - 1) (DT.minor2 F i kk) = L := ⟨_, rfl⟩
  have hLl : L.length = (r - 1) * (c - 1) := by rw [← hL, mk_len]
  have hL2 : (r - 1) * (c - 1) ≤ 64 * 64 := Nat.mul_le_mul (by omega) (by omega)
  obtain ⟨w1, hw1, b3, b6, z1, s1⟩ := boxes2 w 24 24 [.int .i64 (r : Int), .int .i64 (c : Int), .slice A n d] [.int .i64 0, .int .i64 0, .slice none 0 0]
  have HW := Lib.hid hw1
  have HZ := Lib.hid z1
  have hL_ := Lib.hid hL
  clear hw1 z1 hL
  go_enter Try.func90, Try.ntmps90
  go_upto_region 1 with fail
  rw [HW.out]
  obtain ⟨w2, hw2, b7, z2, s2⟩ := boxes1 w1 24 [.int .i64 ((r : Int) - 1), .int .i64 ((c : Int) - 1), .slice none 0 0]
  rw [s1] at b7
  have HW2 := Lib.hid hw2
  have HM := Lib.hid ha
  obtain ⟨i0, i1, i2, i3, i4, i5, i6⟩ := b3.m3
  have H0 : Hid (∃ v, Bx w2 w.heap.size 24 [.int .i64 (r : Int), .int .i64 (c : Int), .slice A n d] ∧ Bx w2 (w.heap.size + 1) 24 [.int .i64 0, .int .i64 0, .slice none 0 0] ∧ Bx w2 (w.heap.size + 1 + 1) 24 [.int .i64 ((r : Int) - 1), .int .i64 ((c : Int) - 1), v] ∧ OwnW w w2 k v ((L).take (cnt i 0 * (c - 1))) ∧ v.ownBlock ≠ some (w.heap.size + 1 + 1) ∧ v.ownBlock ≠ some (w.heap.size + 1) ∧ v.ownBlock ≠ some w.heap.size) := Lib.hid ⟨_, b3.below z2, b6.below z2, b7, by rw [cnt_zero, Nat.zero_mul]; exact OwnW.nil' (zup HZ.out z2) k, by simp [Value.ownBlock], by simp [Value.ownBlock], by simp [Value.ownBlock]⟩
  have u3 : -9223372036854775808 ≤ (r : Int) - 1 ∧ (r : Int) - 1 ≤ 9223372036854775807 := by omega
  have u4 : -9223372036854775808 ≤ (c : Int) - 1 ∧ (c : Int) - 1 ≤ 9223372036854775807 := by omega
  have u5 := IntWalk.i64_in _ u3
  have u6 := IntWalk.i64_in _ u4
  clear hw2 b7 b6 b3 z2 s2 ha HZ
  go_upto_region 2 with fail
  rw [HW2.out]
  clear i0 i1 i2 i3 i4 i5 i6 HW2 u3 u4 u5 u6 HW s1
  go_wp2_with fail
  go_loopw [8] (fun s8 wr => ∃ a : Nat, s8 = .int .i64 (a : Int) ∧ a ≤ r ∧ Hid (∃ v, Bx wr w.heap.size 24 [.int .i64 (r : Int), .int .i64 (c : Int), .slice A n d] ∧ Bx wr (w.heap.size + 1) 24 [.int .i64 0, .int .i64 0, .slice none 0 0] ∧ Bx wr (w.heap.size + 1 + 1) 24 [.int .i64 ((r : Int) - 1), .int .i64 ((c : Int) - 1), v] ∧ OwnW w wr k v ((L).take (cnt i a * (c - 1))) ∧ v.ownBlock ≠ some (w.heap.size + 1 + 1) ∧ v.ownBlock ≠ some (w.heap.size + 1) ∧ v.ownBlock ≠ some w.heap.size)) (fun s8 _ => r - (intOf s8).toNat)
  case atStart => exact ⟨0, rfl, Nat.zero_le _, H0⟩
  case round =>
    obtain ⟨a, rfl, har, HB⟩ := hrel
    clear H0
    obtain ⟨v, b3, b6, b7, ho, n1, n2, n3⟩ := HB.out
    obtain ⟨i0, i1, i2, i3, i4, i5, i6⟩ := b3.m3
    by_cases hlt : a < r
    · have u2 : (a : Int) < (r : Int) := by omega
      have HB1 : Hid (∃ v, Bx wr w.heap.size 24 [.int .i64 (r : Int), .int .i64 (c : Int), .slice A n d] ∧ Bx wr (w.heap.size + 1) 24 [.int .i64 0, .int .i64 0, .slice none 0 0] ∧ Bx wr (w.heap.size + 1 + 1) 24 [.int .i64 ((r : Int) - 1), .int .i64 ((c : Int) - 1), v] ∧ OwnW w wr k v ((L).take (cnt i a * (c - 1) + (if a = i then 0 else cnt kk 0))) ∧ v.ownBlock ≠ some (w.heap.size + 1 + 1) ∧ v.ownBlock ≠ some (w.heap.size + 1) ∧ v.ownBlock ≠ some w.heap.size) := by rw [show cnt i a * (c - 1) + (if a = i then 0 else cnt kk 0) = cnt i a * (c - 1) by rw [cnt_zero]; split <;> rfl]; exact HB
      clear HB b3 b6 b7 ho n1 n2 n3
      go_wp2_with fail
      clear i0 i1 i2 i3 i4 i5 i6
      go_loopw [9] (fun s9 wr => ∃ e : Nat, s9 = .int .i64 (e : Int) ∧ e ≤ c ∧ Hid (∃ v, Bx wr w.heap.size 24 [.int .i64 (r : Int), .int .i64 (c : Int), .slice A n d] ∧ Bx wr (w.heap.size + 1) 24 [.int .i64 0, .int .i64 0, .slice none 0 0] ∧ Bx wr (w.heap.size + 1 + 1) 24 [.int .i64 ((r : Int) - 1), .int .i64 ((c : Int) - 1), v] ∧ OwnW w wr k v ((L).take (cnt i a * (c - 1) + (if a = i then 0 else cnt kk e))) ∧ v.ownBlock ≠ some (w.heap.size + 1 + 1) ∧ v.ownBlock ≠ some (w.heap.size + 1) ∧ v.ownBlock ≠ some w.heap.size)) (fun s9 _ => c - (intOf s9).toNat)
      case atStart => exact ⟨0, rfl, Nat.zero_le _, HB1⟩
      case round =>
        obtain ⟨e, rfl, hec, HB⟩ := hrel
        clear HB1
        obtain ⟨v, b3, b6, b7, ho, n1, n2, n3⟩ := HB.out
        obtain ⟨i0, i1, i2, i3, i4, i5, i6⟩ := b3.m3
        by_cases hel : e < c
        · have u7 : (e : Int) < (c : Int) := by omega
          by_cases hai : a = i
          · have u8 : ((a : Int) = (i : Int)) := by omega
            have u8' : ((a : Int) != (i : Int)) = false := by simpa using u8
            rw [if_pos hai] at ho
            have HS : Hid (∃ v, Bx wr w.heap.size 24 [.int .i64 (r : Int), .int .i64 (c : Int), .slice A n d] ∧ Bx wr (w.heap.size + 1) 24 [.int .i64 0, .int .i64 0, .slice none 0 0] ∧ Bx wr (w.heap.size + 1 + 1) 24 [.int .i64 ((r : Int) - 1), .int .i64 ((c : Int) - 1), v] ∧ OwnW w wr k v ((L).take (cnt i a * (c - 1) + (if a = i then 0 else cnt kk (e + 1)))) ∧ v.ownBlock ≠ some (w.heap.size + 1 + 1) ∧ v.ownBlock ≠ some (w.heap.size + 1) ∧ v.ownBlock ≠ some w.heap.size) := Lib.hid ⟨v, b3, b6, b7, by rw [if_pos hai]; exact ho, n1, n2, n3⟩
            clear HB b3 b6 b7 ho n1 n2 n3
            go_wp2_with fail
            go_roundw
            case rel => exact ⟨e + 1, by go_num, by omega, HS⟩
            case measure => first | (simp [intOf]; done) | (simp [intOf]; omega)
          · have u8 : ¬ ((a : Int) = (i : Int)) := by omega
            have u8' : ((a : Int) != (i : Int)) = true := by simpa using u8
            rw [if_neg hai] at ho
            by_cases hek : e = kk
            · have u9 : ((e : Int) = (kk : Int)) := by omega
              have u9' : ((e : Int) != (kk : Int)) = false := by simpa using u9
              have HS : Hid (∃ v, Bx wr w.heap.size 24 [.int .i64 (r : Int), .int .i64 (c : Int), .slice A n d] ∧ Bx wr (w.heap.size + 1) 24 [.int .i64 0, .int .i64 0, .slice none 0 0] ∧ Bx wr (w.heap.size + 1 + 1) 24 [.int .i64 ((r : Int) - 1), .int .i64 ((c : Int) - 1), v] ∧ OwnW w wr k v ((L).take (cnt i a * (c - 1) + (if a = i then 0 else cnt kk (e + 1)))) ∧ v.ownBlock ≠ some (w.heap.size + 1 + 1) ∧ v.ownBlock ≠ some (w.heap.size + 1) ∧ v.ownBlock ≠ some w.heap.size) := Lib.hid ⟨v, b3, b6, b7, by rw [hek] at ho; rw [if_neg hai, hek, cnt_same]; exact ho, n1, n2, n3⟩
              clear HB b3 b6 b7 ho n1 n2 n3
              go_wp2_with fail
              go_roundw
              case rel => exact ⟨e + 1, by go_num, by omega, HS⟩
              case measure => first | (simp [intOf]; done) | (simp [intOf]; omega)
            · have u9 : ¬ ((e : Int) = (kk : Int)) := by omega
              have u9' : ((e : Int) != (kk : Int)) = true := by simpa using u9
              have B0 := ho.old
              have hM := HM.out.below B0
              obtain ⟨Av, cv, rfl, -⟩ := ho.form
              obtain ⟨nv, hnv⟩ : ∃ nv, (List.take (cnt i a * (c - 1) + cnt kk e) L).length = nv := ⟨_, rfl⟩
              rw [hnv] at b7 n1 n2 n3 ho
              have hlen : ((L.take (cnt i a * (c - 1) + cnt kk e))).length ≤ 4096 := by rw [List.length_take]; omega
              clear HB hnv
              go_upto_region 9 with fail
              clear i0 i1 i2 i3 i4 i5 i6
              refine Run.start 7 ?_
              refine .fa .o (fM2 2) ?_
              refine .ld (.i 0) (ldSl b7 2) ?_
              refine .ld .o (ldM b3 0) ?_
              refine .mv .o ?_
              refine .mv .o ?_
              refine .c3 (.i 2) (.i 3) (.i 4) (x := kV (F a e) k) (by rintro u v x w4 hB rfl rfl rfl; exact rat_q (hM.below hB) hlt hel) ?_
              refine .bsv (.i 5) (Nat.le_refl _) ?_
              refine .done [some 37, some 38, some 39, some 40, some 41, some 42, some 43] ?_
              intro w4 B4
              rintro v42 -
              rintro v ⟨g, s_, A_, n_, c_, rfl, bg, hge, hz, hk⟩
              change Shut (wpList _ _ _ [_, _, _] _ _)
              refine ⟨?_⟩
              simp only [Act.put, List.setIfInBounds_toArray, List.set_cons_zero, List.set_cons_succ]
              have hg0 := bg.cell 0
              have hg1 := bg.cell 1
              simp only [List.getElem?_cons_succ, List.getElem?_cons_zero] at hg0 hg1
              have ho4 := ho.below B4
              replace b3 := b3.below B4
              replace b6 := b6.below B4
              replace b7 := b7.below B4
              clear B4 ho hM
              go_wp2_with (at_builtin; refine wpList_appgv w _ rfl _ _ 22 rfl Try.underlying22 info_zint k _ _ rfl ho4 hg0 hg1 hz hk rfl (by omega) ?_)
              intro v5 w5 ho5 hG
              have b3' := hG.bx b3 n3
              have b6' := hG.bx b6 n2
              have b7' := hG.bx b7 n1
              have n1' := hG.ne b7.lt n1
              have n2' := hG.ne b6.lt n2
              have n3' := hG.ne b3.lt n3
              have hm : cnt i a * (c - 1) + cnt kk e < L.length := by rw [hLl]; exact at_lt (cnt_lt hi hlt hai) (cnt_lt hkk hel hek)
              have hz5 : F a e = ith L (cnt i a * (c - 1) + cnt kk e) := by
                rw [← hL_.out, mk_at (cnt_lt hi hlt hai) (cnt_lt hkk hel hek)]
                unfold DT.minor2
                rw [cnt_skip hai, cnt_skip hek]
              rw [hz5, take_one' hm, Nat.add_assoc, ← cnt_next hek] at ho5
              obtain ⟨A5, c5, rfl, -⟩ := ho5.form
              obtain ⟨nl, hnl⟩ : ∃ nl, (List.take (cnt i a * (c - 1) + cnt kk (e + 1)) L).length = nl := ⟨_, rfl⟩
              have i2 := b7'.cell 2
              have i2' := b7'.free 2
              simp only [List.getElem?_cons_succ, List.getElem?_cons_zero] at i2
              have HS : Hid (∃ v, Bx (w5.setCell ⟨w.heap.size + 1 + 1, 2, none⟩ (.slice A5 (List.take (cnt i a * (c - 1) + cnt kk (e + 1)) L).length c5)) w.heap.size 24 [.int .i64 (r : Int), .int .i64 (c : Int), .slice A n d] ∧ Bx (w5.setCell ⟨w.heap.size + 1 + 1, 2, none⟩ (.slice A5 (List.take (cnt i a * (c - 1) + cnt kk (e + 1)) L).length c5)) (w.heap.size + 1) 24 [.int .i64 0, .int .i64 0, .slice none 0 0] ∧ Bx (w5.setCell ⟨w.heap.size + 1 + 1, 2, none⟩ (.slice A5 (List.take (cnt i a * (c - 1) + cnt kk (e + 1)) L).length c5)) (w.heap.size + 1 + 1) 24 [.int .i64 ((r : Int) - 1), .int .i64 ((c : Int) - 1), v] ∧ OwnW w (w5.setCell ⟨w.heap.size + 1 + 1, 2, none⟩ (.slice A5 (List.take (cnt i a * (c - 1) + cnt kk (e + 1)) L).length c5)) k v ((L).take (cnt i a * (c - 1) + (if a = i then 0 else cnt kk (e + 1)))) ∧ v.ownBlock ≠ some (w.heap.size + 1 + 1) ∧ v.ownBlock ≠ some (w.heap.size + 1) ∧ v.ownBlock ≠ some w.heap.size) := Lib.hid ⟨_, b3'.off (by omega) _ _, b6'.off (by omega) _ _, b7'.set 2 _, by rw [if_neg hai]; exact ho5.set b7' (by simp) (by omega) n1' 2, n1', n2', n3'⟩
              rw [hnl] at HS
              try rw [hnl]
              clear b3 b6 b7 b3' b6' b7' ho4 ho5 hG bg hge hz hk hg0 hg1 hz5 hnl
              go_wp2_with fail
              go_roundw
              case rel => exact ⟨e + 1, by go_num, by omega, HS⟩
              case measure => first | (simp [intOf]; done) | (simp [intOf]; omega)
        · obtain rfl : e = c := by omega
          have u7 : ¬ (e : Int) < (e : Int) := by omega
          have HS : Hid (∃ v, Bx wr w.heap.size 24 [.int .i64 (r : Int), .int .i64 (e : Int), .slice A n d] ∧ Bx wr (w.heap.size + 1) 24 [.int .i64 0, .int .i64 0, .slice none 0 0] ∧ Bx wr (w.heap.size + 1 + 1) 24 [.int .i64 ((r : Int) - 1), .int .i64 ((e : Int) - 1), v] ∧ OwnW w wr k v ((L).take (cnt i (a + 1) * (e - 1))) ∧ v.ownBlock ≠ some (w.heap.size + 1 + 1) ∧ v.ownBlock ≠ some (w.heap.size + 1) ∧ v.ownBlock ≠ some w.heap.size) := Lib.hid ⟨v, b3, b6, b7, by
            by_cases hai : a = i
            · rw [if_pos hai, Nat.add_zero] at ho
              rw [hai] at ho ⊢; rw [cnt_same]; exact ho
            · rw [if_neg hai, cnt_all hkk, ← Nat.succ_mul] at ho
              rw [cnt_next hai]; exact ho, n1, n2, n3⟩
          clear HB b3 b6 b7 ho n1 n2 n3
          go_wp2_with fail
          go_roundw
          case rel => exact ⟨a + 1, by go_num, by omega, HS⟩
          case measure => first | (simp [intOf]; done) | (simp [intOf]; omega)
    · obtain rfl : a = r := by omega
      have u2 : ¬ (a : Int) < (a : Int) := by omega
      rw [cnt_all hi, ← hLl, List.take_length, ← hL_.out] at ho
      obtain ⟨Av, cv, rfl, -⟩ := ho.form
      have hlm : (mk (a - 1) (c - 1) (DT.minor2 F i kk)).length = (a - 1) * (c - 1) := mk_len _ _ _
      obtain ⟨N, hN⟩ : ∃ N, (mk (a - 1) (c - 1) (DT.minor2 F i kk)).length = N := ⟨_, rfl⟩
      rw [hN] at ho b7
      have hM := ho.mt (by omega) (by omega)
      have P := Lib.hid (retM hM b6 (by omega) ho.old)
      have er : ((a - 1 : Nat) : Int) = (a : Int) - 1 := by omega
      have ec : ((c - 1 : Nat) : Int) = (c : Int) - 1 := by omega
      rw [er, ec] at P
      have j0 := b7.cell 0
      have j1 := b7.cell 1
      have j2 := b7.cell 2
      obtain ⟨k0, k1, k2, k3, k4, k5, k6⟩ := b6.m3
      simp only [List.getElem?_cons_succ, List.getElem?_cons_zero] at j0 j1 j2
      clear b3 b6 b7 hM HB ho n1 n2 n3 hlm er ec
      unfold mput at P
      go_wp2_with fail
      exact bodyPost_ret (v := .agg #[.int .i64 ((a : Int) - 1), .int .i64 ((c : Int) - 1), .slice Av N cv]) (by simp [results, Try.results90, go_sem, k0, k1, k2]) rfl P.out
end Go.Proofs.Ytcdkdanfiimlkaa
end
