/-
  BarF
-/
import Derived.Test.YtcdkdanfiimlkaaPk29

/-! Contracts: the beginning of a reduction. -/
namespace Go.Proofs.Ytcdkdanfiimlkaa
open Go.RowKit
set_option linter.unusedVariables false
set_option linter.unusedSimpArgs false

set_option maxRecDepth 100000 in
/-- A slice of a list of whole numbers. -/
theorem run_sl3 {A : Option Addr} {n cap l h m : Nat} (h1 : l ≤ h) (h2 : h ≤ m) (h3 : m ≤ cap) (w : World) : (Instr.sliceAt 22 (.slice A n cap) (some (.int .i64 (l : Int))) (some (.int .i64 (h : Int))) (some (.int .i64 (m : Int)))).run Try.prog w = .ok (.slice (if m = l then A else A.map (·.add (l * 2))) (h - l) (m - l)) w := by
  have a1 : (0 : Int) ≤ (l : Int) := by omega
  have a2 : (l : Int) ≤ (h : Int) := by omega
  have a3 : (h : Int) ≤ (m : Int) := by omega
  have a4 : (m : Int) ≤ (cap : Int) := by omega
  simp [go_sem, Try.underlying22, zp_cells, h1, h2, h3]
set_option maxRecDepth 100000 in
theorem run_sl2 {A : Option Addr} {n cap l h : Nat} (h1 : l ≤ h) (h2 : h ≤ cap) (w : World) : (Instr.sliceAt 22 (.slice A n cap) (some (.int .i64 (l : Int))) (some (.int .i64 (h : Int))) none).run Try.prog w = .ok (.slice (if cap = l then A else A.map (·.add (l * 2))) (h - l) (cap - l)) w := by
  have a1 : (0 : Int) ≤ (l : Int) := by omega
  have a2 : (l : Int) ≤ (h : Int) := by omega
  have a4 : (h : Int) ≤ (cap : Int) := by omega
  simp [go_sem, Try.underlying22, zp_cells, h1, h2]
section
variable {ops : Array Oper} {Q : Exit → Act → World → Prop} {m i : Nat} {a0 : Act} {w0 : World} {l : List FK} {b : Bool} {id : Nat}
def slO (o : Op) : List Operand := match o with | .slice _ x (some l) (some h) (some m) => [x, l, h, m] | .slice _ x (some l) (some h) none => [x, l, h] | _ => []
def okSl3 (ops : Array Oper) (m i : Nat) (s t u v : Src) : Bool := okH ops m i && (match (opAt ops i).op with | .slice T x (some l) (some h) (some mx) => T == 22 && s.ok ops m i x && t.ok ops m i l && u.ok ops m i h && v.ok ops m i mx | _ => false)
theorem Run.sl3 (s t u v : Src) {A : Option Addr} {n cap x y z : Nat} (h1 : x ≤ y) (h2 : y ≤ z) (h3 : z ≤ cap) (rest : R ops Q m a0 w0 b id (.k (.slice (if z = x then A else A.map (·.add (x * 2))) (y - x) (z - x)) :: l) (i + 1)) (hx : srcsK l i a0 (slO (opAt ops i).op) [s, t, u, v] [.slice A n cap, .int .i64 (x : Int), .int .i64 (y : Int), .int .i64 (z : Int)] := by exact ⟨rfl, rfl, rfl, rfl, trivial⟩) (hc : okSl3 ops m i s t u v = true := by kernel_rfl) (hg : Gd l i (opAt ops i) := by first | exact trivial | exact rfl) : R ops Q m a0 w0 b id l i := by
  unfold okSl3 at hc
  rw [Bool.and_eq_true] at hc
  obtain ⟨hh, h4⟩ := hc
  refine Run.run (fun a w h => ?_) rest hh hg
  split at h4
  · rename_i T X L H M e
    simp only [Bool.and_eq_true, beq_iff_eq] at h4
    obtain ⟨⟨⟨⟨rfl, k1⟩, k2⟩, k3⟩, k4⟩ := h4
    rw [e] at hx
    obtain ⟨e1, e2, e3, e4, -⟩ := hx
    unfold execOp
    rw [e]
    simp only [Option.map_some, h.srcK k1 e1, h.srcK k2 e2, h.srcK k3 e3, h.srcK k4 e4]
    simp [run_sl3 h1 h2 h3 w]
  · cases h4
def okSl2 (ops : Array Oper) (m i : Nat) (s t u : Src) : Bool := okH ops m i && (match (opAt ops i).op with | .slice T x (some l) (some h) none => T == 22 && s.ok ops m i x && t.ok ops m i l && u.ok ops m i h | _ => false)
theorem Run.sl2 (s t u : Src) {A : Option Addr} {n cap x y : Nat} (h1 : x ≤ y) (h2 : y ≤ cap) (rest : R ops Q m a0 w0 b id (.k (.slice (if cap = x then A else A.map (·.add (x * 2))) (y - x) (cap - x)) :: l) (i + 1)) (hx : srcsK l i a0 (slO (opAt ops i).op) [s, t, u] [.slice A n cap, .int .i64 (x : Int), .int .i64 (y : Int)] := by exact ⟨rfl, rfl, rfl, trivial⟩) (hc : okSl2 ops m i s t u = true := by kernel_rfl) (hg : Gd l i (opAt ops i) := by first | exact trivial | exact rfl) : R ops Q m a0 w0 b id l i := by
  unfold okSl2 at hc
  rw [Bool.and_eq_true] at hc
  obtain ⟨hh, h4⟩ := hc
  refine Run.run (fun a w h => ?_) rest hh hg
  split at h4
  · rename_i T X L H e
    simp only [Bool.and_eq_true, beq_iff_eq] at h4
    obtain ⟨⟨⟨rfl, k1⟩, k2⟩, k3⟩ := h4
    rw [e] at hx
    obtain ⟨e1, e2, e3, -⟩ := hx
    unfold execOp
    rw [e]
    simp only [Option.map_some, Option.map_none, h.srcK k1 e1, h.srcK k2 e2, h.srcK k3 e3]
    simp [run_sl2 h1 h2 w]
  · cases h4
end
theorem mk_row {r c i : Nat} {F : Nat → Nat → Int} (hi : i < r) : ((mk r c F).drop (i * c)).take c = rw' c (F i) := by
  have hb : i * c + c ≤ r * c := by rw [← Nat.succ_mul]; exact Nat.mul_le_mul_right c hi
  apply List.ext_getElem
  · rw [List.length_take, List.length_drop, mk_len, rw_len]; omega
  · intro j h1 h2
    rw [rw_len] at h2
    have e := mk_at (F := F) hi h2
    have hlt : i * c + j < (mk r c F).length := by rw [mk_len]; exact at_lt hi h2
    simp [ith, List.getD, hlt] at e
    simp [rw', e]
/-- A row of a matrix, as a slice of its list. -/
theorem Mt.row {q : Bool} {w : World} {r c n d k : Nat} {A : Option Addr} {F : Nat → Nat → Int} (h : Mt q w r c A n d k F) {i : Nat} (hi : i < r) (e : Nat) (he : i * c + c ≤ e) (hd : e ≤ d) : ZL q w (if e = i * c then A else A.map (·.add (i * c * 2))) c (e - i * c) k (rw' c (F i)) := by
  have hb : i * c + c ≤ r * c := by rw [← Nat.succ_mul]; exact Nat.mul_le_mul_right c hi
  have hn := h.len
  have hcp := h.zl.cap
  rcases Nat.eq_zero_or_pos c with h0 | h0
  · subst h0
    exact ⟨by simp [rw'], by omega, by omega, fun h => by omega⟩
  · have hle := h.zl.le
    obtain ⟨ad, rfl, -⟩ := h.zl.at' (by omega)
    rw [if_neg (by omega), Option.map_some, ← mk_row hi]
    have hd2 := h.zl.drop (m := i * c) (d := d) (by omega) (by omega) hcp
    exact hd2.take (by omega) (by omega) (by omega)
set_option maxRecDepth 100000 in
/-- Norm. -/
theorem mnorm_yes {q : Bool} {r c n d k : Nat} {A : Option Addr} {F : Nat → Nat → Int} {w : World} (ha : Mt q w r c A n d k F) (hk : k ≤ 1099511627776) : Calls Try.prog 114 #[.agg #[.int .i64 (r : Int), .int .i64 (c : Int), .slice A n d]] w (RetK (kT (kM true r c (k) (F)) (.k (.int .i64 0))) w) := by
  have h1 := ha.fmd
  have h3 := ha.hr
  have h4 := ha.hc
  obtain ⟨w1, hw1, b1, b2, z1, s1⟩ := boxes2 w 24 24 [.int .i64 (r : Int), .int .i64 (c : Int), .slice A n d] [.int .i64 0, .int .i64 0, .slice none 0 0]
  have HW := Lib.hid hw1
  have HZ := Lib.hid z1
  have h1_ := Lib.hid h1
  clear hw1 z1 h1 s1
  go_enter Try.func114, Try.ntmps114
  go_upto_region 1 with fail
  rw [HW.out]
  refine Run.start 3 ?_
  refine .ld .o (ldM b1 0) ?_
  refine .c1 (.i 0) (x := .k (.bool true)) (by rintro u w2 hB rfl; exact formed_q h1_.out w2) ?_
  refine .nt (.i 1) ?_
  refine .donep [some 4, some 5, some 6] ?_
  intro w2 B2
  change Shut (wpList _ _ _ [] _ _)
  refine ⟨?_⟩
  simp only [Act.put, List.setIfInBounds_toArray, List.set_cons_zero, List.set_cons_succ]
  replace b1 := b1.below B2
  replace b2 := b2.below B2
  have HZ2 := Lib.hid (zup HZ.out B2)
  clear B2 HZ
  go_upto_region 3 with fail
  refine Run.start 7 ?_
  refine .fa .o (fM0 0) ?_
  refine .ld (.i 0) (ldInt b1 0) ?_
  refine .fa .o (fM1 1) ?_
  refine .ld (.i 2) (ldInt b1 1) ?_
  refine .ld .o (ldM b1 0) ?_
  refine .fn [(.i 4)] [] [_] [] (⟨rfl, trivial⟩) (trivial) ?_
  refine .c3 (.i 1) (.i 3) (.i 5) (x := kM true r c k F) (by rintro u v x w3 hB rfl rfl rfl; exact form_q h3 h4 (by kernel_rfl) (fun i j W hi hj hW => number_q (ha.below (zup (zup HZ2.out hB) hW)) hi hj hk)) ?_
  refine .donep [some 8, some 9, some 10, some 11, some 12, some 13, some 14] ?_
  intro w3 B3
  rintro v ⟨A_, n_, d_, rfl, hM⟩
  change Shut (wpList _ _ _ [_, _] _ _)
  refine ⟨?_⟩
  simp only [Act.put, List.setIfInBounds_toArray, List.set_cons_zero, List.set_cons_succ]
  have P := Lib.hid (retME hM (b2.below B3) (by omega) (zup HZ2.out B3))
  unfold mput at P
  obtain ⟨i0, i1, i2, i3, i4, i5, i6⟩ := (b2.below B3).m3
  clear hM
  go_wp2_with fail
  exact bodyPost_ret (v := .tuple #[.agg #[.int .i64 (r : Int), .int .i64 (c : Int), .slice A_ n_ d_], .int .i64 0]) (by simp [results, Try.results114, go_sem, i0, i1, i2]) rfl P.out
/-- A reduction of package bareiss. -/
def x0 : Xt := ⟨97, [], fun v h => by simp at h⟩
theorem fB0 {g o : Nat} (o' : Nat) (h : o + 0 = o' := by rfl) (w : World) : (Instr.fieldAt 97 (.pointer (some ⟨g, o, none⟩)) 0).run Try.prog w = .ok (.pointer (some ⟨g, o', none⟩)) w := by subst h; simp [go_sem]
def RofPost (w : World) (r c k : Nat) (F : Nat → Nat → Int) (e : Ending) (w' : World) : Prop := ∃ g H sa A' n' c' rows, e = .returned (.pointer (some ⟨g, 0, none⟩)) ∧ Below w.heap.size w w' ∧ RAt x0 w.heap.size w' g H r c k (fun _ => k) F [] 1 false (.slice none 0 0) sa A' n' c' rows
/-- A new list of rows, none of them there. -/
def IsHdr (b r : Nat) : FVal := fun v w => ∃ H, v = .slice (some ⟨H, 0, none⟩) r r ∧ Bx w H 22 (List.replicate r (.slice none 0 0)) ∧ b ≤ H
def kHdr (b r : Nat) : FK := .f (IsHdr b r) (fun v w w' ⟨H, e, h1, h2⟩ hb => ⟨H, e, h1.below hb, h2⟩)
theorem info_zs : (Try.prog.info? 22).map (fun i => (i.zero, i.size, i.bytes)) = some (some (.slice none 0 0), 1, 24) := by kernel_rfl
set_option maxRecDepth 100000 in
theorem run_mkS (w : World) (r : Nat) (hr : r ≤ 1048576) : (Instr.makeSlice 93 (.int .i64 (r : Int)) (.int .i64 (r : Int))).run Try.prog w = .ok (.slice (some ⟨w.heap.size, 0, none⟩) r r) (w.alloc (.cells (List.replicate r (.slice none 0 0)).toArray 22)) := by
  obtain ⟨i, hi, hz0, hz1, hz2⟩ := info_parts info_zs
  rw [run_make w _ _ i (.slice none 0 0) Try.underlying93 hi hz0 .i64 .i64 (r : Int) (r : Int) (by omega) (Int.le_refl _) (by rw [hz2]; omega) (by omega)]
  rw [hz1]
  simp [madeCells]
  congr 2
  apply Array.ext
  · simp
  · intro j h1 h2; simp [Value.cells, Nat.mod_one]
section
variable {ops : Array Oper} {Q : Exit → Act → World → Prop} {m i : Nat} {a0 : Act} {w0 : World} {l : List FK} {b : Bool} {id : Nat}
def mkX (o : Op) : Operand := match o with | .makeSlice _ x _ => x | .box _ x => x | _ => .func 0
def mkY (o : Op) : Operand := match o with | .makeSlice _ _ y => y | _ => .func 0
def okMk (ops : Array Oper) (m i : Nat) (s : Src) : Bool := okH ops m i && (match (opAt ops i).op with | .makeSlice T x y => T == 93 && s.ok ops m i x && s.ok ops m i y | _ => false)
theorem Run.mkS (s : Src) {r b0 : Nat} (hr : r ≤ 1048576) (hb0 : b0 ≤ w0.heap.size) (rest : R ops Q m a0 w0 b id (kHdr b0 r :: l) (i + 1)) (hx : s.K l i a0 (mkX (opAt ops i).op) = .k (.int .i64 (r : Int)) := by rfl) (hy : s.K l i a0 (mkY (opAt ops i).op) = .k (.int .i64 (r : Int)) := by rfl) (hc : okMk ops m i s = true := by kernel_rfl) (hg : Gd l i (opAt ops i) := by first | exact trivial | exact rfl) : R ops Q m a0 w0 b id l i := by
  unfold okMk at hc
  rw [Bool.and_eq_true] at hc
  obtain ⟨hh, h4⟩ := hc
  refine Run.mem (x := kHdr b0 r) (fun a w h => ?_) rest (FK.fne _) hh hg
  split at h4
  · rename_i T x y e
    simp only [Bool.and_eq_true, beq_iff_eq] at h4
    obtain ⟨⟨rfl, h2⟩, h3⟩ := h4
    rw [e] at hx hy
    refine ⟨_, _, ?_, ⟨w.heap.size, rfl, Bx.new w _ _, Nat.le_trans hb0 h.below.size⟩, zba w _⟩
    unfold execOp
    rw [e]
    simp only [h.srcK h2 hx, h.srcK h3 hy]
    simp [run_mkS w r hr]
  · cases h4
/-- The beginning of a reduction: its rows' slice, and the 1 ahead. -/
def IsE (H r : Nat) : FVal := fun v w => ∃ s A n c, v = .agg #[.slice (some ⟨H, 0, none⟩) r r, .slice none 0 0, .bool s, .slice A n c, .bool false] ∧ Zc w s A n c 1 ∧ n ≤ 1
def kE (H r : Nat) : FK := .f (IsE H r) (fun v w w' ⟨s, A, n, c, e, h3, h4⟩ hb => ⟨s, A, n, c, e, h3.below hb, h4⟩)
def bdX (o : Op) : Operand × Operand := match o with | .build _ xs => (match xs.toList with | [(0, x), (2, y)] => (x, y) | _ => (.func 0, .func 0)) | _ => (.func 0, .func 0)
def okBd (ops : Array Oper) (m i : Nat) (s t : Src) : Bool := okH ops m i && (match (opAt ops i).op with | .build T xs => (match xs.toList with | [(0, x), (2, y)] => T == 95 && s.ok ops m i x && t.ok ops m i y | _ => false) | _ => false)
theorem run_bd (w : World) (H r : Nat) (s : Bool) (A : Option Addr) (n c : Nat) : (Instr.build 95 #[(0, .slice (some ⟨H, 0, none⟩) r r), (2, .agg #[.bool s, .slice A n c])]).run Try.prog w = .ok (.agg #[.slice (some ⟨H, 0, none⟩) r r, .slice none 0 0, .bool s, .slice A n c, .bool false]) w := by kernel_rfl
theorem Run.bd (s t : Src) {H r : Nat} (rest : R ops Q m a0 w0 b id (kE H r :: l) (i + 1)) (hx : s.K l i a0 (bdX (opAt ops i).op).1 = .k (.slice (some ⟨H, 0, none⟩) r r) := by rfl) (hy : t.K l i a0 (bdX (opAt ops i).op).2 = kC 1 1 := by rfl) (hc : okBd ops m i s t = true := by kernel_rfl) (hg : Gd l i (opAt ops i) := by first | exact trivial | exact rfl) : R ops Q m a0 w0 b id l i := by
  unfold okBd at hc
  rw [Bool.and_eq_true] at hc
  obtain ⟨hh, h4⟩ := hc
  refine Run.val (x := kE H r) hh (FK.fne _) hg (fun a w h => ?_) rest
  split at h4
  · rename_i T xs e
    split at h4
    · rename_i x y ex
      obtain ⟨ys⟩ := xs
      simp only at ex
      subst ex
      simp only [Bool.and_eq_true, beq_iff_eq] at h4
      obtain ⟨⟨rfl, h1⟩, h2⟩ := h4
      rw [e] at hx hy
      have e1 := h.src h1
      have e2 := h.src h2
      change (s.K l i a0 x) = _ at hx
      change (t.K l i a0 y) = _ at hy
      rw [hx] at e1
      rw [hy] at e2
      obtain ⟨s', A, n, c, e15, hz, hn⟩ := e2
      have e14 : a.eval x = .slice (some ⟨H, 0, none⟩) r r := e1
      refine ⟨_, ?_, ⟨s', A, n, c, rfl, hz, hn⟩⟩
      unfold execOp
      rw [e]
      simp only [List.map_toArray, List.map_cons, List.map_nil, e14, e15]
      simp [run_bd]
    · cases h4
  · cases h4
end
/-- Five cells are written. -/
def eput (w : World) (g : Nat) (v0 v1 v2 v3 v4 : Value) : World := ((((w.setCell ⟨g, 0, none⟩ v0).setCell ⟨g, 1, none⟩ v1).setCell ⟨g, 2, none⟩ v2).setCell ⟨g, 3, none⟩ v3).setCell ⟨g, 4, none⟩ v4
theorem eput_gro (w : World) (g : Nat) (v0 v1 v2 v3 v4 : Value) : w.grownBy (eput w g v0 v1 v2 v3 v4) (some g) := gro_set (q := ⟨g, 4, none⟩) (gro_set (q := ⟨g, 3, none⟩) (gro_set (q := ⟨g, 2, none⟩) (gro_set (q := ⟨g, 1, none⟩) (gro_set (q := ⟨g, 0, none⟩) (gro_refl w (some g)) rfl _) rfl _) rfl _) rfl _) rfl _
set_option maxRecDepth 100000 in
/-- echelon.Of. -/
theorem eof_q {H r : Nat} {w : World} : Calls Try.prog 115 #[.slice (some ⟨H, 0, none⟩) r r] w (RetK (kE H r) w) := by
  obtain ⟨w1, hw1, b2, z1, s1⟩ := boxes1 w 95 [.slice none 0 0, .slice none 0 0, .bool false, .slice none 0 0, .bool false]
  have HW := Lib.hid hw1
  have HZ := Lib.hid z1
  clear hw1 z1 s1
  go_enter Try.func115, Try.ntmps115
  go_upto_region 1 with fail
  rw [HW.out]
  refine Run.start 3 ?_
  refine .mv .o ?_
  refine .c1 .o (x := kC 1 1) (by rintro u w4 hB rfl; exact zof_q (by omega) (by omega) w4) ?_
  refine .bd (.i 0) (.i 1) (H := H) (r := r) ?_
  refine .donep [some 3, some 4, some 5] ?_
  intro w2 B2
  rintro v4 -
  rintro v ⟨s_, A_, n_, c_, rfl, hz, hk⟩
  change Shut (wpList _ _ _ [_] _ _)
  refine ⟨?_⟩
  simp only [Act.put, List.setIfInBounds_toArray, List.set_cons_zero, List.set_cons_succ]
  replace b2 := b2.below B2
  have hgr := eput_gro w2 w.heap.size (.slice (some ⟨H, 0, none⟩) r r) (.slice none 0 0) (.bool s_) (.slice A_ n_ c_) (.bool false)
  have P : Hid (RetK (kE H r) w (.returned (.agg #[.slice (some ⟨H, 0, none⟩) r r, .slice none 0 0, .bool s_, .slice A_ n_ c_, .bool false])) (eput w2 w.heap.size (.slice (some ⟨H, 0, none⟩) r r) (.slice none 0 0) (.bool s_) (.slice A_ n_ c_) (.bool false))) := Lib.hid ⟨_, rfl, ⟨s_, A_, n_, c_, rfl, hz.gro (b2.now (by simp)) hgr, hk⟩, gro_up (zup HZ.out B2) hgr (Nat.le_refl _)⟩
  unfold eput at P
  have i0 := b2.cell 0
  have i1 := b2.cell 1
  have i2 := b2.cell 2
  have i3 := b2.cell 3
  have i4 := b2.cell 4
  have f0 := b2.free 0
  have f1 := b2.free 1
  have f2 := b2.free 2
  have f3 := b2.free 3
  have f4 := b2.free 4
  simp only [List.getElem?_cons_succ, List.getElem?_cons_zero] at i0 i1 i2 i3 i4
  clear b2 hz B2 hgr
  go_wp2_with fail
  exact bodyPost_ret (v := .agg #[.slice (some ⟨H, 0, none⟩) r r, .slice none 0 0, .bool s_, .slice A_ n_ c_, .bool false]) (by simp [results, Try.results115, go_sem, i0, i1, i2, i3, i4]) rfl P.out
set_option maxRecDepth 100000 in
set_option maxHeartbeats 1000000 in
/-- What reductionOf makes. -/
theorem rof_q {q : Bool} {r c n d k : Nat} {A : Option Addr} {F : Nat → Nat → Int} {w : World} (ha : Mt q w r c A n d k F) (hk1 : 1 ≤ k) (hk : k ≤ 549755813888) : Calls Try.prog 87 #[.agg #[.int .i64 (r : Int), .int .i64 (c : Int), .slice A n d]] w (RofPost w r c k F) := by
  have h1 := ha.fmd
  have h3 := ha.hr
  have h4 := ha.hc
  obtain ⟨w1, hw1, b1, z1, s1⟩ := boxes1 w 24 [.int .i64 (r : Int), .int .i64 (c : Int), .slice A n d]
  have HW := Lib.hid hw1
  have HZ := Lib.hid z1
  clear hw1 z1 s1 h1
  go_enter Try.func87, Try.ntmps87
  go_upto_region 1 with fail
  rw [HW.out]
  refine Run.start 6 ?_
  refine .ld .o (ldM b1 0) ?_
  refine .c1 (.i 0) (x := kT (kM true r c k F) (.k (.int .i64 0))) (by rintro u w2 hB rfl; exact mnorm_yes (ha.below (zup HZ.out hB)) (by omega)) ?_
  refine .mf (.i 1) ?_
  refine .ex (.i 2) 0 kT_0 ?_
  refine .ex (.i 2) 1 kT_1 ?_
  refine .al ?_
  refine .donep [some 8, some 9, some 7, some 10, some 11, some 3] ?_
  intro w2 B2
  rintro v9 -
  rintro v7 -
  rintro v ⟨A1, n1, d1, rfl, hM⟩
  rintro g3 hg3 hl3 hc3 -
  change Shut (wpList _ _ _ [_, _] _ _)
  refine ⟨?_⟩
  simp only [Act.put, List.setIfInBounds_toArray, List.set_cons_zero, List.set_cons_succ]
  have b3 := zeroM hc3
  have B0 := zup HZ.out B2
  have hl1 := b1.lt
  replace b1 := b1.below B2
  clear B2 hc3 ha HZ
  obtain ⟨w3, hw3⟩ : ∃ x, mput w2 g3 (r : Int) (c : Int) A1 n1 d1 = x := ⟨_, rfl⟩
  obtain ⟨f0_, f1_, f2_, f3_, f4_, f5_, f6_⟩ := b3.m3
  replace b1 := b1.mo (g := g3) (r := (r : Int)) (c := (c : Int)) (A := A1) (n := n1) (d := d1) (by omega)
  rw [hw3] at b1
  replace hM := hM.put (r' := (r : Int)) (c' := (c : Int)) (C := A1) (n' := n1) (d' := d1) b3
  rw [hw3] at hM
  replace B0 := below_mput (g := g3) (r := (r : Int)) (c := (c : Int)) (A := A1) (n := n1) (d := d1) B0 (by omega)
  rw [hw3] at B0
  replace b3 := b3.mp (g := g3) (r := (r : Int)) (c := (c : Int)) (A := A1) (n := n1) (d := d1)
  rw [hw3] at b3
  have Hw3 := Lib.hid hw3
  unfold mput at Hw3
  clear hw3
  go_upto_region 2 with fail
  rw [Hw3.out]
  clear f0_ f1_ f2_ f3_ f4_ f5_ f6_ Hw3
  refine Run.start 4 ?_
  refine .fa .o (fM0 0) ?_
  refine .ld (.i 0) (ldInt b1 0) ?_
  refine .mkS (.i 1) (r := r) (b0 := w3.heap.size) (by omega) (Nat.le_refl _) ?_
  refine .mf (.i 2) ?_
  refine .donep [some 12, some 13, some 14, some 5] ?_
  intro w5 B5
  rintro v14 -
  rintro v5 ⟨H, rfl, bh, hH⟩
  change Shut (wpList _ _ _ [] _ _)
  refine ⟨?_⟩
  simp only [Act.put, List.setIfInBounds_toArray, List.set_cons_zero, List.set_cons_succ]
  have hs3 := B0.size
  replace B0 := zup B0 B5
  have hown := Lib.hid hM
  have hl3 := b3.lt
  replace b1 := b1.below B5
  replace b3 := b3.below B5
  replace hM := hM.below B5
  have HG3 : Hid (∀ ad : Addr, A1 = some ad → 0 < n1 → ad.block < w3.heap.size) := Lib.hid fun ad e h0 => by
    obtain ⟨ad', e', hl, -⟩ := hown.out.zl.at' h0
    rw [e] at e'; cases e'
    exact hl
  clear hown B5
  go_upto_region 3 with fail
  refine Run.start 3 ?_
  refine .mv .o ?_
  refine .len (.i 0) Try.underlying93 ?_
  refine .mv .o ?_
  refine .donep [some 15, some 16, some 17] ?_
  intro w6 B6
  change Shut (wpList _ _ _ [] _ _)
  refine ⟨?_⟩
  simp only [Act.put, List.setIfInBounds_toArray, List.set_cons_zero, List.set_cons_succ]
  replace B0 := zup B0 B6
  replace b1 := b1.below B6
  replace b3 := b3.below B6
  replace bh := bh.below B6
  replace hM := hM.below B6
  have hln := hM.len
  have hcap := hM.zl.le
  have hno : Wless w6 H := bh.now (by intro v hv m e; rw [(List.mem_replicate.1 hv).2] at e; cases e)
  have HN := Lib.hid hno
  have HB1 := Lib.hid b1
  have HB3 := Lib.hid b3
  have HBH := Lib.hid bh
  have HM := Lib.hid hM
  have HB0 := Lib.hid B0
  clear hno b1 b3 bh hM B0 B6
  go_wp2_with fail
  go_loopw [17] (fun s17 wr => ∃ i : Nat, s17 = .int .i64 (i : Int) ∧ i ≤ r ∧ Hid (w6.grownBy wr (some H) ∧ ∃ rows, Bx wr H 22 rows ∧ rows.length = r ∧ ∀ a, a < i → rows[a]? = some (.slice (if (a + 1) * c = a * c then A1 else A1.map (·.add (a * c * 2))) ((a + 1) * c - a * c) ((a + 1) * c - a * c)))) (fun s17 _ => r - (intOf s17).toNat)
  case atStart => exact ⟨0, rfl, Nat.zero_le _, Lib.hid ⟨gro_refl _ _, _, HBH.out, by simp, fun a ha => by omega⟩⟩
  case round =>
    obtain ⟨i, rfl, hir, HB⟩ := hrel
    obtain ⟨hgr, rows, hb, hlr, hall⟩ := HB.out
    by_cases hlt : i < r
    · have u2 : (i : Int) < (r : Int) := by omega
      have hr5 : (i + 1) * c ≤ r * c := Nat.mul_le_mul_right c hlt
      have hr6 : r * c ≤ 64 * 64 := Nat.mul_le_mul h3 h4
      have hr7 : i * c ≤ (i + 1) * c := Nat.mul_le_mul_right c (Nat.le_succ i)
      have b1 := gro_bx HB1.out hgr (by omega)
      have b3 := gro_bx HB3.out hgr (by omega)
      have HGr := Lib.hid hgr
      have HA := Lib.hid hall
      clear HB hgr hall
      go_upto_region 6 with fail
      refine Run.start 20 ?_
      refine .mv .o ?_
      refine .mv .o ?_
      refine .fa .o (fM2 2) ?_
      refine .ld (.i 2) (ldSl b3 2) ?_
      refine .mv .o ?_
      refine .fa .o (fM1 1) ?_
      refine .ld (.i 5) (ldInt b1 1) ?_
      refine .two (.i 4) (.i 6) (opMulN i c (by omega)) ?_
      refine .mv .o ?_
      refine .two (.i 8) .o (opAddN i 1 (by omega)) ?_
      refine .fa .o (fM1 1) ?_
      refine .ld (.i 10) (ldInt b1 1) ?_
      refine .two (.i 9) (.i 11) (opMulN (i + 1) c (by omega)) ?_
      refine .mv .o ?_
      refine .two (.i 13) .o (opAddN i 1 (by omega)) ?_
      refine .fa .o (fM1 1) ?_
      refine .ld (.i 15) (ldInt b1 1) ?_
      refine .two (.i 14) (.i 16) (opMulN (i + 1) c (by omega)) ?_
      refine .sl3 (.i 3) (.i 7) (.i 12) (.i 17) (A := A1) (n := n1) (cap := d1) hr7 (Nat.le_refl _) (by omega) ?_
      refine .two (.i 0) (.i 1) (opIxS hlt) ?_
      refine .donep [some 20, some 21, some 22, some 23, some 24, some 25, some 26, some 27, some 28, some 29, some 30, some 31, some 32, some 33, some 34, some 35, some 36, some 37, some 38, some 39] ?_
      intro w7 B7
      change Shut (wpList _ _ _ [_] _ _)
      refine ⟨?_⟩
      simp only [Act.put, List.setIfInBounds_toArray, List.set_cons_zero, List.set_cons_succ]
      obtain ⟨Ar, hAr⟩ : ∃ v, (if (i + 1) * c = i * c then A1 else A1.map (·.add (i * c * 2))) = v := ⟨_, rfl⟩
      obtain ⟨nr, hnr⟩ : ∃ v, (i + 1) * c - i * c = v := ⟨_, rfl⟩
      have hvr : Value.slice (if (i + 1) * c = i * c then A1 else A1.map (·.add (i * c * 2))) ((i + 1) * c - i * c) ((i + 1) * c - i * c) = .slice Ar nr nr := by rw [hAr, hnr]
      rw [hvr]
      have hb7 := hb.below B7
      have x1 := (hb7.cell i).trans (List.getElem?_eq_getElem (by rw [hlr]; exact hlt))
      have y1 := hb7.free i
      have HS : Hid (w6.grownBy (w7.setCell ⟨H, i, none⟩ (.slice Ar nr nr)) (some H) ∧ ∃ rows, Bx (w7.setCell ⟨H, i, none⟩ (.slice Ar nr nr)) H 22 rows ∧ rows.length = r ∧ ∀ a, a < i + 1 → rows[a]? = some (.slice (if (a + 1) * c = a * c then A1 else A1.map (·.add (a * c * 2))) ((a + 1) * c - a * c) ((a + 1) * c - a * c))) := Lib.hid ⟨gro_set (gro_trans HGr.out (gro_of B7 _)) rfl _, _, hb7.set i (.slice Ar nr nr), by rw [List.length_set]; exact hlr, fun a ha => by
        by_cases e : a = i
        · subst e
          rw [List.getElem?_set_self (by rw [hlr]; exact hlt), hvr]
        · rw [List.getElem?_set_ne (Ne.symm e)]
          exact HA.out a (by omega)⟩
      have HV := Lib.hid hvr
      clear hb hb7 b1 b3 B7 hvr hAr hnr
      go_wp2_with fail
      go_roundw
      case rel => exact ⟨i + 1, by go_num, by omega, HS⟩
      case measure => first | (simp [intOf]; done) | (simp [intOf]; omega)
    · obtain rfl : i = r := by omega
      have u2 : ¬ (i : Int) < (i : Int) := by omega
      have hsz := HB0.out.size
      go_wp2_with fail
      refine (eof_q (H := H) (r := i)).mono ?_
      rintro e w8 ⟨v, rfl, ⟨sa, A', n', c', rfl, hz, hn⟩, B8⟩
      have hgw := hgr.size
      have hh8 := hb.lt
      have hg8 := B8.size
      obtain ⟨g, hg⟩ : ∃ g, w8.heap.size = g := ⟨_, rfl⟩
      have BA := zba w8 (.cells #[.slice (some ⟨H, 0, none⟩) i i, .slice none 0 0, .bool sa, .slice A' n' c', .bool false] 97)
      have bnew := Bx.new w8 97 [.slice (some ⟨H, 0, none⟩) i i, .slice none 0 0, .bool sa, .slice A' n' c', .bool false]
      rw [hg] at bnew
      have P : Hid (RofPost w i c k F (.returned (.pointer (some ⟨g, 0, none⟩))) (w8.alloc (.cells #[.slice (some ⟨H, 0, none⟩) i i, .slice none 0 0, .bool sa, .slice A' n' c', .bool false] 97))) := Lib.hid ⟨g, H, sa, A', n', c', rows, rfl, zup (zup (gro_up HB0.out hgr (by omega)) B8) BA, {
        bx := bnew
        hd := (hb.below B8).below BA
        len := hlr
        ne := by omega
        bg := by omega
        bh := by omega
        own := OwnI.nil _ _ _
        pg := by simp [Value.ownBlock]
        ph := by simp [Value.ownBlock]
        az := hz.below BA
        an := by omega
        row := fun a ha => by
          have hb1 : a * c + c ≤ i * c := by rw [← Nat.succ_mul]; exact Nat.mul_le_mul_right c ha
          have hb2 : (a + 1) * c = a * c + c := Nat.succ_mul a c
          have hz := HM.out.row ha ((a + 1) * c) (by omega) (by omega)
          have hcc : (a + 1) * c - a * c = c := by omega
          rw [hcc] at hz
          refine ⟨_, hall a ha, _, _, by rw [hcc], ?_, fun h0 ad e hm => ?_⟩
          · refine ((hz.gro0 (fun h0 ad e => ?_) HN.out hgr).below B8).below BA
            rw [if_neg (by omega)] at e
            cases hA : A1 with
            | none => rw [hA] at e; cases e
            | some ad' =>
              rw [hA] at e
              cases e
              have := HG3.out ad' hA (by omega)
              rw [add_block]
              omega
          · rw [if_neg (by omega)] at e
            cases hA : A1 with
            | none => rw [hA] at e; cases e
            | some ad' =>
              rw [hA] at e
              cases e
              have := HG3.out ad' hA (by omega)
              rw [add_block] at hm
              simp [blkOf, Value.ownBlock] at hm
              omega }⟩
      clear HB hgr hb hall
      go_wp2_with fail
      exact bodyPost_ret (v := .pointer (some ⟨g, 0, none⟩)) (by simp [results, Try.results87, go_sem]) rfl P.out
end Go.Proofs.Ytcdkdanfiimlkaa
