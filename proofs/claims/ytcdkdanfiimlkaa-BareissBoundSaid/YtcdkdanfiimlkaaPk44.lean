/-
  BarM
-/
import Derived.Test.YtcdkdanfiimlkaaPk43

/-! Contract: the bound of a determinant. -/
namespace Go.Proofs.Ytcdkdanfiimlkaa
open Go.RowKit
set_option linter.unusedVariables false
set_option linter.unusedSimpArgs false

def IsHdn (b r : Nat) : FVal := fun v w => ∃ H, v = .slice (some ⟨H, 0, none⟩) r r ∧ Bx w H 26 (List.replicate r (.slice none 0 0)) ∧ b ≤ H
def kHdn (b r : Nat) : FK := .f (IsHdn b r) (fun v w w' ⟨H, e, h1, h2⟩ hb => ⟨H, e, h1.below hb, h2⟩)
theorem info_nn : (Try.prog.info? 26).map (fun i => (i.zero, i.size, i.bytes)) = some (some (.slice none 0 0), 1, 24) := by kernel_rfl
set_option maxRecDepth 100000 in
theorem run_mkN (w : World) (r : Nat) (hr : r ≤ 1048576) : (Instr.makeSlice 102 (.int .i64 (r : Int)) (.int .i64 (r : Int))).run Try.prog w = .ok (.slice (some ⟨w.heap.size, 0, none⟩) r r) (w.alloc (.cells (List.replicate r (.slice none 0 0)).toArray 26)) := by
  obtain ⟨i, hi, hz0, hz1, hz2⟩ := info_parts info_nn
  rw [run_make w _ _ i (.slice none 0 0) Try.underlying102 hi hz0 .i64 .i64 (r : Int) (r : Int) (by omega) (Int.le_refl _) (by rw [hz2]; omega) (by omega)]
  rw [hz1]
  simp [madeCells]
  congr 2
  apply Array.ext
  · simp
  · intro j h1 h2; simp [Value.cells, Nat.mod_one]
section
variable {ops : Array Oper} {Q : Exit → Act → World → Prop} {m i : Nat} {a0 : Act} {w0 : World} {l : List FK} {b : Bool} {id : Nat}
def okMn (ops : Array Oper) (m i : Nat) (s : Src) : Bool := okH ops m i && (match (opAt ops i).op with | .makeSlice T x y => T == 102 && s.ok ops m i x && s.ok ops m i y | _ => false)
theorem Run.mkN (s : Src) {r b0 : Nat} (hr : r ≤ 1048576) (hb0 : b0 ≤ w0.heap.size) (rest : R ops Q m a0 w0 b id (kHdn b0 r :: l) (i + 1)) (hx : s.K l i a0 (mkX (opAt ops i).op) = .k (.int .i64 (r : Int)) := by rfl) (hy : s.K l i a0 (mkY (opAt ops i).op) = .k (.int .i64 (r : Int)) := by rfl) (hc : okMn ops m i s = true := by kernel_rfl) (hg : Gd l i (opAt ops i) := by first | exact trivial | exact rfl) : R ops Q m a0 w0 b id l i := by
  unfold okMn at hc
  rw [Bool.and_eq_true] at hc
  obtain ⟨hh, h4⟩ := hc
  refine Run.mem (x := kHdn b0 r) (fun a w h => ?_) rest (FK.fne _) hh hg
  split at h4
  · rename_i T x y e
    simp only [Bool.and_eq_true, beq_iff_eq] at h4
    obtain ⟨⟨rfl, h2⟩, h3⟩ := h4
    rw [e] at hx hy
    refine ⟨_, _, ?_, ⟨w.heap.size, rfl, Bx.new w _ _, Nat.le_trans hb0 h.below.size⟩, zba w _⟩
    unfold execOp
    rw [e]
    simp only [h.srcK h2 hx, h.srcK h3 hy]
    simp [run_mkN w r hr]
  · cases h4
end
theorem run_ixQ {w : World} {H i n c : Nat} (h : i < n) : (Instr.indexAt 102 (.slice (some ⟨H, 0, none⟩) n c) (.int .i64 (i : Int))).run Try.prog w = .ok (.pointer (some ⟨H, i, none⟩)) w := by
  simp [go_sem, Try.underlying102, show Try.prog.cellsOf 26 = 1 by kernel_rfl]
  omega
theorem opIxQ {H i n c : Nat} {X Y : Operand} (h : i < n) (w : World) : RunTwo Try.prog (.indexAddr 102 X Y) w (.slice (some ⟨H, 0, none⟩) n c) (.int .i64 (i : Int)) (.pointer (some ⟨H, i, none⟩)) := run_ixQ h
theorem prodV_app : ∀ (L : List Ent) (e : Ent), prodV (L ++ [e]) = prodV L * e.v
  | [], e => by simp [prodV]
  | r :: L, e => by simp only [List.cons_append, prodV]; rw [prodV_app L e, Nat.mul_assoc]
theorem wtV_app : ∀ (L : List Ent) (e : Ent), wtV (L ++ [e]) = wtV L + e.n
  | [], e => by simp [wtV]
  | r :: L, e => by simp only [List.cons_append, wtV]; rw [wtV_app L e, Nat.add_assoc]
theorem prodV_le {w : World} : ∀ (L : List Ent), (∀ e, e ∈ L → Nv w e.A e.n e.c e.v) → prodV L ≤ 18446744073709551616 ^ wtV L
  | [], _ => by simp [prodV, wtV]
  | r :: L, h => by
    have h1 := (h r (by simp)).lt
    have h2 := prodV_le L fun e he => h e (by simp [he])
    simp only [prodV, wtV, Nat.pow_add]
    exact Nat.mul_le_mul (Nat.le_of_lt h1) h2
theorem prodV_lt {w : World} (L : List Ent) (h : ∀ e, e ∈ L → Nv w e.A e.n e.c e.v) : prodV L < 18446744073709551616 ^ (wtV L + 1) := by
  have h1 := prodV_le L h
  have h2 : 0 < 18446744073709551616 ^ wtV L := Nat.pow_pos (by omega)
  rw [Nat.pow_succ]
  omega
/-- The lengths that are there. -/
structure Lens (w : World) (c k : Nat) (F : Nat → Nat → Int) (i : Nat) (L : List Ent) : Prop where
  len : L.length = i
  prod : prodV L = bdn c F i
  wt : wtV L ≤ i * k
  ok : ∀ e, e ∈ L → Nv w e.A e.n e.c e.v
theorem Lens.below {w w' : World} {c k : Nat} {F : Nat → Nat → Int} {i : Nat} {L : List Ent} (h : Lens w c k F i L) (hb : Below w.heap.size w w') : Lens w' c k F i L := ⟨h.len, h.prod, h.wt, fun e he => (h.ok e he).below hb⟩
theorem Lens.gro {w w' : World} {c k g : Nat} {F : Nat → Nat → Int} {i : Nat} {L : List Ent} (h : Lens w c k F i L) (hn : Wless w g) (hg : w.grownBy w' (some g)) : Lens w' c k F i L := ⟨h.len, h.prod, h.wt, fun e he => (h.ok e he).gro hn hg⟩
theorem Lens.more {w : World} {c k : Nat} {F : Nat → Nat → Int} {i : Nat} {L : List Ent} (h : Lens w c k F i L) {A : Option Addr} {n d : Nat} (hz : Cv w A n d (lsq (sqs (F i) c))) (hk : n ≤ k) : Lens w c k F (i + 1) (L ++ [⟨A, n, d, lsq (sqs (F i) c)⟩]) := ⟨by simp [h.len], by rw [prodV_app, h.prod]; rfl, by rw [wtV_app, Nat.succ_mul]; have := h.wt; dsimp only; omega, fun e he => by
  rw [List.mem_append] at he
  rcases he with he | he
  · exact h.ok e he
  · simp at he; subst he; exact hz.nv⟩
/-- The block of the list, when i of them are there. -/
def hdn (L : List Ent) (r i : Nat) : List Value := vals L ++ List.replicate (r - i) (.slice none 0 0)
theorem hdn_set {L : List Ent} {r i : Nat} (hl : L.length = i) (hi : i < r) (e : Ent) : (hdn L r i).set i e.val = hdn (L ++ [e]) r (i + 1) := by
  unfold hdn
  have hv : (vals L).length = i := by rw [vals_length, hl]
  rw [List.set_append_right _ _ (by omega), hv, Nat.sub_self, show r - i = (r - (i + 1)) + 1 by omega, List.replicate_succ, List.set_cons_zero]
  simp [vals]
theorem hdn_len {L : List Ent} {r i : Nat} (hl : L.length = i) (hi : i ≤ r) : (hdn L r i).length = r := by unfold hdn; rw [List.length_append, vals_length, List.length_replicate]; omega
theorem hdn_now {w : World} {H r i : Nat} {L : List Ent} (b : Bx w H 26 (hdn L r i)) : Wless w H := b.now fun v hv m e => by
  unfold hdn at hv
  rw [List.mem_append] at hv
  rcases hv with hv | hv
  · simp only [vals, List.mem_map] at hv
    obtain ⟨x, _, rfl⟩ := hv
    cases e
  · rw [(List.mem_replicate.1 hv).2] at e; cases e
set_option maxRecDepth 100000 in
set_option maxHeartbeats 1000000 in
/-- Bound. -/
theorem bound_yes {q : Bool} {r n d k K : Nat} {A : Option Addr} {F : Nat → Nat → Int} {w : World} (ha : Mt q w r r A n d k F) (hk : k ≤ 400) (hK : r * (2 * k + r + 2) + 1 = K) : Calls Try.prog 52 #[.agg #[.int .i64 (r : Int), .int .i64 (r : Int), .slice A n d]] w (RetK (kT (kC (bdn r F r : Int) K) (.k (.int .i64 0))) w) := by
  have h1 := ha.fmd
  have h3 := ha.hr
  have hs1 : (fmd (r : Int) (r : Int) n && decide ((r : Int) = (r : Int))) = true := by rw [h1]; simp
  have hK2 : K ≤ 64 * 866 + 1 := by rw [← hK]; exact Nat.succ_le_succ (Nat.mul_le_mul h3 (by omega))
  obtain ⟨w1, hw1, b1, b2, z1, s1⟩ := boxes2 w 24 28 [.int .i64 (r : Int), .int .i64 (r : Int), .slice A n d] [.bool false, .slice none 0 0]
  have HW := Lib.hid hw1
  have HZ := Lib.hid z1
  have hs1_ := Lib.hid hs1
  have hK_ := Lib.hid hK
  clear hw1 z1 hs1 hK h1
  go_enter Try.func52, Try.ntmps52
  go_upto_region 1 with fail
  rw [HW.out]
  refine Run.start 3 ?_
  refine .ld .o (ldM b1 0) ?_
  refine .c1 (.i 0) (x := .k (.bool true)) (by rintro u w2 hB rfl; exact sq_q hs1_.out w2) ?_
  refine .nt (.i 1) ?_
  refine .donep [some 6, some 7, some 8] ?_
  intro w2 B2
  change Shut (wpList _ _ _ [] _ _)
  refine ⟨?_⟩
  simp only [Act.put, List.setIfInBounds_toArray, List.set_cons_zero, List.set_cons_succ]
  have B0 := zup HZ.out B2
  replace b1 := b1.below B2
  replace b2 := b2.below B2
  have hl1 := b1.lt
  have hl2 := b2.lt
  have hs2 := B0.size
  clear B2 HZ
  go_upto_region 3 with fail
  refine Run.start 4 ?_
  refine .fa .o (fM0 0) ?_
  refine .ld (.i 0) (ldInt b1 0) ?_
  refine .mkN (.i 1) (r := r) (b0 := w2.heap.size) (by omega) (Nat.le_refl _) ?_
  refine .mf (.i 2) ?_
  refine .donep [some 10, some 11, some 12, some 4] ?_
  intro w3 B3
  rintro v12 -
  rintro v ⟨H, rfl, bh, hH⟩
  change Shut (wpList _ _ _ [] _ _)
  refine ⟨?_⟩
  simp only [Act.put, List.setIfInBounds_toArray, List.set_cons_zero, List.set_cons_succ]
  have H0 : Hid (Below w.heap.size w w3 ∧ Bx w3 w.heap.size 24 [.int .i64 (r : Int), .int .i64 (r : Int), .slice A n d] ∧ Bx w3 (w.heap.size + 1) 28 [.bool false, .slice none 0 0] ∧ ∃ L, Bx w3 H 26 (hdn L r (0)) ∧ Lens w3 r (2 * k + r + 2) F (0) L) := Lib.hid ⟨zup B0 B3, b1.below B3, b2.below B3, [], by unfold hdn; simpa [vals] using bh, ⟨rfl, rfl, by simp [wtV], fun e he => by simp at he⟩⟩
  have HM := Lib.hid ha
  have hH2 : w.heap.size + 1 < H := by omega
  have hH3 : w.heap.size ≤ H := by omega
  clear b1 b2 bh B0 B3 ha hl1 hl2 hs2 hH
  go_wp2_with fail
  go_loopw [15] (fun s15 wr => ∃ i : Nat, s15 = .int .i64 (i : Int) ∧ i ≤ r ∧ Hid (Below w.heap.size w wr ∧ Bx wr w.heap.size 24 [.int .i64 (r : Int), .int .i64 (r : Int), .slice A n d] ∧ Bx wr (w.heap.size + 1) 28 [.bool false, .slice none 0 0] ∧ ∃ L, Bx wr H 26 (hdn L r (i)) ∧ Lens wr r (2 * k + r + 2) F (i) L)) (fun s15 _ => r - (intOf s15).toNat)
  case atStart => exact ⟨0, rfl, Nat.zero_le _, H0⟩
  case round =>
    obtain ⟨i, rfl, hir, HB⟩ := hrel
    clear H0
    by_cases hlt : i < r
    · have u2 : (i : Int) < (r : Int) := by omega
      obtain ⟨B0, b1, b2, L, bh, hl⟩ := HB.out
      have hr5 : (i + 1) * r ≤ r * r := Nat.mul_le_mul_right r hlt
      have hr6 : r * r ≤ 64 * 64 := Nat.mul_le_mul h3 h3
      have hr7 : i * r ≤ (i + 1) * r := Nat.mul_le_mul_right r (Nat.le_succ i)
      have hr8 : (i + 1) * r = i * r + r := Nat.succ_mul i r
      have hM := HM.out.below B0
      have hln := hM.len
      have hcap := hM.zl.le
      have hrow := hM.row hlt d (by omega) (Nat.le_refl _)
      have hrr : (i + 1) * r - i * r = r := by omega
      obtain ⟨Ar, hAr⟩ : ∃ v, (if d = i * r then A else A.map (·.add (i * r * 2))) = v := ⟨_, rfl⟩
      rw [hAr] at hrow
      have HAr := Lib.hid hAr
      have HRR := Lib.hid hrr
      clear HB hM hAr hrr
      go_upto_region 7 with fail
      refine Run.start 16 ?_
      refine .mv .o ?_
      refine .mv .o ?_
      refine .fa .o (fM2 2) ?_
      refine .ld (.i 2) (ldSl b1 2) ?_
      refine .mv .o ?_
      refine .fa .o (fM1 1) ?_
      refine .ld (.i 5) (ldInt b1 1) ?_
      refine .two (.i 4) (.i 6) (opMulN i r (by omega)) ?_
      refine .mv .o ?_
      refine .two (.i 8) .o (opAddN i 1 (by omega)) ?_
      refine .fa .o (fM1 1) ?_
      refine .ld (.i 10) (ldInt b1 1) ?_
      refine .two (.i 9) (.i 11) (opMulN (i + 1) r (by omega)) ?_
      refine .sl2 (.i 3) (.i 7) (.i 12) (A := A) (n := n) (cap := d) hr7 (by omega) ?_
      refine .c1 (.i 13) (x := kN (lsq (sqs (F i) r)) (2 * k + r + 2)) (by rintro u w4 hB rfl; rw [HAr.out, HRR.out]; exact length_q (hrow.below hB) h3 hk) ?_
      refine .two (.i 0) (.i 1) (opIxQ hlt) ?_
      refine .donep [some 18, some 19, some 20, some 21, some 22, some 23, some 24, some 25, some 26, some 27, some 28, some 29, some 30, some 31, some 32, some 33] ?_
      intro w4 B4
      rintro v ⟨A4, n4, c4, rfl, hc4, hk4⟩
      change Shut (wpList _ _ _ [_] _ _)
      refine ⟨?_⟩
      simp only [Act.put, List.setIfInBounds_toArray, List.set_cons_zero, List.set_cons_succ]
      replace B0 := zup B0 B4
      replace b1 := b1.below B4
      replace b2 := b2.below B4
      replace bh := bh.below B4
      replace hl := (hl.below B4).more hc4 hk4
      have hLl : L.length = i := by have := hl.len; simp at this; exact this
      have x1 := (bh.cell i).trans (List.getElem?_eq_getElem (by rw [hdn_len hLl (by omega)]; exact hlt))
      have y1 := bh.free i
      have hgr : w4.grownBy (w4.setCell ⟨H, i, none⟩ (.slice A4 n4 c4)) (some H) := gro_set (q := ⟨H, i, none⟩) (gro_refl w4 (some H)) rfl _
      have hno := hdn_now bh
      have HS : Hid (Below w.heap.size w (w4.setCell ⟨H, i, none⟩ (.slice A4 n4 c4)) ∧ Bx (w4.setCell ⟨H, i, none⟩ (.slice A4 n4 c4)) w.heap.size 24 [.int .i64 (r : Int), .int .i64 (r : Int), .slice A n d] ∧ Bx (w4.setCell ⟨H, i, none⟩ (.slice A4 n4 c4)) (w.heap.size + 1) 28 [.bool false, .slice none 0 0] ∧ ∃ L, Bx (w4.setCell ⟨H, i, none⟩ (.slice A4 n4 c4)) H 26 (hdn L r (i + 1)) ∧ Lens (w4.setCell ⟨H, i, none⟩ (.slice A4 n4 c4)) r (2 * k + r + 2) F (i + 1) L) := Lib.hid ⟨gro_up B0 hgr hH3, gro_bx b1 hgr (by omega), gro_bx b2 hgr (by omega), _, by rw [← hdn_set hLl hlt]; exact bh.set i _, hl.gro hno hgr⟩
      clear b1 b2 bh hl hgr hno hc4 B4 B0 hrow
      go_wp2_with fail
      go_roundw
      case rel => exact ⟨i + 1, by go_num, by omega, HS⟩
      case measure => first | (simp [intOf]; done) | (simp [intOf]; omega)
    · obtain rfl : i = r := by omega
      have u2 : ¬ (i : Int) < (i : Int) := by omega
      obtain ⟨B0, b1, b2, L, bh, hl⟩ := HB.out
      clear HB
      go_upto_region 9 with fail
      refine Run.start 3 ?_
      refine .mv .o ?_
      refine .c1 (.i 0) (x := kN (bdn i F i) K) (by rintro u w4 hB rfl; exact (product_calls (R := L) (N := wtV L) (by intro h0; refine ⟨⟨H, 0, none⟩, rfl, (bh.below hB).lt, fun j hj => ?_⟩; rw [add_lit0, (bh.below hB).cell j]; unfold hdn; rw [List.getElem?_append_left (by rw [vals_length]; exact hj), vals_get hj]) hl.len (fun e he => ⟨(hl.below hB).ok e he, fun ad ea h0 => .inl (by obtain ⟨xs, hr, hx2, -⟩ := (hl.below hB).ok e he; obtain ⟨ad', e2, hlt2, -⟩ := hr (by omega); rw [ea] at e2; cases e2; exact hlt2)⟩) (by omega) (Nat.le_refl _) (by have := hl.wt; have := hK_.out; omega)).mono fun e w' h => by rw [hl.prod] at h; exact (h.cv (by rw [← hl.prod]; exact prodV_lt L hl.ok)).q (by have := hl.wt; have := hK_.out; omega)) ?_
      refine .c2 (.i 1) .o (x := kC (bdn i F i : Int) K) (by rintro u v w4 hB ⟨A1, n1, c1, rfl, h1, h2⟩ rfl; exact (zfrom_v (b := false) h1.nv (by omega)).mono fun e w' h => h.q h2) ?_
      refine .donep [some 35, some 36, some 37] ?_
      intro w4 B4
      rintro v36 -
      rintro v ⟨s_, A_, n_, c_, rfl, hz, hk_⟩
      change Shut (wpList _ _ _ [_, _] _ _)
      refine ⟨?_⟩
      simp only [Act.put, List.setIfInBounds_toArray, List.set_cons_zero, List.set_cons_succ]
      have I := Ib.entry (b2.below B4)
      have P : Hid (RetK (kT (kC (bdn i F i : Int) K) (.k (.int .i64 0))) w (.returned (.tuple #[.agg #[.bool s_, .slice A_ n_ c_], .int .i64 0])) ((w4.setCell ⟨w.heap.size + 1, 0, none⟩ (.bool s_)).setCell ⟨w.heap.size + 1, 1, none⟩ (.slice A_ n_ c_))) := Lib.hid (by
        obtain ⟨u, e, h1, h2⟩ := retC hz I (k := K) hk_ (by omega) (zup B0 B4)
        cases e
        exact ⟨_, rfl, ⟨_, _, rfl, h1, rfl⟩, h2⟩)
      obtain ⟨i1, i2, i3, i4, i5⟩ := I
      clear hz b1 b2 bh hl
      go_wp2_with fail
      exact bodyPost_ret (v := .tuple #[.agg #[.bool s_, .slice A_ n_ c_], .int .i64 0]) (by simp [results, Try.results52, go_sem, i1, i2]) rfl P.out
set_option maxRecDepth 100000 in
/-- Bound, of what has no determinant. -/
theorem bound_no {r c : Int} {n d K : Nat} {A : Option Addr} {w : World} (h : (fmd r c n && decide (r = c)) = false) : Calls Try.prog 52 #[.agg #[.int .i64 r, .int .i64 c, .slice A n d]] w (RetK (kT (kC 0 K) (.k (.int .i64 2))) w) := by
  obtain ⟨w1, hw1, b1, b2, z1, s1⟩ := boxes2 w 24 28 [.int .i64 r, .int .i64 c, .slice A n d] [.bool false, .slice none 0 0]
  have HW := Lib.hid hw1
  have HZ := Lib.hid z1
  have h_ := Lib.hid h
  clear hw1 z1 h s1
  go_enter Try.func52, Try.ntmps52
  go_upto_region 1 with fail
  rw [HW.out]
  refine Run.start 3 ?_
  refine .ld .o (ldM b1 0) ?_
  refine .c1 (.i 0) (x := .k (.bool false)) (by rintro u w2 hB rfl; exact sq_q h_.out w2) ?_
  refine .nf (.i 1) ?_
  refine .donep [some 6, some 7, some 8] ?_
  intro w2 B2
  change Shut (wpList _ _ _ [] _ _)
  refine ⟨?_⟩
  simp only [Act.put, List.setIfInBounds_toArray, List.set_cons_zero, List.set_cons_succ]
  have I := Ib.entry (b2.below B2)
  have P : Hid (RetK (kT (kC 0 K) (.k (.int .i64 2))) w (.returned (.tuple #[.agg #[.bool false, .slice none 0 0], .int .i64 2])) ((w2.setCell ⟨w.heap.size + 1, 0, none⟩ (.bool false)).setCell ⟨w.heap.size + 1, 1, none⟩ (.slice none 0 0))) := Lib.hid ⟨_, rfl, ⟨_, _, rfl, ⟨_, _, _, _, rfl, Zc.nought _, Nat.zero_le _⟩, rfl⟩, below_put (zup HZ.out B2) (by omega)⟩
  obtain ⟨i1, i2, i3, i4, i5⟩ := I
  go_wp2_with fail
  exact bodyPost_ret (v := .tuple #[.agg #[.bool false, .slice none 0 0], .int .i64 2]) (by simp [results, Try.results52, go_sem, i1, i2]) rfl P.out
end Go.Proofs.Ytcdkdanfiimlkaa
