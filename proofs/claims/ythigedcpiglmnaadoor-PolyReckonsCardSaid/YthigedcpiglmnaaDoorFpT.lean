/-
  The statements of layer 9: Of, awake, few, is, divides.
-/
import Derived.Test.YthigedcpiglmnaaDoorFpS
/-! What the statements of layer 9 share. -/
namespace Go.Proofs.YthigedcpiglmnaaDoor
open Go.RowKit
set_option linter.unusedVariables false
set_option linter.unusedSimpArgs false

set_option maxRecDepth 100000 in
set_option maxHeartbeats 1000000 in
/-- Of: the field of a prime. -/
theorem fof9_v {ab p n : Nat} {w : World} (hn : n < 256) (hT : TabHas w) (hp0 : pn (n % 12) = p) (hp : ab + 2 = p) :
    Calls Tryd.prog 12 #[.int .u8 (n : Int)] w (fun e w' => e = .returned (.agg #[.int .u64 (ab : Int)]) ∧ Below w.heap.size w w') := by
  have hpr := pn_pr (n % 12) (by omega)
  rw [hp0] at hpr
  have HPR := Lib.hid hpr
  have hpl := hpr.2.1
  have HP := Lib.hid hp
  clear hpr hp
  have hW := Below.refl w.heap.size w
  obtain ⟨wp0, hwp0⟩ : ∃ xw, xw = w.alloc (.cells #[.int .u64 (0 : Int)] 28) := ⟨_, rfl⟩
  have zp0 : Below w.heap.size w wp0 := by rw [hwp0]; exact zba _ _
  have sp0 : wp0.heap.size = w.heap.size + 1 := by rw [hwp0, World.size_alloc]
  have Ir : Fb wp0 w.heap.size 0 := by rw [hwp0]; exact Fb.new _ _ _
  replace hT := hT.below zp0
  replace hW := hW.trans (zp0.mono hW.size)
  have H_r := Lib.hid Ir
  clear Ir zp0
  have HW : Hid ((w.alloc (.cells #[.int .u64 (0 : Int)] 28)) = wp0) := Lib.hid (by rw [hwp0])
  have lw_r : w.heap.size ≤ w.heap.size := by omega
  clear hwp0 sp0
  skip
  go_enter Tryd.func12, Tryd.ntmps12
  obtain ⟨r1, r2, r3⟩ := H_r.out
  go_wp2_with fail
  rw [HW.out]
  clear r1 r2 r3
  refine (rp_calls (p := p) hn hp0 _).mono ?_
  rintro e w21 ⟨rfl, B21⟩
  replace H_r := Lib.hid (H_r.out.below B21)
  replace hT := hT.below B21
  replace hW := hW.trans (B21.mono hW.size)
  clear B21
  obtain ⟨r1, r2, r3⟩ := H_r.out
  go_wp2_with fail
  clear r1 r2 r3
  refine (fnew_yes (ab := ab) (by omega) hT HPR.out.1 HPR.out.2.1 HP.out).mono ?_
  rintro e w22 ⟨rfl, B22⟩
  replace H_r := Lib.hid (H_r.out.below B22)
  replace hT := hT.below B22
  replace hW := hW.trans (B22.mono hW.size)
  clear B22
  have hge := H_r.out.2.2
  obtain ⟨r1, r2, r3⟩ := H_r.out
  go_wp2_with fail
  refine bodyPost_ret (v := .agg #[.int .u64 (ab : Int)]) (by simp [results, Tryd.results12, go_sem, r1, r2, r3]) rfl ⟨rfl, ?_⟩
  exact (hW.setCell (p := ⟨w.heap.size, 0, none⟩) (Nat.le_refl _) _).alloc (by simpa using hW.size) _
theorem hop_mem {P : Program} {ops : Array Oper} {Q : Exit → Act → World → Prop} {o : Oper} {a : Act} {w w' : World} {K : Act → World → Prop} {v : Value} (hw : Region.wanted o (yielded ops a.tmps) = true) (he : (execOp a.eval o).run P w = .ok (.value v) w') (hK : K (a.put o.dst v) w') : if Region.wanted o (yielded ops a.tmps) = true then o.wp P a w K Q else K (a.put o.dst undef) w := by
  rw [if_pos hw]
  unfold Oper.wp
  rw [he]
  exact hK
theorem run_bs7 {w : World} : (Instr.buildSlice 23 1 #[(0, .int .u64 7)]).run Tryd.prog w = .ok (.slice (some ⟨w.heap.size, 0, none⟩) 1 1) (w.alloc (.cells #[.int .u64 7] 26)) := by kernel_rfl
theorem Lv.of_nv {w : World} {A : Option Addr} {n c v : Nat} (h : Nv w A n c v) : ∃ xs, Lv w A n c xs := by
  obtain ⟨xs, h1, h2, h3, h4, h5, h6⟩ := h
  exact ⟨xs, h1, h2, h3, h4, h5⟩
set_option maxRecDepth 100000 in
set_option maxHeartbeats 1000000 in
theorem few9_yes {n c m d k : Nat} {A D : Option Addr} {w : World} (h1 : n ≤ k) (h2 : m ≤ k) :
    Calls Tryd.prog 11 #[.slice A n c, .slice D m d, .slice none 0 0, .int .i64 (k : Int)] w (BlPost true w) := by
  have e1 : decide ((n : Int) ≤ (k : Int)) = true := decide_eq_true (by omega)
  have e2 : decide ((m : Int) ≤ (k : Int)) = true := decide_eq_true (by omega)
  have e3 : decide ((0 : Int) ≤ (k : Int)) = true := decide_eq_true (by omega)
  go_enter Tryd.func11, Tryd.ntmps11
  go_wp2_with fail
  exact bodyPost_ret (v := .bool true) (by simp [results, Tryd.results11, go_sem]) rfl ⟨rfl, Below.refl _ _⟩
set_option maxRecDepth 100000 in
set_option maxHeartbeats 1000000 in
theorem few9_no {n c m d k : Nat} {A D : Option Addr} {w : World} (h1 : ¬ (n ≤ k ∧ m ≤ k)) :
    Calls Tryd.prog 11 #[.slice A n c, .slice D m d, .slice none 0 0, .int .i64 (k : Int)] w (BlPost false w) := by
  by_cases h2 : n ≤ k
  · have e1 : decide ((n : Int) ≤ (k : Int)) = true := decide_eq_true (by omega)
    have e2 : decide ((m : Int) ≤ (k : Int)) = false := decide_eq_false (by omega)
    go_enter Tryd.func11, Tryd.ntmps11
    go_wp2_with fail
    exact bodyPost_ret (v := .bool false) (by simp [results, Tryd.results11, go_sem]) rfl ⟨rfl, Below.refl _ _⟩
  · have e1 : decide ((n : Int) ≤ (k : Int)) = false := decide_eq_false (by omega)
    go_enter Tryd.func11, Tryd.ntmps11
    go_wp2_with fail
    exact bodyPost_ret (v := .bool false) (by simp [results, Tryd.results11, go_sem]) rfl ⟨rfl, Below.refl _ _⟩
set_option maxRecDepth 100000 in
set_option maxHeartbeats 1000000 in
theorem is9_v {n c m d : Nat} {A D : Option Addr} {xs ys : List Nat} {w : World} (hx : Lv w A n c xs) (hy : Lv w D m d ys) {b : Bool} (hb : b = true ↔ xs = ys) :
    Calls Tryd.prog 15 #[.slice A n c, .slice D m d] w (BlPost b w) := by
  go_enter Tryd.func15, Tryd.ntmps15
  go_wp2_with fail
  refine (rsame_v hx hy hb).mono ?_
  rintro e w1 ⟨rfl, B1⟩
  go_wp2_with fail
  exact bodyPost_ret (v := .bool b) (by simp [results, Tryd.results15, go_sem]) rfl ⟨rfl, B1⟩
set_option maxRecDepth 100000 in
set_option maxHeartbeats 1000000 in
theorem awk9_list : mulp 2 [1, 1] [1, 1] = [1, 0, 1] := by decide
theorem pr2_9 : pn (0 % 12) = 2 := by decide
theorem lv_two {w : World} : Lv (w.alloc (.cells #[.int .u64 1, .int .u64 1] 26)) (some ⟨w.heap.size, 0, none⟩) 2 2 [1, 1] :=
  Lv.wr (xs := [1, 1]) ⟨_, heap_alloc_new w _, fun j hj => by
    have : j = 0 ∨ j = 1 := by simp at hj; omega
    rcases this with rfl | rfl <;> rfl⟩ (by decide) (by decide) (fun k hk => by
    have : k = 0 ∨ k = 1 := by simp at hk; omega
    rcases this with rfl | rfl <;> decide)
set_option maxRecDepth 100000 in
set_option maxHeartbeats 1000000 in
theorem awake9_v {w : World} (hT : TabHas w) : Calls Tryd.prog 10 #[] w (BlPost true w) := by
  go_enter Tryd.func10, Tryd.ntmps10
  go_wp2_with fail
  refine (fof9_v (n := 0) (ab := 0) (p := 2) (by omega) hT pr2_9 rfl).mono ?_
  rintro e w1 ⟨rfl, B1⟩
  go_wp2_with fail
  obtain ⟨w2, hw2⟩ : ∃ xw, xw = w1.alloc (.cells #[.int .u64 0] 28) := ⟨_, rfl⟩
  have B2 : Below w1.heap.size w1 w2 := by rw [hw2]; exact zba _ _
  obtain ⟨w3, hw3⟩ : ∃ xw, xw = w2.alloc (.cells #[.int .u64 1, .int .u64 1] 26) := ⟨_, rfl⟩
  have B3 : Below w2.heap.size w2 w3 := by rw [hw3]; exact zba _ _
  obtain ⟨w4, hw4⟩ : ∃ xw, xw = w3.alloc (.cells #[.int .u64 1, .int .u64 1] 26) := ⟨_, rfl⟩
  have B4 : Below w3.heap.size w3 w4 := by rw [hw4]; exact zba _ _
  have h1 : Lv w4 (some ⟨w2.heap.size, 0, none⟩) 2 2 [1, 1] := Lv.below (by rw [hw3]; exact lv_two) B4
  have h2 : Lv w4 (some ⟨w3.heap.size, 0, none⟩) 2 2 [1, 1] := by rw [hw4]; exact lv_two
  have hB : Below w.heap.size w w4 := ((B1.trans (B2.mono B1.size)).trans (B3.mono (Nat.le_trans B1.size B2.size))).trans (B4.mono (Nat.le_trans (Nat.le_trans B1.size B2.size) B3.size))
  have s2 : w1.heap.size + 1 = w2.heap.size := by rw [hw2, World.size_alloc]
  have s3 : w2.heap.size + 1 = w3.heap.size := by rw [hw3, World.size_alloc]
  have s3' : w1.heap.size + 1 + 1 = w3.heap.size := by omega
  rw [← hw2, ← hw3, ← hw4]
  first | rw [s3'] | skip
  first | rw [s2] | skip
  refine (pmul_v (ab := 0) (p := 2) rfl (by omega) h1 (by omega) h2 (by omega)).mono ?_
  rintro e w5 ⟨A, n, c, rfl, r5, B5⟩
  rw [awk9_list] at r5
  obtain rfl : n = 3 := r5.len.symm
  obtain ⟨ad, rfl, _, c0⟩ := r5.at (k := 0) (by omega)
  have c1 := r5.rd.cell rfl (k := 1) (by decide)
  have c2 := r5.rd.cell rfl (k := 2) (by decide)
  have n0 : nth [1, 0, 1] 0 = 1 := rfl
  have n1 : nth [1, 0, 1] 1 = 0 := rfl
  have n2 : nth [1, 0, 1] 2 = 1 := rfl
  rw [n0, addr_add] at c0
  rw [n1] at c1
  rw [n2] at c2
  have c1' : w5.cell? ⟨ad.block, ad.off + 1, none⟩ = some (.int .u64 0) := by simpa [Addr.add] using c1
  have c2' : w5.cell? ⟨ad.block, ad.off + 2, none⟩ = some (.int .u64 1) := by simpa [Addr.add] using c2
  clear n0 n1 n2 hw2 hw3 hw4 c1 c2
  go_wp2_with fail
  exact bodyPost_ret (v := .bool true) (by simp [results, Tryd.results10, go_sem]) rfl ⟨rfl, hB.trans (B5.mono hB.size)⟩
set_option maxRecDepth 100000 in
set_option maxHeartbeats 1000000 in
/-- Does a (not 0) divide b? -/
theorem divides_v {ab p n c m d : Nat} {A D : Option Addr} {xs ys : List Nat} {w : World} (hp : ab + 2 = p) (h : p < 2147483648) (hpr : MR.Pr p) (hx : Lv w A n c xs) (hn : n ≤ 1099511627776) (hy : Lv w D m d ys) (hm : m ≤ 1099511627776) {b : Bool} (hb : b = true ↔ (nrm p xs ≠ [] ∧ remP p (nrm p ys) (nrm p xs) = []) ∨ (nrm p xs = [] ∧ nrm p ys = [])) :
    Calls Tryd.prog 33 #[.agg #[.int .u64 (ab : Int)], .slice A n c, .slice D m d] w (BlPost b w) := by
  have hW := Below.refl w.heap.size w
  obtain ⟨wp0, hwp0⟩ : ∃ xw, xw = w.alloc (.cells #[.int .u64 (ab : Int)] 28) := ⟨_, rfl⟩
  have zp0 : Below w.heap.size w wp0 := by rw [hwp0]; exact zba _ _
  have sp0 : wp0.heap.size = w.heap.size + 1 := by rw [hwp0, World.size_alloc]
  have If : Fb wp0 w.heap.size ab := by rw [hwp0]; exact Fb.new _ _ _
  replace hx := hx.below zp0
  replace hy := hy.below zp0
  replace hW := hW.trans (zp0.mono hW.size)
  have H_f := Lib.hid If
  clear If zp0
  have HW : Hid ((w.alloc (.cells #[.int .u64 (ab : Int)] 28)) = wp0) := Lib.hid (by rw [hwp0])
  have lw_f : w.heap.size ≤ w.heap.size := by omega
  clear hwp0 sp0
  have h2 : 2 ≤ p := by omega
  have HP := Lib.hid hp
  have HB0 := Lib.hid hb
  obtain ⟨q, hq⟩ : ∃ q : Bool, decide (nrm p xs ≠ []) = q := ⟨_, rfl⟩
  have HQ : Hid (q = true ↔ nrm p xs ≠ []) := Lib.hid (by rw [← hq]; exact decide_eq_true_iff)
  clear hp hb hq
  go_enter Tryd.func33, Tryd.ntmps33
  obtain ⟨f1, f2, f3⟩ := H_f.out
  go_wp2_with fail
  rw [HW.out]
  clear f1 f2 f3
  refine (divmod_v HP.out h hy hm hx hn hpr HQ.out).mono ?_
  rintro e w21 ⟨A21, n21, c21, D21, m21, d21, rfl, ⟨rq21, rr21⟩, B21⟩
  replace H_f := Lib.hid (H_f.out.below B21)
  replace hx := hx.below B21
  replace hy := hy.below B21
  replace hW := hW.trans (B21.mono hW.size)
  clear B21
  have rr := rr21
  clear rq21 rr21
  cases q
  · have hx0 : nrm p xs = [] := Classical.byContradiction fun e => absurd (HQ.out.2 e) (by decide)
    obtain ⟨Lb, hLb⟩ : ∃ L : Nat, (nrm p ys).length = L := ⟨_, rfl⟩
    have hbe : b = decide (((Lb : Nat) : Int) - 1 < 0) := by
      rw [Bool.eq_iff_iff, HB0.out, decide_eq_true_iff]
      constructor
      · rintro (⟨h1, _⟩ | ⟨_, h1⟩)
        · exact absurd hx0 h1
        · rw [h1] at hLb; simp at hLb; omega
      · intro h1; exact .inr ⟨hx0, List.length_eq_zero_iff.1 (by omega)⟩
    subst hbe
    have HLb := Lib.hid hLb
    clear HB0 hx0 rr hLb
    obtain ⟨f1, f2, f3⟩ := H_f.out
    go_wp2_with fail
    clear f1 f2 f3
    refine (deg_v HP.out h hy).mono ?_
    rintro e w7 ⟨rfl, B7⟩
    rw [HLb.out]
    go_wp2_with fail
    exact bodyPost_ret (v := .bool (decide ((Lb : Int) - 1 < 0))) (by simp [results, Tryd.results33, go_sem]) rfl ⟨rfl, hW.trans (B7.mono hW.size)⟩
  · have hx0 : nrm p xs ≠ [] := HQ.out.1 rfl
    have hbe : b = ((m21 : Int) == 0) := by
      rw [Bool.eq_iff_iff, HB0.out, beq_iff_eq]
      have hl := rr.len
      constructor
      · rintro (⟨_, h1⟩ | ⟨h1, _⟩)
        · rw [h1] at hl; simp at hl; omega
        · exact absurd h1 hx0
      · intro h1; exact .inl ⟨hx0, List.length_eq_zero_iff.1 (by omega)⟩
    subst hbe
    clear HB0 hx0
    rcases Nat.eq_zero_or_pos m21 with e0 | e0
    · subst e0
      clear rr
      obtain ⟨f1, f2, f3⟩ := H_f.out
      go_wp2_with fail
      clear f1 f2 f3
      exact bodyPost_ret (v := (.bool (((0 : Nat) : Int) == 0))) (by simp [results, Tryd.results33, go_sem]) rfl ⟨rfl, hW⟩
    · have hne : ((m21 : Int) == 0) = false := by rw [beq_eq_false_iff_ne]; omega
      clear rr
      obtain ⟨f1, f2, f3⟩ := H_f.out
      go_wp2_with fail
      clear f1 f2 f3
      exact bodyPost_ret (v := (.bool (((m21 : Nat) : Int) == 0))) (by simp [results, Tryd.results33, go_sem, hne]) rfl ⟨rfl, hW⟩
end Go.Proofs.YthigedcpiglmnaaDoor
