/-
  Package fpoly: Euclid's way: begin, goOn, Gcd, Xgcd, Lcm; PowMod.
-/
import Derived.Test.YthigedcpiglmnaaDoorFpE
import Derived.Deep.LoopGhost
/-! Contracts of polynomials over a field: Euclid's way. -/
namespace Go.Proofs.YthigedcpiglmnaaDoor
open Go.RowKit
set_option linter.unusedVariables false
set_option linter.unusedSimpArgs false

/-- A struct of Euclid's way in memory. -/
def Ee (w : World) (g a : Nat) (A : Option Addr) (n c : Nat) (D : Option Addr) (m d : Nat) (Q : Option Addr) (k l : Nat) : Prop :=
  w.cell? ⟨g, 0, none⟩ = some (.int .u64 (a : Int)) ∧ w.cell? ⟨g, 1, none⟩ = some (.slice A n c) ∧ w.cell? ⟨g, 2, none⟩ = some (.slice D m d) ∧ w.cell? ⟨g, 3, none⟩ = some (.slice Q k l) ∧
  w.frozen? ⟨g, 0, none⟩ = false ∧ w.frozen? ⟨g, 1, none⟩ = false ∧ w.frozen? ⟨g, 2, none⟩ = false ∧ w.frozen? ⟨g, 3, none⟩ = false ∧ g < w.heap.size
section
variable {w w' : World} {g a n c m d k l : Nat} {A D Q : Option Addr}
theorem Ee.lt (h : Ee w g a A n c D m d Q k l) : g < w.heap.size := h.2.2.2.2.2.2.2.2
theorem Ee.below (h : Ee w g a A n c D m d Q k l) (hb : Below w.heap.size w w') : Ee w' g a A n c D m d Q k l := by
  obtain ⟨h0, h1, h2, h3, f0, f1, f2, f3, hl⟩ := h
  exact ⟨(hb.cell (p := ⟨g, 0, none⟩) hl).trans h0, (hb.cell (p := ⟨g, 1, none⟩) hl).trans h1, (hb.cell (p := ⟨g, 2, none⟩) hl).trans h2, (hb.cell (p := ⟨g, 3, none⟩) hl).trans h3,
    (hb.frozen (p := ⟨g, 0, none⟩) hl).trans f0, (hb.frozen (p := ⟨g, 1, none⟩) hl).trans f1, (hb.frozen (p := ⟨g, 2, none⟩) hl).trans f2, (hb.frozen (p := ⟨g, 3, none⟩) hl).trans f3, Nat.lt_of_lt_of_le hl hb.size⟩
theorem Ee.new (w : World) (a : Nat) (A : Option Addr) (n c : Nat) (D : Option Addr) (m d : Nat) (Q : Option Addr) (k l : Nat) (T : TypeId) : Ee (w.alloc (.cells #[.int .u64 (a : Int), .slice A n c, .slice D m d, .slice Q k l] T)) w.heap.size a A n c D m d Q k l := by
  refine ⟨?_, ?_, ?_, ?_, ?_, ?_, ?_, ?_, ?_⟩ <;> simp [go_sem]
theorem Ee.put {n' c' m' d' k' l' : Nat} {A' D' Q' : Option Addr} (h : Ee w g a A n c D m d Q k l) : Ee (((w.setCell ⟨g, 1, none⟩ (.slice A' n' c')).setCell ⟨g, 2, none⟩ (.slice D' m' d')).setCell ⟨g, 3, none⟩ (.slice Q' k' l')) g a A' n' c' D' m' d' Q' k' l' := by
  obtain ⟨h0, h1, h2, h3, f0, f1, f2, f3, hl⟩ := h
  refine ⟨?_, ?_, ?_, ?_, ?_, ?_, ?_, ?_, ?_⟩ <;> simp [go_sem, h0, h1, h2, h3, f0, f1, f2, f3, hl]
end
theorem run_lds {w : World} {g k : Nat} {A : Option Addr} {n c : Nat} (h : w.cell? ⟨g, k, none⟩ = some (.slice A n c)) : (Instr.loadAt 23 (.pointer (some ⟨g, k, none⟩))).run Tryd.prog w = .ok (.slice A n c) w := by
  simp [go_sem, h]
/-- A cell that holds no word is no part of a list of words. -/
theorem Lv.off {w : World} {A B : Option Addr} {n c m d : Nat} {xs : List Nat} {q : Addr} (h : Lv w A n c xs) (hq : w.cell? q = some (.slice B m d)) (u : Value) : Lv (w.setCell q u) A n c xs := by
  refine ⟨fun hn => ?_, h.len, h.le, h.cap, h.low⟩
  obtain ⟨ad, e, hb, hc⟩ := h.rd hn
  refine ⟨ad, e, by simpa using hb, fun j hj => ?_⟩
  rw [World.cell?_setCell_other w q _ u (fun e => by subst e; rw [hc j hj] at hq; cases hq)]
  exact hc j hj
theorem Ee.keeps {w : World} {g a n c m d k l : Nat} {A D Q : Option Addr} (h : Ee w g a A n c D m d Q k l) {u v x : Value} {B E : Option Addr} {e1 e2 f1 f2 : Nat} (hu : u = .slice B e1 e2) (hv : v = .slice E f1 f2) {A' : Option Addr} {n' c' : Nat} {xs : List Nat} (hx : Lv w A' n' c' xs) :
    Lv (((w.setCell ⟨g, 1, none⟩ u).setCell ⟨g, 2, none⟩ v).setCell ⟨g, 3, none⟩ x) A' n' c' xs := by
  subst hu; subst hv
  obtain ⟨h0, h1, h2, h3, f0, f1, f2, f3, hl⟩ := h
  refine Lv.off (B := Q) (m := k) (d := l) (Lv.off (B := D) (m := m) (d := d) (Lv.off (B := A) (m := n) (d := c) hx h1 _) ?_ _) ?_ _
  · simp [go_sem, h2]
  · simp [go_sem, h3]
theorem Lv.far {w : World} {A : Option Addr} {n c : Nat} {xs : List Nat} {q : Addr} (h : Lv w A n c xs) (hA : ∀ ad, A = some ad → ad.block ≠ q.block) (u : Value) : Lv (w.setCell q u) A n c xs := ⟨h.rd.far hA u, h.len, h.le, h.cap, h.low⟩
theorem begin_end {w w1 : World} {g ab n c m d : Nat} {A D : Option Addr} {zs ys : List Nat} {u v x : Value} (hx : Lv w1 A n c zs ∧ ∀ ad, A = some ad → ad.block ≠ g) (hy : Lv w1 D m d ys ∧ ∀ ad, D = some ad → ad.block ≠ g) (hg : w.heap.size ≤ g) (hW : Below w.heap.size w w1) (u0 : Value) :
    (Lv ((((w1.setCell ⟨g, 0, none⟩ u0).setCell ⟨g, 1, none⟩ u).setCell ⟨g, 2, none⟩ v).setCell ⟨g, 3, none⟩ x) A n c zs ∧ Lv ((((w1.setCell ⟨g, 0, none⟩ u0).setCell ⟨g, 1, none⟩ u).setCell ⟨g, 2, none⟩ v).setCell ⟨g, 3, none⟩ x) D m d ys) ∧
      Below w.heap.size w ((((w1.setCell ⟨g, 0, none⟩ u0).setCell ⟨g, 1, none⟩ u).setCell ⟨g, 2, none⟩ v).setCell ⟨g, 3, none⟩ x) :=
  ⟨⟨(((hx.1.far hx.2 _).far hx.2 _).far hx.2 _).far hx.2 _, (((hy.1.far hy.2 _).far hy.2 _).far hy.2 _).far hy.2 _⟩, (((hW.setCell (p := ⟨g, 0, none⟩) hg _).setCell (p := ⟨g, 1, none⟩) hg _).setCell (p := ⟨g, 2, none⟩) hg _).setCell (p := ⟨g, 3, none⟩) hg _⟩
/-- What begin answers. -/
def BgPost (ab : Nat) (zs ys : List Nat) (w : World) (e : Ending) (w' : World) : Prop := ∃ A n c D m d, e = .returned (.agg #[.int .u64 (ab : Int), .slice A n c, .slice D m d, .slice none 0 0]) ∧ (Lv w' A n c zs ∧ Lv w' D m d ys) ∧ Below w.heap.size w w'
/-- What goOn does where there is a next rest. -/
def GoPost (p ab g : Nat) (D : Option Addr) (m d : Nat) (xs ys : List Nat) (w : World) (e : Ending) (w' : World) : Prop := e = .returned (.bool true) ∧ ∃ A n c Q k l, Ee w' g ab D m d A n c Q k l ∧ Lv w' A n c (remP p xs ys) ∧ Lv w' Q k l (quoP p xs ys) ∧ w.grownBy w' (some g) ∧
  ∀ {A n c zs}, Lv w A n c zs → Lv w' A n c zs
set_option maxRecDepth 100000 in
set_option maxHeartbeats 1000000 in
/-- fpoly.begin. -/
theorem begin_v {ab p n c m d : Nat} {A D : Option Addr} {xs ys : List Nat} {w : World} (hp : ab + 2 = p) (h : p < 2147483648) (hx : Lv w A n c xs) (hn : n ≤ 1099511627776) (hy : Lv w D m d ys) (hm : m ≤ 1099511627776) :
    Calls Tryd.prog 52 #[.agg #[.int .u64 (ab : Int)], .slice A n c, .slice D m d] w (BgPost ab (nrm p xs) (nrm p ys) w) := by
  have hW := Below.refl w.heap.size w
  obtain ⟨wp0, hwp0⟩ : ∃ xw, xw = w.alloc (.cells #[.int .u64 (ab : Int)] 28) := ⟨_, rfl⟩
  have zp0 : Below w.heap.size w wp0 := by rw [hwp0]; exact zba _ _
  have sp0 : wp0.heap.size = w.heap.size + 1 := by rw [hwp0, World.size_alloc]
  have If : Fb wp0 w.heap.size ab := by rw [hwp0]; exact Fb.new _ _ _
  replace hx := hx.below zp0
  replace hy := hy.below zp0
  replace hW := hW.trans (zp0.mono hW.size)
  have H_f := Lib.hid If
  clear If zp0
  obtain ⟨wp1, hwp1⟩ : ∃ xw, xw = wp0.alloc (.cells #[.int .u64 (0 : Int), .slice none 0 0, .slice none 0 0, .slice none 0 0] 72) := ⟨_, rfl⟩
  have zp1 : Below wp0.heap.size wp0 wp1 := by rw [hwp1]; exact zba _ _
  have sp1 : wp1.heap.size = w.heap.size + 1 + 1 := by rw [hwp1, World.size_alloc, sp0]
  have Ie : Ee wp1 (w.heap.size + 1) 0 none 0 0 none 0 0 none 0 0 := by rw [hwp1, ← sp0]; exact Ee.new _ _ _ _ _ _ _ _ _ _ _ _
  replace H_f := Lib.hid (H_f.out.below zp1)
  replace hx := hx.below zp1
  replace hy := hy.below zp1
  replace hW := hW.trans (zp1.mono hW.size)
  have H_e := Lib.hid Ie
  clear Ie zp1
  have HW : Hid (((w.alloc (.cells #[.int .u64 (ab : Int)] 28)).alloc (.cells #[.int .u64 (0 : Int), .slice none 0 0, .slice none 0 0, .slice none 0 0] 72)) = wp1) := Lib.hid (by rw [hwp1, hwp0])
  have nn_f_e : ¬ (w.heap.size = (w.heap.size + 1)) := by omega
  have nm_f_e : ¬ ((w.heap.size + 1) = w.heap.size) := by omega
  have lw_f : w.heap.size ≤ w.heap.size := by omega
  have lw_e : w.heap.size ≤ (w.heap.size + 1) := by omega
  clear hwp0 hwp1 sp0 sp1
  have h2 : 2 ≤ p := by omega
  have HP := Lib.hid hp
  clear hp
  go_enter Tryd.func52, Tryd.ntmps52
  obtain ⟨f1, f2, f3⟩ := H_f.out
  obtain ⟨e1, e2, e3, e4, e5, e6, e7, e8, e9⟩ := H_e.out
  go_wp2_with fail
  rw [HW.out]
  clear f1 f2 f3 e1 e2 e3 e4 e5 e6 e7 e8 e9
  refine region8 [] 7 [IsK (.agg #[.int .u64 (ab : Int)]), IsK (.agg #[.int .u64 (ab : Int)]), IsK (.slice A n c), IsPn (w.heap.size + 1) (nrm p xs), IsK (.agg #[.int .u64 (ab : Int)]), IsK (.slice D m d), IsPn (w.heap.size + 1) (nrm p ys)] (fun _ _ d _ _ h => by cases d <;> exact h) (by kernel_rfl) (by kernel_rfl) (by kernel_rfl) ⟨stay_k _, stay_k _, stay_k _, stay_pn _ _, stay_k _, stay_k _, stay_pn _ _, trivial⟩ ?_ ?_
  · refine HopAll.cons rfl ?_ (HopAll.cons rfl ?_ (HopAll.cons rfl ?_ (HopAll.cons rfl ?_ (HopAll.cons rfl ?_ (HopAll.cons rfl ?_ (HopAll.cons rfl ?_ HopAll.nil))))))
    · intro a w1 hB ho hp K hK
      have e3 : a.eval (.tmp 3) = (.pointer (some ⟨w.heap.size, 0, none⟩)) := ho 3 (by kernel_rfl)
      obtain ⟨u1, u2, u3⟩ := H_f.out.below hB
      exact hop_load (wanted_none rfl) rfl e3 (run_ldf u1) (hK _ _ rfl (Below.refl _ _))
    · intro a w1 hB ho hp K hK
      have e3 : a.eval (.tmp 3) = (.pointer (some ⟨w.heap.size, 0, none⟩)) := ho 3 (by kernel_rfl)
      obtain ⟨u1, u2, u3⟩ := H_f.out.below hB
      exact hop_load (wanted_none rfl) rfl e3 (run_ldf u1) (hK _ _ rfl (Below.refl _ _))
    · intro a w1 hB ho hp K hK
      have e1 : a.eval (.tmp 1) = (.slice A n c) := ho 1 (by kernel_rfl)
      refine hop_val (wanted_none rfl) ?_ (hK (.slice A n c) _ rfl (Below.refl _ _))
      unfold execOp; simp only [eval_const, e1]; simp [go_sem]
    · intro a w1 hB ho hp K hK
      have e8 : a.eval (.tmp 8) = (.agg #[.int .u64 (ab : Int)]) := hp 1 8 (by kernel_rfl)
      have e9 : a.eval (.tmp 9) = (.slice A n c) := hp 2 9 (by kernel_rfl)
      refine hop_call (wanted_none rfl) rfl (args := #[(.agg #[.int .u64 (ab : Int)]), (.slice A n c)]) (by simp only [List.map_toArray, List.map_cons, List.map_nil, eval_const, e8, e9]) (ent7 (by kernel_rfl) _ _) (norm_new HP.out h (hx.below hB) (by omega)) ?_
      rintro e w2 ⟨A, n, c, rfl, p, q, B⟩
      exact ⟨_, rfl, hK _ _ ⟨A, n, c, rfl, p, fun ad e => by have := q ad e; have := hB.size; have := H_e.out.lt; omega⟩ B⟩
    · intro a w1 hB ho hp K hK
      have e3 : a.eval (.tmp 3) = (.pointer (some ⟨w.heap.size, 0, none⟩)) := ho 3 (by kernel_rfl)
      obtain ⟨u1, u2, u3⟩ := H_f.out.below hB
      exact hop_load (wanted_none rfl) rfl e3 (run_ldf u1) (hK _ _ rfl (Below.refl _ _))
    · intro a w1 hB ho hp K hK
      have e2 : a.eval (.tmp 2) = (.slice D m d) := ho 2 (by kernel_rfl)
      refine hop_val (wanted_none rfl) ?_ (hK (.slice D m d) _ rfl (Below.refl _ _))
      unfold execOp; simp only [eval_const, e2]; simp [go_sem]
    · intro a w1 hB ho hp K hK
      have e11 : a.eval (.tmp 11) = (.agg #[.int .u64 (ab : Int)]) := hp 4 11 (by kernel_rfl)
      have e12 : a.eval (.tmp 12) = (.slice D m d) := hp 5 12 (by kernel_rfl)
      refine hop_call (wanted_none rfl) rfl (args := #[(.agg #[.int .u64 (ab : Int)]), (.slice D m d)]) (by simp only [List.map_toArray, List.map_cons, List.map_nil, eval_const, e11, e12]) (ent7 (by kernel_rfl) _ _) (norm_new HP.out h (hy.below hB) (by omega)) ?_
      rintro e w2 ⟨A, n, c, rfl, p, q, B⟩
      exact ⟨_, rfl, hK _ _ ⟨A, n, c, rfl, p, fun ad e => by have := q ad e; have := hB.size; have := H_e.out.lt; omega⟩ B⟩
  intro w21 B21
  refine EndAll.one rfl fun vv hv => ?_
  obtain rfl : vv = (.agg #[.int .u64 (ab : Int)]) := hv
  refine EndAll.one rfl fun vv hv => ?_
  obtain rfl : vv = (.agg #[.int .u64 (ab : Int)]) := hv
  refine EndAll.one rfl fun vv hv => ?_
  obtain rfl : vv = (.slice A n c) := hv
  refine EndAll.one rfl fun vv hv => ?_
  obtain ⟨A22, n22, c22, rfl, p22⟩ : IsPn (w.heap.size + 1) (nrm p xs) vv w21 := hv
  refine EndAll.one rfl fun vv hv => ?_
  obtain rfl : vv = (.agg #[.int .u64 (ab : Int)]) := hv
  refine EndAll.one rfl fun vv hv => ?_
  obtain rfl : vv = (.slice D m d) := hv
  refine EndAll.one rfl fun vv hv => ?_
  obtain ⟨A23, n23, c23, rfl, p23⟩ : IsPn (w.heap.size + 1) (nrm p ys) vv w21 := hv
  refine EndAll.nil (l := [_, _]) rfl ?_
  simp only [Act.put, List.setIfInBounds_toArray, List.set_cons_zero, List.set_cons_succ]
  replace H_f := Lib.hid (H_f.out.below B21)
  replace H_e := Lib.hid (H_e.out.below B21)
  replace hx := hx.below B21
  replace hy := hy.below B21
  replace hW := hW.trans (B21.mono hW.size)
  have rx := p22
  have ry := p23
  clear p22 p23
  clear B21
  have P := Lib.hid (begin_end (ab := ab) (u := .slice A22 n22 c22) (v := .slice A23 n23 c23) (x := .slice none 0 0) rx ry lw_e hW (.int .u64 (ab : Int)))
  obtain ⟨e1, e2, e3, e4, e5, e6, e7, e8, e9⟩ := H_e.out
  go_wp2_with fail
  exact bodyPost_ret (v := .agg #[.int .u64 (ab : Int), .slice A22 n22 c22, .slice A23 n23 c23, .slice none 0 0]) (by simp [results, Tryd.results52, go_sem, e1, e2, e3, e4, e5, e6, e7, e8, e9]) rfl ⟨_, _, _, _, _, _, rfl, P.out.1, P.out.2⟩
set_option maxRecDepth 100000 in
set_option maxHeartbeats 1000000 in
/-- goOn at the end. -/
theorem goon_no {ab g : Nat} {A D Q : Option Addr} {n c d k l : Nat} {w : World} (hE : Ee w g ab A n c D 0 d Q k l) :
    Calls Tryd.prog 53 #[.pointer (some ⟨g, 0, none⟩)] w (fun e w' => e = .returned (.bool false) ∧ w' = w) := by
  go_enter Tryd.func53, Tryd.ntmps53
  obtain ⟨e1, e2, e3, e4, e5, e6, e7, e8, e9⟩ := hE
  go_wp2_with fail
  exact bodyPost_ret (v := .bool false) (by simp [results, Tryd.results53, go_sem]) rfl ⟨rfl, rfl⟩
set_option maxRecDepth 100000 in
set_option maxHeartbeats 1000000 in
/-- goOn where there is a next rest. -/
theorem goon_yes {ab p g : Nat} {A D Q : Option Addr} {n c m d k l : Nat} {xs ys : List Nat} {w : World} (hp : ab + 2 = p) (h : p < 2147483648) (hpr : MR.Pr p) (hE : Ee w g ab A n c D m d Q k l) (hx : Lv w A n c xs) (hn : n ≤ 1099511627776) (hy : Lv w D m d ys) (hm : m ≤ 1099511627776) (nx : Nm p xs) (ny : Nm p ys) (y0 : ys ≠ []) :
    Calls Tryd.prog 53 #[.pointer (some ⟨g, 0, none⟩)] w (GoPost p ab g D m d xs ys w) := by
  have hne : ((m : Int) == 0) = false := by
    have := List.length_pos_iff.2 y0
    rw [hy.len] at this
    rw [beq_eq_false_iff_ne]; omega
  have HPp := Lib.hid hp
  clear hp
  have hW := Below.refl w.heap.size w
  go_enter Tryd.func53, Tryd.ntmps53
  have ⟨e1, e2, e3, e4, e5, e6, e7, e8, e9⟩ := hE
  go_upto_region 3 with fail
  clear e1 e2 e3 e4 e5 e6 e7 e8 e9
  refine region8 [] 18 [IsK (.pointer (some ⟨g, 0, none⟩)), IsK (.pointer (some ⟨g, 0, none⟩)), IsK (.pointer (some ⟨g, 0, none⟩)), IsK (.agg #[.int .u64 (ab : Int)]), IsK (.pointer (some ⟨g, 0, none⟩)), IsK (.pointer (some ⟨g, 0, none⟩)), IsK (.pointer (some ⟨g, 1, none⟩)), IsK (.slice A n c), IsK (.pointer (some ⟨g, 0, none⟩)), IsK (.pointer (some ⟨g, 0, none⟩)), IsK (.pointer (some ⟨g, 2, none⟩)), IsK (.slice D m d), IsPP (quoP p xs ys) (remP p xs ys), IsPP (quoP p xs ys) (remP p xs ys), IsP (quoP p xs ys), IsP (remP p xs ys), IsP (quoP p xs ys), IsP (remP p xs ys)] (fun _ _ d _ _ h => by cases d <;> exact h) (by kernel_rfl) (by kernel_rfl) (by kernel_rfl) ⟨stay_k _, stay_k _, stay_k _, stay_k _, stay_k _, stay_k _, stay_k _, stay_k _, stay_k _, stay_k _, stay_k _, stay_k _, stay_pp _ _, stay_pp _ _, stay_p _, stay_p _, stay_p _, stay_p _, trivial⟩ ?_ ?_
  · refine HopAll.cons rfl ?_ (HopAll.cons rfl ?_ (HopAll.cons rfl ?_ (HopAll.cons rfl ?_ (HopAll.cons rfl ?_ (HopAll.cons rfl ?_ (HopAll.cons rfl ?_ (HopAll.cons rfl ?_ (HopAll.cons rfl ?_ (HopAll.cons rfl ?_ (HopAll.cons rfl ?_ (HopAll.cons rfl ?_ (HopAll.cons rfl ?_ (HopAll.cons rfl ?_ (HopAll.cons rfl ?_ (HopAll.cons rfl ?_ (HopAll.cons rfl ?_ (HopAll.cons rfl ?_ HopAll.nil)))))))))))))))))
    · intro a w1 hB ho hp K hK
      have e0 : a.eval (.tmp 0) = (.pointer (some ⟨g, 0, none⟩)) := ho 0 (by kernel_rfl)
      refine hop_val (wanted_none rfl) ?_ (hK (.pointer (some ⟨g, 0, none⟩)) _ rfl (Below.refl _ _))
      unfold execOp; simp only [eval_const, e0]; simp [go_sem]
    · intro a w1 hB ho hp K hK
      have e12 : a.eval (.tmp 12) = (.pointer (some ⟨g, 0, none⟩)) := hp 0 12 (by kernel_rfl)
      refine hop_val (wanted_none rfl) ?_ (hK (.pointer (some ⟨g, 0, none⟩)) _ rfl (Below.refl _ _))
      unfold execOp; simp only [eval_const, e12]; simp [go_sem]
    · intro a w1 hB ho hp K hK
      have e13 : a.eval (.tmp 13) = (.pointer (some ⟨g, 0, none⟩)) := hp 1 13 (by kernel_rfl)
      refine hop_val (wanted_none rfl) ?_ (hK (.pointer (some ⟨g, 0, none⟩)) _ rfl (Below.refl _ _))
      unfold execOp; simp only [eval_const, e13]; simp [go_sem]
    · intro a w1 hB ho hp K hK
      have e14 : a.eval (.tmp 14) = (.pointer (some ⟨g, 0, none⟩)) := hp 2 14 (by kernel_rfl)
      exact hop_load (wanted_none rfl) rfl e14 (run_ldf (hE.below hB).1) (hK _ _ rfl (Below.refl _ _))
    · intro a w1 hB ho hp K hK
      have e0 : a.eval (.tmp 0) = (.pointer (some ⟨g, 0, none⟩)) := ho 0 (by kernel_rfl)
      refine hop_val (wanted_none rfl) ?_ (hK (.pointer (some ⟨g, 0, none⟩)) _ rfl (Below.refl _ _))
      unfold execOp; simp only [eval_const, e0]; simp [go_sem]
    · intro a w1 hB ho hp K hK
      have e16 : a.eval (.tmp 16) = (.pointer (some ⟨g, 0, none⟩)) := hp 4 16 (by kernel_rfl)
      refine hop_val (wanted_none rfl) ?_ (hK (.pointer (some ⟨g, 0, none⟩)) _ rfl (Below.refl _ _))
      unfold execOp; simp only [eval_const, e16]; simp [go_sem]
    · intro a w1 hB ho hp K hK
      have e17 : a.eval (.tmp 17) = (.pointer (some ⟨g, 0, none⟩)) := hp 5 17 (by kernel_rfl)
      refine hop_val (wanted_none rfl) ?_ (hK (.pointer (some ⟨g, 1, none⟩)) _ rfl (Below.refl _ _))
      unfold execOp; simp only [eval_const, e17]; simp [go_sem]
    · intro a w1 hB ho hp K hK
      have e18 : a.eval (.tmp 18) = (.pointer (some ⟨g, 1, none⟩)) := hp 6 18 (by kernel_rfl)
      exact hop_load (wanted_none rfl) rfl e18 (run_lds (hE.below hB).2.1) (hK _ _ rfl (Below.refl _ _))
    · intro a w1 hB ho hp K hK
      have e0 : a.eval (.tmp 0) = (.pointer (some ⟨g, 0, none⟩)) := ho 0 (by kernel_rfl)
      refine hop_val (wanted_none rfl) ?_ (hK (.pointer (some ⟨g, 0, none⟩)) _ rfl (Below.refl _ _))
      unfold execOp; simp only [eval_const, e0]; simp [go_sem]
    · intro a w1 hB ho hp K hK
      have e20 : a.eval (.tmp 20) = (.pointer (some ⟨g, 0, none⟩)) := hp 8 20 (by kernel_rfl)
      refine hop_val (wanted_none rfl) ?_ (hK (.pointer (some ⟨g, 0, none⟩)) _ rfl (Below.refl _ _))
      unfold execOp; simp only [eval_const, e20]; simp [go_sem]
    · intro a w1 hB ho hp K hK
      have e21 : a.eval (.tmp 21) = (.pointer (some ⟨g, 0, none⟩)) := hp 9 21 (by kernel_rfl)
      refine hop_val (wanted_none rfl) ?_ (hK (.pointer (some ⟨g, 2, none⟩)) _ rfl (Below.refl _ _))
      unfold execOp; simp only [eval_const, e21]; simp [go_sem]
    · intro a w1 hB ho hp K hK
      have e22 : a.eval (.tmp 22) = (.pointer (some ⟨g, 2, none⟩)) := hp 10 22 (by kernel_rfl)
      exact hop_load (wanted_none rfl) rfl e22 (run_lds (hE.below hB).2.2.1) (hK _ _ rfl (Below.refl _ _))
    · intro a w1 hB ho hp K hK
      have e15 : a.eval (.tmp 15) = (.agg #[.int .u64 (ab : Int)]) := hp 3 15 (by kernel_rfl)
      have e19 : a.eval (.tmp 19) = (.slice A n c) := hp 7 19 (by kernel_rfl)
      have e23 : a.eval (.tmp 23) = (.slice D m d) := hp 11 23 (by kernel_rfl)
      refine hop_call (wanted_none rfl) rfl (args := #[(.agg #[.int .u64 (ab : Int)]), (.slice A n c), (.slice D m d)]) (by simp only [List.map_toArray, List.map_cons, List.map_nil, eval_const, e15, e19, e23]) (ent7 (by kernel_rfl) _ _) (divide_v HPp.out h (hx.below hB) hn (hy.below hB) hm hpr nx ny y0) ?_
      rintro e w2 ⟨A, n, c, D, m, d, rfl, p, B⟩
      exact ⟨_, rfl, hK _ _ ⟨A, n, c, D, m, d, rfl, p⟩ B⟩
    · intro a w1 hB ho hp K hK
      obtain ⟨A_24, n_24, c_24, D_24, m_24, d_24, e24, p24⟩ : IsPP (quoP p xs ys) (remP p xs ys) (a.eval (.tmp 24)) w1 := hp 12 24 (by kernel_rfl)
      refine hop_val (wanted_none rfl) ?_ (hK (.tuple #[.slice A_24 n_24 c_24, .slice D_24 m_24 d_24]) _ ⟨_, _, _, _, _, _, rfl, p24⟩ (Below.refl _ _))
      unfold execOp; simp only [e24]; simp [go_sem]
    · intro a w1 hB ho hp K hK
      obtain ⟨A_11, n_11, c_11, D_11, m_11, d_11, e11, p11⟩ : IsPP (quoP p xs ys) (remP p xs ys) (a.eval (.tmp 11)) w1 := hp 13 11 (by kernel_rfl)
      refine hop_val (wanted_none rfl) ?_ (hK (.slice A_11 n_11 c_11) _ ⟨_, _, _, rfl, p11.1⟩ (Below.refl _ _))
      unfold execOp; simp only [e11]; simp [go_sem]
    · intro a w1 hB ho hp K hK
      obtain ⟨A_11, n_11, c_11, D_11, m_11, d_11, e11, p11⟩ : IsPP (quoP p xs ys) (remP p xs ys) (a.eval (.tmp 11)) w1 := hp 13 11 (by kernel_rfl)
      refine hop_val (wanted_none rfl) ?_ (hK (.slice D_11 m_11 d_11) _ ⟨_, _, _, rfl, p11.2⟩ (Below.refl _ _))
      unfold execOp; simp only [e11]; simp [go_sem]
    · intro a w1 hB ho hp K hK
      obtain ⟨A_25, n_25, c_25, e25, p25⟩ : IsP (quoP p xs ys) (a.eval (.tmp 25)) w1 := hp 14 25 (by kernel_rfl)
      refine hop_val (wanted_none rfl) ?_ (hK (.slice A_25 n_25 c_25) _ ⟨_, _, _, rfl, p25⟩ (Below.refl _ _))
      unfold execOp; simp only [e25]; simp [go_sem]
    · intro a w1 hB ho hp K hK
      obtain ⟨A_26, n_26, c_26, e26, p26⟩ : IsP (remP p xs ys) (a.eval (.tmp 26)) w1 := hp 15 26 (by kernel_rfl)
      refine hop_val (wanted_none rfl) ?_ (hK (.slice A_26 n_26 c_26) _ ⟨_, _, _, rfl, p26⟩ (Below.refl _ _))
      unfold execOp; simp only [e26]; simp [go_sem]
  intro w21 B21
  refine EndAll.one rfl fun vv hv => ?_
  obtain rfl : vv = (.pointer (some ⟨g, 0, none⟩)) := hv
  refine EndAll.one rfl fun vv hv => ?_
  obtain rfl : vv = (.pointer (some ⟨g, 0, none⟩)) := hv
  refine EndAll.one rfl fun vv hv => ?_
  obtain rfl : vv = (.pointer (some ⟨g, 0, none⟩)) := hv
  refine EndAll.one rfl fun vv hv => ?_
  obtain rfl : vv = (.agg #[.int .u64 (ab : Int)]) := hv
  refine EndAll.one rfl fun vv hv => ?_
  obtain rfl : vv = (.pointer (some ⟨g, 0, none⟩)) := hv
  refine EndAll.one rfl fun vv hv => ?_
  obtain rfl : vv = (.pointer (some ⟨g, 0, none⟩)) := hv
  refine EndAll.one rfl fun vv hv => ?_
  obtain rfl : vv = (.pointer (some ⟨g, 1, none⟩)) := hv
  refine EndAll.one rfl fun vv hv => ?_
  obtain rfl : vv = (.slice A n c) := hv
  refine EndAll.one rfl fun vv hv => ?_
  obtain rfl : vv = (.pointer (some ⟨g, 0, none⟩)) := hv
  refine EndAll.one rfl fun vv hv => ?_
  obtain rfl : vv = (.pointer (some ⟨g, 0, none⟩)) := hv
  refine EndAll.one rfl fun vv hv => ?_
  obtain rfl : vv = (.pointer (some ⟨g, 2, none⟩)) := hv
  refine EndAll.one rfl fun vv hv => ?_
  obtain rfl : vv = (.slice D m d) := hv
  refine EndAll.one rfl fun vv hv => ?_
  obtain ⟨A22, n22, c22, D22, m22, d22, rfl, p22⟩ : IsPP (quoP p xs ys) (remP p xs ys) vv w21 := hv
  refine EndAll.one rfl fun vv hv => ?_
  obtain ⟨A23, n23, c23, D23, m23, d23, rfl, p23⟩ : IsPP (quoP p xs ys) (remP p xs ys) vv w21 := hv
  refine EndAll.one rfl fun vv hv => ?_
  obtain ⟨A24, n24, c24, rfl, p24⟩ : IsP (quoP p xs ys) vv w21 := hv
  refine EndAll.one rfl fun vv hv => ?_
  obtain ⟨A25, n25, c25, rfl, p25⟩ : IsP (remP p xs ys) vv w21 := hv
  refine EndAll.one rfl fun vv hv => ?_
  obtain ⟨A26, n26, c26, rfl, p26⟩ : IsP (quoP p xs ys) vv w21 := hv
  refine EndAll.one rfl fun vv hv => ?_
  obtain ⟨A27, n27, c27, rfl, p27⟩ : IsP (remP p xs ys) vv w21 := hv
  refine EndAll.nil (l := []) rfl ?_
  simp only [Act.put, List.setIfInBounds_toArray, List.set_cons_zero, List.set_cons_succ]
  replace hE := hE.below B21
  replace hx := hx.below B21
  replace hy := hy.below B21
  replace hW := hW.trans (B21.mono hW.size)
  have rq := p26
  have rr := p27
  clear p22 p23 p24 p25 p26 p27
  clear B21
  have HP := Lib.hid (Ee.put (A' := D) (n' := m) (c' := d) (D' := A27) (m' := n27) (d' := c27) (Q' := A26) (k' := n26) (l' := c26) hE)
  have K1 := Lib.hid (hE.keeps (x := .slice A26 n26 c26) (u := .slice D m d) (v := .slice A27 n27 c27) rfl rfl rr)
  have K2 := Lib.hid (hE.keeps (x := .slice A26 n26 c26) (u := .slice D m d) (v := .slice A27 n27 c27) rfl rfl rq)
  have K3 : Hid (∀ {A' n' c' zs}, Lv w A' n' c' zs → Lv (((w21.setCell ⟨g, 1, none⟩ (.slice D m d)).setCell ⟨g, 2, none⟩ (.slice A27 n27 c27)).setCell ⟨g, 3, none⟩ (.slice A26 n26 c26)) A' n' c' zs) := Lib.hid fun hz => hE.keeps rfl rfl (hz.below hW)
  have K4 := Lib.hid (grown_other (grown_other (grown_other (gro_below hW (some g)) (q := ⟨g, 1, none⟩) rfl (.slice D m d)) (q := ⟨g, 2, none⟩) rfl (.slice A27 n27 c27)) (q := ⟨g, 3, none⟩) rfl (.slice A26 n26 c26))
  obtain ⟨e1, e2, e3, e4, e5, e6, e7, e8, e9⟩ := hE
  go_wp2_with fail
  exact bodyPost_ret (v := .bool true) (by simp [results, Tryd.results53, go_sem]) rfl ⟨rfl, _, _, _, _, _, _, HP.out, K1.out, K2.out, K4.out, K3.out⟩
set_option maxRecDepth 100000 in
set_option maxHeartbeats 1000000 in
/-- fpoly.Gcd. -/
theorem gcd9_v {ab p n c m d : Nat} {A D : Option Addr} {xs ys : List Nat} {w : World} (hp : ab + 2 = p) (h : p < 2147483648) (hpr : MR.Pr p) (hx : Lv w A n c xs) (hn : n ≤ 549755813888) (hy : Lv w D m d ys) (hm : m ≤ 549755813888) :
    Calls Tryd.prog 32 #[.agg #[.int .u64 (ab : Int)], .slice A n c, .slice D m d] w (LPost (gcP p xs ys) w) := by
  have HX0 := Lib.hid hx
  have HY0 := Lib.hid hy
  have hW := Below.refl w.heap.size w
  obtain ⟨wp0, hwp0⟩ : ∃ xw, xw = w.alloc (.cells #[.int .u64 (ab : Int)] 28) := ⟨_, rfl⟩
  have zp0 : Below w.heap.size w wp0 := by rw [hwp0]; exact zba _ _
  have sp0 : wp0.heap.size = w.heap.size + 1 := by rw [hwp0, World.size_alloc]
  have If : Fb wp0 w.heap.size ab := by rw [hwp0]; exact Fb.new _ _ _
  replace hx := hx.below zp0
  replace hy := hy.below zp0
  replace hW := hW.trans (zp0.mono hW.size)
  have H_f := Lib.hid If
  clear If zp0
  have HW : Hid ((w.alloc (.cells #[.int .u64 (ab : Int)] 28)) = wp0) := Lib.hid (by rw [hwp0])
  have lw_f : w.heap.size ≤ w.heap.size := by omega
  clear hwp0 sp0
  have h2 : 2 ≤ p := by omega
  have HP := Lib.hid hp
  have l1 : (nrm p xs).length ≤ 549755813888 := by have := nrm_le p xs; rw [hx.len] at this; omega
  have l2 : (nrm p ys).length ≤ 549755813888 := by have := nrm_le p ys; rw [hy.len] at this; omega
  have n1 := nm_nrm (pr_pos hpr) xs
  have n2 := nm_nrm (pr_pos hpr) ys
  have HN1 := Lib.hid n1
  have HN2 := Lib.hid n2
  clear hp n1 n2
  go_enter Tryd.func32, Tryd.ntmps32
  obtain ⟨f1, f2, f3⟩ := H_f.out
  go_wp2_with fail
  rw [HW.out]
  clear f1 f2 f3
  refine (begin_v HP.out h hx (by omega) hy (by omega)).mono ?_
  rintro e w1 ⟨A1, n1, c1, D1, m1, d1, rfl, ⟨rx, ry⟩, B1⟩
  replace H_f := Lib.hid (H_f.out.below B1)
  replace hx := hx.below B1
  replace hy := hy.below B1
  replace hW := hW.trans (B1.mono hW.size)
  clear B1
  obtain ⟨f1, f2, f3⟩ := H_f.out
  go_wp2_with fail
  clear f1 f2 f3
  obtain ⟨w2, hw2⟩ : ∃ xw, xw = w1.alloc (.cells #[.int .u64 (ab : Int), .slice A1 n1 c1, .slice D1 m1 d1, .slice none 0 0] 72) := ⟨_, rfl⟩
  have hE : Ee w2 w1.heap.size ab A1 n1 c1 D1 m1 d1 none 0 0 := by rw [hw2]; exact Ee.new _ _ _ _ _ _ _ _ _ _ _ _
  have B2 : Below w1.heap.size w1 w2 := by rw [hw2]; exact zba _ _
  have HW2 := Lib.hid hw2.symm
  obtain ⟨gE, hgE⟩ : ∃ q, w1.heap.size = q := ⟨_, rfl⟩
  have hgEf : w.heap.size < gE := by rw [← hgE]; exact H_f.out.2.2
  rw [hgE] at hE
  have HB : Hid ((fun (ns : List Nat) (WR : World) => Fb WR w.heap.size ab ∧ Below w.heap.size w WR ∧ ∃ (A : Option Addr) (n c : Nat) (D : Option Addr) (m d : Nat) (Q : Option Addr) (k l : Nat) (rs : List Nat), Ee WR gE ab A n c D m d Q k l ∧ Lv WR A n c rs ∧ Lv WR D m d ns ∧ Nm p rs ∧ Nm p ns ∧ rs.length ≤ 549755813888 ∧ ns.length ≤ 549755813888 ∧ mon p (xlast p rs ns [] []).1 = gcP p xs ys) (nrm p ys) w2) := Lib.hid ⟨H_f.out.below B2, hW.trans (B2.mono hW.size), _, _, _, _, _, _, _, _, _, _, hE, rx.below B2, ry.below B2, HN1.out, HN2.out, l1, l2, rfl⟩
  clear H_f hW hE rx ry hx hy B2 hw2
  go_wp2_with fail
  rw [HW2.out]
  clear HW2
  go_loopg [] (nrm p ys).length (fun gh wr => ∃ ns : List Nat, ns.length = gh ∧ Hid ((fun (ns : List Nat) (WR : World) => Fb WR w.heap.size ab ∧ Below w.heap.size w WR ∧ ∃ (A : Option Addr) (n c : Nat) (D : Option Addr) (m d : Nat) (Q : Option Addr) (k l : Nat) (rs : List Nat), Ee WR gE ab A n c D m d Q k l ∧ Lv WR A n c rs ∧ Lv WR D m d ns ∧ Nm p rs ∧ Nm p ns ∧ rs.length ≤ 549755813888 ∧ ns.length ≤ 549755813888 ∧ mon p (xlast p rs ns [] []).1 = gcP p xs ys) ns wr))
  case atStart => exact ⟨_, rfl, HB⟩
  case round =>
    clear HB l1 l2
    obtain ⟨ns, hgh, HB⟩ := hrel
    obtain ⟨I1, hW, A, n, c, D, m, d, Q, k, l, rs, hE, rx, ry, nr, nn, lr, ln, hg⟩ := HB.out
    have H_f := Lib.hid I1
    have HG := Lib.hid hg
    have HNR := Lib.hid nr
    have HNN := Lib.hid nn
    clear I1 HB hg nr nn
    by_cases h0 : ns = []
    · subst h0
      obtain rfl : m = 0 := ry.len.symm
      rw [xlast_nil] at HG
      go_wp2_with fail
      refine (goon_no hE).mono ?_
      rintro e w5 ⟨rfl, rfl⟩
      obtain ⟨f1, f2, f3⟩ := H_f.out
      obtain ⟨e1, e2, e3, e4, e5, e6, e7, e8, e9⟩ := hE
      go_wp2_with fail
      clear f1 f2 f3 e1 e2 e3 e4 e5 e6 e7 e8 e9
      refine (mon_v HP.out h rx (by rw [← rx.len]; omega)).mono ?_
      rintro e w6 ⟨A6, n6, c6, rfl, r6, B6⟩
      rw [HG.out] at r6
      go_wp2_with fail
      exact bodyPost_ret (v := .slice A6 n6 c6) (by simp [results, Tryd.results32, go_sem]) rfl ⟨_, _, _, rfl, r6, hW.trans (B6.mono hW.size)⟩
    · have hge := hE.lt
      have sp := dm_spec hpr (a := rs) HNN.out h0
      have hst := xlast_step hpr (r := rs) (s := []) (s' := []) HNN.out h0
      have hst1 : (xlast p rs ns [] []).1 = (xlast p ns (remP p rs ns) [] []).1 := by rw [hst]; exact xlast_fst _ _ _ _ _ _ _
      have hg2 : mon p (xlast p ns (remP p rs ns) [] []).1 = gcP p xs ys := by rw [← hst1]; exact HG.out
      have HG2 := Lib.hid hg2
      have HSP := Lib.hid sp
      clear sp hst hg2 hst1
      go_wp2_with fail
      refine (goon_yes HP.out h hpr hE rx (by rw [← rx.len]; omega) ry (by rw [← ry.len]; omega) HNR.out HNN.out h0).mono ?_
      rintro e w5 ⟨rfl, A5, n5, c5, Q5, k5, l5, hE5, r5, q5, hg5, hk5⟩
      have HF5 := Lib.hid (H_f.out.grown hg5 (by omega))
      have hW5 := grown_to_below hW hg5 (by omega)
      have ry5 := hk5 ry
      have hlt := HSP.out.lt
      clear H_f hW hE rx ry q5 hg5 hk5
      go_wp2_with fail
      go_roundg (remP p rs ns).length
      case rel => exact ⟨_, rfl, Lib.hid ⟨HF5.out, hW5, _, _, _, _, _, _, _, _, _, _, hE5, ry5, r5, HNN.out, HSP.out.nr, ln, by omega, HG2.out⟩⟩
      case measure => omega
/-- Three polynomials are answered. -/
def LLLPost (zs ys us : List Nat) (w : World) (e : Ending) (w' : World) : Prop := ∃ A n c D m d Q k l, e = .returned (.tuple #[.slice A n c, .slice D m d, .slice Q k l]) ∧ (Lv w' A n c zs ∧ Lv w' D m d ys ∧ Lv w' Q k l us) ∧ Below w.heap.size w w'
theorem xt1_is {p : Nat} (hp : MR.Pr p) (a b : List Nat) : quoP p (nrm p (amul p (xg p a b) (mulp p (xs1 p a b) a) (p - 1))) (nrm p b) = xt1 p a b := by
  unfold xt1
  rw [mulp_nrm, nrm_of (pr_pos hp) (nm_amul (pr_pos hp) _ _ _)]
theorem lv_one2 (w : World) (o : Obj) : Lv ((w.alloc (.cells #[.int .u64 1] 26)).alloc o) (some ⟨w.heap.size, 0, none⟩) 1 1 [1] := (lv_one w).below (zba _ _)
theorem lv_none (w : World) (g : Nat) : Lv w (some ⟨g, 0, none⟩) 0 0 [] := ⟨Rd.nil _ _ _, rfl, by omega, by omega, Low.nil _⟩
set_option maxRecDepth 100000 in
set_option maxHeartbeats 1000000 in
/-- fpoly.Xgcd. -/
theorem xgcd9_v {ab p n0 c0 m0 d0 : Nat} {A0 D0 : Option Addr} {xs ys : List Nat} {w : World} (hp : ab + 2 = p) (h : p < 2147483648) (hpr : MR.Pr p) (hx : Lv w A0 n0 c0 xs) (hn : n0 ≤ 274877906944) (hy : Lv w D0 m0 d0 ys) (hm : m0 ≤ 274877906944) :
    Calls Tryd.prog 30 #[.agg #[.int .u64 (ab : Int)], .slice A0 n0 c0, .slice D0 m0 d0] w (LLLPost (xg p xs ys) (xs1 p xs ys) (xt1 p xs ys) w) := by
  have HX0 := Lib.hid hx
  have HY0 := Lib.hid hy
  have hW := Below.refl w.heap.size w
  obtain ⟨wp0, hwp0⟩ : ∃ xw, xw = w.alloc (.cells #[.int .u64 (ab : Int)] 28) := ⟨_, rfl⟩
  have zp0 : Below w.heap.size w wp0 := by rw [hwp0]; exact zba _ _
  have sp0 : wp0.heap.size = w.heap.size + 1 := by rw [hwp0, World.size_alloc]
  have If : Fb wp0 w.heap.size ab := by rw [hwp0]; exact Fb.new _ _ _
  replace hx := hx.below zp0
  replace hy := hy.below zp0
  replace hW := hW.trans (zp0.mono hW.size)
  have H_f := Lib.hid If
  clear If zp0
  have HW : Hid ((w.alloc (.cells #[.int .u64 (ab : Int)] 28)) = wp0) := Lib.hid (by rw [hwp0])
  have lw_f : w.heap.size ≤ w.heap.size := by omega
  clear hwp0 sp0
  have h2 : 2 ≤ p := by omega
  have HP := Lib.hid hp
  have l1 : (nrm p xs).length ≤ 274877906944 := by have := nrm_le p xs; rw [hx.len] at this; omega
  have l2 : (nrm p ys).length ≤ 274877906944 := by have := nrm_le p ys; rw [hy.len] at this; omega
  have n1 := nm_nrm (pr_pos hpr) xs
  have n2 := nm_nrm (pr_pos hpr) ys
  have HN1 := Lib.hid n1
  have HN2 := Lib.hid n2
  clear hp n1 n2
  go_enter Tryd.func30, Tryd.ntmps30
  obtain ⟨f1, f2, f3⟩ := H_f.out
  go_wp2_with fail
  rw [HW.out]
  clear f1 f2 f3
  refine (begin_v HP.out h hx (by omega) hy (by omega)).mono ?_
  rintro e w1 ⟨A1, n1, c1, D1, m1, d1, rfl, ⟨rx, ry⟩, B1⟩
  replace H_f := Lib.hid (H_f.out.below B1)
  replace hx := hx.below B1
  replace hy := hy.below B1
  replace hW := hW.trans (B1.mono hW.size)
  clear B1
  obtain ⟨f1, f2, f3⟩ := H_f.out
  go_wp2_with fail
  clear f1 f2 f3
  obtain ⟨w2, hw2⟩ : ∃ xw, xw = w1.alloc (.cells #[.int .u64 (ab : Int), .slice A1 n1 c1, .slice D1 m1 d1, .slice none 0 0] 72) := ⟨_, rfl⟩
  have hE : Ee w2 w1.heap.size ab A1 n1 c1 D1 m1 d1 none 0 0 := by rw [hw2]; exact Ee.new _ _ _ _ _ _ _ _ _ _ _ _
  have B2 : Below w1.heap.size w1 w2 := by rw [hw2]; exact zba _ _
  have HW2 := Lib.hid hw2.symm
  obtain ⟨gE, hgE⟩ : ∃ q, w1.heap.size = q := ⟨_, rfl⟩
  have hgEf : w.heap.size < gE := by rw [← hgE]; exact H_f.out.2.2
  rw [hgE] at hE
  obtain ⟨w3, hw3⟩ : ∃ xw, xw = (w2.alloc (.cells #[.int .u64 1] 26)).alloc (.cells #[] 26) := ⟨_, rfl⟩
  have B3 : Below w2.heap.size w2 w3 := by rw [hw3]; exact zba2 _ _ _
  have h1 : Lv w3 (some ⟨w2.heap.size, 0, none⟩) 1 1 [1] := by rw [hw3]; exact lv_one2 _ _
  have h0 := lv_none w3 (w2.heap.size + 1)
  have HW3 := Lib.hid hw3.symm
  have HB : Hid ((fun (ns : List Nat) (V10 V11 : Value) (WR : World) => Fb WR w.heap.size ab ∧ Below w.heap.size w WR ∧ ∃ (A : Option Addr) (n c : Nat) (D : Option Addr) (m d : Nat) (Q : Option Addr) (k l : Nat) (A' : Option Addr) (n' c' : Nat) (D' : Option Addr) (m' d' : Nat) (rs ss ts : List Nat), V10 = .slice A' n' c' ∧ V11 = .slice D' m' d' ∧ Ee WR gE ab A n c D m d Q k l ∧ Lv WR A n c rs ∧ Lv WR D m d ns ∧ Lv WR A' n' c' ss ∧ Lv WR D' m' d' ts ∧ Nm p rs ∧ Nm p ns ∧ Nm p ss ∧ Nm p ts ∧ rs.length ≤ 274877906944 ∧ ns.length ≤ 274877906944 ∧ SLen 274877906944 rs ns ss ts ∧ xlast p rs ns ss ts = xgs p xs ys) (nrm p ys) (.slice (some ⟨w2.heap.size, 0, none⟩) 1 1) (.slice (some ⟨w2.heap.size + 1, 0, none⟩) 0 0) w3) := Lib.hid ⟨(H_f.out.below B2).below B3, (hW.trans (B2.mono hW.size)).trans (B3.mono (Nat.le_trans hW.size B2.size)), _, _, _, _, _, _, _, _, _, _, _, _, _, _, _, _, _, _, rfl, rfl, hE.below B3, (rx.below B2).below B3, (ry.below B2).below B3, h1, h0, HN1.out, HN2.out, nm_one hpr, Nm.nil p, l1, l2, .inl ⟨rfl, rfl⟩, rfl⟩
  have hsz : w1.heap.size + 1 = w2.heap.size := by rw [hw2, World.size_alloc]
  have hsz2 : gE + 1 = w2.heap.size := by rw [← hgE]; exact hsz
  clear H_f hW hE rx ry hx hy B2 hw2 hw3 B3 h1 h0
  go_wp2_with fail
  rw [HW2.out]
  rw [HW3.out]
  clear HW2 HW3 hsz hsz2
  go_loopg [10, 11] (nrm p ys).length (fun gh s10 s11 wr => ∃ ns : List Nat, ns.length = gh ∧ Hid ((fun (ns : List Nat) (V10 V11 : Value) (WR : World) => Fb WR w.heap.size ab ∧ Below w.heap.size w WR ∧ ∃ (A : Option Addr) (n c : Nat) (D : Option Addr) (m d : Nat) (Q : Option Addr) (k l : Nat) (A' : Option Addr) (n' c' : Nat) (D' : Option Addr) (m' d' : Nat) (rs ss ts : List Nat), V10 = .slice A' n' c' ∧ V11 = .slice D' m' d' ∧ Ee WR gE ab A n c D m d Q k l ∧ Lv WR A n c rs ∧ Lv WR D m d ns ∧ Lv WR A' n' c' ss ∧ Lv WR D' m' d' ts ∧ Nm p rs ∧ Nm p ns ∧ Nm p ss ∧ Nm p ts ∧ rs.length ≤ 274877906944 ∧ ns.length ≤ 274877906944 ∧ SLen 274877906944 rs ns ss ts ∧ xlast p rs ns ss ts = xgs p xs ys) ns s10 s11 wr))
  case atStart => exact ⟨_, rfl, HB⟩
  case round =>
    clear HB l1 l2
    obtain ⟨ns, hgh, HB⟩ := hrel
    obtain ⟨I1, hW, A, n, c, D, m, d, Q, k, l, A', n', c', D', m', d', rs, ss, ts, rfl, rfl, hE, rx, ry, rs1, rt, nr, nn, nss, nt, lr, ln, hs, hg⟩ := HB.out
    have H_f := Lib.hid I1
    have HG := Lib.hid hg
    have HNR := Lib.hid nr
    have HNN := Lib.hid nn
    have HNS := Lib.hid nss
    have HNT := Lib.hid nt
    have HS := Lib.hid hs
    have ls := slen_le hs
    clear I1 HB hg nr nn nss nt hs
    by_cases h0 : ns = []
    · subst h0
      obtain rfl : m = 0 := ry.len.symm
      rw [xlast_nil] at HG
      have hrs : rs = (xgs p xs ys).1 := by rw [← HG.out]
      have hss : ss = (xgs p xs ys).2 := by rw [← HG.out]
      have HRS := Lib.hid hrs
      have HSS := Lib.hid hss
      clear hrs hss
      have lrs := rx.len
      have lss := rs1.len
      go_wp2_with fail
      refine (goon_no hE).mono ?_
      rintro e w5 ⟨rfl, rfl⟩
      obtain ⟨f1, f2, f3⟩ := H_f.out
      have ⟨e1, e2, e3, e4, e5, e6, e7, e8, e9⟩ := hE
      go_wp2_with fail
      clear f1 f2 f3 e1 e2 e3 e4 e5 e6 e7 e8 e9
      refine (iot_v HP.out h rx).mono ?_
      rintro e w6 ⟨rfl, B6⟩
      obtain ⟨iv, hiv⟩ : ∃ iv, invW p (lead rs) = iv := ⟨_, rfl⟩
      rw [hiv]
      have liv : iv < 18446744073709551616 := by rw [← hiv]; exact invW_word (by omega) h
      have HXG : Hid (amul p [] rs iv = xg p xs ys) := Lib.hid (by rw [← hiv, HRS.out]; rfl)
      have HXS : Hid (amul p [] ss iv = xs1 p xs ys) := Lib.hid (by rw [← hiv, HSS.out, HRS.out]; rfl)
      have hx := HX0.out.below hW
      have hy := HY0.out.below hW
      clear hiv ry rt
      replace H_f := Lib.hid (H_f.out.below B6)
      replace hE := hE.below B6
      replace rx := rx.below B6
      replace rs1 := rs1.below B6
      replace hx := hx.below B6
      replace hy := hy.below B6
      replace hW := hW.trans (B6.mono hW.size)
      clear B6
      obtain ⟨f1, f2, f3⟩ := H_f.out
      go_wp2_with fail
      clear f1 f2 f3
      refine region8 [] 11 [IsK (.agg #[.int .u64 (ab : Int)]), IsK (.pointer (some ⟨gE, 1, none⟩)), IsK (.slice A n c), IsK (.int .u64 (iv : Int)), IsP (amul p [] rs iv), IsK (.agg #[.int .u64 (ab : Int)]), IsK (.slice A' n' c'), IsK (.int .u64 (iv : Int)), IsP (amul p [] ss iv), IsP (amul p [] rs iv), IsP (amul p [] ss iv)] (fun _ _ d _ _ h => by cases d <;> exact h) (by kernel_rfl) (by kernel_rfl) (by kernel_rfl) ⟨stay_k _, stay_k _, stay_k _, stay_k _, stay_p _, stay_k _, stay_k _, stay_k _, stay_p _, stay_p _, stay_p _, trivial⟩ ?_ ?_
      · refine HopAll.cons rfl ?_ (HopAll.cons rfl ?_ (HopAll.cons rfl ?_ (HopAll.cons rfl ?_ (HopAll.cons rfl ?_ (HopAll.cons rfl ?_ (HopAll.cons rfl ?_ (HopAll.cons rfl ?_ (HopAll.cons rfl ?_ (HopAll.cons rfl ?_ (HopAll.cons rfl ?_ HopAll.nil))))))))))
        · intro a w1 hB ho hp K hK
          have e3 : a.eval (.tmp 3) = (.pointer (some ⟨w.heap.size, 0, none⟩)) := ho 3 (by kernel_rfl)
          obtain ⟨u1, u2, u3⟩ := H_f.out.below hB
          exact hop_load (wanted_none rfl) rfl e3 (run_ldf u1) (hK _ _ rfl (Below.refl _ _))
        · intro a w1 hB ho hp K hK
          have e9 : a.eval (.tmp 9) = (.pointer (some ⟨gE, 0, none⟩)) := ho 9 (by kernel_rfl)
          refine hop_val (wanted_none rfl) ?_ (hK (.pointer (some ⟨gE, 1, none⟩)) _ rfl (Below.refl _ _))
          unfold execOp; simp only [eval_const, e9]; simp [go_sem]
        · intro a w1 hB ho hp K hK
          have e39 : a.eval (.tmp 39) = (.pointer (some ⟨gE, 1, none⟩)) := hp 1 39 (by kernel_rfl)
          exact hop_load (wanted_none rfl) rfl e39 (run_lds (hE.below hB).2.1) (hK _ _ rfl (Below.refl _ _))
        · intro a w1 hB ho hp K hK
          have e12 : a.eval (.tmp 12) = (.int .u64 (iv : Int)) := ho 12 (by kernel_rfl)
          refine hop_val (wanted_none rfl) ?_ (hK (.int .u64 (iv : Int)) _ rfl (Below.refl _ _))
          unfold execOp; simp only [eval_const, e12]; simp [go_sem]
        · intro a w1 hB ho hp K hK
          have e38 : a.eval (.tmp 38) = (.agg #[.int .u64 (ab : Int)]) := hp 0 38 (by kernel_rfl)
          have e40 : a.eval (.tmp 40) = (.slice A n c) := hp 2 40 (by kernel_rfl)
          have e41 : a.eval (.tmp 41) = (.int .u64 (iv : Int)) := hp 3 41 (by kernel_rfl)
          refine hop_call (wanted_none rfl) rfl (args := #[(.agg #[.int .u64 (ab : Int)]), (.slice A n c), (.int .u64 (iv : Int))]) (by simp only [List.map_toArray, List.map_cons, List.map_nil, eval_const, e38, e40, e41]) (ent7 (by kernel_rfl) _ _) (scale_v HP.out h (rx.below hB) (by omega) liv) ?_
          rintro e w2 ⟨A, n, c, rfl, p, B⟩
          exact ⟨_, rfl, hK _ _ ⟨A, n, c, rfl, p⟩ B⟩
        · intro a w1 hB ho hp K hK
          have e3 : a.eval (.tmp 3) = (.pointer (some ⟨w.heap.size, 0, none⟩)) := ho 3 (by kernel_rfl)
          obtain ⟨u1, u2, u3⟩ := H_f.out.below hB
          exact hop_load (wanted_none rfl) rfl e3 (run_ldf u1) (hK _ _ rfl (Below.refl _ _))
        · intro a w1 hB ho hp K hK
          have e10 : a.eval (.tmp 10) = (.slice A' n' c') := ho 10 (by kernel_rfl)
          refine hop_val (wanted_none rfl) ?_ (hK (.slice A' n' c') _ rfl (Below.refl _ _))
          unfold execOp; simp only [eval_const, e10]; simp [go_sem]
        · intro a w1 hB ho hp K hK
          have e12 : a.eval (.tmp 12) = (.int .u64 (iv : Int)) := ho 12 (by kernel_rfl)
          refine hop_val (wanted_none rfl) ?_ (hK (.int .u64 (iv : Int)) _ rfl (Below.refl _ _))
          unfold execOp; simp only [eval_const, e12]; simp [go_sem]
        · intro a w1 hB ho hp K hK
          have e43 : a.eval (.tmp 43) = (.agg #[.int .u64 (ab : Int)]) := hp 5 43 (by kernel_rfl)
          have e44 : a.eval (.tmp 44) = (.slice A' n' c') := hp 6 44 (by kernel_rfl)
          have e45 : a.eval (.tmp 45) = (.int .u64 (iv : Int)) := hp 7 45 (by kernel_rfl)
          refine hop_call (wanted_none rfl) rfl (args := #[(.agg #[.int .u64 (ab : Int)]), (.slice A' n' c'), (.int .u64 (iv : Int))]) (by simp only [List.map_toArray, List.map_cons, List.map_nil, eval_const, e43, e44, e45]) (ent7 (by kernel_rfl) _ _) (scale_v HP.out h (rs1.below hB) (by omega) liv) ?_
          rintro e w2 ⟨A, n, c, rfl, p, B⟩
          exact ⟨_, rfl, hK _ _ ⟨A, n, c, rfl, p⟩ B⟩
        · intro a w1 hB ho hp K hK
          obtain ⟨A_42, n_42, c_42, e42, p42⟩ : IsP (amul p [] rs iv) (a.eval (.tmp 42)) w1 := hp 4 42 (by kernel_rfl)
          refine hop_val (wanted_none rfl) ?_ (hK (.slice A_42 n_42 c_42) _ ⟨_, _, _, rfl, p42⟩ (Below.refl _ _))
          unfold execOp; simp only [e42]; simp [go_sem]
        · intro a w1 hB ho hp K hK
          obtain ⟨A_46, n_46, c_46, e46, p46⟩ : IsP (amul p [] ss iv) (a.eval (.tmp 46)) w1 := hp 8 46 (by kernel_rfl)
          refine hop_val (wanted_none rfl) ?_ (hK (.slice A_46 n_46 c_46) _ ⟨_, _, _, rfl, p46⟩ (Below.refl _ _))
          unfold execOp; simp only [e46]; simp [go_sem]
      intro w21 B21
      refine EndAll.one rfl fun vv hv => ?_
      obtain rfl : vv = (.agg #[.int .u64 (ab : Int)]) := hv
      refine EndAll.one rfl fun vv hv => ?_
      obtain rfl : vv = (.pointer (some ⟨gE, 1, none⟩)) := hv
      refine EndAll.one rfl fun vv hv => ?_
      obtain rfl : vv = (.slice A n c) := hv
      refine EndAll.one rfl fun vv hv => ?_
      obtain rfl : vv = (.int .u64 (iv : Int)) := hv
      refine EndAll.one rfl fun vv hv => ?_
      obtain ⟨A22, n22, c22, rfl, p22⟩ : IsP (amul p [] rs iv) vv w21 := hv
      refine EndAll.one rfl fun vv hv => ?_
      obtain rfl : vv = (.agg #[.int .u64 (ab : Int)]) := hv
      refine EndAll.one rfl fun vv hv => ?_
      obtain rfl : vv = (.slice A' n' c') := hv
      refine EndAll.one rfl fun vv hv => ?_
      obtain rfl : vv = (.int .u64 (iv : Int)) := hv
      refine EndAll.one rfl fun vv hv => ?_
      obtain ⟨A23, n23, c23, rfl, p23⟩ : IsP (amul p [] ss iv) vv w21 := hv
      refine EndAll.one rfl fun vv hv => ?_
      obtain ⟨A24, n24, c24, rfl, p24⟩ : IsP (amul p [] rs iv) vv w21 := hv
      refine EndAll.one rfl fun vv hv => ?_
      obtain ⟨A25, n25, c25, rfl, p25⟩ : IsP (amul p [] ss iv) vv w21 := hv
      refine EndAll.nil (l := []) rfl ?_
      simp only [Act.put, List.setIfInBounds_toArray, List.set_cons_zero, List.set_cons_succ]
      replace H_f := Lib.hid (H_f.out.below B21)
      replace hE := hE.below B21
      replace rx := rx.below B21
      replace rs1 := rs1.below B21
      replace hx := hx.below B21
      replace hy := hy.below B21
      replace hW := hW.trans (B21.mono hW.size)
      have rg := p24
      have rh := p25
      clear p22 p23 p24 p25
      clear B21
      rw [HXG.out] at rg
      rw [HXS.out] at rh
      clear rx rs1 hE
      have lg : (xg p xs ys).length ≤ 274877906944 := by rw [← HXG.out]; exact Nat.le_trans (scale_le _ _) (by omega)
      have lh : (xs1 p xs ys).length ≤ 274877906945 := by rw [← HXS.out]; exact Nat.le_trans (scale_le _ _) (by omega)
      rw [rg.len] at lg
      rw [rh.len] at lh
      have HT1 := Lib.hid (xt1_is hpr xs ys)
      have hmle : (mulp p (xs1 p xs ys) xs).length ≤ 1099511627776 := by have := mulp_le p (xs1 p xs ys) xs; rw [rh.len, hx.len] at this; omega
      have hale : (amul p (xg p xs ys) (mulp p (xs1 p xs ys) xs) (p - 1)).length ≤ 1099511627776 := by have := amul_len p (xg p xs ys) (mulp p (xs1 p xs ys) xs) (p - 1); rw [rg.len] at this; omega
      obtain ⟨f1, f2, f3⟩ := H_f.out
      go_wp2_with fail
      clear f1 f2 f3
      refine region8 [] 17 [IsK (.agg #[.int .u64 (ab : Int)]), IsK (.agg #[.int .u64 (ab : Int)]), IsK (.slice A24 n24 c24), IsK (.agg #[.int .u64 (ab : Int)]), IsK (.slice A25 n25 c25), IsK (.slice A0 n0 c0), IsP (mulp p (xs1 p xs ys) xs), IsP (amul p (xg p xs ys) (mulp p (xs1 p xs ys) xs) (p - 1)), IsK (.slice D0 m0 d0), IsPPB (quoP p (nrm p (amul p (xg p xs ys) (mulp p (xs1 p xs ys) xs) (p - 1))) (nrm p ys)) (remP p (nrm p (amul p (xg p xs ys) (mulp p (xs1 p xs ys) xs) (p - 1))) (nrm p ys)) (decide (nrm p ys ≠ [])), IsPPB (quoP p (nrm p (amul p (xg p xs ys) (mulp p (xs1 p xs ys) xs) (p - 1))) (nrm p ys)) (remP p (nrm p (amul p (xg p xs ys) (mulp p (xs1 p xs ys) xs) (p - 1))) (nrm p ys)) (decide (nrm p ys ≠ [])), IsP (quoP p (nrm p (amul p (xg p xs ys) (mulp p (xs1 p xs ys) xs) (p - 1))) (nrm p ys)), IsP (remP p (nrm p (amul p (xg p xs ys) (mulp p (xs1 p xs ys) xs) (p - 1))) (nrm p ys)), IsK (.bool (decide (nrm p ys ≠ []))), IsP (quoP p (nrm p (amul p (xg p xs ys) (mulp p (xs1 p xs ys) xs) (p - 1))) (nrm p ys)), IsP (remP p (nrm p (amul p (xg p xs ys) (mulp p (xs1 p xs ys) xs) (p - 1))) (nrm p ys)), IsK (.bool (decide (nrm p ys ≠ [])))] (fun _ _ d _ _ h => by cases d <;> exact h) (by kernel_rfl) (by kernel_rfl) (by kernel_rfl) ⟨stay_k _, stay_k _, stay_k _, stay_k _, stay_k _, stay_k _, stay_p _, stay_p _, stay_k _, stay_ppb _ _ _, stay_ppb _ _ _, stay_p _, stay_p _, stay_k _, stay_p _, stay_p _, stay_k _, trivial⟩ ?_ ?_
      · refine HopAll.cons rfl ?_ (HopAll.cons rfl ?_ (HopAll.cons rfl ?_ (HopAll.cons rfl ?_ (HopAll.cons rfl ?_ (HopAll.cons rfl ?_ (HopAll.cons rfl ?_ (HopAll.cons rfl ?_ (HopAll.cons rfl ?_ (HopAll.cons rfl ?_ (HopAll.cons rfl ?_ (HopAll.cons rfl ?_ (HopAll.cons rfl ?_ (HopAll.cons rfl ?_ (HopAll.cons rfl ?_ (HopAll.cons rfl ?_ (HopAll.cons rfl ?_ HopAll.nil))))))))))))))))
        · intro a w1 hB ho hp K hK
          have e3 : a.eval (.tmp 3) = (.pointer (some ⟨w.heap.size, 0, none⟩)) := ho 3 (by kernel_rfl)
          obtain ⟨u1, u2, u3⟩ := H_f.out.below hB
          exact hop_load (wanted_none rfl) rfl e3 (run_ldf u1) (hK _ _ rfl (Below.refl _ _))
        · intro a w1 hB ho hp K hK
          have e3 : a.eval (.tmp 3) = (.pointer (some ⟨w.heap.size, 0, none⟩)) := ho 3 (by kernel_rfl)
          obtain ⟨u1, u2, u3⟩ := H_f.out.below hB
          exact hop_load (wanted_none rfl) rfl e3 (run_ldf u1) (hK _ _ rfl (Below.refl _ _))
        · intro a w1 hB ho hp K hK
          have e13 : a.eval (.tmp 13) = (.slice A24 n24 c24) := ho 13 (by kernel_rfl)
          refine hop_val (wanted_none rfl) ?_ (hK (.slice A24 n24 c24) _ rfl (Below.refl _ _))
          unfold execOp; simp only [eval_const, e13]; simp [go_sem]
        · intro a w1 hB ho hp K hK
          have e3 : a.eval (.tmp 3) = (.pointer (some ⟨w.heap.size, 0, none⟩)) := ho 3 (by kernel_rfl)
          obtain ⟨u1, u2, u3⟩ := H_f.out.below hB
          exact hop_load (wanted_none rfl) rfl e3 (run_ldf u1) (hK _ _ rfl (Below.refl _ _))
        · intro a w1 hB ho hp K hK
          have e14 : a.eval (.tmp 14) = (.slice A25 n25 c25) := ho 14 (by kernel_rfl)
          refine hop_val (wanted_none rfl) ?_ (hK (.slice A25 n25 c25) _ rfl (Below.refl _ _))
          unfold execOp; simp only [eval_const, e14]; simp [go_sem]
        · intro a w1 hB ho hp K hK
          have e1 : a.eval (.tmp 1) = (.slice A0 n0 c0) := ho 1 (by kernel_rfl)
          refine hop_val (wanted_none rfl) ?_ (hK (.slice A0 n0 c0) _ rfl (Below.refl _ _))
          unfold execOp; simp only [eval_const, e1]; simp [go_sem]
        · intro a w1 hB ho hp K hK
          have e51 : a.eval (.tmp 51) = (.agg #[.int .u64 (ab : Int)]) := hp 3 51 (by kernel_rfl)
          have e52 : a.eval (.tmp 52) = (.slice A25 n25 c25) := hp 4 52 (by kernel_rfl)
          have e53 : a.eval (.tmp 53) = (.slice A0 n0 c0) := hp 5 53 (by kernel_rfl)
          refine hop_call (wanted_none rfl) rfl (args := #[(.agg #[.int .u64 (ab : Int)]), (.slice A25 n25 c25), (.slice A0 n0 c0)]) (by simp only [List.map_toArray, List.map_cons, List.map_nil, eval_const, e51, e52, e53]) (ent7 (by kernel_rfl) _ _) (pmul_v HP.out h (rh.below hB) (by omega) (hx.below hB) (by omega)) ?_
          rintro e w2 ⟨A, n, c, rfl, p, B⟩
          exact ⟨_, rfl, hK _ _ ⟨A, n, c, rfl, p⟩ B⟩
        · intro a w1 hB ho hp K hK
          have e49 : a.eval (.tmp 49) = (.agg #[.int .u64 (ab : Int)]) := hp 1 49 (by kernel_rfl)
          have e50 : a.eval (.tmp 50) = (.slice A24 n24 c24) := hp 2 50 (by kernel_rfl)
          obtain ⟨A_54, n_54, c_54, e54, p54⟩ : IsP (mulp p (xs1 p xs ys) xs) (a.eval (.tmp 54)) w1 := hp 6 54 (by kernel_rfl)
          refine hop_call (wanted_none rfl) rfl (args := #[(.agg #[.int .u64 (ab : Int)]), (.slice A24 n24 c24), (.slice A_54 n_54 c_54)]) (by simp only [List.map_toArray, List.map_cons, List.map_nil, eval_const, e49, e50, e54]) (ent7 (by kernel_rfl) _ _) (psub_v HP.out h (rg.below hB) (by omega) p54 (by rw [← p54.len]; exact hmle)) ?_
          rintro e w2 ⟨A, n, c, rfl, p, B⟩
          exact ⟨_, rfl, hK _ _ ⟨A, n, c, rfl, p⟩ B⟩
        · intro a w1 hB ho hp K hK
          have e2 : a.eval (.tmp 2) = (.slice D0 m0 d0) := ho 2 (by kernel_rfl)
          refine hop_val (wanted_none rfl) ?_ (hK (.slice D0 m0 d0) _ rfl (Below.refl _ _))
          unfold execOp; simp only [eval_const, e2]; simp [go_sem]
        · intro a w1 hB ho hp K hK
          have e48 : a.eval (.tmp 48) = (.agg #[.int .u64 (ab : Int)]) := hp 0 48 (by kernel_rfl)
          obtain ⟨A_55, n_55, c_55, e55, p55⟩ : IsP (amul p (xg p xs ys) (mulp p (xs1 p xs ys) xs) (p - 1)) (a.eval (.tmp 55)) w1 := hp 7 55 (by kernel_rfl)
          have e56 : a.eval (.tmp 56) = (.slice D0 m0 d0) := hp 8 56 (by kernel_rfl)
          refine hop_call (wanted_none rfl) rfl (args := #[(.agg #[.int .u64 (ab : Int)]), (.slice A_55 n_55 c_55), (.slice D0 m0 d0)]) (by simp only [List.map_toArray, List.map_cons, List.map_nil, eval_const, e48, e55, e56]) (ent7 (by kernel_rfl) _ _) (divmod_v HP.out h p55 (by rw [← p55.len]; exact hale) (hy.below hB) (by omega) hpr (b := decide (nrm p ys ≠ [])) decide_eq_true_iff) ?_
          rintro e w2 ⟨A, n, c, D, m, d, rfl, p, B⟩
          exact ⟨_, rfl, hK _ _ ⟨A, n, c, D, m, d, rfl, p⟩ B⟩
        · intro a w1 hB ho hp K hK
          obtain ⟨A_57, n_57, c_57, D_57, m_57, d_57, e57, p57⟩ : IsPPB (quoP p (nrm p (amul p (xg p xs ys) (mulp p (xs1 p xs ys) xs) (p - 1))) (nrm p ys)) (remP p (nrm p (amul p (xg p xs ys) (mulp p (xs1 p xs ys) xs) (p - 1))) (nrm p ys)) (decide (nrm p ys ≠ [])) (a.eval (.tmp 57)) w1 := hp 9 57 (by kernel_rfl)
          refine hop_val (wanted_none rfl) ?_ (hK (.tuple #[.slice A_57 n_57 c_57, .slice D_57 m_57 d_57, .bool (decide (nrm p ys ≠ []))]) _ ⟨_, _, _, _, _, _, rfl, p57⟩ (Below.refl _ _))
          unfold execOp; simp only [e57]; simp [go_sem]
        · intro a w1 hB ho hp K hK
          obtain ⟨A_47, n_47, c_47, D_47, m_47, d_47, e47, p47⟩ : IsPPB (quoP p (nrm p (amul p (xg p xs ys) (mulp p (xs1 p xs ys) xs) (p - 1))) (nrm p ys)) (remP p (nrm p (amul p (xg p xs ys) (mulp p (xs1 p xs ys) xs) (p - 1))) (nrm p ys)) (decide (nrm p ys ≠ [])) (a.eval (.tmp 47)) w1 := hp 10 47 (by kernel_rfl)
          refine hop_val (wanted_none rfl) ?_ (hK (.slice A_47 n_47 c_47) _ ⟨_, _, _, rfl, p47.1⟩ (Below.refl _ _))
          unfold execOp; simp only [e47]; simp [go_sem]
        · intro a w1 hB ho hp K hK
          obtain ⟨A_47, n_47, c_47, D_47, m_47, d_47, e47, p47⟩ : IsPPB (quoP p (nrm p (amul p (xg p xs ys) (mulp p (xs1 p xs ys) xs) (p - 1))) (nrm p ys)) (remP p (nrm p (amul p (xg p xs ys) (mulp p (xs1 p xs ys) xs) (p - 1))) (nrm p ys)) (decide (nrm p ys ≠ [])) (a.eval (.tmp 47)) w1 := hp 10 47 (by kernel_rfl)
          refine hop_val (wanted_none rfl) ?_ (hK (.slice D_47 m_47 d_47) _ ⟨_, _, _, rfl, p47.2⟩ (Below.refl _ _))
          unfold execOp; simp only [e47]; simp [go_sem]
        · intro a w1 hB ho hp K hK
          obtain ⟨A_47, n_47, c_47, D_47, m_47, d_47, e47, p47⟩ : IsPPB (quoP p (nrm p (amul p (xg p xs ys) (mulp p (xs1 p xs ys) xs) (p - 1))) (nrm p ys)) (remP p (nrm p (amul p (xg p xs ys) (mulp p (xs1 p xs ys) xs) (p - 1))) (nrm p ys)) (decide (nrm p ys ≠ [])) (a.eval (.tmp 47)) w1 := hp 10 47 (by kernel_rfl)
          refine hop_val (wanted_none rfl) ?_ (hK (.bool (decide (nrm p ys ≠ []))) _ rfl (Below.refl _ _))
          unfold execOp; simp only [e47]; simp [go_sem]
        · intro a w1 hB ho hp K hK
          obtain ⟨A_58, n_58, c_58, e58, p58⟩ : IsP (quoP p (nrm p (amul p (xg p xs ys) (mulp p (xs1 p xs ys) xs) (p - 1))) (nrm p ys)) (a.eval (.tmp 58)) w1 := hp 11 58 (by kernel_rfl)
          refine hop_val (wanted_none rfl) ?_ (hK (.slice A_58 n_58 c_58) _ ⟨_, _, _, rfl, p58⟩ (Below.refl _ _))
          unfold execOp; simp only [e58]; simp [go_sem]
        · intro a w1 hB ho hp K hK
          obtain ⟨A_59, n_59, c_59, e59, p59⟩ : IsP (remP p (nrm p (amul p (xg p xs ys) (mulp p (xs1 p xs ys) xs) (p - 1))) (nrm p ys)) (a.eval (.tmp 59)) w1 := hp 12 59 (by kernel_rfl)
          refine hop_val (wanted_none rfl) ?_ (hK (.slice A_59 n_59 c_59) _ ⟨_, _, _, rfl, p59⟩ (Below.refl _ _))
          unfold execOp; simp only [e59]; simp [go_sem]
        · intro a w1 hB ho hp K hK
          have e60 : a.eval (.tmp 60) = (.bool (decide (nrm p ys ≠ []))) := hp 13 60 (by kernel_rfl)
          refine hop_val (wanted_none rfl) ?_ (hK (.bool (decide (nrm p ys ≠ []))) _ rfl (Below.refl _ _))
          unfold execOp; simp only [eval_const, e60]; simp [go_sem]
      intro w26 B26
      refine EndAll.one rfl fun vv hv => ?_
      obtain rfl : vv = (.agg #[.int .u64 (ab : Int)]) := hv
      refine EndAll.one rfl fun vv hv => ?_
      obtain rfl : vv = (.agg #[.int .u64 (ab : Int)]) := hv
      refine EndAll.one rfl fun vv hv => ?_
      obtain rfl : vv = (.slice A24 n24 c24) := hv
      refine EndAll.one rfl fun vv hv => ?_
      obtain rfl : vv = (.agg #[.int .u64 (ab : Int)]) := hv
      refine EndAll.one rfl fun vv hv => ?_
      obtain rfl : vv = (.slice A25 n25 c25) := hv
      refine EndAll.one rfl fun vv hv => ?_
      obtain rfl : vv = (.slice A0 n0 c0) := hv
      refine EndAll.one rfl fun vv hv => ?_
      obtain ⟨A27, n27, c27, rfl, p27⟩ : IsP (mulp p (xs1 p xs ys) xs) vv w26 := hv
      refine EndAll.one rfl fun vv hv => ?_
      obtain ⟨A28, n28, c28, rfl, p28⟩ : IsP (amul p (xg p xs ys) (mulp p (xs1 p xs ys) xs) (p - 1)) vv w26 := hv
      refine EndAll.one rfl fun vv hv => ?_
      obtain rfl : vv = (.slice D0 m0 d0) := hv
      refine EndAll.one rfl fun vv hv => ?_
      obtain ⟨A29, n29, c29, D29, m29, d29, rfl, p29⟩ : IsPPB (quoP p (nrm p (amul p (xg p xs ys) (mulp p (xs1 p xs ys) xs) (p - 1))) (nrm p ys)) (remP p (nrm p (amul p (xg p xs ys) (mulp p (xs1 p xs ys) xs) (p - 1))) (nrm p ys)) (decide (nrm p ys ≠ [])) vv w26 := hv
      refine EndAll.one rfl fun vv hv => ?_
      obtain ⟨A30, n30, c30, D30, m30, d30, rfl, p30⟩ : IsPPB (quoP p (nrm p (amul p (xg p xs ys) (mulp p (xs1 p xs ys) xs) (p - 1))) (nrm p ys)) (remP p (nrm p (amul p (xg p xs ys) (mulp p (xs1 p xs ys) xs) (p - 1))) (nrm p ys)) (decide (nrm p ys ≠ [])) vv w26 := hv
      refine EndAll.one rfl fun vv hv => ?_
      obtain ⟨A31, n31, c31, rfl, p31⟩ : IsP (quoP p (nrm p (amul p (xg p xs ys) (mulp p (xs1 p xs ys) xs) (p - 1))) (nrm p ys)) vv w26 := hv
      refine EndAll.one rfl fun vv hv => ?_
      obtain ⟨A32, n32, c32, rfl, p32⟩ : IsP (remP p (nrm p (amul p (xg p xs ys) (mulp p (xs1 p xs ys) xs) (p - 1))) (nrm p ys)) vv w26 := hv
      refine EndAll.one rfl fun vv hv => ?_
      obtain rfl : vv = (.bool (decide (nrm p ys ≠ []))) := hv
      refine EndAll.one rfl fun vv hv => ?_
      obtain ⟨A33, n33, c33, rfl, p33⟩ : IsP (quoP p (nrm p (amul p (xg p xs ys) (mulp p (xs1 p xs ys) xs) (p - 1))) (nrm p ys)) vv w26 := hv
      refine EndAll.one rfl fun vv hv => ?_
      obtain ⟨A34, n34, c34, rfl, p34⟩ : IsP (remP p (nrm p (amul p (xg p xs ys) (mulp p (xs1 p xs ys) xs) (p - 1))) (nrm p ys)) vv w26 := hv
      refine EndAll.one rfl fun vv hv => ?_
      obtain rfl : vv = (.bool (decide (nrm p ys ≠ []))) := hv
      refine EndAll.nil (l := []) rfl ?_
      simp only [Act.put, List.setIfInBounds_toArray, List.set_cons_zero, List.set_cons_succ]
      replace H_f := Lib.hid (H_f.out.below B26)
      replace rg := rg.below B26
      replace rh := rh.below B26
      replace hx := hx.below B26
      replace hy := hy.below B26
      replace hW := hW.trans (B26.mono hW.size)
      have rt := p33
      clear p27 p28 p29 p30 p31 p32 p33 p34
      clear B26
      rw [HT1.out] at rt
      obtain ⟨f1, f2, f3⟩ := H_f.out
      go_wp2_with fail
      clear f1 f2 f3
      exact bodyPost_ret (v := (.tuple #[.slice A24 n24 c24, .slice A25 n25 c25, .slice A33 n33 c33])) (by simp [results, Tryd.results30, go_sem]) rfl ⟨_, _, _, _, _, _, _, _, _, rfl, ⟨rg, rh, rt⟩, hW⟩
    · have hge := hE.lt
      have sp := dm_spec hpr (a := rs) HNN.out h0
      have hst := xlast_step hpr (r := rs) (s := ss) (s' := ts) HNN.out h0
      rw [HG.out] at hst
      have HG2 := Lib.hid hst
      have HSP := Lib.hid sp
      have HS2 := Lib.hid (slen_step hpr HNR.out HNN.out h0 ln HS.out)
      have lq := quo_len hpr HNN.out h0 HNR.out
      clear sp hst
      go_wp2_with fail
      refine (goon_yes HP.out h hpr hE rx (by rw [← rx.len]; omega) ry (by rw [← ry.len]; omega) HNR.out HNN.out h0).mono ?_
      rintro e w5 ⟨rfl, A5, n5, c5, Q5, k5, l5, hE5, r5, q5, hg5, hk5⟩
      have HF5 := Lib.hid (H_f.out.grown hg5 (by omega))
      have hW5 := grown_to_below hW hg5 (by omega)
      have ry5 := hk5 ry
      have rs5 := hk5 rs1
      have rt5 := hk5 rt
      have hlt := HSP.out.lt
      have lts := rt.len
      have lss := rs1.len
      clear H_f hW hE rx ry rs1 rt hg5 hk5
      have H_f := HF5
      have hW := hW5
      clear HF5 hW5
      have hmle : (mulp p (quoP p rs ns) ts).length ≤ 1099511627776 := by have := mulp_le p (quoP p rs ns) ts; omega
      have lqs := q5.len
      obtain ⟨f1, f2, f3⟩ := H_f.out
      go_wp2_with fail
      clear f1 f2 f3
      refine region8 [] 9 [IsK (.slice D' m' d'), IsK (.agg #[.int .u64 (ab : Int)]), IsK (.slice A' n' c'), IsK (.agg #[.int .u64 (ab : Int)]), IsK (.pointer (some ⟨gE, 3, none⟩)), IsK (.slice Q5 k5 l5), IsK (.slice D' m' d'), IsP (mulp p (quoP p rs ns) ts), IsP (amul p ss (mulp p (quoP p rs ns) ts) (p - 1))] (fun _ _ d _ _ h => by cases d <;> exact h) (by kernel_rfl) (by kernel_rfl) (by kernel_rfl) ⟨stay_k _, stay_k _, stay_k _, stay_k _, stay_k _, stay_k _, stay_k _, stay_p _, stay_p _, trivial⟩ ?_ ?_
      · refine HopAll.cons rfl ?_ (HopAll.cons rfl ?_ (HopAll.cons rfl ?_ (HopAll.cons rfl ?_ (HopAll.cons rfl ?_ (HopAll.cons rfl ?_ (HopAll.cons rfl ?_ (HopAll.cons rfl ?_ (HopAll.cons rfl ?_ HopAll.nil))))))))
        · intro a w1 hB ho hp K hK
          have e11 : a.eval (.tmp 11) = (.slice D' m' d') := ho 11 (by kernel_rfl)
          refine hop_val (wanted_none rfl) ?_ (hK (.slice D' m' d') _ rfl (Below.refl _ _))
          unfold execOp; simp only [eval_const, e11]; simp [go_sem]
        · intro a w1 hB ho hp K hK
          have e3 : a.eval (.tmp 3) = (.pointer (some ⟨w.heap.size, 0, none⟩)) := ho 3 (by kernel_rfl)
          obtain ⟨u1, u2, u3⟩ := H_f.out.below hB
          exact hop_load (wanted_none rfl) rfl e3 (run_ldf u1) (hK _ _ rfl (Below.refl _ _))
        · intro a w1 hB ho hp K hK
          have e10 : a.eval (.tmp 10) = (.slice A' n' c') := ho 10 (by kernel_rfl)
          refine hop_val (wanted_none rfl) ?_ (hK (.slice A' n' c') _ rfl (Below.refl _ _))
          unfold execOp; simp only [eval_const, e10]; simp [go_sem]
        · intro a w1 hB ho hp K hK
          have e3 : a.eval (.tmp 3) = (.pointer (some ⟨w.heap.size, 0, none⟩)) := ho 3 (by kernel_rfl)
          obtain ⟨u1, u2, u3⟩ := H_f.out.below hB
          exact hop_load (wanted_none rfl) rfl e3 (run_ldf u1) (hK _ _ rfl (Below.refl _ _))
        · intro a w1 hB ho hp K hK
          have e9 : a.eval (.tmp 9) = (.pointer (some ⟨gE, 0, none⟩)) := ho 9 (by kernel_rfl)
          refine hop_val (wanted_none rfl) ?_ (hK (.pointer (some ⟨gE, 3, none⟩)) _ rfl (Below.refl _ _))
          unfold execOp; simp only [eval_const, e9]; simp [go_sem]
        · intro a w1 hB ho hp K hK
          have e29 : a.eval (.tmp 29) = (.pointer (some ⟨gE, 3, none⟩)) := hp 4 29 (by kernel_rfl)
          exact hop_load (wanted_none rfl) rfl e29 (run_lds (hE5.below hB).2.2.2.1) (hK _ _ rfl (Below.refl _ _))
        · intro a w1 hB ho hp K hK
          have e11 : a.eval (.tmp 11) = (.slice D' m' d') := ho 11 (by kernel_rfl)
          refine hop_val (wanted_none rfl) ?_ (hK (.slice D' m' d') _ rfl (Below.refl _ _))
          unfold execOp; simp only [eval_const, e11]; simp [go_sem]
        · intro a w1 hB ho hp K hK
          have e28 : a.eval (.tmp 28) = (.agg #[.int .u64 (ab : Int)]) := hp 3 28 (by kernel_rfl)
          have e30 : a.eval (.tmp 30) = (.slice Q5 k5 l5) := hp 5 30 (by kernel_rfl)
          have e31 : a.eval (.tmp 31) = (.slice D' m' d') := hp 6 31 (by kernel_rfl)
          refine hop_call (wanted_none rfl) rfl (args := #[(.agg #[.int .u64 (ab : Int)]), (.slice Q5 k5 l5), (.slice D' m' d')]) (by simp only [List.map_toArray, List.map_cons, List.map_nil, eval_const, e28, e30, e31]) (ent7 (by kernel_rfl) _ _) (mulN_v HP.out h (q5.below hB) (by omega) (rt5.below hB) (by omega) HSP.out.nq.1 HNT.out.1) ?_
          rintro e w2 ⟨A, n, c, rfl, p, B⟩
          exact ⟨_, rfl, hK _ _ ⟨A, n, c, rfl, p⟩ B⟩
        · intro a w1 hB ho hp K hK
          have e26 : a.eval (.tmp 26) = (.agg #[.int .u64 (ab : Int)]) := hp 1 26 (by kernel_rfl)
          have e27 : a.eval (.tmp 27) = (.slice A' n' c') := hp 2 27 (by kernel_rfl)
          obtain ⟨A_32, n_32, c_32, e32, p32⟩ : IsP (mulp p (quoP p rs ns) ts) (a.eval (.tmp 32)) w1 := hp 7 32 (by kernel_rfl)
          refine hop_call (wanted_none rfl) rfl (args := #[(.agg #[.int .u64 (ab : Int)]), (.slice A' n' c'), (.slice A_32 n_32 c_32)]) (by simp only [List.map_toArray, List.map_cons, List.map_nil, eval_const, e26, e27, e32]) (ent7 (by kernel_rfl) _ _) (psub_v HP.out h (rs5.below hB) (by omega) p32 (by rw [← p32.len]; exact hmle)) ?_
          rintro e w2 ⟨A, n, c, rfl, p, B⟩
          exact ⟨_, rfl, hK _ _ ⟨A, n, c, rfl, p⟩ B⟩
      intro w21 B21
      refine EndAll.one rfl fun vv hv => ?_
      obtain rfl : vv = (.slice D' m' d') := hv
      refine EndAll.one rfl fun vv hv => ?_
      obtain rfl : vv = (.agg #[.int .u64 (ab : Int)]) := hv
      refine EndAll.one rfl fun vv hv => ?_
      obtain rfl : vv = (.slice A' n' c') := hv
      refine EndAll.one rfl fun vv hv => ?_
      obtain rfl : vv = (.agg #[.int .u64 (ab : Int)]) := hv
      refine EndAll.one rfl fun vv hv => ?_
      obtain rfl : vv = (.pointer (some ⟨gE, 3, none⟩)) := hv
      refine EndAll.one rfl fun vv hv => ?_
      obtain rfl : vv = (.slice Q5 k5 l5) := hv
      refine EndAll.one rfl fun vv hv => ?_
      obtain rfl : vv = (.slice D' m' d') := hv
      refine EndAll.one rfl fun vv hv => ?_
      obtain ⟨A22, n22, c22, rfl, p22⟩ : IsP (mulp p (quoP p rs ns) ts) vv w21 := hv
      refine EndAll.one rfl fun vv hv => ?_
      obtain ⟨A23, n23, c23, rfl, p23⟩ : IsP (amul p ss (mulp p (quoP p rs ns) ts) (p - 1)) vv w21 := hv
      refine EndAll.nil (l := [_, _]) rfl ?_
      simp only [Act.put, List.setIfInBounds_toArray, List.set_cons_zero, List.set_cons_succ]
      replace H_f := Lib.hid (H_f.out.below B21)
      replace hE5 := hE5.below B21
      replace ry5 := ry5.below B21
      replace r5 := r5.below B21
      replace q5 := q5.below B21
      replace rs5 := rs5.below B21
      replace rt5 := rt5.below B21
      replace hW := hW.trans (B21.mono hW.size)
      have rn := p23
      clear p22 p23
      clear B21
      go_wp2_with fail
      go_roundg (remP p rs ns).length
      case rel => exact ⟨_, rfl, Lib.hid ⟨H_f.out, hW, _, _, _, _, _, _, _, _, _, _, _, _, _, _, _, _, _, _, rfl, rfl, hE5, ry5, r5, rt5, rn, HNN.out, HSP.out.nr, HNT.out, nm_amul (pr_pos hpr) _ _ _, ln, by omega, HS2.out, HG2.out.symm⟩⟩
      case measure => omega
theorem lcP_is {p : Nat} (hp : MR.Pr p) (a b : List Nat) : mon p (mulp p (quoP p (nrm p a) (nrm p (gcP p a b))) b) = lcP p a b := by
  unfold lcP
  rw [nrm_of (pr_pos hp) (gcP_is hp a b).1]
  rw [← mulp_nrm p (quoP p (nrm p a) (gcP p a b)) b]
theorem gcP_len {p : Nat} (hp : MR.Pr p) (a b : List Nat) : (gcP p a b).length ≤ max a.length b.length := by
  have h0 := pr_pos hp
  have g := gcP_is hp a b
  by_cases a0 : nrm p a = []
  · by_cases b0 : nrm p b = []
    · have h := dv_zero_iff h0 g.1 ((g.2.2.2.2 (pe []) ((Pdv.refl p (pe [])).congr ((eqm_nrm p a).symm.trans (by rw [a0]; exact Eqm.refl _ _))) ((Pdv.refl p (pe [])).congr ((eqm_nrm p b).symm.trans (by rw [b0]; exact Eqm.refl _ _)))))
      rw [h]; simp
    · have := dv_le hp g.1 (nm_nrm h0 b) b0 (g.2.2.2.1.congr (eqm_nrm p b))
      have := nrm_le p b; omega
  · have := dv_le hp g.1 (nm_nrm h0 a) a0 (g.2.2.1.congr (eqm_nrm p a))
    have := nrm_le p a; omega
theorem quo_le {p : Nat} (hp : MR.Pr p) {a b : List Nat} (ha : Nm p a) (hb : Nm p b) : (quoP p a b).length ≤ a.length := by
  by_cases b0 : b = []
  · subst b0; rw [(dmp_none _).1]; simp
  · have := quo_len hp hb b0 ha; omega
set_option maxRecDepth 100000 in
set_option maxHeartbeats 1000000 in
/-- fpoly.Lcm. -/
theorem lcm9_v {ab p n c m d : Nat} {A D : Option Addr} {xs ys : List Nat} {w : World} (hp : ab + 2 = p) (h : p < 2147483648) (hpr : MR.Pr p) (hx : Lv w A n c xs) (hn : n ≤ 274877906944) (hy : Lv w D m d ys) (hm : m ≤ 274877906944) :
    Calls Tryd.prog 34 #[.agg #[.int .u64 (ab : Int)], .slice A n c, .slice D m d] w (LPost (lcP p xs ys) w) := by
  have hW := Below.refl w.heap.size w
  obtain ⟨wp0, hwp0⟩ : ∃ xw, xw = w.alloc (.cells #[.int .u64 (ab : Int)] 28) := ⟨_, rfl⟩
  have zp0 : Below w.heap.size w wp0 := by rw [hwp0]; exact zba _ _
  have sp0 : wp0.heap.size = w.heap.size + 1 := by rw [hwp0, World.size_alloc]
  have If : Fb wp0 w.heap.size ab := by rw [hwp0]; exact Fb.new _ _ _
  replace hx := hx.below zp0
  replace hy := hy.below zp0
  replace hW := hW.trans (zp0.mono hW.size)
  have H_f := Lib.hid If
  clear If zp0
  have HW : Hid ((w.alloc (.cells #[.int .u64 (ab : Int)] 28)) = wp0) := Lib.hid (by rw [hwp0])
  have lw_f : w.heap.size ≤ w.heap.size := by omega
  clear hwp0 sp0
  have h2 : 2 ≤ p := by omega
  have HP := Lib.hid hp
  have HL := Lib.hid (lcP_is hpr xs ys)
  have lg := gcP_len hpr xs ys
  rw [hx.len, hy.len] at lg
  have lq := quo_le hpr (nm_nrm (pr_pos hpr) xs) (nm_nrm (pr_pos hpr) (gcP p xs ys))
  have lx := nrm_le p xs
  rw [hx.len] at lx
  clear hp
  go_enter Tryd.func34, Tryd.ntmps34
  obtain ⟨f1, f2, f3⟩ := H_f.out
  go_wp2_with fail
  rw [HW.out]
  clear f1 f2 f3
  refine region8 [] 14 [IsK (.agg #[.int .u64 (ab : Int)]), IsK (.slice A n c), IsK (.agg #[.int .u64 (ab : Int)]), IsK (.slice A n c), IsK (.slice D m d), IsP (gcP p xs ys), IsPPB (quoP p (nrm p xs) (nrm p (gcP p xs ys))) (remP p (nrm p xs) (nrm p (gcP p xs ys))) (decide (nrm p (gcP p xs ys) ≠ [])), IsPPB (quoP p (nrm p xs) (nrm p (gcP p xs ys))) (remP p (nrm p xs) (nrm p (gcP p xs ys))) (decide (nrm p (gcP p xs ys) ≠ [])), IsP (quoP p (nrm p xs) (nrm p (gcP p xs ys))), IsP (remP p (nrm p xs) (nrm p (gcP p xs ys))), IsK (.bool (decide (nrm p (gcP p xs ys) ≠ []))), IsP (quoP p (nrm p xs) (nrm p (gcP p xs ys))), IsP (remP p (nrm p xs) (nrm p (gcP p xs ys))), IsK (.bool (decide (nrm p (gcP p xs ys) ≠ [])))] (fun _ _ d _ _ h => by cases d <;> exact h) (by kernel_rfl) (by kernel_rfl) (by kernel_rfl) ⟨stay_k _, stay_k _, stay_k _, stay_k _, stay_k _, stay_p _, stay_ppb _ _ _, stay_ppb _ _ _, stay_p _, stay_p _, stay_k _, stay_p _, stay_p _, stay_k _, trivial⟩ ?_ ?_
  · refine HopAll.cons rfl ?_ (HopAll.cons rfl ?_ (HopAll.cons rfl ?_ (HopAll.cons rfl ?_ (HopAll.cons rfl ?_ (HopAll.cons rfl ?_ (HopAll.cons rfl ?_ (HopAll.cons rfl ?_ (HopAll.cons rfl ?_ (HopAll.cons rfl ?_ (HopAll.cons rfl ?_ (HopAll.cons rfl ?_ (HopAll.cons rfl ?_ (HopAll.cons rfl ?_ HopAll.nil)))))))))))))
    · intro a w1 hB ho hp K hK
      have e3 : a.eval (.tmp 3) = (.pointer (some ⟨w.heap.size, 0, none⟩)) := ho 3 (by kernel_rfl)
      obtain ⟨u1, u2, u3⟩ := H_f.out.below hB
      exact hop_load (wanted_none rfl) rfl e3 (run_ldf u1) (hK _ _ rfl (Below.refl _ _))
    · intro a w1 hB ho hp K hK
      have e1 : a.eval (.tmp 1) = (.slice A n c) := ho 1 (by kernel_rfl)
      refine hop_val (wanted_none rfl) ?_ (hK (.slice A n c) _ rfl (Below.refl _ _))
      unfold execOp; simp only [eval_const, e1]; simp [go_sem]
    · intro a w1 hB ho hp K hK
      have e3 : a.eval (.tmp 3) = (.pointer (some ⟨w.heap.size, 0, none⟩)) := ho 3 (by kernel_rfl)
      obtain ⟨u1, u2, u3⟩ := H_f.out.below hB
      exact hop_load (wanted_none rfl) rfl e3 (run_ldf u1) (hK _ _ rfl (Below.refl _ _))
    · intro a w1 hB ho hp K hK
      have e1 : a.eval (.tmp 1) = (.slice A n c) := ho 1 (by kernel_rfl)
      refine hop_val (wanted_none rfl) ?_ (hK (.slice A n c) _ rfl (Below.refl _ _))
      unfold execOp; simp only [eval_const, e1]; simp [go_sem]
    · intro a w1 hB ho hp K hK
      have e2 : a.eval (.tmp 2) = (.slice D m d) := ho 2 (by kernel_rfl)
      refine hop_val (wanted_none rfl) ?_ (hK (.slice D m d) _ rfl (Below.refl _ _))
      unfold execOp; simp only [eval_const, e2]; simp [go_sem]
    · intro a w1 hB ho hp K hK
      have e13 : a.eval (.tmp 13) = (.agg #[.int .u64 (ab : Int)]) := hp 2 13 (by kernel_rfl)
      have e14 : a.eval (.tmp 14) = (.slice A n c) := hp 3 14 (by kernel_rfl)
      have e15 : a.eval (.tmp 15) = (.slice D m d) := hp 4 15 (by kernel_rfl)
      refine hop_call (wanted_none rfl) rfl (args := #[(.agg #[.int .u64 (ab : Int)]), (.slice A n c), (.slice D m d)]) (by simp only [List.map_toArray, List.map_cons, List.map_nil, eval_const, e13, e14, e15]) (ent7 (by kernel_rfl) _ _) (gcd9_v HP.out h hpr (hx.below hB) (by omega) (hy.below hB) (by omega)) ?_
      rintro e w2 ⟨A, n, c, rfl, p, B⟩
      exact ⟨_, rfl, hK _ _ ⟨A, n, c, rfl, p⟩ B⟩
    · intro a w1 hB ho hp K hK
      have e11 : a.eval (.tmp 11) = (.agg #[.int .u64 (ab : Int)]) := hp 0 11 (by kernel_rfl)
      have e12 : a.eval (.tmp 12) = (.slice A n c) := hp 1 12 (by kernel_rfl)
      obtain ⟨A_16, n_16, c_16, e16, p16⟩ : IsP (gcP p xs ys) (a.eval (.tmp 16)) w1 := hp 5 16 (by kernel_rfl)
      refine hop_call (wanted_none rfl) rfl (args := #[(.agg #[.int .u64 (ab : Int)]), (.slice A n c), (.slice A_16 n_16 c_16)]) (by simp only [List.map_toArray, List.map_cons, List.map_nil, eval_const, e11, e12, e16]) (ent7 (by kernel_rfl) _ _) (divmod_v HP.out h (hx.below hB) (by omega) p16 (by rw [← p16.len]; omega) hpr (b := decide (nrm p (gcP p xs ys) ≠ [])) decide_eq_true_iff) ?_
      rintro e w2 ⟨A, n, c, D, m, d, rfl, p, B⟩
      exact ⟨_, rfl, hK _ _ ⟨A, n, c, D, m, d, rfl, p⟩ B⟩
    · intro a w1 hB ho hp K hK
      obtain ⟨A_17, n_17, c_17, D_17, m_17, d_17, e17, p17⟩ : IsPPB (quoP p (nrm p xs) (nrm p (gcP p xs ys))) (remP p (nrm p xs) (nrm p (gcP p xs ys))) (decide (nrm p (gcP p xs ys) ≠ [])) (a.eval (.tmp 17)) w1 := hp 6 17 (by kernel_rfl)
      refine hop_val (wanted_none rfl) ?_ (hK (.tuple #[.slice A_17 n_17 c_17, .slice D_17 m_17 d_17, .bool (decide (nrm p (gcP p xs ys) ≠ []))]) _ ⟨_, _, _, _, _, _, rfl, p17⟩ (Below.refl _ _))
      unfold execOp; simp only [e17]; simp [go_sem]
    · intro a w1 hB ho hp K hK
      obtain ⟨A_10, n_10, c_10, D_10, m_10, d_10, e10, p10⟩ : IsPPB (quoP p (nrm p xs) (nrm p (gcP p xs ys))) (remP p (nrm p xs) (nrm p (gcP p xs ys))) (decide (nrm p (gcP p xs ys) ≠ [])) (a.eval (.tmp 10)) w1 := hp 7 10 (by kernel_rfl)
      refine hop_val (wanted_none rfl) ?_ (hK (.slice A_10 n_10 c_10) _ ⟨_, _, _, rfl, p10.1⟩ (Below.refl _ _))
      unfold execOp; simp only [e10]; simp [go_sem]
    · intro a w1 hB ho hp K hK
      obtain ⟨A_10, n_10, c_10, D_10, m_10, d_10, e10, p10⟩ : IsPPB (quoP p (nrm p xs) (nrm p (gcP p xs ys))) (remP p (nrm p xs) (nrm p (gcP p xs ys))) (decide (nrm p (gcP p xs ys) ≠ [])) (a.eval (.tmp 10)) w1 := hp 7 10 (by kernel_rfl)
      refine hop_val (wanted_none rfl) ?_ (hK (.slice D_10 m_10 d_10) _ ⟨_, _, _, rfl, p10.2⟩ (Below.refl _ _))
      unfold execOp; simp only [e10]; simp [go_sem]
    · intro a w1 hB ho hp K hK
      obtain ⟨A_10, n_10, c_10, D_10, m_10, d_10, e10, p10⟩ : IsPPB (quoP p (nrm p xs) (nrm p (gcP p xs ys))) (remP p (nrm p xs) (nrm p (gcP p xs ys))) (decide (nrm p (gcP p xs ys) ≠ [])) (a.eval (.tmp 10)) w1 := hp 7 10 (by kernel_rfl)
      refine hop_val (wanted_none rfl) ?_ (hK (.bool (decide (nrm p (gcP p xs ys) ≠ []))) _ rfl (Below.refl _ _))
      unfold execOp; simp only [e10]; simp [go_sem]
    · intro a w1 hB ho hp K hK
      obtain ⟨A_18, n_18, c_18, e18, p18⟩ : IsP (quoP p (nrm p xs) (nrm p (gcP p xs ys))) (a.eval (.tmp 18)) w1 := hp 8 18 (by kernel_rfl)
      refine hop_val (wanted_none rfl) ?_ (hK (.slice A_18 n_18 c_18) _ ⟨_, _, _, rfl, p18⟩ (Below.refl _ _))
      unfold execOp; simp only [e18]; simp [go_sem]
    · intro a w1 hB ho hp K hK
      obtain ⟨A_19, n_19, c_19, e19, p19⟩ : IsP (remP p (nrm p xs) (nrm p (gcP p xs ys))) (a.eval (.tmp 19)) w1 := hp 9 19 (by kernel_rfl)
      refine hop_val (wanted_none rfl) ?_ (hK (.slice A_19 n_19 c_19) _ ⟨_, _, _, rfl, p19⟩ (Below.refl _ _))
      unfold execOp; simp only [e19]; simp [go_sem]
    · intro a w1 hB ho hp K hK
      have e20 : a.eval (.tmp 20) = (.bool (decide (nrm p (gcP p xs ys) ≠ []))) := hp 10 20 (by kernel_rfl)
      refine hop_val (wanted_none rfl) ?_ (hK (.bool (decide (nrm p (gcP p xs ys) ≠ []))) _ rfl (Below.refl _ _))
      unfold execOp; simp only [eval_const, e20]; simp [go_sem]
  intro w21 B21
  refine EndAll.one rfl fun vv hv => ?_
  obtain rfl : vv = (.agg #[.int .u64 (ab : Int)]) := hv
  refine EndAll.one rfl fun vv hv => ?_
  obtain rfl : vv = (.slice A n c) := hv
  refine EndAll.one rfl fun vv hv => ?_
  obtain rfl : vv = (.agg #[.int .u64 (ab : Int)]) := hv
  refine EndAll.one rfl fun vv hv => ?_
  obtain rfl : vv = (.slice A n c) := hv
  refine EndAll.one rfl fun vv hv => ?_
  obtain rfl : vv = (.slice D m d) := hv
  refine EndAll.one rfl fun vv hv => ?_
  obtain ⟨A22, n22, c22, rfl, p22⟩ : IsP (gcP p xs ys) vv w21 := hv
  refine EndAll.one rfl fun vv hv => ?_
  obtain ⟨A23, n23, c23, D23, m23, d23, rfl, p23⟩ : IsPPB (quoP p (nrm p xs) (nrm p (gcP p xs ys))) (remP p (nrm p xs) (nrm p (gcP p xs ys))) (decide (nrm p (gcP p xs ys) ≠ [])) vv w21 := hv
  refine EndAll.one rfl fun vv hv => ?_
  obtain ⟨A24, n24, c24, D24, m24, d24, rfl, p24⟩ : IsPPB (quoP p (nrm p xs) (nrm p (gcP p xs ys))) (remP p (nrm p xs) (nrm p (gcP p xs ys))) (decide (nrm p (gcP p xs ys) ≠ [])) vv w21 := hv
  refine EndAll.one rfl fun vv hv => ?_
  obtain ⟨A25, n25, c25, rfl, p25⟩ : IsP (quoP p (nrm p xs) (nrm p (gcP p xs ys))) vv w21 := hv
  refine EndAll.one rfl fun vv hv => ?_
  obtain ⟨A26, n26, c26, rfl, p26⟩ : IsP (remP p (nrm p xs) (nrm p (gcP p xs ys))) vv w21 := hv
  refine EndAll.one rfl fun vv hv => ?_
  obtain rfl : vv = (.bool (decide (nrm p (gcP p xs ys) ≠ []))) := hv
  refine EndAll.one rfl fun vv hv => ?_
  obtain ⟨A27, n27, c27, rfl, p27⟩ : IsP (quoP p (nrm p xs) (nrm p (gcP p xs ys))) vv w21 := hv
  refine EndAll.one rfl fun vv hv => ?_
  obtain ⟨A28, n28, c28, rfl, p28⟩ : IsP (remP p (nrm p xs) (nrm p (gcP p xs ys))) vv w21 := hv
  refine EndAll.one rfl fun vv hv => ?_
  obtain rfl : vv = (.bool (decide (nrm p (gcP p xs ys) ≠ []))) := hv
  refine EndAll.nil (l := []) rfl ?_
  simp only [Act.put, List.setIfInBounds_toArray, List.set_cons_zero, List.set_cons_succ]
  replace H_f := Lib.hid (H_f.out.below B21)
  replace hx := hx.below B21
  replace hy := hy.below B21
  replace hW := hW.trans (B21.mono hW.size)
  have rq := p27
  clear p22 p23 p24 p25 p26 p27 p28
  clear B21
  have lrq := rq.len
  have hml : (mulp p (quoP p (nrm p xs) (nrm p (gcP p xs ys))) ys).length ≤ 1099511627776 := by have := mulp_le p (quoP p (nrm p xs) (nrm p (gcP p xs ys))) ys; rw [hy.len] at this; omega
  obtain ⟨f1, f2, f3⟩ := H_f.out
  go_wp2_with fail
  clear f1 f2 f3
  refine region8 [] 6 [IsK (.agg #[.int .u64 (ab : Int)]), IsK (.agg #[.int .u64 (ab : Int)]), IsK (.slice A27 n27 c27), IsK (.slice D m d), IsP (mulp p (quoP p (nrm p xs) (nrm p (gcP p xs ys))) ys), IsP (mon p (mulp p (quoP p (nrm p xs) (nrm p (gcP p xs ys))) ys))] (fun _ _ d _ _ h => by cases d <;> exact h) (by kernel_rfl) (by kernel_rfl) (by kernel_rfl) ⟨stay_k _, stay_k _, stay_k _, stay_k _, stay_p _, stay_p _, trivial⟩ ?_ ?_
  · refine HopAll.cons rfl ?_ (HopAll.cons rfl ?_ (HopAll.cons rfl ?_ (HopAll.cons rfl ?_ (HopAll.cons rfl ?_ (HopAll.cons rfl ?_ HopAll.nil)))))
    · intro a w1 hB ho hp K hK
      have e3 : a.eval (.tmp 3) = (.pointer (some ⟨w.heap.size, 0, none⟩)) := ho 3 (by kernel_rfl)
      obtain ⟨u1, u2, u3⟩ := H_f.out.below hB
      exact hop_load (wanted_none rfl) rfl e3 (run_ldf u1) (hK _ _ rfl (Below.refl _ _))
    · intro a w1 hB ho hp K hK
      have e3 : a.eval (.tmp 3) = (.pointer (some ⟨w.heap.size, 0, none⟩)) := ho 3 (by kernel_rfl)
      obtain ⟨u1, u2, u3⟩ := H_f.out.below hB
      exact hop_load (wanted_none rfl) rfl e3 (run_ldf u1) (hK _ _ rfl (Below.refl _ _))
    · intro a w1 hB ho hp K hK
      have e7 : a.eval (.tmp 7) = (.slice A27 n27 c27) := ho 7 (by kernel_rfl)
      refine hop_val (wanted_none rfl) ?_ (hK (.slice A27 n27 c27) _ rfl (Below.refl _ _))
      unfold execOp; simp only [eval_const, e7]; simp [go_sem]
    · intro a w1 hB ho hp K hK
      have e2 : a.eval (.tmp 2) = (.slice D m d) := ho 2 (by kernel_rfl)
      refine hop_val (wanted_none rfl) ?_ (hK (.slice D m d) _ rfl (Below.refl _ _))
      unfold execOp; simp only [eval_const, e2]; simp [go_sem]
    · intro a w1 hB ho hp K hK
      have e22 : a.eval (.tmp 22) = (.agg #[.int .u64 (ab : Int)]) := hp 1 22 (by kernel_rfl)
      have e23 : a.eval (.tmp 23) = (.slice A27 n27 c27) := hp 2 23 (by kernel_rfl)
      have e24 : a.eval (.tmp 24) = (.slice D m d) := hp 3 24 (by kernel_rfl)
      refine hop_call (wanted_none rfl) rfl (args := #[(.agg #[.int .u64 (ab : Int)]), (.slice A27 n27 c27), (.slice D m d)]) (by simp only [List.map_toArray, List.map_cons, List.map_nil, eval_const, e22, e23, e24]) (ent7 (by kernel_rfl) _ _) (pmul_v HP.out h (rq.below hB) (by omega) (hy.below hB) (by omega)) ?_
      rintro e w2 ⟨A, n, c, rfl, p, B⟩
      exact ⟨_, rfl, hK _ _ ⟨A, n, c, rfl, p⟩ B⟩
    · intro a w1 hB ho hp K hK
      have e21 : a.eval (.tmp 21) = (.agg #[.int .u64 (ab : Int)]) := hp 0 21 (by kernel_rfl)
      obtain ⟨A_25, n_25, c_25, e25, p25⟩ : IsP (mulp p (quoP p (nrm p xs) (nrm p (gcP p xs ys))) ys) (a.eval (.tmp 25)) w1 := hp 4 25 (by kernel_rfl)
      refine hop_call (wanted_none rfl) rfl (args := #[(.agg #[.int .u64 (ab : Int)]), (.slice A_25 n_25 c_25)]) (by simp only [List.map_toArray, List.map_cons, List.map_nil, eval_const, e21, e25]) (ent7 (by kernel_rfl) _ _) (mon_v HP.out h p25 (by rw [← p25.len]; exact hml)) ?_
      rintro e w2 ⟨A, n, c, rfl, p, B⟩
      exact ⟨_, rfl, hK _ _ ⟨A, n, c, rfl, p⟩ B⟩
  intro w29 B29
  refine EndAll.one rfl fun vv hv => ?_
  obtain rfl : vv = (.agg #[.int .u64 (ab : Int)]) := hv
  refine EndAll.one rfl fun vv hv => ?_
  obtain rfl : vv = (.agg #[.int .u64 (ab : Int)]) := hv
  refine EndAll.one rfl fun vv hv => ?_
  obtain rfl : vv = (.slice A27 n27 c27) := hv
  refine EndAll.one rfl fun vv hv => ?_
  obtain rfl : vv = (.slice D m d) := hv
  refine EndAll.one rfl fun vv hv => ?_
  obtain ⟨A30, n30, c30, rfl, p30⟩ : IsP (mulp p (quoP p (nrm p xs) (nrm p (gcP p xs ys))) ys) vv w29 := hv
  refine EndAll.one rfl fun vv hv => ?_
  obtain ⟨A31, n31, c31, rfl, p31⟩ : IsP (mon p (mulp p (quoP p (nrm p xs) (nrm p (gcP p xs ys))) ys)) vv w29 := hv
  refine EndAll.nil (l := [_]) rfl ?_
  simp only [Act.put, List.setIfInBounds_toArray, List.set_cons_zero, List.set_cons_succ]
  replace H_f := Lib.hid (H_f.out.below B29)
  replace hx := hx.below B29
  replace hy := hy.below B29
  replace rq := rq.below B29
  replace hW := hW.trans (B29.mono hW.size)
  have rr := p31
  clear p30 p31
  clear B29
  rw [HL.out] at rr
  obtain ⟨f1, f2, f3⟩ := H_f.out
  go_wp2_with fail
  clear f1 f2 f3
  exact bodyPost_ret (v := (.slice A31 n31 c31)) (by simp [results, Tryd.results34, go_sem]) rfl ⟨_, _, _, rfl, rr, hW⟩
set_option maxRecDepth 100000 in
set_option maxHeartbeats 1000000 in
/-- fpoly.PowMod, where there is none. -/
theorem powmod_no {ab p n c m d : Nat} {A D : Option Addr} {xs ms : List Nat} {w : World} (hp : ab + 2 = p) (h : p < 2147483648) (hx : Lv w A n c xs) (hn : n ≤ 549755813888) (hy : Lv w D m d ms) (hm : m ≤ 549755813888) {e : Int} (he : e < 0 ∨ nrm p ms = []) :
    Calls Tryd.prog 36 #[.agg #[.int .u64 (ab : Int)], .slice A n c, .int .i64 e, .slice D m d] w (LBPost [] false w) := by
  have hW := Below.refl w.heap.size w
  obtain ⟨wp0, hwp0⟩ : ∃ xw, xw = w.alloc (.cells #[.int .u64 (ab : Int)] 28) := ⟨_, rfl⟩
  have zp0 : Below w.heap.size w wp0 := by rw [hwp0]; exact zba _ _
  have sp0 : wp0.heap.size = w.heap.size + 1 := by rw [hwp0, World.size_alloc]
  have If : Fb wp0 w.heap.size ab := by rw [hwp0]; exact Fb.new _ _ _
  replace hx := hx.below zp0
  replace hy := hy.below zp0
  replace hW := hW.trans (zp0.mono hW.size)
  have H_f := Lib.hid If
  clear If zp0
  have HW : Hid ((w.alloc (.cells #[.int .u64 (ab : Int)] 28)) = wp0) := Lib.hid (by rw [hwp0])
  have lw_f : w.heap.size ≤ w.heap.size := by omega
  clear hwp0 sp0
  have h2 : 2 ≤ p := by omega
  have HP := Lib.hid hp
  have HE := Lib.hid he
  clear hp he
  go_enter Tryd.func36, Tryd.ntmps36
  obtain ⟨f1, f2, f3⟩ := H_f.out
  go_wp2_with fail
  rw [HW.out]
  clear f1 f2 f3
  refine (norm_v HP.out h hy (by omega)).mono ?_
  rintro e w21 ⟨A21, n21, c21, rfl, hz, B21⟩
  replace H_f := Lib.hid (H_f.out.below B21)
  replace hx := hx.below B21
  replace hy := hy.below B21
  replace hW := hW.trans (B21.mono hW.size)
  clear B21
  have hzl := hz.len
  by_cases hs : e < 0
  · have hsb : decide (e < 0) = true := decide_eq_true hs
    obtain ⟨f1, f2, f3⟩ := H_f.out
    go_wp2_with fail
    clear f1 f2 f3
    exact bodyPost_ret (v := (.tuple #[.slice none 0 0, .bool false])) (by simp [results, Tryd.results36, go_sem]) rfl ⟨none, 0, 0, rfl, Lv.nil _, hW⟩
  · have hsb : decide (e < 0) = false := decide_eq_false hs
    have h0 := HE.out.resolve_left hs
    rw [h0] at hzl
    obtain rfl : n21 = 0 := hzl.symm
    clear h0 hz
    obtain ⟨f1, f2, f3⟩ := H_f.out
    go_wp2_with fail
    clear f1 f2 f3
    exact bodyPost_ret (v := (.tuple #[.slice none 0 0, .bool false])) (by simp [results, Tryd.results36, go_sem]) rfl ⟨none, 0, 0, rfl, Lv.nil _, hW⟩
set_option maxRecDepth 100000 in
set_option maxHeartbeats 1000000 in
/-- fpoly.PowMod. -/
theorem powmod_yes {ab p n c m d : Nat} {A D : Option Addr} {xs ms : List Nat} {w : World} (hp : ab + 2 = p) (h : p < 2147483648) (hx : Lv w A n c xs) (hn : n ≤ 549755813888) (hy : Lv w D m d ms) (hm : m ≤ 549755813888) (hpr : MR.Pr p) {e : Nat} (he : e < 9223372036854775808) (m0 : nrm p ms ≠ []) :
    Calls Tryd.prog 36 #[.agg #[.int .u64 (ab : Int)], .slice A n c, .int .i64 (e : Int), .slice D m d] w (LBPost (remP p (pw p xs e) (nrm p ms)) true w) := by
  have hW := Below.refl w.heap.size w
  obtain ⟨wp0, hwp0⟩ : ∃ xw, xw = w.alloc (.cells #[.int .u64 (ab : Int)] 28) := ⟨_, rfl⟩
  have zp0 : Below w.heap.size w wp0 := by rw [hwp0]; exact zba _ _
  have sp0 : wp0.heap.size = w.heap.size + 1 := by rw [hwp0, World.size_alloc]
  have If : Fb wp0 w.heap.size ab := by rw [hwp0]; exact Fb.new _ _ _
  replace hx := hx.below zp0
  replace hy := hy.below zp0
  replace hW := hW.trans (zp0.mono hW.size)
  have H_f := Lib.hid If
  clear If zp0
  have HW : Hid ((w.alloc (.cells #[.int .u64 (ab : Int)] 28)) = wp0) := Lib.hid (by rw [hwp0])
  have lw_f : w.heap.size ≤ w.heap.size := by omega
  clear hwp0 sp0
  have h2 : 2 ≤ p := by omega
  have HP := Lib.hid hp
  have HM0 := Lib.hid m0
  have hmm := nrm_le p ms
  rw [hy.len] at hmm
  have hnn := nrm_le p xs
  rw [hx.len] at hnn
  have HPW := Lib.hid (pw_congr (pr_pos hpr) (eqm_nrm p xs) e)
  have hsb : decide ((e : Int) < 0) = false := decide_eq_false (by omega)
  have hew : IntKind.u64.wrap (e : Int) = (e : Int) := wrap_small (by omega)
  have HEW := Lib.hid hew
  have HNM := Lib.hid (nm_nrm (pr_pos hpr) ms)
  have HNX := Lib.hid (nm_nrm (pr_pos hpr) xs)
  clear hp m0 hew
  go_enter Tryd.func36, Tryd.ntmps36
  obtain ⟨f1, f2, f3⟩ := H_f.out
  go_wp2_with fail
  rw [HW.out]
  clear f1 f2 f3
  refine (norm_v HP.out h hy (by omega)).mono ?_
  rintro e w21 ⟨A21, n21, c21, rfl, hz, B21⟩
  replace H_f := Lib.hid (H_f.out.below B21)
  replace hx := hx.below B21
  replace hy := hy.below B21
  replace hW := hW.trans (B21.mono hW.size)
  clear B21
  have hzl := hz.len
  have hne : ((n21 : Int) == 0) = false := by
    have := List.length_pos_iff.2 HM0.out
    rw [beq_eq_false_iff_ne]; omega
  obtain ⟨f1, f2, f3⟩ := H_f.out
  go_wp2_with fail
  clear f1 f2 f3
  refine region8 [] 8 [IsK (.agg #[.int .u64 (ab : Int)]), IsK (.agg #[.int .u64 (ab : Int)]), IsK (.slice A n c), IsP (nrm p xs), IsK (.int .i64 (e : Int)), IsK (.int .u64 (e : Int)), IsK (.slice A21 n21 c21), IsP (remP p (pw p (nrm p xs) e) (nrm p ms))] (fun _ _ d _ _ h => by cases d <;> exact h) (by kernel_rfl) (by kernel_rfl) (by kernel_rfl) ⟨stay_k _, stay_k _, stay_k _, stay_p _, stay_k _, stay_k _, stay_k _, stay_p _, trivial⟩ ?_ ?_
  · refine HopAll.cons rfl ?_ (HopAll.cons rfl ?_ (HopAll.cons rfl ?_ (HopAll.cons rfl ?_ (HopAll.cons rfl ?_ (HopAll.cons rfl ?_ (HopAll.cons rfl ?_ (HopAll.cons rfl ?_ HopAll.nil)))))))
    · intro a w1 hB ho hp K hK
      have e4 : a.eval (.tmp 4) = (.pointer (some ⟨w.heap.size, 0, none⟩)) := ho 4 (by kernel_rfl)
      obtain ⟨u1, u2, u3⟩ := H_f.out.below hB
      exact hop_load (wanted_none rfl) rfl e4 (run_ldf u1) (hK _ _ rfl (Below.refl _ _))
    · intro a w1 hB ho hp K hK
      have e4 : a.eval (.tmp 4) = (.pointer (some ⟨w.heap.size, 0, none⟩)) := ho 4 (by kernel_rfl)
      obtain ⟨u1, u2, u3⟩ := H_f.out.below hB
      exact hop_load (wanted_none rfl) rfl e4 (run_ldf u1) (hK _ _ rfl (Below.refl _ _))
    · intro a w1 hB ho hp K hK
      have e1 : a.eval (.tmp 1) = (.slice A n c) := ho 1 (by kernel_rfl)
      refine hop_val (wanted_none rfl) ?_ (hK (.slice A n c) _ rfl (Below.refl _ _))
      unfold execOp; simp only [eval_const, e1]; simp [go_sem]
    · intro a w1 hB ho hp K hK
      have e21 : a.eval (.tmp 21) = (.agg #[.int .u64 (ab : Int)]) := hp 1 21 (by kernel_rfl)
      have e22 : a.eval (.tmp 22) = (.slice A n c) := hp 2 22 (by kernel_rfl)
      refine hop_call (wanted_none rfl) rfl (args := #[(.agg #[.int .u64 (ab : Int)]), (.slice A n c)]) (by simp only [List.map_toArray, List.map_cons, List.map_nil, eval_const, e21, e22]) (ent7 (by kernel_rfl) _ _) (norm_v HP.out h (hx.below hB) (by omega)) ?_
      rintro e w2 ⟨A, n, c, rfl, p, B⟩
      exact ⟨_, rfl, hK _ _ ⟨A, n, c, rfl, p⟩ B⟩
    · intro a w1 hB ho hp K hK
      have e2 : a.eval (.tmp 2) = (.int .i64 (e : Int)) := ho 2 (by kernel_rfl)
      refine hop_val (wanted_none rfl) ?_ (hK (.int .i64 (e : Int)) _ rfl (Below.refl _ _))
      unfold execOp; simp only [eval_const, e2]; simp [go_sem]
    · intro a w1 hB ho hp K hK
      have e24 : a.eval (.tmp 24) = (.int .i64 (e : Int)) := hp 4 24 (by kernel_rfl)
      refine hop_val (wanted_none rfl) ?_ (hK (.int .u64 (e : Int)) _ rfl (Below.refl _ _))
      unfold execOp; simp only [eval_const, e24]; simp [go_sem, HEW.out]
    · intro a w1 hB ho hp K hK
      have e3 : a.eval (.tmp 3) = (.slice A21 n21 c21) := ho 3 (by kernel_rfl)
      refine hop_val (wanted_none rfl) ?_ (hK (.slice A21 n21 c21) _ rfl (Below.refl _ _))
      unfold execOp; simp only [eval_const, e3]; simp [go_sem]
    · intro a w1 hB ho hp K hK
      have e20 : a.eval (.tmp 20) = (.agg #[.int .u64 (ab : Int)]) := hp 0 20 (by kernel_rfl)
      obtain ⟨A_23, n_23, c_23, e23, p23⟩ : IsP (nrm p xs) (a.eval (.tmp 23)) w1 := hp 3 23 (by kernel_rfl)
      have e25 : a.eval (.tmp 25) = (.int .u64 (e : Int)) := hp 5 25 (by kernel_rfl)
      have e26 : a.eval (.tmp 26) = (.slice A21 n21 c21) := hp 6 26 (by kernel_rfl)
      refine hop_call (wanted_none rfl) rfl (args := #[(.agg #[.int .u64 (ab : Int)]), (.slice A_23 n_23 c_23), (.int .u64 (e : Int)), (.slice A21 n21 c21)]) (by simp only [List.map_toArray, List.map_cons, List.map_nil, eval_const, e20, e23, e25, e26]) (ent7 (by kernel_rfl) _ _) (power9_v HP.out h p23 (by rw [← p23.len]; omega) (hz.below hB) (by omega) (by omega) hpr HNX.out HNM.out HM0.out) ?_
      rintro e w2 ⟨A, n, c, rfl, p, B⟩
      exact ⟨_, rfl, hK _ _ ⟨A, n, c, rfl, p⟩ B⟩
  intro w22 B22
  refine EndAll.one rfl fun vv hv => ?_
  obtain rfl : vv = (.agg #[.int .u64 (ab : Int)]) := hv
  refine EndAll.one rfl fun vv hv => ?_
  obtain rfl : vv = (.agg #[.int .u64 (ab : Int)]) := hv
  refine EndAll.one rfl fun vv hv => ?_
  obtain rfl : vv = (.slice A n c) := hv
  refine EndAll.one rfl fun vv hv => ?_
  obtain ⟨A23, n23, c23, rfl, p23⟩ : IsP (nrm p xs) vv w22 := hv
  refine EndAll.one rfl fun vv hv => ?_
  obtain rfl : vv = (.int .i64 (e : Int)) := hv
  refine EndAll.one rfl fun vv hv => ?_
  obtain rfl : vv = (.int .u64 (e : Int)) := hv
  refine EndAll.one rfl fun vv hv => ?_
  obtain rfl : vv = (.slice A21 n21 c21) := hv
  refine EndAll.one rfl fun vv hv => ?_
  obtain ⟨A24, n24, c24, rfl, p24⟩ : IsP (remP p (pw p (nrm p xs) e) (nrm p ms)) vv w22 := hv
  refine EndAll.nil (l := [_, _]) rfl ?_
  simp only [Act.put, List.setIfInBounds_toArray, List.set_cons_zero, List.set_cons_succ]
  replace H_f := Lib.hid (H_f.out.below B22)
  replace hx := hx.below B22
  replace hy := hy.below B22
  replace hz := hz.below B22
  replace hW := hW.trans (B22.mono hW.size)
  have rr := p24
  clear p23 p24
  clear B22
  rw [HPW.out] at rr
  obtain ⟨f1, f2, f3⟩ := H_f.out
  go_wp2_with fail
  clear f1 f2 f3
  exact bodyPost_ret (v := (.tuple #[.slice A24 n24 c24, .bool true])) (by simp [results, Tryd.results36, go_sem]) rfl ⟨_, _, _, rfl, rr, hW⟩
end Go.Proofs.YthigedcpiglmnaaDoor
