/-
  FpE FpF
-/
import Derived.Test.YtddbhhedjipjkaaGreatDoorPr27
import Derived.Test.YtddbhhedjipjkaaGreatDoorPr19
import Derived.Test.YtddbhhedjipjkaaGreatDoorPr05
import Derived.Deep.LoopGhost

section
namespace Go.Proofs.YtddbhhedjipjkaaGreatDoor
open Go.RowKit
set_option linter.unusedVariables false
set_option linter.unusedSimpArgs false
theorem Lv.own {w w' : World} {A : Option Addr} {n c : Nat} {xs : List Nat} (h : OwnV w w' 52 .u64 (.slice A n c) xs) (hl : Low 18446744073709551616 xs) : Lv w' A n c xs := by
  obtain ⟨A1, c1, e, hg⟩ := h.form
  injection e with e1 e2 e3
  subst e1; subst e2; subst e3
  exact ⟨hg.rd, rfl, hg.cap.1, by have := hg.cap.2; unfold maxLen at this; omega, hl⟩
end Go.Proofs.YtddbhhedjipjkaaGreatDoor
end

section
namespace Go.Proofs.YtddbhhedjipjkaaGreatDoor
open Go.RowKit
set_option linter.unusedVariables false
set_option linter.unusedSimpArgs false
def Ee (w : World) (g a : Nat) (A : Option Addr) (n c : Nat) (D : Option Addr) (m d : Nat) (Q : Option Addr) (k l : Nat) : Prop :=
  w.cell? ⟨g, 0, none⟩ = some (.int .u64 (a : Int)) ∧ w.cell? ⟨g, 1, none⟩ = some (.slice A n c) ∧ w.cell? ⟨g, 2, none⟩ = some (.slice D m d) ∧ w.cell? ⟨g, 3, none⟩ = some (.slice Q k l) ∧
  w.frozen? ⟨g, 0, none⟩ = false ∧ w.frozen? ⟨g, 1, none⟩ = false ∧ w.frozen? ⟨g, 2, none⟩ = false ∧ w.frozen? ⟨g, 3, none⟩ = false ∧ g < w.heap.size
section
variable {w w' : World} {g a n c m d k l : Nat} {A D Q : Option Addr}
theorem Ee.lt (h : Ee w g a A n c D m d Q k l) : g < w.heap.size := h.2.2.2.2.2.2.2.2
theorem Ee.below (h : Ee w g a A n c D m d Q k l) (hb : Below w.heap.size w w') : Ee w' g a A n c D m d Q k l := by
  obtain ⟨h0, h1, h2, h3, f0, f1, f2, f3, hl⟩ := h
  exact ⟨(hb.cell (p := ⟨g, 0, none⟩) hl).trans h0, (hb.cell (p := ⟨g, 1, none⟩) hl).trans h1, (hb.cell (p := ⟨g, 2, none⟩) hl).trans h2, (hb.cell (p := ⟨g, 3, none⟩) hl).trans h3,
    (hb.frozen (p := ⟨g, 0, none⟩) hl).trans f0, (hb.frozen (p := ⟨g, 1, none⟩) hl).trans f1, (hb.frozen (p := ⟨g, 2, none⟩) hl).trans f2, (hb.frozen (p := ⟨g, 3, none⟩) hl).trans f3, Nat.lt_of_lt_of_le hl hb.size⟩
theorem Ee.new (w : World) (a : Nat) (A : Option Addr) (n c : Nat) (D : Option Addr) (m d : Nat) (Q : Option Addr) (k l : Nat) (T : TypeId) : Ee (w.alloc (.cells #[.int .u64 (a : Int), .slice A n c, .slice D m d, .slice Q k l] T)) w.heap.size a A n c D m d Q k l := by
  refine ⟨?_, ?_, ?_, ?_, ?_, ?_, ?_, ?_, ?_⟩ <;> simp [go_sem]
theorem Ee.put {n' c' m' d' k' l' : Nat} {A' D' Q' : Option Addr} (h : Ee w g a A n c D m d Q k l) : Ee (((w.setCell ⟨g, 1, none⟩ (.slice A' n' c')).setCell ⟨g, 2, none⟩ (.slice D' m' d')).setCell ⟨g, 3, none⟩ (.slice Q' k' l')) g a A' n' c' D' m' d' Q' k' l' := by
  obtain ⟨h0, h1, h2, h3, f0, f1, f2, f3, hl⟩ := h
  refine ⟨?_, ?_, ?_, ?_, ?_, ?_, ?_, ?_, ?_⟩ <;> simp [go_sem, h0, h1, h2, h3, f0, f1, f2, f3, hl]
end
theorem run_lds {w : World} {g k : Nat} {A : Option Addr} {n c : Nat} (h : w.cell? ⟨g, k, none⟩ = some (.slice A n c)) : (Instr.loadAt 56 (.pointer (some ⟨g, k, none⟩))).run Tryz.prog w = .ok (.slice A n c) w := by
  simp [go_sem, h]
theorem Lv.off {w : World} {A B : Option Addr} {n c m d : Nat} {xs : List Nat} {q : Addr} (h : Lv w A n c xs) (hq : w.cell? q = some (.slice B m d)) (u : Value) : Lv (w.setCell q u) A n c xs := by
  refine ⟨fun hn => ?_, h.len, h.le, h.cap, h.low⟩
  obtain ⟨ad, e, hb, hc⟩ := h.rd hn
  refine ⟨ad, e, by simpa using hb, fun j hj => ?_⟩
  rw [World.cell?_setCell_other w q _ u (fun e => by subst e; rw [hc j hj] at hq; cases hq)]
  exact hc j hj
theorem Ee.keeps {w : World} {g a n c m d k l : Nat} {A D Q : Option Addr} (h : Ee w g a A n c D m d Q k l) {u v x : Value} {B E : Option Addr} {e1 e2 f1 f2 : Nat} (hu : u = .slice B e1 e2) (hv : v = .slice E f1 f2) {A' : Option Addr} {n' c' : Nat} {xs : List Nat} (hx : Lv w A' n' c' xs) :
    Lv (((w.setCell ⟨g, 1, none⟩ u).setCell ⟨g, 2, none⟩ v).setCell ⟨g, 3, none⟩ x) A' n' c' xs := by
  subst hu; subst hv
  obtain ⟨h0, h1, h2, h3, f0, f1, f2, f3, hl⟩ := h
  refine Lv.off (B := Q) (m := k) (d := l) (Lv.off (B := D) (m := m) (d := d) (Lv.off (B := A) (m := n) (d := c) hx h1 _) ?_ _) ?_ _
  · simp [go_sem, h2]
  · simp [go_sem, h3]
theorem Lv.far {w : World} {A : Option Addr} {n c : Nat} {xs : List Nat} {q : Addr} (h : Lv w A n c xs) (hA : ∀ ad, A = some ad → ad.block ≠ q.block) (u : Value) : Lv (w.setCell q u) A n c xs := ⟨h.rd.far hA u, h.len, h.le, h.cap, h.low⟩
theorem begin_end {w w1 : World} {g ab n c m d : Nat} {A D : Option Addr} {zs ys : List Nat} {u v x : Value} (hx : Lv w1 A n c zs ∧ ∀ ad, A = some ad → ad.block ≠ g) (hy : Lv w1 D m d ys ∧ ∀ ad, D = some ad → ad.block ≠ g) (hg : w.heap.size ≤ g) (hW : Below w.heap.size w w1) (u0 : Value) :
    (Lv ((((w1.setCell ⟨g, 0, none⟩ u0).setCell ⟨g, 1, none⟩ u).setCell ⟨g, 2, none⟩ v).setCell ⟨g, 3, none⟩ x) A n c zs ∧ Lv ((((w1.setCell ⟨g, 0, none⟩ u0).setCell ⟨g, 1, none⟩ u).setCell ⟨g, 2, none⟩ v).setCell ⟨g, 3, none⟩ x) D m d ys) ∧
      Below w.heap.size w ((((w1.setCell ⟨g, 0, none⟩ u0).setCell ⟨g, 1, none⟩ u).setCell ⟨g, 2, none⟩ v).setCell ⟨g, 3, none⟩ x) :=
  ⟨⟨(((hx.1.far hx.2 _).far hx.2 _).far hx.2 _).far hx.2 _, (((hy.1.far hy.2 _).far hy.2 _).far hy.2 _).far hy.2 _⟩, (((hW.setCell (p := ⟨g, 0, none⟩) hg _).setCell (p := ⟨g, 1, none⟩) hg _).setCell (p := ⟨g, 2, none⟩) hg _).setCell (p := ⟨g, 3, none⟩) hg _⟩
def BgPost (ab : Nat) (zs ys : List Nat) (w : World) (e : Ending) (w' : World) : Prop := ∃ A n c D m d, e = .returned (.agg #[.int .u64 (ab : Int), .slice A n c, .slice D m d, .slice none 0 0]) ∧ (Lv w' A n c zs ∧ Lv w' D m d ys) ∧ Below w.heap.size w w'
def GoPost (p ab g : Nat) (D : Option Addr) (m d : Nat) (xs ys : List Nat) (w : World) (e : Ending) (w' : World) : Prop := e = .returned (.bool true) ∧ ∃ A n c Q k l, Ee w' g ab D m d A n c Q k l ∧ Lv w' A n c (remP p xs ys) ∧ Lv w' Q k l (quoP p xs ys) ∧ w.grownBy w' (some g) ∧
  ∀ {A n c zs}, Lv w A n c zs → Lv w' A n c zs
set_option maxRecDepth 100000 in
set_option maxHeartbeats 1000000 in
theorem begin_v {ab p n c m d : Nat} {A D : Option Addr} {xs ys : List Nat} {w : World} (hp : ab + 2 = p) (h : p < 2147483648) (hx : Lv w A n c xs) (hn : n ≤ 1099511627776) (hy : Lv w D m d ys) (hm : m ≤ 1099511627776) :
    Calls Tryz.prog 126 #[.agg #[.int .u64 (ab : Int)], .slice A n c, .slice D m d] w (BgPost ab (nrm p xs) (nrm p ys) w) := by
  have hW := Below.refl w.heap.size w
  obtain ⟨wp0, hwp0⟩ : ∃ xw, xw = w.alloc (.cells #[.int .u64 (ab : Int)] 54) := ⟨_, rfl⟩
  have zp0 : Below w.heap.size w wp0 := by rw [hwp0]; exact zba _ _
  have sp0 : wp0.heap.size = w.heap.size + 1 := by rw [hwp0, World.size_alloc]
  have If : Fb wp0 w.heap.size ab := by rw [hwp0]; exact Fb.new _ _ _
  replace hx := hx.below zp0
  replace hy := hy.below zp0
  replace hW := hW.trans (zp0.mono hW.size)
  have H_f := Lib.hid If
  clear If zp0
  obtain ⟨wp1, hwp1⟩ : ∃ xw, xw = wp0.alloc (.cells #[.int .u64 (0 : Int), .slice none 0 0, .slice none 0 0, .slice none 0 0] 136) := ⟨_, rfl⟩
  have zp1 : Below wp0.heap.size wp0 wp1 := by rw [hwp1]; exact zba _ _
  have sp1 : wp1.heap.size = w.heap.size + 1 + 1 := by rw [hwp1, World.size_alloc, sp0]
  have Ie : Ee wp1 (w.heap.size + 1) 0 none 0 0 none 0 0 none 0 0 := by rw [hwp1, ← sp0]; exact Ee.new _ _ _ _ _ _ _ _ _ _ _ _
  replace H_f := Lib.hid (H_f.out.below zp1)
  replace hx := hx.below zp1
  replace hy := hy.below zp1
  replace hW := hW.trans (zp1.mono hW.size)
  have H_e := Lib.hid Ie
  clear Ie zp1
  have HW : Hid (((w.alloc (.cells #[.int .u64 (ab : Int)] 54)).alloc (.cells #[.int .u64 (0 : Int), .slice none 0 0, .slice none 0 0, .slice none 0 0] 136)) = wp1) := Lib.hid (by rw [hwp1, hwp0])
  have nn_f_e : ¬ (w.heap.size = (w.heap.size + 1)) := by omega
  have nm_f_e : ¬ ((w.heap.size + 1) = w.heap.size) := by omega
  have lw_f : w.heap.size ≤ w.heap.size := by omega
  have lw_e : w.heap.size ≤ (w.heap.size + 1) := by omega
  clear hwp0 hwp1 sp0 sp1
  have h2 : 2 ≤ p := by omega
  have HP := Lib.hid hp
  clear hp
  go_enter Tryz.func126, Tryz.ntmps126
  obtain ⟨f1, f2, f3⟩ := H_f.out
  obtain ⟨e1, e2, e3, e4, e5, e6, e7, e8, e9⟩ := H_e.out
  go_wp2_with fail
  rw [HW.out]
  clear f1 f2 f3 e1 e2 e3 e4 e5 e6 e7 e8 e9
  refine region8 [] 7 [IsK (.agg #[.int .u64 (ab : Int)]), IsK (.agg #[.int .u64 (ab : Int)]), IsK (.slice A n c), IsPn (w.heap.size + 1) (nrm p xs), IsK (.agg #[.int .u64 (ab : Int)]), IsK (.slice D m d), IsPn (w.heap.size + 1) (nrm p ys)] (fun _ _ d _ _ h => by cases d <;> exact h) (by kernel_rfl) (by kernel_rfl) (by kernel_rfl) ⟨stay_k _, stay_k _, stay_k _, stay_pn _ _, stay_k _, stay_k _, stay_pn _ _, trivial⟩ ?_ ?_
  · refine HopAll.cons rfl ?_ (HopAll.cons rfl ?_ (HopAll.cons rfl ?_ (HopAll.cons rfl ?_ (HopAll.cons rfl ?_ (HopAll.cons rfl ?_ (HopAll.cons rfl ?_ HopAll.nil))))))
    · intro a w1 hB ho hp K hK
      have e3 : a.eval (.tmp 3) = (.pointer (some ⟨w.heap.size, 0, none⟩)) := ho 3 (by kernel_rfl)
      obtain ⟨u1, u2, u3⟩ := H_f.out.below hB
      exact hop_load (wanted_none rfl) rfl e3 (run_ldf u1) (hK _ _ rfl (Below.refl _ _))
    · intro a w1 hB ho hp K hK
      have e3 : a.eval (.tmp 3) = (.pointer (some ⟨w.heap.size, 0, none⟩)) := ho 3 (by kernel_rfl)
      obtain ⟨u1, u2, u3⟩ := H_f.out.below hB
      exact hop_load (wanted_none rfl) rfl e3 (run_ldf u1) (hK _ _ rfl (Below.refl _ _))
    · intro a w1 hB ho hp K hK
      have e1 : a.eval (.tmp 1) = (.slice A n c) := ho 1 (by kernel_rfl)
      refine hop_val (wanted_none rfl) ?_ (hK (.slice A n c) _ rfl (Below.refl _ _))
      unfold execOp; simp only [eval_const, e1]; simp [go_sem]
    · intro a w1 hB ho hp K hK
      have e8 : a.eval (.tmp 8) = (.agg #[.int .u64 (ab : Int)]) := hp 1 8 (by kernel_rfl)
      have e9 : a.eval (.tmp 9) = (.slice A n c) := hp 2 9 (by kernel_rfl)
      refine hop_call (wanted_none rfl) rfl (args := #[(.agg #[.int .u64 (ab : Int)]), (.slice A n c)]) (by simp only [List.map_toArray, List.map_cons, List.map_nil, eval_const, e8, e9]) (ent7 (by kernel_rfl) _ _) (norm_new HP.out h (hx.below hB) (by omega)) ?_
      rintro e w2 ⟨A, n, c, rfl, p, q, B⟩
      exact ⟨_, rfl, hK _ _ ⟨A, n, c, rfl, p, fun ad e => by have := q ad e; have := hB.size; have := H_e.out.lt; omega⟩ B⟩
    · intro a w1 hB ho hp K hK
      have e3 : a.eval (.tmp 3) = (.pointer (some ⟨w.heap.size, 0, none⟩)) := ho 3 (by kernel_rfl)
      obtain ⟨u1, u2, u3⟩ := H_f.out.below hB
      exact hop_load (wanted_none rfl) rfl e3 (run_ldf u1) (hK _ _ rfl (Below.refl _ _))
    · intro a w1 hB ho hp K hK
      have e2 : a.eval (.tmp 2) = (.slice D m d) := ho 2 (by kernel_rfl)
      refine hop_val (wanted_none rfl) ?_ (hK (.slice D m d) _ rfl (Below.refl _ _))
      unfold execOp; simp only [eval_const, e2]; simp [go_sem]
    · intro a w1 hB ho hp K hK
      have e11 : a.eval (.tmp 11) = (.agg #[.int .u64 (ab : Int)]) := hp 4 11 (by kernel_rfl)
      have e12 : a.eval (.tmp 12) = (.slice D m d) := hp 5 12 (by kernel_rfl)
      refine hop_call (wanted_none rfl) rfl (args := #[(.agg #[.int .u64 (ab : Int)]), (.slice D m d)]) (by simp only [List.map_toArray, List.map_cons, List.map_nil, eval_const, e11, e12]) (ent7 (by kernel_rfl) _ _) (norm_new HP.out h (hy.below hB) (by omega)) ?_
      rintro e w2 ⟨A, n, c, rfl, p, q, B⟩
      exact ⟨_, rfl, hK _ _ ⟨A, n, c, rfl, p, fun ad e => by have := q ad e; have := hB.size; have := H_e.out.lt; omega⟩ B⟩
  intro w21 B21
  refine EndAll.one rfl fun vv hv => ?_
  obtain rfl : vv = (.agg #[.int .u64 (ab : Int)]) := hv
  refine EndAll.one rfl fun vv hv => ?_
  obtain rfl : vv = (.agg #[.int .u64 (ab : Int)]) := hv
  refine EndAll.one rfl fun vv hv => ?_
  obtain rfl : vv = (.slice A n c) := hv
  refine EndAll.one rfl fun vv hv => ?_
  obtain ⟨A22, n22, c22, rfl, p22⟩ : IsPn (w.heap.size + 1) (nrm p xs) vv w21 := hv
  refine EndAll.one rfl fun vv hv => ?_
  obtain rfl : vv = (.agg #[.int .u64 (ab : Int)]) := hv
  refine EndAll.one rfl fun vv hv => ?_
  obtain rfl : vv = (.slice D m d) := hv
  refine EndAll.one rfl fun vv hv => ?_
  obtain ⟨A23, n23, c23, rfl, p23⟩ : IsPn (w.heap.size + 1) (nrm p ys) vv w21 := hv
  refine EndAll.nil (l := [_, _]) rfl ?_
  simp only [Act.put, List.setIfInBounds_toArray, List.set_cons_zero, List.set_cons_succ]
  replace H_f := Lib.hid (H_f.out.below B21)
  replace H_e := Lib.hid (H_e.out.below B21)
  replace hx := hx.below B21
  replace hy := hy.below B21
  replace hW := hW.trans (B21.mono hW.size)
  have rx := p22
  have ry := p23
  clear p22 p23
  clear B21
  have P := Lib.hid (begin_end (ab := ab) (u := .slice A22 n22 c22) (v := .slice A23 n23 c23) (x := .slice none 0 0) rx ry lw_e hW (.int .u64 (ab : Int)))
  obtain ⟨e1, e2, e3, e4, e5, e6, e7, e8, e9⟩ := H_e.out
  go_wp2_with fail
  exact bodyPost_ret (v := .agg #[.int .u64 (ab : Int), .slice A22 n22 c22, .slice A23 n23 c23, .slice none 0 0]) (by simp [results, Tryz.results126, go_sem, e1, e2, e3, e4, e5, e6, e7, e8, e9]) rfl ⟨_, _, _, _, _, _, rfl, P.out.1, P.out.2⟩
set_option maxRecDepth 100000 in
set_option maxHeartbeats 1000000 in
theorem goon_no {ab g : Nat} {A D Q : Option Addr} {n c d k l : Nat} {w : World} (hE : Ee w g ab A n c D 0 d Q k l) :
    Calls Tryz.prog 127 #[.pointer (some ⟨g, 0, none⟩)] w (fun e w' => e = .returned (.bool false) ∧ w' = w) := by
  go_enter Tryz.func127, Tryz.ntmps127
  obtain ⟨e1, e2, e3, e4, e5, e6, e7, e8, e9⟩ := hE
  go_wp2_with fail
  exact bodyPost_ret (v := .bool false) (by simp [results, Tryz.results127, go_sem]) rfl ⟨rfl, rfl⟩
set_option maxRecDepth 100000 in
set_option maxHeartbeats 1000000 in
theorem goon_yes {ab p g : Nat} {A D Q : Option Addr} {n c m d k l : Nat} {xs ys : List Nat} {w : World} (hp : ab + 2 = p) (h : p < 2147483648) (hpr : MR.Pr p) (hE : Ee w g ab A n c D m d Q k l) (hx : Lv w A n c xs) (hn : n ≤ 1099511627776) (hy : Lv w D m d ys) (hm : m ≤ 1099511627776) (nx : Nm p xs) (ny : Nm p ys) (y0 : ys ≠ []) :
    Calls Tryz.prog 127 #[.pointer (some ⟨g, 0, none⟩)] w (GoPost p ab g D m d xs ys w) := by
  have hne : ((m : Int) == 0) = false := by
    have := List.length_pos_iff.2 y0
    rw [hy.len] at this
    rw [beq_eq_false_iff_ne]; omega
  have HPp := Lib.hid hp
  clear hp
  have hW := Below.refl w.heap.size w
  go_enter Tryz.func127, Tryz.ntmps127
  have ⟨e1, e2, e3, e4, e5, e6, e7, e8, e9⟩ := hE
  go_upto_region 3 with fail
  clear e1 e2 e3 e4 e5 e6 e7 e8 e9
  refine region8 [] 18 [IsK (.pointer (some ⟨g, 0, none⟩)), IsK (.pointer (some ⟨g, 0, none⟩)), IsK (.pointer (some ⟨g, 0, none⟩)), IsK (.agg #[.int .u64 (ab : Int)]), IsK (.pointer (some ⟨g, 0, none⟩)), IsK (.pointer (some ⟨g, 0, none⟩)), IsK (.pointer (some ⟨g, 1, none⟩)), IsK (.slice A n c), IsK (.pointer (some ⟨g, 0, none⟩)), IsK (.pointer (some ⟨g, 0, none⟩)), IsK (.pointer (some ⟨g, 2, none⟩)), IsK (.slice D m d), IsPP (quoP p xs ys) (remP p xs ys), IsPP (quoP p xs ys) (remP p xs ys), IsP (quoP p xs ys), IsP (remP p xs ys), IsP (quoP p xs ys), IsP (remP p xs ys)] (fun _ _ d _ _ h => by cases d <;> exact h) (by kernel_rfl) (by kernel_rfl) (by kernel_rfl) ⟨stay_k _, stay_k _, stay_k _, stay_k _, stay_k _, stay_k _, stay_k _, stay_k _, stay_k _, stay_k _, stay_k _, stay_k _, stay_pp _ _, stay_pp _ _, stay_p _, stay_p _, stay_p _, stay_p _, trivial⟩ ?_ ?_
  · refine HopAll.cons rfl ?_ (HopAll.cons rfl ?_ (HopAll.cons rfl ?_ (HopAll.cons rfl ?_ (HopAll.cons rfl ?_ (HopAll.cons rfl ?_ (HopAll.cons rfl ?_ (HopAll.cons rfl ?_ (HopAll.cons rfl ?_ (HopAll.cons rfl ?_ (HopAll.cons rfl ?_ (HopAll.cons rfl ?_ (HopAll.cons rfl ?_ (HopAll.cons rfl ?_ (HopAll.cons rfl ?_ (HopAll.cons rfl ?_ (HopAll.cons rfl ?_ (HopAll.cons rfl ?_ HopAll.nil)))))))))))))))))
    · intro a w1 hB ho hp K hK
      have e0 : a.eval (.tmp 0) = (.pointer (some ⟨g, 0, none⟩)) := ho 0 (by kernel_rfl)
      refine hop_val (wanted_none rfl) ?_ (hK (.pointer (some ⟨g, 0, none⟩)) _ rfl (Below.refl _ _))
      unfold execOp; simp only [eval_const, e0]; simp [go_sem]
    · intro a w1 hB ho hp K hK
      have e12 : a.eval (.tmp 12) = (.pointer (some ⟨g, 0, none⟩)) := hp 0 12 (by kernel_rfl)
      refine hop_val (wanted_none rfl) ?_ (hK (.pointer (some ⟨g, 0, none⟩)) _ rfl (Below.refl _ _))
      unfold execOp; simp only [eval_const, e12]; simp [go_sem]
    · intro a w1 hB ho hp K hK
      have e13 : a.eval (.tmp 13) = (.pointer (some ⟨g, 0, none⟩)) := hp 1 13 (by kernel_rfl)
      refine hop_val (wanted_none rfl) ?_ (hK (.pointer (some ⟨g, 0, none⟩)) _ rfl (Below.refl _ _))
      unfold execOp; simp only [eval_const, e13]; simp [go_sem]
    · intro a w1 hB ho hp K hK
      have e14 : a.eval (.tmp 14) = (.pointer (some ⟨g, 0, none⟩)) := hp 2 14 (by kernel_rfl)
      exact hop_load (wanted_none rfl) rfl e14 (run_ldf (hE.below hB).1) (hK _ _ rfl (Below.refl _ _))
    · intro a w1 hB ho hp K hK
      have e0 : a.eval (.tmp 0) = (.pointer (some ⟨g, 0, none⟩)) := ho 0 (by kernel_rfl)
      refine hop_val (wanted_none rfl) ?_ (hK (.pointer (some ⟨g, 0, none⟩)) _ rfl (Below.refl _ _))
      unfold execOp; simp only [eval_const, e0]; simp [go_sem]
    · intro a w1 hB ho hp K hK
      have e16 : a.eval (.tmp 16) = (.pointer (some ⟨g, 0, none⟩)) := hp 4 16 (by kernel_rfl)
      refine hop_val (wanted_none rfl) ?_ (hK (.pointer (some ⟨g, 0, none⟩)) _ rfl (Below.refl _ _))
      unfold execOp; simp only [eval_const, e16]; simp [go_sem]
    · intro a w1 hB ho hp K hK
      have e17 : a.eval (.tmp 17) = (.pointer (some ⟨g, 0, none⟩)) := hp 5 17 (by kernel_rfl)
      refine hop_val (wanted_none rfl) ?_ (hK (.pointer (some ⟨g, 1, none⟩)) _ rfl (Below.refl _ _))
      unfold execOp; simp only [eval_const, e17]; simp [go_sem]
    · intro a w1 hB ho hp K hK
      have e18 : a.eval (.tmp 18) = (.pointer (some ⟨g, 1, none⟩)) := hp 6 18 (by kernel_rfl)
      exact hop_load (wanted_none rfl) rfl e18 (run_lds (hE.below hB).2.1) (hK _ _ rfl (Below.refl _ _))
    · intro a w1 hB ho hp K hK
      have e0 : a.eval (.tmp 0) = (.pointer (some ⟨g, 0, none⟩)) := ho 0 (by kernel_rfl)
      refine hop_val (wanted_none rfl) ?_ (hK (.pointer (some ⟨g, 0, none⟩)) _ rfl (Below.refl _ _))
      unfold execOp; simp only [eval_const, e0]; simp [go_sem]
    · intro a w1 hB ho hp K hK
      have e20 : a.eval (.tmp 20) = (.pointer (some ⟨g, 0, none⟩)) := hp 8 20 (by kernel_rfl)
      refine hop_val (wanted_none rfl) ?_ (hK (.pointer (some ⟨g, 0, none⟩)) _ rfl (Below.refl _ _))
      unfold execOp; simp only [eval_const, e20]; simp [go_sem]
    · intro a w1 hB ho hp K hK
      have e21 : a.eval (.tmp 21) = (.pointer (some ⟨g, 0, none⟩)) := hp 9 21 (by kernel_rfl)
      refine hop_val (wanted_none rfl) ?_ (hK (.pointer (some ⟨g, 2, none⟩)) _ rfl (Below.refl _ _))
      unfold execOp; simp only [eval_const, e21]; simp [go_sem]
    · intro a w1 hB ho hp K hK
      have e22 : a.eval (.tmp 22) = (.pointer (some ⟨g, 2, none⟩)) := hp 10 22 (by kernel_rfl)
      exact hop_load (wanted_none rfl) rfl e22 (run_lds (hE.below hB).2.2.1) (hK _ _ rfl (Below.refl _ _))
    · intro a w1 hB ho hp K hK
      have e15 : a.eval (.tmp 15) = (.agg #[.int .u64 (ab : Int)]) := hp 3 15 (by kernel_rfl)
      have e19 : a.eval (.tmp 19) = (.slice A n c) := hp 7 19 (by kernel_rfl)
      have e23 : a.eval (.tmp 23) = (.slice D m d) := hp 11 23 (by kernel_rfl)
      refine hop_call (wanted_none rfl) rfl (args := #[(.agg #[.int .u64 (ab : Int)]), (.slice A n c), (.slice D m d)]) (by simp only [List.map_toArray, List.map_cons, List.map_nil, eval_const, e15, e19, e23]) (ent7 (by kernel_rfl) _ _) (divide_v HPp.out h (hx.below hB) hn (hy.below hB) hm hpr nx ny y0) ?_
      rintro e w2 ⟨A, n, c, D, m, d, rfl, p, B⟩
      exact ⟨_, rfl, hK _ _ ⟨A, n, c, D, m, d, rfl, p⟩ B⟩
    · intro a w1 hB ho hp K hK
      obtain ⟨A_24, n_24, c_24, D_24, m_24, d_24, e24, p24⟩ : IsPP (quoP p xs ys) (remP p xs ys) (a.eval (.tmp 24)) w1 := hp 12 24 (by kernel_rfl)
      refine hop_val (wanted_none rfl) ?_ (hK (.tuple #[.slice A_24 n_24 c_24, .slice D_24 m_24 d_24]) _ ⟨_, _, _, _, _, _, rfl, p24⟩ (Below.refl _ _))
      unfold execOp; simp only [e24]; simp [go_sem]
    · intro a w1 hB ho hp K hK
      obtain ⟨A_11, n_11, c_11, D_11, m_11, d_11, e11, p11⟩ : IsPP (quoP p xs ys) (remP p xs ys) (a.eval (.tmp 11)) w1 := hp 13 11 (by kernel_rfl)
      refine hop_val (wanted_none rfl) ?_ (hK (.slice A_11 n_11 c_11) _ ⟨_, _, _, rfl, p11.1⟩ (Below.refl _ _))
      unfold execOp; simp only [e11]; simp [go_sem]
    · intro a w1 hB ho hp K hK
      obtain ⟨A_11, n_11, c_11, D_11, m_11, d_11, e11, p11⟩ : IsPP (quoP p xs ys) (remP p xs ys) (a.eval (.tmp 11)) w1 := hp 13 11 (by kernel_rfl)
      refine hop_val (wanted_none rfl) ?_ (hK (.slice D_11 m_11 d_11) _ ⟨_, _, _, rfl, p11.2⟩ (Below.refl _ _))
      unfold execOp; simp only [e11]; simp [go_sem]
    · intro a w1 hB ho hp K hK
      obtain ⟨A_25, n_25, c_25, e25, p25⟩ : IsP (quoP p xs ys) (a.eval (.tmp 25)) w1 := hp 14 25 (by kernel_rfl)
      refine hop_val (wanted_none rfl) ?_ (hK (.slice A_25 n_25 c_25) _ ⟨_, _, _, rfl, p25⟩ (Below.refl _ _))
      unfold execOp; simp only [e25]; simp [go_sem]
    · intro a w1 hB ho hp K hK
      obtain ⟨A_26, n_26, c_26, e26, p26⟩ : IsP (remP p xs ys) (a.eval (.tmp 26)) w1 := hp 15 26 (by kernel_rfl)
      refine hop_val (wanted_none rfl) ?_ (hK (.slice A_26 n_26 c_26) _ ⟨_, _, _, rfl, p26⟩ (Below.refl _ _))
      unfold execOp; simp only [e26]; simp [go_sem]
  intro w21 B21
  refine EndAll.one rfl fun vv hv => ?_
  obtain rfl : vv = (.pointer (some ⟨g, 0, none⟩)) := hv
  refine EndAll.one rfl fun vv hv => ?_
  obtain rfl : vv = (.pointer (some ⟨g, 0, none⟩)) := hv
  refine EndAll.one rfl fun vv hv => ?_
  obtain rfl : vv = (.pointer (some ⟨g, 0, none⟩)) := hv
  refine EndAll.one rfl fun vv hv => ?_
  obtain rfl : vv = (.agg #[.int .u64 (ab : Int)]) := hv
  refine EndAll.one rfl fun vv hv => ?_
  obtain rfl : vv = (.pointer (some ⟨g, 0, none⟩)) := hv
  refine EndAll.one rfl fun vv hv => ?_
  obtain rfl : vv = (.pointer (some ⟨g, 0, none⟩)) := hv
  refine EndAll.one rfl fun vv hv => ?_
  obtain rfl : vv = (.pointer (some ⟨g, 1, none⟩)) := hv
  refine EndAll.one rfl fun vv hv => ?_
  obtain rfl : vv = (.slice A n c) := hv
  refine EndAll.one rfl fun vv hv => ?_
  obtain rfl : vv = (.pointer (some ⟨g, 0, none⟩)) := hv
  refine EndAll.one rfl fun vv hv => ?_
  obtain rfl : vv = (.pointer (some ⟨g, 0, none⟩)) := hv
  refine EndAll.one rfl fun vv hv => ?_
  obtain rfl : vv = (.pointer (some ⟨g, 2, none⟩)) := hv
  refine EndAll.one rfl fun vv hv => ?_
  obtain rfl : vv = (.slice D m d) := hv
  refine EndAll.one rfl fun vv hv => ?_
  obtain ⟨A22, n22, c22, D22, m22, d22, rfl, p22⟩ : IsPP (quoP p xs ys) (remP p xs ys) vv w21 := hv
  refine EndAll.one rfl fun vv hv => ?_
  obtain ⟨A23, n23, c23, D23, m23, d23, rfl, p23⟩ : IsPP (quoP p xs ys) (remP p xs ys) vv w21 := hv
  refine EndAll.one rfl fun vv hv => ?_
  obtain ⟨A24, n24, c24, rfl, p24⟩ : IsP (quoP p xs ys) vv w21 := hv
  refine EndAll.one rfl fun vv hv => ?_
  obtain ⟨A25, n25, c25, rfl, p25⟩ : IsP (remP p xs ys) vv w21 := hv
  refine EndAll.one rfl fun vv hv => ?_
  obtain ⟨A26, n26, c26, rfl, p26⟩ : IsP (quoP p xs ys) vv w21 := hv
  refine EndAll.one rfl fun vv hv => ?_
  obtain ⟨A27, n27, c27, rfl, p27⟩ : IsP (remP p xs ys) vv w21 := hv
  refine EndAll.nil (l := []) rfl ?_
  simp only [Act.put, List.setIfInBounds_toArray, List.set_cons_zero, List.set_cons_succ]
  replace hE := hE.below B21
  replace hx := hx.below B21
  replace hy := hy.below B21
  replace hW := hW.trans (B21.mono hW.size)
  have rq := p26
  have rr := p27
  clear p22 p23 p24 p25 p26 p27
  clear B21
  have HP := Lib.hid (Ee.put (A' := D) (n' := m) (c' := d) (D' := A27) (m' := n27) (d' := c27) (Q' := A26) (k' := n26) (l' := c26) hE)
  have K1 := Lib.hid (hE.keeps (x := .slice A26 n26 c26) (u := .slice D m d) (v := .slice A27 n27 c27) rfl rfl rr)
  have K2 := Lib.hid (hE.keeps (x := .slice A26 n26 c26) (u := .slice D m d) (v := .slice A27 n27 c27) rfl rfl rq)
  have K3 : Hid (∀ {A' n' c' zs}, Lv w A' n' c' zs → Lv (((w21.setCell ⟨g, 1, none⟩ (.slice D m d)).setCell ⟨g, 2, none⟩ (.slice A27 n27 c27)).setCell ⟨g, 3, none⟩ (.slice A26 n26 c26)) A' n' c' zs) := Lib.hid fun hz => hE.keeps rfl rfl (hz.below hW)
  have K4 := Lib.hid (grown_other (grown_other (grown_other (gro_below hW (some g)) (q := ⟨g, 1, none⟩) rfl (.slice D m d)) (q := ⟨g, 2, none⟩) rfl (.slice A27 n27 c27)) (q := ⟨g, 3, none⟩) rfl (.slice A26 n26 c26))
  obtain ⟨e1, e2, e3, e4, e5, e6, e7, e8, e9⟩ := hE
  go_wp2_with fail
  exact bodyPost_ret (v := .bool true) (by simp [results, Tryz.results127, go_sem]) rfl ⟨rfl, _, _, _, _, _, _, HP.out, K1.out, K2.out, K4.out, K3.out⟩
set_option maxRecDepth 100000 in
set_option maxHeartbeats 1000000 in
theorem gcd9_v {ab p n c m d : Nat} {A D : Option Addr} {xs ys : List Nat} {w : World} (hp : ab + 2 = p) (h : p < 2147483648) (hpr : MR.Pr p) (hx : Lv w A n c xs) (hn : n ≤ 549755813888) (hy : Lv w D m d ys) (hm : m ≤ 549755813888) :
    Calls Tryz.prog 113 #[.agg #[.int .u64 (ab : Int)], .slice A n c, .slice D m d] w (LPost (gcP p xs ys) w) := by
  have HX0 := Lib.hid hx
  have HY0 := Lib.hid hy
  have hW := Below.refl w.heap.size w
  obtain ⟨wp0, hwp0⟩ : ∃ xw, xw = w.alloc (.cells #[.int .u64 (ab : Int)] 54) := ⟨_, rfl⟩
  have zp0 : Below w.heap.size w wp0 := by rw [hwp0]; exact zba _ _
  have sp0 : wp0.heap.size = w.heap.size + 1 := by rw [hwp0, World.size_alloc]
  have If : Fb wp0 w.heap.size ab := by rw [hwp0]; exact Fb.new _ _ _
  replace hx := hx.below zp0
  replace hy := hy.below zp0
  replace hW := hW.trans (zp0.mono hW.size)
  have H_f := Lib.hid If
  clear If zp0
  have HW : Hid ((w.alloc (.cells #[.int .u64 (ab : Int)] 54)) = wp0) := Lib.hid (by rw [hwp0])
  have lw_f : w.heap.size ≤ w.heap.size := by omega
  clear hwp0 sp0
  have h2 : 2 ≤ p := by omega
  have HP := Lib.hid hp
  have l1 : (nrm p xs).length ≤ 549755813888 := by have := nrm_le p xs; rw [hx.len] at this; omega
  have l2 : (nrm p ys).length ≤ 549755813888 := by have := nrm_le p ys; rw [hy.len] at this; omega
  have n1 := nm_nrm (pr_pos hpr) xs
  have n2 := nm_nrm (pr_pos hpr) ys
  have HN1 := Lib.hid n1
  have HN2 := Lib.hid n2
  clear hp n1 n2
  go_enter Tryz.func113, Tryz.ntmps113
  obtain ⟨f1, f2, f3⟩ := H_f.out
  go_wp2_with fail
  rw [HW.out]
  clear f1 f2 f3
  refine (begin_v HP.out h hx (by omega) hy (by omega)).mono ?_
  rintro e w1 ⟨A1, n1, c1, D1, m1, d1, rfl, ⟨rx, ry⟩, B1⟩
  replace H_f := Lib.hid (H_f.out.below B1)
  replace hx := hx.below B1
  replace hy := hy.below B1
  replace hW := hW.trans (B1.mono hW.size)
  clear B1
  obtain ⟨f1, f2, f3⟩ := H_f.out
  go_wp2_with fail
  clear f1 f2 f3
  obtain ⟨w2, hw2⟩ : ∃ xw, xw = w1.alloc (.cells #[.int .u64 (ab : Int), .slice A1 n1 c1, .slice D1 m1 d1, .slice none 0 0] 136) := ⟨_, rfl⟩
  have hE : Ee w2 w1.heap.size ab A1 n1 c1 D1 m1 d1 none 0 0 := by rw [hw2]; exact Ee.new _ _ _ _ _ _ _ _ _ _ _ _
  have B2 : Below w1.heap.size w1 w2 := by rw [hw2]; exact zba _ _
  have HW2 := Lib.hid hw2.symm
  obtain ⟨gE, hgE⟩ : ∃ q, w1.heap.size = q := ⟨_, rfl⟩
  have hgEf : w.heap.size < gE := by rw [← hgE]; exact H_f.out.2.2
  rw [hgE] at hE
  have HB : Hid ((fun (ns : List Nat) (WR : World) => Fb WR w.heap.size ab ∧ Below w.heap.size w WR ∧ ∃ (A : Option Addr) (n c : Nat) (D : Option Addr) (m d : Nat) (Q : Option Addr) (k l : Nat) (rs : List Nat), Ee WR gE ab A n c D m d Q k l ∧ Lv WR A n c rs ∧ Lv WR D m d ns ∧ Nm p rs ∧ Nm p ns ∧ rs.length ≤ 549755813888 ∧ ns.length ≤ 549755813888 ∧ mon p (xlast p rs ns [] []).1 = gcP p xs ys) (nrm p ys) w2) := Lib.hid ⟨H_f.out.below B2, hW.trans (B2.mono hW.size), _, _, _, _, _, _, _, _, _, _, hE, rx.below B2, ry.below B2, HN1.out, HN2.out, l1, l2, rfl⟩
  clear H_f hW hE rx ry hx hy B2 hw2
  go_wp2_with fail
  rw [HW2.out]
  clear HW2
  go_loopg [] (nrm p ys).length (fun gh wr => ∃ ns : List Nat, ns.length = gh ∧ Hid ((fun (ns : List Nat) (WR : World) => Fb WR w.heap.size ab ∧ Below w.heap.size w WR ∧ ∃ (A : Option Addr) (n c : Nat) (D : Option Addr) (m d : Nat) (Q : Option Addr) (k l : Nat) (rs : List Nat), Ee WR gE ab A n c D m d Q k l ∧ Lv WR A n c rs ∧ Lv WR D m d ns ∧ Nm p rs ∧ Nm p ns ∧ rs.length ≤ 549755813888 ∧ ns.length ≤ 549755813888 ∧ mon p (xlast p rs ns [] []).1 = gcP p xs ys) ns wr))
  case atStart => exact ⟨_, rfl, HB⟩
  case round =>
    clear HB l1 l2
    obtain ⟨ns, hgh, HB⟩ := hrel
    obtain ⟨I1, hW, A, n, c, D, m, d, Q, k, l, rs, hE, rx, ry, nr, nn, lr, ln, hg⟩ := HB.out
    have H_f := Lib.hid I1
    have HG := Lib.hid hg
    have HNR := Lib.hid nr
    have HNN := Lib.hid nn
    clear I1 HB hg nr nn
    by_cases h0 : ns = []
    · subst h0
      obtain rfl : m = 0 := ry.len.symm
      rw [xlast_nil] at HG
      go_wp2_with fail
      refine (goon_no hE).mono ?_
      rintro e w5 ⟨rfl, rfl⟩
      obtain ⟨f1, f2, f3⟩ := H_f.out
      obtain ⟨e1, e2, e3, e4, e5, e6, e7, e8, e9⟩ := hE
      go_wp2_with fail
      clear f1 f2 f3 e1 e2 e3 e4 e5 e6 e7 e8 e9
      refine (mon_v HP.out h rx (by rw [← rx.len]; omega)).mono ?_
      rintro e w6 ⟨A6, n6, c6, rfl, r6, B6⟩
      rw [HG.out] at r6
      go_wp2_with fail
      exact bodyPost_ret (v := .slice A6 n6 c6) (by simp [results, Tryz.results113, go_sem]) rfl ⟨_, _, _, rfl, r6, hW.trans (B6.mono hW.size)⟩
    · have hge := hE.lt
      have sp := dm_spec hpr (a := rs) HNN.out h0
      have hst := xlast_step hpr (r := rs) (s := []) (s' := []) HNN.out h0
      have hst1 : (xlast p rs ns [] []).1 = (xlast p ns (remP p rs ns) [] []).1 := by rw [hst]; exact xlast_fst _ _ _ _ _ _ _
      have hg2 : mon p (xlast p ns (remP p rs ns) [] []).1 = gcP p xs ys := by rw [← hst1]; exact HG.out
      have HG2 := Lib.hid hg2
      have HSP := Lib.hid sp
      clear sp hst hg2 hst1
      go_wp2_with fail
      refine (goon_yes HP.out h hpr hE rx (by rw [← rx.len]; omega) ry (by rw [← ry.len]; omega) HNR.out HNN.out h0).mono ?_
      rintro e w5 ⟨rfl, A5, n5, c5, Q5, k5, l5, hE5, r5, q5, hg5, hk5⟩
      have HF5 := Lib.hid (H_f.out.grown hg5 (by omega))
      have hW5 := grown_to_below hW hg5 (by omega)
      have ry5 := hk5 ry
      have hlt := HSP.out.lt
      clear H_f hW hE rx ry q5 hg5 hk5
      go_wp2_with fail
      go_roundg (remP p rs ns).length
      case rel => exact ⟨_, rfl, Lib.hid ⟨HF5.out, hW5, _, _, _, _, _, _, _, _, _, _, hE5, ry5, r5, HNN.out, HSP.out.nr, ln, by omega, HG2.out⟩⟩
      case measure => omega
end Go.Proofs.YtddbhhedjipjkaaGreatDoor
end
