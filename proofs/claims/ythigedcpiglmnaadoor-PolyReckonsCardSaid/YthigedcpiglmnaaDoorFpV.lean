/-
  fpoly.Eval: a loop over an iterator.
-/
import Derived.Test.YthigedcpiglmnaaDoorIterB
import Derived.Test.YthigedcpiglmnaaDoorFpA
import Derived.Test.YthigedcpiglmnaaDoorRegJ
/-! fpoly.Eval: a loop over an iterator. -/
namespace Go.Proofs.YthigedcpiglmnaaDoor
open Go.RowKit Go.Shelf
set_option linter.unusedVariables false
set_option linter.unusedSimpArgs false
attribute [local go_sem] Oper.semAt_some

/-- What is reckoned when some words have come. -/
def evOf (p c : Nat) (l : List Wd) : Nat := l.foldl (fun r x => (r * c % p + x.1.2) % p) 0
theorem evOf_snoc (p c : Nat) (l : List Wd) (x : Wd) : evOf p c (l ++ [x]) = (evOf p c l * c % p + x.1.2) % p := by
  unfold evOf
  rw [List.foldl_append, List.foldl_cons, List.foldl_nil]
theorem evOf_lt {p : Nat} (hp : 0 < p) (c : Nat) (l : List Wd) : evOf p c l < p := by
  rcases List.eq_nil_or_concat l with rfl | ⟨l, x, rfl⟩
  · exact hp
  · rw [List.concat_eq_append, evOf_snoc]; exact Nat.mod_lt _ hp
theorem ev_cons9 (b x : Nat) (xs : List Nat) : ev b (x :: xs) = x + b * ev b xs := rfl
theorem drop_cons9 {xs : List Nat} {k : Nat} (h : k < xs.length) : xs.drop k = nth xs k :: xs.drop (k + 1) := by
  rw [List.drop_eq_getElem_cons h]
  unfold nth
  simp [h]
theorem evOf_upto (p c : Nat) (xs : List Nat) (hL : Low 18446744073709551616 xs) : ∀ k, k ≤ xs.length → evOf p c (upto (fromEnd xs hL) k) = ev c (xs.drop (xs.length - k)) % p := by
  intro k
  induction k with
  | zero => intro _; rw [Nat.sub_zero, List.drop_length]; simp [evOf, upto, ev_nil]
  | succ k ih =>
    intro hk
    rw [upto_succ, evOf_snoc, ih (by omega)]
    have e : xs.length - (k + 1) < xs.length := by omega
    rw [drop_cons9 e, ev_cons9, show xs.length - (k + 1) + 1 = xs.length - k by omega]
    show (_ % p * c % p + nth xs (xs.length - 1 - k)) % p = _
    rw [show xs.length - 1 - k = xs.length - (k + 1) by omega, Nat.mod_mul_mod, Nat.mod_add_mod, Nat.mul_comm, Nat.add_comm]
theorem keepsOthers_below9 {W W' : World} (h : Below W.heap.size W W') : KeepsOthers W W' := ⟨h.size, fun k o hk _ => (h.block k (Array.getElem?_eq_some_iff.1 hk).1).trans hk⟩
/-- What Eval's cells hold between two rounds. -/
def EvAt (gf gx gv ab c R : Nat) (W : World) : Prop :=
  W.cell? ⟨gf, 0, none⟩ = some (.int .u64 (ab : Int)) ∧ W.cell? ⟨gx, 0, none⟩ = some (.int .u64 (c : Int)) ∧ W.cell? ⟨gv, 0, none⟩ = some (.int .u64 (R : Int)) ∧ W.frozen? ⟨gv, 0, none⟩ = false
theorem EvAt.own (gf gx gv ab c : Nat) (f : List Wd → Nat) : Own (fun pre W => EvAt gf gx gv ab c (f pre) W) := fun l W W' row ⟨h1, h2, h3, h4⟩ hg hr =>
  ⟨cell_kept h1 hg hr, cell_kept h2 hg hr, cell_kept h3 hg hr, (frozen_kept h3 hg hr).trans h4⟩
theorem EvAt.below {gf gx gv ab c R : Nat} {W W' : World} (h : EvAt gf gx gv ab c R W) (hb : Below W.heap.size W W') : EvAt gf gx gv ab c R W' := by
  obtain ⟨h1, h2, h3, h4⟩ := h
  exact ⟨(hb.cell (p := ⟨gf, 0, none⟩) (World.block_lt_of_cell? _ _ h1)).trans h1, (hb.cell (p := ⟨gx, 0, none⟩) (World.block_lt_of_cell? _ _ h2)).trans h2,
    (hb.cell (p := ⟨gv, 0, none⟩) (World.block_lt_of_cell? _ _ h3)).trans h3, (hb.frozen (p := ⟨gv, 0, none⟩) (World.block_lt_of_cell? _ _ h3)).trans h4⟩
theorem EvAt.put {gf gx gv ab c R Q : Nat} {W : World} (h : EvAt gf gx gv ab c R W) (e1 : gf ≠ gv) (e2 : gx ≠ gv) :
    EvAt gf gx gv ab c Q (W.setCell ⟨gv, 0, none⟩ (.int .u64 (Q : Int))) := by
  obtain ⟨h1, h2, h3, h4⟩ := h
  refine ⟨?_, ?_, World.cell?_setCell_same' _ _ _ (by rw [h3]; rfl), by rw [World.frozen?_setCell]; exact h4⟩
  · rw [World.cell?_setCell_other _ _ _ _ (by simp [e1])]; exact h1
  · rw [World.cell?_setCell_other _ _ _ _ (by simp [e2])]; exact h2
theorem ev_end {p ab c R Q : Nat} {l : List Wd} {w W W2 W4 : World} (hS : evOf p c l = Q) (hWW : Below W.heap.size W W4) (hsz : w.heap.size + 4 ≤ W.heap.size) (hO : EvAt w.heap.size (w.heap.size + 1) (w.heap.size + 1 + 1) ab c R W) (hB : Below w.heap.size w W) :
    KeepsFrom W2.heap.size W (W4.setCell ⟨w.heap.size + 1 + 1, 0, none⟩ (.int .u64 (Q : Int))) ∧ KeepB w.heap.size (w.heap.size + 1 + 1 + 1) W (W4.setCell ⟨w.heap.size + 1 + 1, 0, none⟩ (.int .u64 (Q : Int))) ∧
      ((EvAt w.heap.size (w.heap.size + 1) (w.heap.size + 1 + 1) ab c (evOf p c l) (W4.setCell ⟨w.heap.size + 1 + 1, 0, none⟩ (.int .u64 (Q : Int))) ∧ w.heap.size + 4 ≤ (W4.setCell ⟨w.heap.size + 1 + 1, 0, none⟩ (.int .u64 (Q : Int))).heap.size) ∧
        Below w.heap.size w (W4.setCell ⟨w.heap.size + 1 + 1, 0, none⟩ (.int .u64 (Q : Int)))) := by
  have s4 := hWW.size
  refine ⟨((keepsOthers_below9 hWW).trans (KeepsOthers.setCell _ _ _)).from _, ⟨(hWW.mono (by omega)).setCell (p := ⟨w.heap.size + 1 + 1, 0, none⟩) (by show w.heap.size ≤ w.heap.size + 1 + 1; omega) _, ?_⟩, ⟨?_, by simp; omega⟩, (hB.trans (hWW.mono hB.size)).setCell (p := ⟨w.heap.size + 1 + 1, 0, none⟩) (by show w.heap.size ≤ w.heap.size + 1 + 1; omega) _⟩
  · rw [heap_setCell_other _ _ _ _ (by simp)]; exact hWW.block _ (by omega)
  · rw [hS]; exact (hO.below hWW).put (by omega) (by omega)
set_option maxRecDepth 100000 in
set_option maxHeartbeats 4000000 in
/-- fpoly.Eval. -/
theorem eval9_v {ab p r n k c : Nat} {A : Option Addr} {xs : List Nat} {w : World} (hp : ab + 2 = p) (h : p < 2147483648) (hx : Lv w A n k xs) (hc : c < 18446744073709551616) (hr : ev c xs % p = r) :
    Calls Tryd.prog 27 #[.agg #[.int .u64 (ab : Int)], .slice A n k, .int .u64 (c : Int)] w (UPost r w) := by
  obtain ⟨hrd, hxl, hnc, hcm, hL⟩ := hx
  have h2 : 2 ≤ p := by omega
  have HP := Lib.hid hp
  have HR := Lib.hid hr
  have hAb : ∀ ad, A = some ad → 0 < xs.length → ad.block < w.heap.size := fun ad ha h0 => by obtain ⟨ad', e, hlt, _⟩ := hrd h0; rw [e] at ha; cases ha; exact hlt
  subst hxl
  clear hp hr
  refine (callsIn_wide (n := 5)).1 ?_
  refine callsIn_of_wp_marks Tryd.func27 rfl trivial ?_ rfl
  simp only [Tryd.ntmps27, List.size_toArray, List.length_cons, List.length_nil, Nat.reduceAdd, Nat.reduceSub, Array.replicate_succ, Array.replicate_zero, List.push_toArray, List.append_toArray, List.nil_append, List.cons_append]
  gi_wp2_with fail
  refine ⟨trivial, (callsIn_wide.2 (backp_in A _ k _)).mono ?_⟩
  rintro e w2 ⟨rfl, rfl⟩
  obtain ⟨W2, hW2⟩ : ∃ W2, (((w.alloc (.cells #[.int .u64 (ab : Int)] 28)).alloc (.cells #[.int .u64 (c : Int)] 26)).alloc (.cells #[.int .u64 0] 26)).alloc (.cells #[.slice A xs.length k] 23) = W2 := ⟨_, rfl⟩
  have bF := Boxed.new w 28 (.int .u64 (ab : Int))
  have bX := Boxed.new (w.alloc (.cells #[.int .u64 (ab : Int)] 28)) 26 (.int .u64 (c : Int))
  have bV := Boxed.new ((w.alloc (.cells #[.int .u64 (ab : Int)] 28)).alloc (.cells #[.int .u64 (c : Int)] 26)) 26 (.int .u64 0)
  have bN := Boxed.new (((w.alloc (.cells #[.int .u64 (ab : Int)] 28)).alloc (.cells #[.int .u64 (c : Int)] 26)).alloc (.cells #[.int .u64 0] 26)) 23 (.slice A xs.length k)
  rw [World.size_alloc] at bX
  rw [World.size_alloc, World.size_alloc] at bV
  rw [World.size_alloc, World.size_alloc, World.size_alloc] at bN
  have hB2 : Below w.heap.size w W2 := by rw [← hW2]; exact (zba3 _ _ _ _).alloc (by simp; omega) _
  have hO : EvAt w.heap.size (w.heap.size + 1) (w.heap.size + 1 + 1) ab c 0 W2 := by
    refine ⟨?_, ?_, ?_, ?_⟩
    · rw [← hW2]; exact (((bF.alloc _).alloc _).alloc _).cell
    · rw [← hW2]; exact ((bX.alloc _).alloc _).cell
    · rw [← hW2]; exact (bV.alloc _).cell
    · rw [← hW2]; exact (bV.alloc _).frozen
  have hN2 : W2.cell? ⟨w.heap.size + 1 + 1 + 1, 0, none⟩ = some (.slice A xs.length k) := by rw [← hW2]; exact bN.cell
  have sz2 : W2.heap.size = w.heap.size + 1 + 1 + 1 + 1 := by rw [← hW2]; simp
  simp only [World.size_alloc]
  rw [hW2]
  clear bF bX bV bN hW2
  gi_wp2_with fail
  refine wpIn_rangeFunc_ownG rfl (by omega) (gf := 60) (lb := #[.pointer (some ⟨w.heap.size + 1 + 1 + 1, 0, none⟩)]) rfl trivial (enters_of Tryd.func60 (by kernel_rfl) rfl)
    (backp_stops Fence.wide _ trivial rfl (by omega) (w.heap.size + 1 + 1 + 1) w.heap.size A k xs (by omega) hL hAb W2 (by omega) (by omega) hN2 (hrd.below hB2)) keepB_t (keepB_b (by omega) (by omega)) (Below.refl _ _) (fun _ => rfl)
    (fun pre W => (EvAt w.heap.size (w.heap.size + 1) (w.heap.size + 1 + 1) ab c (evOf p c pre) W ∧ w.heap.size + 4 ≤ W.heap.size) ∧ Below w.heap.size w W)
    (fun _ _ _ => False)
    (OwnFrom.and (OwnFrom.and (Own.from (EvAt.own _ _ _ _ _ (evOf p c)) _) (fun _ _ _ _ hs hg _ => Nat.le_trans hs hg.size)) (ownFrom_below (Nat.le_refl _) (by omega)))
    (fun _ _ _ _ _ hs _ _ => hs)
    ⟨⟨hO, by omega⟩, hB2⟩
    (fun x => { tmps := #[.agg #[.int .u64 (ab : Int)], .slice A xs.length k, .int .u64 (c : Int), .pointer (some ⟨w.heap.size, 0, none⟩), undef, .pointer (some ⟨w.heap.size + 1, 0, none⟩), .int .u64 0, .pointer (some ⟨w.heap.size + 1 + 1, 0, none⟩), undef, .int .u64 (x.1.2 : Int),
      .slice A xs.length k, .func (.func 60) #[] #[.pointer (some ⟨w.heap.size + 1 + 1 + 1, 0, none⟩)], .int .i64 (x.1.1 : Int), .int .u64 (x.1.2 : Int), undef, undef, undef, undef, undef, undef, undef, undef], defers := [] }) ?assign ?body ?done ?stop
  case assign =>
    intro l x W K hK
    gi_wp2
    exact hK
  case body =>
    rintro l pre x W ⟨⟨hOf, hsz⟩, hB⟩ _
    obtain ⟨R, hR⟩ : ∃ R, evOf p c pre = R := ⟨_, rfl⟩
    have lR : R < p := hR ▸ evOf_lt (by omega) c pre
    obtain ⟨X, hX⟩ : ∃ X, x.1.2 = X := ⟨_, rfl⟩
    have hx := x.2
    rw [hX] at hx
    obtain ⟨M, hM⟩ : ∃ M, R * c % p = M := ⟨_, rfl⟩
    have lM : M < p := hM ▸ Nat.mod_lt _ (by omega)
    obtain ⟨Q, hQ⟩ : ∃ Q, (M + X) % p = Q := ⟨_, rfl⟩
    have HS : Hid (evOf p c (pre ++ [x]) = Q) := Lib.hid (by rw [evOf_snoc, hR, hX, hM, hQ])
    have HM := Lib.hid hM
    have HQ := Lib.hid hQ
    rw [hR] at hOf
    have HOf := Lib.hid hOf
    have HB := Lib.hid hB
    rw [hX]
    clear hQ hR hX hM hB
    have hW := HB.out
    gi_wp2_with fail
    refine regionIn [some 14, some 15, some 16, some 17, some 18, some 19, some 20] 7 [IsK (.agg #[.int .u64 (ab : Int)]), IsK (.agg #[.int .u64 (ab : Int)]), IsK (.int .u64 (R : Int)), IsK (.int .u64 (c : Int)), IsK (.int .u64 (M : Int)), IsK (.int .u64 (X : Int)), IsK (.int .u64 (Q : Int))] (by kernel_rfl) (by kernel_rfl) (by kernel_rfl) (by kernel_rfl) (by kernel_rfl) (by kernel_rfl) ⟨stay_k _, stay_k _, stay_k _, stay_k _, stay_k _, stay_k _, stay_k _, trivial⟩ ?_ ?_
    · refine HopAll.cons rfl ?_ (HopAll.cons rfl ?_ (HopAll.cons rfl ?_ (HopAll.cons rfl ?_ (HopAll.cons rfl ?_ (HopAll.cons rfl ?_ (HopAll.cons rfl ?_ HopAll.nil))))))
      · intro a w1 hB ho hp K hK
        have e3 : a.eval (.tmp 3) = (.pointer (some ⟨w.heap.size, 0, none⟩)) := ho 3 (by kernel_rfl)
        exact hop_load (wanted_none rfl) rfl e3 (run_ldf (HOf.out.below hB).1) (hK _ _ rfl (Below.refl _ _))
      · intro a w1 hB ho hp K hK
        have e3 : a.eval (.tmp 3) = (.pointer (some ⟨w.heap.size, 0, none⟩)) := ho 3 (by kernel_rfl)
        exact hop_load (wanted_none rfl) rfl e3 (run_ldf (HOf.out.below hB).1) (hK _ _ rfl (Below.refl _ _))
      · intro a w1 hB ho hp K hK
        have e7 : a.eval (.tmp 7) = (.pointer (some ⟨w.heap.size + 1 + 1, 0, none⟩)) := ho 7 (by kernel_rfl)
        exact hop_load (wanted_none rfl) rfl e7 (run_ldw (HOf.out.below hB).2.2.1) (hK _ _ rfl (Below.refl _ _))
      · intro a w1 hB ho hp K hK
        have e5 : a.eval (.tmp 5) = (.pointer (some ⟨w.heap.size + 1, 0, none⟩)) := ho 5 (by kernel_rfl)
        exact hop_load (wanted_none rfl) rfl e5 (run_ldw (HOf.out.below hB).2.1) (hK _ _ rfl (Below.refl _ _))
      · intro a w1 hB ho hp K hK
        have e15 : a.eval (.tmp 15) = (.agg #[.int .u64 (ab : Int)]) := hp 1 15 (by kernel_rfl)
        have e16 : a.eval (.tmp 16) = (.int .u64 (R : Int)) := hp 2 16 (by kernel_rfl)
        have e17 : a.eval (.tmp 17) = (.int .u64 (c : Int)) := hp 3 17 (by kernel_rfl)
        refine hop_call (wanted_none rfl) rfl (args := #[(.agg #[.int .u64 (ab : Int)]), (.int .u64 (R : Int)), (.int .u64 (c : Int))]) (by simp only [List.map_toArray, List.map_cons, List.map_nil, eval_const, e15, e16, e17]) (ent7 (by kernel_rfl) _ _) (fmul_v HP.out h (show R < 18446744073709551616 by omega) hc HM.out _) ?_
        rintro e w2 ⟨rfl, B⟩
        exact ⟨_, rfl, hK _ _ rfl B⟩
      · intro a w1 hB ho hp K hK
        have e9 : a.eval (.tmp 9) = (.int .u64 (X : Int)) := ho 9 (by kernel_rfl)
        refine hop_val (wanted_none rfl) ?_ (hK (.int .u64 (X : Int)) _ rfl (Below.refl _ _))
        unfold execOp; simp only [eval_const, e9]; simp [go_sem]
      · intro a w1 hB ho hp K hK
        have e14 : a.eval (.tmp 14) = (.agg #[.int .u64 (ab : Int)]) := hp 0 14 (by kernel_rfl)
        have e18 : a.eval (.tmp 18) = (.int .u64 (M : Int)) := hp 4 18 (by kernel_rfl)
        have e19 : a.eval (.tmp 19) = (.int .u64 (X : Int)) := hp 5 19 (by kernel_rfl)
        refine hop_call (wanted_none rfl) rfl (args := #[(.agg #[.int .u64 (ab : Int)]), (.int .u64 (M : Int)), (.int .u64 (X : Int))]) (by simp only [List.map_toArray, List.map_cons, List.map_nil, eval_const, e14, e18, e19]) (ent7 (by kernel_rfl) _ _) (fadd_v HP.out h (show M < 18446744073709551616 by omega) hx HQ.out _) ?_
        rintro e w2 ⟨rfl, B⟩
        exact ⟨_, rfl, hK _ _ rfl B⟩
    intro w21 B21
    refine @EndsG.one _ _ _ _ _ _ _ fun vv hv => ?_
    obtain rfl : vv = (.agg #[.int .u64 (ab : Int)]) := hv
    refine @EndsG.one _ _ _ _ _ _ _ fun vv hv => ?_
    obtain rfl : vv = (.agg #[.int .u64 (ab : Int)]) := hv
    refine @EndsG.one _ _ _ _ _ _ _ fun vv hv => ?_
    obtain rfl : vv = (.int .u64 (R : Int)) := hv
    refine @EndsG.one _ _ _ _ _ _ _ fun vv hv => ?_
    obtain rfl : vv = (.int .u64 (c : Int)) := hv
    refine @EndsG.one _ _ _ _ _ _ _ fun vv hv => ?_
    obtain rfl : vv = (.int .u64 (M : Int)) := hv
    refine @EndsG.one _ _ _ _ _ _ _ fun vv hv => ?_
    obtain rfl : vv = (.int .u64 (X : Int)) := hv
    refine @EndsG.one _ _ _ _ _ _ _ fun vv hv => ?_
    obtain rfl : vv = (.int .u64 (Q : Int)) := hv
    refine EndsG.nil ⟨?_⟩
    change wpListIn _ _ _ _ _ [_] _ _
    simp only [Act.put, List.setIfInBounds_toArray, List.set_cons_zero, List.set_cons_succ]
    replace hW := hW.trans (B21.mono hW.size)
    obtain ⟨e1, e2, e3, e4⟩ := HOf.out.below B21
    gi_wp2_with fail
    exact ev_end HS.out B21 hsz HOf.out HB.out
  case done =>
    rintro D ys W hD rfl ⟨⟨hOf, hsz⟩, hB⟩ hK
    rw [evOf_upto p c xs hL xs.length (Nat.le_refl _), Nat.sub_self, List.drop_zero, HR.out] at hOf
    obtain ⟨c1, c2, c3, c4⟩ := hOf
    gi_wp2_with fail
    refine ⟨by simp, .inl ⟨_, _, rfl, run_takeDeferred hK, ?_⟩⟩
    exact ⟨_, results_tmp rfl _ _ _, rfl, hB.trans (belowK_b (w := w) (Nat.le_refl _) _ D _ _ (by omega) hK rfl rfl)⟩
  case stop =>
    rintro D c pre W _ _ h _
    exact h.elim
end Go.Proofs.YthigedcpiglmnaaDoor
