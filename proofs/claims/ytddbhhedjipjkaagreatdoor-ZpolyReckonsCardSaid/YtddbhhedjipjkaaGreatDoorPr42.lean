/-
  ZlV
-/
import Derived.Test.YtddbhhedjipjkaaGreatDoorPr41
import Derived.Test.YtddbhhedjipjkaaGreatDoorPr17

namespace Go.Proofs.YtddbhhedjipjkaaGreatDoor
open Go.RowKit Go.Shelf
set_option linter.unusedVariables false
set_option linter.unusedSimpArgs false
attribute [local go_sem] Oper.semAt_some
theorem wless_row {W : World} {r : Nat} (h : ∃ o : Obj, W.heap[r]? = some o ∧ o.isCells = false) : Wless W r := fun p m hp hc => by
  obtain ⟨o, h1, h2⟩ := h
  obtain ⟨o', h3, h4⟩ := cells_of_cell hc
  rw [hp, h1] at h3
  cases h3
  rw [h2] at h4; cases h4
theorem Zv.kept {W W' : World} {row : Option Nat} {s : Bool} {A : Option Addr} {n c : Nat} {z : Int} (h : Zv W s A n c z) (hg : W.grownBy W' row) (hr : ∀ r, row = some r → ∃ o : Obj, W.heap[r]? = some o ∧ o.isCells = false) : Zv W' s A n c z := by
  cases row with
  | none => exact h.below ⟨hg.os, hg.tape, hg.output, hg.size, fun k hk => hg.block k hk (by simp)⟩
  | some r => exact h.gro (wless_row (hr r rfl)) hg
theorem Zc.kept {W W' : World} {row : Option Nat} {s : Bool} {A : Option Addr} {n c : Nat} {z : Int} (h : Zc W s A n c z) (hg : W.grownBy W' row) (hr : ∀ r, row = some r → ∃ o : Obj, W.heap[r]? = some o ∧ o.isCells = false) : Zc W' s A n c z := by
  cases row with
  | none => exact h.below ⟨hg.os, hg.tape, hg.output, hg.size, fun k hk => hg.block k hk (by simp)⟩
  | some r => exact h.gro (wless_row (hr r rfl)) hg
theorem Ib.kept {W W' : World} {row : Option Nat} {g : Nat} {s : Bool} {A : Option Addr} {n c : Nat} (h : Ib W g s A n c) (hg : W.grownBy W' row) (hr : ∀ r, row = some r → ∃ o : Obj, W.heap[r]? = some o ∧ o.isCells = false) : Ib W' g s A n c := by
  obtain ⟨h1, h2, h3, h4, h5⟩ := h
  exact ⟨cell_kept h1 hg hr, cell_kept h2 hg hr, (frozen_kept h1 hg hr).trans h3, (frozen_kept h2 hg hr).trans h4, Nat.lt_of_lt_of_le h5 hg.size⟩
def EvZ (g : Nat) (sx : Bool) (Ax : Option Addr) (nx cx : Nat) (x : Int) (B : Nat) (V : Int) (W : World) : Prop :=
  Ib W g sx Ax nx cx ∧ Zv W sx Ax nx cx x ∧ Ib W (g + 1) false none 0 0 ∧ ∃ sv Av nv cv, Ib W (g + 1 + 1) sv Av nv cv ∧ Zc W sv Av nv cv V ∧ nv ≤ B
theorem EvZ.own (g : Nat) (sx : Bool) (Ax : Option Addr) (nx cx : Nat) (x : Int) (B : List Nat → Nat) (V : List Nat → Int) : Own (fun pre W => EvZ g sx Ax nx cx x (B pre) (V pre) W) := fun l W W' row ⟨h1, h2, h3, sv, Av, nv, cv, h4, h5, h6⟩ hg hr =>
  ⟨h1.kept hg hr, h2.kept hg hr, h3.kept hg hr, sv, Av, nv, cv, h4.kept hg hr, h5.kept hg hr, h6⟩
def hzn (R : List Zr) (x : Int) (l : List Nat) : Int := l.foldl (fun v i => v * x + (R.getD i nzr).z) 0
theorem hzn_snoc (R : List Zr) (x : Int) (l : List Nat) (i : Nat) : hzn R x (l ++ [i]) = hzn R x l * x + (R.getD i nzr).z := by
  unfold hzn
  rw [List.foldl_append, List.foldl_cons, List.foldl_nil]
theorem ith_nums (R : List Zr) (i : Nat) : ith (nums R) i = (R.getD i nzr).z := by
  by_cases h : i < R.length
  · simp [ith, nums, List.getD, h]
  · rw [ith_ge (by simp [nums]; omega)]
    simp [List.getD, List.getElem?_eq_none (by omega : R.length ≤ i), nzr]
theorem hzn_upto (R : List Zr) (x : Int) : ∀ k, k ≤ R.length → hzn R x (upto (fromEndZ R.length) k) = pv ((nums R).drop (R.length - k)) x := by
  have hl : (nums R).length = R.length := by simp [nums]
  intro k
  induction k with
  | zero => intro _; rw [Nat.sub_zero, List.drop_of_length_le (by omega)]; rfl
  | succ k ih =>
    intro hk
    rw [upto_succ, hzn_snoc, ih (by omega)]
    have e : R.length - (k + 1) < (nums R).length := by omega
    rw [drop_ith e, pv_cons, show R.length - (k + 1) + 1 = R.length - k by omega, ith_nums]
    unfold fromEndZ
    rw [show R.length - 1 - k = R.length - (k + 1) by omega, Int.mul_comm, Int.add_comm]
theorem keepsOthers_z {W W' : World} (h : Below W.heap.size W W') : KeepsOthers W W' := ⟨h.size, fun k o hk _ => (h.block k (Array.getElem?_eq_some_iff.1 hk).1).trans hk⟩
theorem RL.elem {w : World} {A : Option Addr} {n c : Nat} {R : List Zr} (h : RL w A n c R) (i : Nat) : Zv w (R.getD i nzr).s (R.getD i nzr).A (R.getD i nzr).n (R.getD i nzr).c (R.getD i nzr).z := by
  by_cases hi : i < R.length
  · rw [show R.getD i nzr = R[i] by simp [List.getD, hi]]
    exact h.num _ (List.getElem_mem hi)
  · rw [show R.getD i nzr = nzr by simp [List.getD, List.getElem?_eq_none (by omega : R.length ≤ i)]]
    exact Zv.nought w
theorem evz_end {B B' nx cx n c : Nat} {sx s : Bool} {Ax A : Option Addr} {x V V' : Int} {w W W2 W4 : World} (hWW : Below W.heap.size W W4) (hsz : w.heap.size + 4 ≤ W.heap.size) (hO : EvZ w.heap.size sx Ax nx cx x B V W) (hB : Below w.heap.size w W) (hz : Zc W4 s A n c V') (hn : n ≤ B') :
    KeepsFrom W2.heap.size W (zput W4 (w.heap.size + 1 + 1) s A n c) ∧ KeepB w.heap.size (w.heap.size + 1 + 1 + 1) W (zput W4 (w.heap.size + 1 + 1) s A n c) ∧
      ((EvZ w.heap.size sx Ax nx cx x B' V' (zput W4 (w.heap.size + 1 + 1) s A n c) ∧ w.heap.size + 4 ≤ (zput W4 (w.heap.size + 1 + 1) s A n c).heap.size) ∧
        Below w.heap.size w (zput W4 (w.heap.size + 1 + 1) s A n c)) := by
  have s4 := hWW.size
  obtain ⟨h1, h2, h3, sv, Av, nv, cv, h4, h5, h6⟩ := hO
  have k4 := h4.below hWW
  have bp : ∀ W5 : World, Below w.heap.size W5 W4 → Below w.heap.size W5 (zput W4 (w.heap.size + 1 + 1) s A n c) := fun W5 h => below_put h (by omega)
  refine ⟨((keepsOthers_z hWW).trans ((KeepsOthers.setCell _ _ _).trans (KeepsOthers.setCell _ _ _))).from _, ⟨bp _ (hWW.mono (by omega)), ?_⟩, ⟨⟨(h1.below hWW).zput (by omega), (h2.below hWW).zput k4, (h3.below hWW).zput (by omega), s, A, n, c, k4.own, hz.zput k4, hn⟩, by simp [zput]; omega⟩, bp _ (hB.trans (hWW.mono (by omega)))⟩
  rw [heap_zput (by omega)]
  exact hWW.block _ (by omega)
set_option maxRecDepth 100000 in
set_option maxHeartbeats 4000000 in
theorem zeval_v {A : Option Addr} {n c k n0 c0 : Nat} {R : List Zr} {s0 : Bool} {A0 : Option Addr} {x : Int} {w : World} (hx : RL w A n c R) (hk : ∀ j, j < n → (R.getD j nzr).n ≤ k) (hz : Zv w s0 A0 n0 c0 x) (hb : k + n * (n0 + 1) ≤ 1099511627776) (hn0 : n0 ≤ 1099511627776) :
    Calls Tryz.prog 25 #[.slice A n c, .agg #[.bool s0, .slice A0 n0 c0]] w (ZPost (pv (nums R) x) (k + n * (n0 + 1)) w) := by
  have HX := Lib.hid hx
  have HZ := Lib.hid hz
  have HK := Lib.hid hk
  obtain rfl : R.length = n := hx.len
  have hcm := hx.cap
  have hnc := hx.le
  have hAb : ∀ ad, A = some ad → 0 < R.length → ad.block < w.heap.size := fun ad ha h0 => by obtain ⟨ad', e, hlt, _⟩ := hx.at' h0; rw [e] at ha; cases ha; exact hlt
  clear hx hz hk
  refine (callsIn_wide (n := 5)).1 ?_
  refine callsIn_of_wp_marks Tryz.func25 rfl trivial ?_ rfl
  simp only [Tryz.ntmps25, List.size_toArray, List.length_cons, List.length_nil, Nat.reduceAdd, Nat.reduceSub, Array.replicate_succ, Array.replicate_zero, List.push_toArray, List.append_toArray, List.nil_append, List.cons_append]
  gi_wp2_with fail
  refine ⟨trivial, (callsIn_wide.2 (backz_in A _ c _)).mono ?_⟩
  rintro e w2 ⟨rfl, rfl⟩
  obtain ⟨W2, hW2⟩ : ∃ W2, (((w.alloc (.cells #[.bool s0, .slice A0 n0 c0] 27)).alloc (.cells #[.bool false, .slice none 0 0] 27)).alloc (.cells #[.bool false, .slice none 0 0] 27)).alloc (.cells #[.slice A R.length c] 23) = W2 := ⟨_, rfl⟩
  have b1 := Ib.new w s0 A0 n0 c0 27
  have b2 := Ib.new (w.alloc (.cells #[.bool s0, .slice A0 n0 c0] 27)) false none 0 0 27
  have b3 := Ib.new ((w.alloc (.cells #[.bool s0, .slice A0 n0 c0] 27)).alloc (.cells #[.bool false, .slice none 0 0] 27)) false none 0 0 27
  have bN := Boxed.new (((w.alloc (.cells #[.bool s0, .slice A0 n0 c0] 27)).alloc (.cells #[.bool false, .slice none 0 0] 27)).alloc (.cells #[.bool false, .slice none 0 0] 27)) 23 (.slice A R.length c)
  rw [World.size_alloc] at b2
  rw [World.size_alloc, World.size_alloc] at b3
  rw [World.size_alloc, World.size_alloc, World.size_alloc] at bN
  have ba : ∀ (W : World) (o : Obj), Below W.heap.size W (W.alloc o) := fun W o => (Below.refl _ W).alloc (Nat.le_refl _) o
  have hB2 : Below w.heap.size w W2 := by rw [← hW2]; exact (zba3 _ _ _ _).alloc (by simp; omega) _
  have hO : EvZ w.heap.size s0 A0 n0 c0 x k 0 W2 := by
    refine ⟨?_, HZ.out.below hB2, ?_, false, none, 0, 0, ?_, Zc.nought _, Nat.zero_le _⟩
    · rw [← hW2]; exact ((b1.below (ba _ _)).below (ba _ _)).below (ba _ _)
    · rw [← hW2]; exact (b2.below (ba _ _)).below (ba _ _)
    · rw [← hW2]; exact b3.below (ba _ _)
  have hN2 : W2.cell? ⟨w.heap.size + 1 + 1 + 1, 0, none⟩ = some (.slice A R.length c) := by rw [← hW2]; exact bN.cell
  have sz2 : W2.heap.size = w.heap.size + 1 + 1 + 1 + 1 := by rw [← hW2]; simp
  simp only [World.size_alloc]
  rw [hW2]
  clear b1 b2 b3 bN hW2
  gi_wp2_with fail
  refine wpIn_rangeFunc_ownH rfl (by omega) (gf := 80) (lb := #[.pointer (some ⟨w.heap.size + 1 + 1 + 1, 0, none⟩)]) rfl trivial (enters_of Tryz.func80 (by kernel_rfl) rfl)
    (backz_stops Fence.wide _ trivial rfl (by omega) (w.heap.size + 1 + 1 + 1) w.heap.size A c R (by omega) hAb W2 (by omega) (by omega) hN2 (HX.out.below hB2)) keepB_t (keepB_b (by omega) (by omega)) (Below.refl _ _) (fun _ => rfl)
    (fun pre W => (EvZ w.heap.size s0 A0 n0 c0 x (k + pre.length * (n0 + 1)) (hzn R x pre) W ∧ w.heap.size + 4 ≤ W.heap.size) ∧ Below w.heap.size w W)
    (fun _ _ _ => False)
    (OwnFrom.and (OwnFrom.and (Own.from (EvZ.own _ _ _ _ _ _ (fun pre => k + pre.length * (n0 + 1)) (hzn R x)) _) (fun _ _ _ _ hs hg _ => Nat.le_trans hs hg.size)) (ownFrom_below (Nat.le_refl _) (by omega)))
    (fun _ _ _ _ _ hs _ _ => hs)
    ⟨⟨by simpa [hzn] using hO, by omega⟩, hB2⟩
    (fun i a' W => ∃ b, w.heap.size + 4 ≤ b ∧ Ib W b (R.getD i nzr).s (R.getD i nzr).A (R.getD i nzr).n (R.getD i nzr).c ∧ a' = { tmps := #[.slice A R.length c, .agg #[.bool s0, .slice A0 n0 c0], undef, .pointer (some ⟨w.heap.size, 0, none⟩), .pointer (some ⟨w.heap.size + 1, 0, none⟩), .pointer (some ⟨w.heap.size + 1 + 1, 0, none⟩), undef, .pointer (some ⟨b, 0, none⟩),
      .agg #[.bool false, .slice none 0 0], .slice A R.length c, .func (.func 80) #[] #[.pointer (some ⟨w.heap.size + 1 + 1 + 1, 0, none⟩)], .int .i64 (i : Int), .agg #[.bool (R.getD i nzr).s, .slice (R.getD i nzr).A (R.getD i nzr).n (R.getD i nzr).c], undef, undef, undef, undef, undef, undef], defers := [] })
    (fun i a' => Own.from (fun _ W W' row ⟨b, h1, h2, h3⟩ hg hr => ⟨b, h1, h2.kept hg hr, h3⟩) _) ?assign ?body ?done ?stop
  case assign =>
    rintro l pre i W K ⟨⟨hOf, hsz⟩, hB⟩ hK
    unfold zargs
    gi_wp2_with fail
    exact hK _ _ ((KeepsOthers.alloc W _).from _) ⟨(Below.refl _ _).alloc (by omega) _, Below.heap_alloc _ _ _ (by omega)⟩
      ⟨⟨EvZ.own _ _ _ _ _ _ (fun pre => k + pre.length * (n0 + 1)) (hzn R x) pre W _ none hOf (World.grownBy_alloc W _ none) (fun r e => by cases e), by simp; omega⟩, hB.alloc (by omega) _⟩
      ⟨W.heap.size, hsz, Ib.new _ _ _ _ _ _, rfl⟩
  case body =>
    rintro l pre i a' W _ _ ⟨⟨hOf, hsz⟩, hB⟩ ⟨b, hb4, hIb, rfl⟩ hlen
    obtain ⟨y, hy⟩ : ∃ y, R.getD i nzr = y := ⟨_, rfl⟩
    obtain ⟨B, hBd⟩ : ∃ B, k + pre.length * (n0 + 1) = B := ⟨_, rfl⟩
    obtain ⟨V, hV⟩ : ∃ V, hzn R x pre = V := ⟨_, rfl⟩
    have hyn : y.n ≤ k := by
      rw [← hy]
      by_cases hi : i < R.length
      · exact HK.out i hi
      · rw [show R.getD i nzr = nzr by simp [List.getD, List.getElem?_eq_none (by omega : R.length ≤ i)]]; exact Nat.zero_le _
    have hkB : k ≤ B := by omega
    have hB1 : B + (n0 + 1) = k + (pre ++ [i]).length * (n0 + 1) := by rw [List.length_append, List.length_singleton, Nat.add_mul, ← hBd, Nat.one_mul, Nat.add_assoc]
    have hBB : B + (n0 + 1) ≤ 1099511627776 := by
      have : (pre.length + 1) * (n0 + 1) ≤ R.length * (n0 + 1) := Nat.mul_le_mul_right _ hlen
      rw [Nat.add_mul, Nat.one_mul] at this
      omega
    have HB1 := Lib.hid hB1
    have HS : Hid (hzn R x (pre ++ [i]) = V * x + y.z) := Lib.hid (by rw [hzn_snoc, hV, hy])
    have HY : Hid (Zv W y.s y.A y.n y.c y.z) := Lib.hid (by have := (HX.out.elem i).below hB; rwa [hy] at this)
    rw [hBd, hV] at hOf
    rw [hy] at hIb
    rw [hy]
    have HE := Lib.hid hOf
    obtain ⟨h1, h2, h3, sv, Av, nv, cv, h4, h5, h6⟩ := hOf
    have H1 := Lib.hid h1
    have H2 := Lib.hid h2
    have H4 := Lib.hid h4
    have H5 := Lib.hid h5
    have HI := Lib.hid hIb
    have HB := Lib.hid hB
    clear h1 h2 h3 h4 h5 hIb hB hB1 hV hBd HX HZ HK hy
    have hW : Below W.heap.size W W := Below.refl _ _
    gi_wp2_with fail
    refine regionIn [some 13, some 14, some 15, some 16, some 17] 5 [IsK (.agg #[.bool sv, .slice Av nv cv]), IsK (.agg #[.bool s0, .slice A0 n0 c0]), IsC (V * x) (B + n0), IsK (.agg #[.bool y.s, .slice y.A y.n y.c]), IsC (V * x + y.z) (B + (n0 + 1))] (by kernel_rfl) (by kernel_rfl) (by kernel_rfl) (by kernel_rfl) (by kernel_rfl) (by kernel_rfl) ⟨stay_k _, stay_k _, stay_c _ _, stay_k _, stay_c _ _, trivial⟩ ?_ ?_
    · refine HopAll.cons rfl ?_ (HopAll.cons rfl ?_ (HopAll.cons rfl ?_ (HopAll.cons rfl ?_ (HopAll.cons rfl ?_ HopAll.nil))))
      · intro a w1 hB ho hp K hK
        have e5 : a.eval (.tmp 5) = (.pointer (some ⟨w.heap.size + 1 + 1, 0, none⟩)) := ho 5 (by kernel_rfl)
        obtain ⟨u1, u2, u3, u4, u5⟩ := H4.out.below hB
        exact hop_load (wanted_none rfl) rfl e5 (run_ldz u1 u2) (hK _ _ rfl (Below.refl _ _))
      · intro a w1 hB ho hp K hK
        have e3 : a.eval (.tmp 3) = (.pointer (some ⟨w.heap.size, 0, none⟩)) := ho 3 (by kernel_rfl)
        obtain ⟨u1, u2, u3, u4, u5⟩ := H1.out.below hB
        exact hop_load (wanted_none rfl) rfl e3 (run_ldz u1 u2) (hK _ _ rfl (Below.refl _ _))
      · intro a w1 hB ho hp K hK
        have e13 : a.eval (.tmp 13) = (.agg #[.bool sv, .slice Av nv cv]) := hp 0 13 (by kernel_rfl)
        have e14 : a.eval (.tmp 14) = (.agg #[.bool s0, .slice A0 n0 c0]) := hp 1 14 (by kernel_rfl)
        refine hop_call (wanted_none rfl) rfl (args := #[(.agg #[.bool sv, .slice Av nv cv]), (.agg #[.bool s0, .slice A0 n0 c0])]) (by simp only [List.map_toArray, List.map_cons, List.map_nil, eval_const, e13, e14]) (ent7 (by kernel_rfl) _ _) (zmul_v (H5.out.zv.below hB) (H2.out.below hB) (by omega) (by omega)) ?_
        rintro e w2 ⟨s, A, n, c, rfl, z, hn, B⟩
        exact ⟨_, rfl, hK _ _ ⟨s, A, n, c, rfl, z, by omega⟩ B⟩
      · intro a w1 hB ho hp K hK
        have e7 : a.eval (.tmp 7) = (.pointer (some ⟨b, 0, none⟩)) := ho 7 (by kernel_rfl)
        obtain ⟨u1, u2, u3, u4, u5⟩ := HI.out.below hB
        exact hop_load (wanted_none rfl) rfl e7 (run_ldz u1 u2) (hK _ _ rfl (Below.refl _ _))
      · intro a w1 hB ho hp K hK
        obtain ⟨sm, Am, nm, cm, em, zm, hm⟩ : IsC (V * x) (B + n0) (a.eval (.tmp 15)) w1 := hp 2 15 (by kernel_rfl)
        have e16 : a.eval (.tmp 16) = (.agg #[.bool y.s, .slice y.A y.n y.c]) := hp 3 16 (by kernel_rfl)
        refine hop_call (wanted_none rfl) rfl (args := #[(.agg #[.bool sm, .slice Am nm cm]), (.agg #[.bool y.s, .slice y.A y.n y.c])]) (by simp only [List.map_toArray, List.map_cons, List.map_nil, eval_const, em, e16]) (ent7 (by kernel_rfl) _ _) (zadd_v zm.zv (HY.out.below hB) (by omega) (by omega)) ?_
        rintro e w2 ⟨s, A, n, c, rfl, z, hn, B⟩
        exact ⟨_, rfl, hK _ _ ⟨s, A, n, c, rfl, z, by omega⟩ B⟩
    intro w21 B21
    refine @EndsG.one _ _ _ _ _ _ _ fun vv hv => ?_
    obtain rfl : vv = (.agg #[.bool sv, .slice Av nv cv]) := hv
    refine @EndsG.one _ _ _ _ _ _ _ fun vv hv => ?_
    obtain rfl : vv = (.agg #[.bool s0, .slice A0 n0 c0]) := hv
    refine @EndsG.one _ _ _ _ _ _ _ fun vv hv => ?_
    obtain ⟨sm, Am, nm, cm, rfl, zm, hm⟩ := hv
    refine @EndsG.one _ _ _ _ _ _ _ fun vv hv => ?_
    obtain rfl : vv = (.agg #[.bool y.s, .slice y.A y.n y.c]) := hv
    refine @EndsG.one _ _ _ _ _ _ _ fun vv hv => ?_
    obtain ⟨s, A', n', c', rfl, z, hn'⟩ := hv
    refine EndsG.nil ⟨?_⟩
    change wpListIn _ _ _ _ _ [_] _ _
    simp only [Act.put, List.setIfInBounds_toArray, List.set_cons_zero, List.set_cons_succ]
    replace hW := hW.trans (B21.mono hW.size)
    clear zm hm
    have HI4 := Lib.hid (H4.out.below B21)
    obtain ⟨e1, e2, e3, e4, e5⟩ := H4.out.below B21
    gi_wp2_with fail
    have E := evz_end (W2 := W2) B21 hsz HE.out HB.out z hn'
    rw [← HS.out, HB1.out] at E
    exact E
  case done =>
    rintro D ys W hD rfl ⟨⟨hOf, hsz⟩, hB⟩ hK
    rw [upto_length, hzn_upto R x R.length (Nat.le_refl _), Nat.sub_self, List.drop_zero] at hOf
    obtain ⟨h1, h2, h3, sv, Av, nv, cv, h4, h5, h6⟩ := hOf
    have H3 := Lib.hid h3
    obtain ⟨c1, c2, c3, c4, c5⟩ := h4
    obtain ⟨d1, d2, d3, d4, d5⟩ := h3
    gi_wp2_with fail
    have hK2 : (zput W (w.heap.size + 1) sv Av nv cv).heap[D]? = some (.deferred (some [])) := by rw [heap_zput (by omega)]; exact hK
    have ht := run_takeDeferred (P := Tryz.prog) hK2
    refine ⟨by simp, .inl ⟨_, _, rfl, ht, ?_⟩⟩
    have kk : ∀ r, some D = some r → ∃ o : Obj, (zput W (w.heap.size + 1) sv Av nv cv).heap[r]? = some o ∧ o.isCells = false := fun r e => by cases e; exact ⟨_, hK2, rfl⟩
    obtain ⟨f1, f2, _⟩ := H3.out.own.kept (grownBy_putObj' (zput W (w.heap.size + 1) sv Av nv cv) D (.deferred none)) kk
    refine ⟨.agg #[.bool sv, .slice Av nv cv], by simp [results, Tryz.results25, go_sem, f1, f2], ?_⟩
    refine ⟨sv, Av, nv, cv, rfl, (h5.zput H3.out).kept (grownBy_putObj' _ D (.deferred none)) kk, h6, ?_⟩
    exact (below_put hB (by omega)).trans (belowK_b (w := w) (Nat.le_refl _) _ D _ _ (by omega) hK2 rfl rfl)
  case stop =>
    rintro D c pre W _ _ h _
    exact h.elim
end Go.Proofs.YtddbhhedjipjkaaGreatDoor
