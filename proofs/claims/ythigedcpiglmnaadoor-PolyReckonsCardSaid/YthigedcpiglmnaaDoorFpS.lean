/-
  The reference of layer 9: Add, Neg, Mul; fpoly.Derive.
-/
import Derived.Test.YthigedcpiglmnaaDoorFpR
import Derived.Test.YthigedcpiglmnaaDoorFpF
/-! Contracts of polynomials over a field: the reference's sums and products, derivatives. -/
namespace Go.Proofs.YthigedcpiglmnaaDoor
open Go.RowKit
set_option linter.unusedVariables false
set_option linter.unusedSimpArgs false

/-- The sums of the first k places. -/
def adl (p : Nat) (xs ys : List Nat) (k : Nat) : List Nat := (List.range k).map fun j => (nth xs j % p + nth ys j % p) % p
theorem adl_succ (p : Nat) (xs ys : List Nat) (k : Nat) : adl p xs ys (k + 1) = adl p xs ys k ++ [(nth xs k % p + nth ys k % p) % p] := by simp [adl, List.range_succ]
theorem adl_len (p : Nat) (xs ys : List Nat) (k : Nat) : (adl p xs ys k).length = k := by simp [adl]
theorem nth_adl {p : Nat} {xs ys : List Nat} {k j : Nat} (h : j < k) : nth (adl p xs ys k) j = (nth xs j % p + nth ys j % p) % p := by
  simp [adl, nth, List.getD, h]
theorem adl_nrm {p : Nat} {xs ys : List Nat} {k : Nat} (h1 : xs.length ≤ k) (h2 : ys.length ≤ k) : nrm p (adl p xs ys k) = nrm p (addl xs ys) := nrm_ext fun j => by
  rw [nth_addl]
  by_cases h : j < k
  · rw [nth_adl h, Nat.mod_mod, ← Nat.add_mod]
  · rw [nth_ge (xs := adl p xs ys k) (by rw [adl_len]; omega), nth_ge (xs := xs) (by omega), nth_ge (xs := ys) (by omega)]
theorem adl_low {p : Nat} (hp : 0 < p) (h : p < 2147483648) (xs ys : List Nat) (k : Nat) : Low 18446744073709551616 (adl p xs ys k) := Low.of_any fun j => by
  by_cases hj : j < k
  · rw [nth_adl hj]; have := Nat.mod_lt (nth xs j % p + nth ys j % p) hp; omega
  · rw [nth_ge (by rw [adl_len]; omega)]; omega
/-- The products' numbers of the first k places. -/
def mll (p : Nat) (xs ys : List Nat) (k : Nat) : List Nat := (List.range k).map fun i => csum xs ys i (i + 1) % p
theorem mll_succ (p : Nat) (xs ys : List Nat) (k : Nat) : mll p xs ys (k + 1) = mll p xs ys k ++ [csum xs ys k (k + 1) % p] := by simp [mll, List.range_succ]
theorem mll_len (p : Nat) (xs ys : List Nat) (k : Nat) : (mll p xs ys k).length = k := by simp [mll]
theorem nth_mll {p : Nat} {xs ys : List Nat} {k j : Nat} (h : j < k) : nth (mll p xs ys k) j = csum xs ys j (j + 1) % p := by
  simp [mll, nth, List.getD, h]
theorem cvl_short (xs ys : List Nat) : (cvl xs ys).length ≤ xs.length + ys.length := by
  by_cases a0 : xs = []
  · subst a0; simp [cvl]
  · induction xs with
    | nil => exact absurd rfl a0
    | cons c t ih =>
      simp only [cvl, addl_length, scl_length, List.length_cons]
      by_cases t0 : t = []
      · subst t0; simp [cvl]; omega
      · have := ih t0; omega
theorem mll_nrm {p : Nat} {xs ys : List Nat} {k : Nat} (h : xs.length + ys.length ≤ k) : nrm p (mll p xs ys k) = mulp p xs ys := nrm_ext fun j => by
  rw [nth_cvl]
  by_cases hj : j < k
  · rw [nth_mll hj, Nat.mod_mod]
  · rw [nth_ge (xs := mll p xs ys k) (by rw [mll_len]; omega), ← nth_cvl, nth_ge (xs := cvl xs ys) (by have := cvl_short xs ys; omega)]
theorem mll_low {p : Nat} (hp : 0 < p) (h : p < 2147483648) (xs ys : List Nat) (k : Nat) : Low 18446744073709551616 (mll p xs ys k) := Low.of_any fun j => by
  by_cases hj : j < k
  · rw [nth_mll hj]; have := Nat.mod_lt (csum xs ys j (j + 1)) hp; omega
  · rw [nth_ge (by rw [mll_len]; omega)]; omega
set_option maxRecDepth 100000 in
set_option maxHeartbeats 1000000 in
/-- The reference's Add. -/
theorem radd9_v {p n c m d : Nat} {A D : Option Addr} {xs ys : List Nat} {w : World} (h2 : 2 ≤ p) (h : p < 2147483648) (hx : Lv w A n c xs) (hn : n ≤ 1099511627776) (hy : Lv w D m d ys) (hm : m ≤ 1099511627776) :
    Calls Tryd.prog 21 #[.slice A n c, .slice D m d, .int .u64 (p : Int)] w (LPost (nrm p (addl xs ys)) w) := by
  have HX0 := Lib.hid hx
  have HY0 := Lib.hid hy
  have HN := Lib.hid hx.len
  have HM := Lib.hid hy.len
  obtain ⟨L, hL⟩ : ∃ L, max n m = L := ⟨_, rfl⟩
  have h1 : n ≤ L := by omega
  have h3 : m ≤ L := by omega
  have hLc : ∀ k, k < L → ¬ k < n → k < m := by omega
  have hnc := hx.le
  have hmd := hy.le
  have hcm := hx.cap
  have hdm := hy.cap
  have hlb : L ≤ 1099511627776 := by omega
  clear hx hy hL
  go_enter Tryd.func21, Tryd.ntmps21
  go_wp2_with fail
  go_loopw [7, 8] (fun v i wr => ∃ k : Nat, k ≤ L ∧ i = .int .i64 (k : Int) ∧ OwnV w wr 26 .u64 v (adl p xs ys k)) (fun _ i _ => L - (intOf i).toNat)
  case atStart => exact ⟨0, Nat.zero_le _, rfl, OwnV.nil _ _ _⟩
  case round =>
    obtain ⟨k, hk, rfl, ho⟩ := hrel
    by_cases hlt : k < L
    · have hx := HX0.out.below ho.2
      have hy := HY0.out.below ho.2
      have hW : Below w.heap.size w wr := ho.2
      obtain ⟨X, hX⟩ : ∃ X, nth xs k = X := ⟨_, rfl⟩
      obtain ⟨Y, hY⟩ : ∃ Y, nth ys k = Y := ⟨_, rfl⟩
      have lX : X < 18446744073709551616 := hX ▸ hx.lt k
      have lY : Y < 18446744073709551616 := hY ▸ hy.lt k
      obtain ⟨ra, ha⟩ : ∃ ra, X % p = ra := ⟨_, rfl⟩
      obtain ⟨rb, hb⟩ : ∃ rb, Y % p = rb := ⟨_, rfl⟩
      obtain ⟨rs, hs⟩ : ∃ rs, ra + rb = rs := ⟨_, rfl⟩
      obtain ⟨R, hR⟩ : ∃ R, rs % p = R := ⟨_, rfl⟩
      have la : ra < p := ha ▸ Nat.mod_lt _ (by omega)
      have lb : rb < p := hb ▸ Nat.mod_lt _ (by omega)
      have lR : R < p := hR ▸ Nat.mod_lt _ (by omega)
      have E1 : Hid ((X : Int).tmod (p : Int) = (ra : Int)) := Lib.hid (by rw [← ha, Int.tmod_eq_emod_of_nonneg (by omega), Int.natCast_emod])
      have E2 : Hid ((Y : Int).tmod (p : Int) = (rb : Int)) := Lib.hid (by rw [← hb, Int.tmod_eq_emod_of_nonneg (by omega), Int.natCast_emod])
      have E3 : Hid (IntKind.u64.wrap ((ra : Int) + (rb : Int)) = (rs : Int)) := Lib.hid (by rw [← hs, ← Int.natCast_add]; exact wrap_small (by omega))
      have E4 : Hid ((rs : Int).tmod (p : Int) = (R : Int)) := Lib.hid (by rw [← hR, Int.tmod_eq_emod_of_nonneg (by omega), Int.natCast_emod])
      have hp0 : ¬ (p = 0) := by omega
      have HX := Lib.hid hX
      have HY := Lib.hid hY
      have HT : Hid (adl p xs ys k ++ [R] = adl p xs ys (k + 1)) := Lib.hid (by rw [adl_succ, hX, hY, ha, hb, hs, hR])
      have hl : (adl p xs ys k).length ≤ 4398046511104 := by rw [adl_len]; omega
      have HOw := Lib.hid ho
      clear hX hY ha hb hs hR ho
      by_cases hkn : k < n
      · skip
        go_upto_region 5 with fail
        refine region8 [0] 14 [IsK u7, IsK (.slice A n c), IsK (.int .i64 (k : Int)), IsK (.int .u64 (X : Int)), IsK (.int .u64 (p : Int)), IsK (.int .u64 (ra : Int)), IsK (.slice D m d), IsK (.int .i64 (k : Int)), IsK (.int .u64 (Y : Int)), IsK (.int .u64 (p : Int)), IsK (.int .u64 (rb : Int)), IsK (.int .u64 (rs : Int)), IsK (.int .u64 (p : Int)), IsK (.int .u64 (R : Int))] (fun _ _ d _ _ h => by cases d <;> exact h) (by kernel_rfl) (by kernel_rfl) (by kernel_rfl) ⟨stay_k _, stay_k _, stay_k _, stay_k _, stay_k _, stay_k _, stay_k _, stay_k _, stay_k _, stay_k _, stay_k _, stay_k _, stay_k _, stay_k _, trivial⟩ ?_ ?_
        · refine HopAll.fl rfl ?_ (HopAll.cons rfl ?_ (HopAll.cons rfl ?_ (HopAll.cons rfl ?_ (HopAll.cons rfl ?_ (HopAll.cons rfl ?_ (HopAll.cons rfl ?_ (HopAll.cons rfl ?_ (HopAll.cons rfl ?_ (HopAll.cons rfl ?_ (HopAll.cons rfl ?_ (HopAll.cons rfl ?_ (HopAll.cons rfl ?_ (HopAll.cons rfl ?_ HopAll.nil)))))))))))))
          · intro a w1 hB ho hp
            have e7 : a.eval (.tmp 7) = u7 := ho 7 (by kernel_rfl)
            refine ⟨u7, rfl, .inl ⟨(wanted_none rfl), fun w2 => ?_⟩⟩
            unfold execOp; simp only [eval_const, e7]; simp [go_sem]
          · intro a w1 hB ho hp K hK
            have e0 : a.eval (.tmp 0) = (.slice A n c) := ho 0 (by kernel_rfl)
            refine hop_val (wanted_none rfl) ?_ (hK (.slice A n c) _ rfl (Below.refl _ _))
            unfold execOp; simp only [eval_const, e0]; simp [go_sem]
          · intro a w1 hB ho hp K hK
            have e8 : a.eval (.tmp 8) = (.int .i64 (k : Int)) := ho 8 (by kernel_rfl)
            refine hop_val (wanted_none rfl) ?_ (hK (.int .i64 (k : Int)) _ rfl (Below.refl _ _))
            unfold execOp; simp only [eval_const, e8]; simp [go_sem]
          · intro a w1 hB ho hp K hK
            have e22 : a.eval (.tmp 22) = (.slice A n c) := hp 1 22 (by kernel_rfl)
            have e23 : a.eval (.tmp 23) = (.int .i64 (k : Int)) := hp 2 23 (by kernel_rfl)
            refine hop_call (wanted_none rfl) rfl (args := #[(.slice A n c), (.int .i64 (k : Int))]) (by simp only [List.map_toArray, List.map_cons, List.map_nil, eval_const, e22, e23]) (ent7 (by kernel_rfl) _ _) (rat9_v (hx.below hB) HX.out) ?_
            rintro e w2 ⟨rfl, B⟩
            exact ⟨_, rfl, hK _ _ rfl B⟩
          · intro a w1 hB ho hp K hK
            have e2 : a.eval (.tmp 2) = (.int .u64 (p : Int)) := ho 2 (by kernel_rfl)
            refine hop_val (wanted_none rfl) ?_ (hK (.int .u64 (p : Int)) _ rfl (Below.refl _ _))
            unfold execOp; simp only [eval_const, e2]; simp [go_sem]
          · intro a w1 hB ho hp K hK
            have e24 : a.eval (.tmp 24) = (.int .u64 (X : Int)) := hp 3 24 (by kernel_rfl)
            have e25 : a.eval (.tmp 25) = (.int .u64 (p : Int)) := hp 4 25 (by kernel_rfl)
            refine hop_val (wanted_none rfl) ?_ (hK (.int .u64 (ra : Int)) _ rfl (Below.refl _ _))
            unfold execOp; simp only [eval_const, e24, e25]; simp [go_sem, hp0, E1.out]
          · intro a w1 hB ho hp K hK
            have e1 : a.eval (.tmp 1) = (.slice D m d) := ho 1 (by kernel_rfl)
            refine hop_val (wanted_none rfl) ?_ (hK (.slice D m d) _ rfl (Below.refl _ _))
            unfold execOp; simp only [eval_const, e1]; simp [go_sem]
          · intro a w1 hB ho hp K hK
            have e8 : a.eval (.tmp 8) = (.int .i64 (k : Int)) := ho 8 (by kernel_rfl)
            refine hop_val (wanted_none rfl) ?_ (hK (.int .i64 (k : Int)) _ rfl (Below.refl _ _))
            unfold execOp; simp only [eval_const, e8]; simp [go_sem]
          · intro a w1 hB ho hp K hK
            have e27 : a.eval (.tmp 27) = (.slice D m d) := hp 6 27 (by kernel_rfl)
            have e28 : a.eval (.tmp 28) = (.int .i64 (k : Int)) := hp 7 28 (by kernel_rfl)
            refine hop_call (wanted_none rfl) rfl (args := #[(.slice D m d), (.int .i64 (k : Int))]) (by simp only [List.map_toArray, List.map_cons, List.map_nil, eval_const, e27, e28]) (ent7 (by kernel_rfl) _ _) (rat9_v (hy.below hB) HY.out) ?_
            rintro e w2 ⟨rfl, B⟩
            exact ⟨_, rfl, hK _ _ rfl B⟩
          · intro a w1 hB ho hp K hK
            have e2 : a.eval (.tmp 2) = (.int .u64 (p : Int)) := ho 2 (by kernel_rfl)
            refine hop_val (wanted_none rfl) ?_ (hK (.int .u64 (p : Int)) _ rfl (Below.refl _ _))
            unfold execOp; simp only [eval_const, e2]; simp [go_sem]
          · intro a w1 hB ho hp K hK
            have e29 : a.eval (.tmp 29) = (.int .u64 (Y : Int)) := hp 8 29 (by kernel_rfl)
            have e30 : a.eval (.tmp 30) = (.int .u64 (p : Int)) := hp 9 30 (by kernel_rfl)
            refine hop_val (wanted_none rfl) ?_ (hK (.int .u64 (rb : Int)) _ rfl (Below.refl _ _))
            unfold execOp; simp only [eval_const, e29, e30]; simp [go_sem, hp0, E2.out]
          · intro a w1 hB ho hp K hK
            have e26 : a.eval (.tmp 26) = (.int .u64 (ra : Int)) := hp 5 26 (by kernel_rfl)
            have e31 : a.eval (.tmp 31) = (.int .u64 (rb : Int)) := hp 10 31 (by kernel_rfl)
            refine hop_val (wanted_none rfl) ?_ (hK (.int .u64 (rs : Int)) _ rfl (Below.refl _ _))
            unfold execOp; simp only [eval_const, e26, e31]; simp [go_sem, E3.out]
          · intro a w1 hB ho hp K hK
            have e2 : a.eval (.tmp 2) = (.int .u64 (p : Int)) := ho 2 (by kernel_rfl)
            refine hop_val (wanted_none rfl) ?_ (hK (.int .u64 (p : Int)) _ rfl (Below.refl _ _))
            unfold execOp; simp only [eval_const, e2]; simp [go_sem]
          · intro a w1 hB ho hp K hK
            have e32 : a.eval (.tmp 32) = (.int .u64 (rs : Int)) := hp 11 32 (by kernel_rfl)
            have e33 : a.eval (.tmp 33) = (.int .u64 (p : Int)) := hp 12 33 (by kernel_rfl)
            refine hop_val (wanted_none rfl) ?_ (hK (.int .u64 (R : Int)) _ rfl (Below.refl _ _))
            unfold execOp; simp only [eval_const, e32, e33]; simp [go_sem, hp0, E4.out]
        intro w21 B21
        refine EndAll.one rfl fun vv hv => ?_
        obtain rfl : vv = u7 := hv
        refine EndAll.one rfl fun vv hv => ?_
        obtain rfl : vv = (.slice A n c) := hv
        refine EndAll.one rfl fun vv hv => ?_
        obtain rfl : vv = (.int .i64 (k : Int)) := hv
        refine EndAll.one rfl fun vv hv => ?_
        obtain rfl : vv = (.int .u64 (X : Int)) := hv
        refine EndAll.one rfl fun vv hv => ?_
        obtain rfl : vv = (.int .u64 (p : Int)) := hv
        refine EndAll.one rfl fun vv hv => ?_
        obtain rfl : vv = (.int .u64 (ra : Int)) := hv
        refine EndAll.one rfl fun vv hv => ?_
        obtain rfl : vv = (.slice D m d) := hv
        refine EndAll.one rfl fun vv hv => ?_
        obtain rfl : vv = (.int .i64 (k : Int)) := hv
        refine EndAll.one rfl fun vv hv => ?_
        obtain rfl : vv = (.int .u64 (Y : Int)) := hv
        refine EndAll.one rfl fun vv hv => ?_
        obtain rfl : vv = (.int .u64 (p : Int)) := hv
        refine EndAll.one rfl fun vv hv => ?_
        obtain rfl : vv = (.int .u64 (rb : Int)) := hv
        refine EndAll.one rfl fun vv hv => ?_
        obtain rfl : vv = (.int .u64 (rs : Int)) := hv
        refine EndAll.one rfl fun vv hv => ?_
        obtain rfl : vv = (.int .u64 (p : Int)) := hv
        refine EndAll.one rfl fun vv hv => ?_
        obtain rfl : vv = (.int .u64 (R : Int)) := hv
        refine EndAll.nil (l := [_, _, _]) rfl ?_
        simp only [Act.put, List.setIfInBounds_toArray, List.set_cons_zero, List.set_cons_succ]
        replace hx := hx.below B21
        replace hy := hy.below B21
        replace hW := hW.trans (B21.mono hW.size)
        have ho := HOw.out.below B21
        go_wp2_with (at_builtin; refine wpList_app1 w w21 rfl _ _ _ rfl 26 .u64 Tryd.underlying22 info_u64 _ _ (by rfl) ho _ R (by omega) (by rfl) hl ?_)
        intro v1 w9 ho1
        rw [HT.out] at ho1
        clear ho HOw
        go_wp2_with fail
        go_roundw
        case rel => exact ⟨k + 1, by omega, by go_num, ho1⟩
        case measure => simp [intOf]; omega
      · have hkm := hLc k hlt hkn
        go_upto_region 5 with fail
        refine region8 [0] 14 [IsK u7, IsK (.slice A n c), IsK (.int .i64 (k : Int)), IsK (.int .u64 (X : Int)), IsK (.int .u64 (p : Int)), IsK (.int .u64 (ra : Int)), IsK (.slice D m d), IsK (.int .i64 (k : Int)), IsK (.int .u64 (Y : Int)), IsK (.int .u64 (p : Int)), IsK (.int .u64 (rb : Int)), IsK (.int .u64 (rs : Int)), IsK (.int .u64 (p : Int)), IsK (.int .u64 (R : Int))] (fun _ _ d _ _ h => by cases d <;> exact h) (by kernel_rfl) (by kernel_rfl) (by kernel_rfl) ⟨stay_k _, stay_k _, stay_k _, stay_k _, stay_k _, stay_k _, stay_k _, stay_k _, stay_k _, stay_k _, stay_k _, stay_k _, stay_k _, stay_k _, trivial⟩ ?_ ?_
        · refine HopAll.fl rfl ?_ (HopAll.cons rfl ?_ (HopAll.cons rfl ?_ (HopAll.cons rfl ?_ (HopAll.cons rfl ?_ (HopAll.cons rfl ?_ (HopAll.cons rfl ?_ (HopAll.cons rfl ?_ (HopAll.cons rfl ?_ (HopAll.cons rfl ?_ (HopAll.cons rfl ?_ (HopAll.cons rfl ?_ (HopAll.cons rfl ?_ (HopAll.cons rfl ?_ HopAll.nil)))))))))))))
          · intro a w1 hB ho hp
            have e7 : a.eval (.tmp 7) = u7 := ho 7 (by kernel_rfl)
            refine ⟨u7, rfl, .inl ⟨(wanted_none rfl), fun w2 => ?_⟩⟩
            unfold execOp; simp only [eval_const, e7]; simp [go_sem]
          · intro a w1 hB ho hp K hK
            have e0 : a.eval (.tmp 0) = (.slice A n c) := ho 0 (by kernel_rfl)
            refine hop_val (wanted_none rfl) ?_ (hK (.slice A n c) _ rfl (Below.refl _ _))
            unfold execOp; simp only [eval_const, e0]; simp [go_sem]
          · intro a w1 hB ho hp K hK
            have e8 : a.eval (.tmp 8) = (.int .i64 (k : Int)) := ho 8 (by kernel_rfl)
            refine hop_val (wanted_none rfl) ?_ (hK (.int .i64 (k : Int)) _ rfl (Below.refl _ _))
            unfold execOp; simp only [eval_const, e8]; simp [go_sem]
          · intro a w1 hB ho hp K hK
            have e22 : a.eval (.tmp 22) = (.slice A n c) := hp 1 22 (by kernel_rfl)
            have e23 : a.eval (.tmp 23) = (.int .i64 (k : Int)) := hp 2 23 (by kernel_rfl)
            refine hop_call (wanted_none rfl) rfl (args := #[(.slice A n c), (.int .i64 (k : Int))]) (by simp only [List.map_toArray, List.map_cons, List.map_nil, eval_const, e22, e23]) (ent7 (by kernel_rfl) _ _) (rat9_v (hx.below hB) HX.out) ?_
            rintro e w2 ⟨rfl, B⟩
            exact ⟨_, rfl, hK _ _ rfl B⟩
          · intro a w1 hB ho hp K hK
            have e2 : a.eval (.tmp 2) = (.int .u64 (p : Int)) := ho 2 (by kernel_rfl)
            refine hop_val (wanted_none rfl) ?_ (hK (.int .u64 (p : Int)) _ rfl (Below.refl _ _))
            unfold execOp; simp only [eval_const, e2]; simp [go_sem]
          · intro a w1 hB ho hp K hK
            have e24 : a.eval (.tmp 24) = (.int .u64 (X : Int)) := hp 3 24 (by kernel_rfl)
            have e25 : a.eval (.tmp 25) = (.int .u64 (p : Int)) := hp 4 25 (by kernel_rfl)
            refine hop_val (wanted_none rfl) ?_ (hK (.int .u64 (ra : Int)) _ rfl (Below.refl _ _))
            unfold execOp; simp only [eval_const, e24, e25]; simp [go_sem, hp0, E1.out]
          · intro a w1 hB ho hp K hK
            have e1 : a.eval (.tmp 1) = (.slice D m d) := ho 1 (by kernel_rfl)
            refine hop_val (wanted_none rfl) ?_ (hK (.slice D m d) _ rfl (Below.refl _ _))
            unfold execOp; simp only [eval_const, e1]; simp [go_sem]
          · intro a w1 hB ho hp K hK
            have e8 : a.eval (.tmp 8) = (.int .i64 (k : Int)) := ho 8 (by kernel_rfl)
            refine hop_val (wanted_none rfl) ?_ (hK (.int .i64 (k : Int)) _ rfl (Below.refl _ _))
            unfold execOp; simp only [eval_const, e8]; simp [go_sem]
          · intro a w1 hB ho hp K hK
            have e27 : a.eval (.tmp 27) = (.slice D m d) := hp 6 27 (by kernel_rfl)
            have e28 : a.eval (.tmp 28) = (.int .i64 (k : Int)) := hp 7 28 (by kernel_rfl)
            refine hop_call (wanted_none rfl) rfl (args := #[(.slice D m d), (.int .i64 (k : Int))]) (by simp only [List.map_toArray, List.map_cons, List.map_nil, eval_const, e27, e28]) (ent7 (by kernel_rfl) _ _) (rat9_v (hy.below hB) HY.out) ?_
            rintro e w2 ⟨rfl, B⟩
            exact ⟨_, rfl, hK _ _ rfl B⟩
          · intro a w1 hB ho hp K hK
            have e2 : a.eval (.tmp 2) = (.int .u64 (p : Int)) := ho 2 (by kernel_rfl)
            refine hop_val (wanted_none rfl) ?_ (hK (.int .u64 (p : Int)) _ rfl (Below.refl _ _))
            unfold execOp; simp only [eval_const, e2]; simp [go_sem]
          · intro a w1 hB ho hp K hK
            have e29 : a.eval (.tmp 29) = (.int .u64 (Y : Int)) := hp 8 29 (by kernel_rfl)
            have e30 : a.eval (.tmp 30) = (.int .u64 (p : Int)) := hp 9 30 (by kernel_rfl)
            refine hop_val (wanted_none rfl) ?_ (hK (.int .u64 (rb : Int)) _ rfl (Below.refl _ _))
            unfold execOp; simp only [eval_const, e29, e30]; simp [go_sem, hp0, E2.out]
          · intro a w1 hB ho hp K hK
            have e26 : a.eval (.tmp 26) = (.int .u64 (ra : Int)) := hp 5 26 (by kernel_rfl)
            have e31 : a.eval (.tmp 31) = (.int .u64 (rb : Int)) := hp 10 31 (by kernel_rfl)
            refine hop_val (wanted_none rfl) ?_ (hK (.int .u64 (rs : Int)) _ rfl (Below.refl _ _))
            unfold execOp; simp only [eval_const, e26, e31]; simp [go_sem, E3.out]
          · intro a w1 hB ho hp K hK
            have e2 : a.eval (.tmp 2) = (.int .u64 (p : Int)) := ho 2 (by kernel_rfl)
            refine hop_val (wanted_none rfl) ?_ (hK (.int .u64 (p : Int)) _ rfl (Below.refl _ _))
            unfold execOp; simp only [eval_const, e2]; simp [go_sem]
          · intro a w1 hB ho hp K hK
            have e32 : a.eval (.tmp 32) = (.int .u64 (rs : Int)) := hp 11 32 (by kernel_rfl)
            have e33 : a.eval (.tmp 33) = (.int .u64 (p : Int)) := hp 12 33 (by kernel_rfl)
            refine hop_val (wanted_none rfl) ?_ (hK (.int .u64 (R : Int)) _ rfl (Below.refl _ _))
            unfold execOp; simp only [eval_const, e32, e33]; simp [go_sem, hp0, E4.out]
        intro w21 B21
        refine EndAll.one rfl fun vv hv => ?_
        obtain rfl : vv = u7 := hv
        refine EndAll.one rfl fun vv hv => ?_
        obtain rfl : vv = (.slice A n c) := hv
        refine EndAll.one rfl fun vv hv => ?_
        obtain rfl : vv = (.int .i64 (k : Int)) := hv
        refine EndAll.one rfl fun vv hv => ?_
        obtain rfl : vv = (.int .u64 (X : Int)) := hv
        refine EndAll.one rfl fun vv hv => ?_
        obtain rfl : vv = (.int .u64 (p : Int)) := hv
        refine EndAll.one rfl fun vv hv => ?_
        obtain rfl : vv = (.int .u64 (ra : Int)) := hv
        refine EndAll.one rfl fun vv hv => ?_
        obtain rfl : vv = (.slice D m d) := hv
        refine EndAll.one rfl fun vv hv => ?_
        obtain rfl : vv = (.int .i64 (k : Int)) := hv
        refine EndAll.one rfl fun vv hv => ?_
        obtain rfl : vv = (.int .u64 (Y : Int)) := hv
        refine EndAll.one rfl fun vv hv => ?_
        obtain rfl : vv = (.int .u64 (p : Int)) := hv
        refine EndAll.one rfl fun vv hv => ?_
        obtain rfl : vv = (.int .u64 (rb : Int)) := hv
        refine EndAll.one rfl fun vv hv => ?_
        obtain rfl : vv = (.int .u64 (rs : Int)) := hv
        refine EndAll.one rfl fun vv hv => ?_
        obtain rfl : vv = (.int .u64 (p : Int)) := hv
        refine EndAll.one rfl fun vv hv => ?_
        obtain rfl : vv = (.int .u64 (R : Int)) := hv
        refine EndAll.nil (l := [_, _, _]) rfl ?_
        simp only [Act.put, List.setIfInBounds_toArray, List.set_cons_zero, List.set_cons_succ]
        replace hx := hx.below B21
        replace hy := hy.below B21
        replace hW := hW.trans (B21.mono hW.size)
        have ho := HOw.out.below B21
        go_wp2_with (at_builtin; refine wpList_app1 w w21 rfl _ _ _ rfl 26 .u64 Tryd.underlying22 info_u64 _ _ (by rfl) ho _ R (by omega) (by rfl) hl ?_)
        intro v1 w9 ho1
        rw [HT.out] at ho1
        clear ho HOw
        go_wp2_with fail
        go_roundw
        case rel => exact ⟨k + 1, by omega, by go_num, ho1⟩
        case measure => simp [intOf]; omega
    · obtain rfl : k = L := by omega
      obtain ⟨A5, c5, rfl, hg⟩ := ho.form
      have hlv := Lv.own ho (adl_low (by omega) h xs ys k)
      have hB : Below w.heap.size w wr := ho.2
      have HE := Lib.hid (adl_nrm (p := p) (xs := xs) (ys := ys) (k := k) (by rw [HN.out]; exact h1) (by rw [HM.out]; exact h3))
      have hkn : ¬ (k : Int) < (n : Int) := by omega
      have hkm : ¬ (k : Int) < (m : Int) := by omega
      rw [adl_len] at hlv ⊢
      clear ho hg
      go_wp2_with fail
      refine (rnorm9_v h2 h hlv (by omega)).mono ?_
      rintro e w6 ⟨A6, n6, c6, rfl, r6, B6⟩
      rw [HE.out] at r6
      go_wp2_with fail
      exact bodyPost_ret (v := .slice A6 n6 c6) (by simp [results, Tryd.results21, go_sem]) rfl ⟨_, _, _, rfl, r6, hB.trans (B6.mono hB.size)⟩
set_option maxRecDepth 100000 in
set_option maxHeartbeats 1000000 in
/-- The reference's Mul. -/
theorem rmul9_v {p n c m d : Nat} {A D : Option Addr} {xs ys : List Nat} {w : World} (h2 : 2 ≤ p) (h : p < 2147483648) (hx : Lv w A n c xs) (hn : n ≤ 1099511627776) (hy : Lv w D m d ys) (hm : m ≤ 1099511627776) :
    Calls Tryd.prog 25 #[.slice A n c, .slice D m d, .int .u64 (p : Int)] w (LPost (mulp p xs ys) w) := by
  have HX0 := Lib.hid hx
  have HY0 := Lib.hid hy
  have HN := Lib.hid hx.len
  have HM := Lib.hid hy.len
  have HNM := Lib.hid (show n + m ≤ 2199023255552 by omega)
  have hnm : IntKind.i64.wrap ((n : Int) + (m : Int)) = (n : Int) + (m : Int) := by rw [IntKind.wrap_i64]; omega
  have hnc := hx.le
  have hmd := hy.le
  have hcm := hx.cap
  have hdm := hy.cap
  clear hx hy
  go_enter Tryd.func25, Tryd.ntmps25
  go_wp2_with fail
  go_loopw [7, 8] (fun v i wr => ∃ k : Nat, k ≤ n + m ∧ i = .int .i64 (k : Int) ∧ OwnV w wr 26 .u64 v (mll p xs ys k)) (fun _ i _ => n + m - (intOf i).toNat)
  case atStart => exact ⟨0, Nat.zero_le _, rfl, OwnV.nil _ _ _⟩
  case round =>
    obtain ⟨i, hi, rfl, ho⟩ := hrel
    by_cases hlt : i < n + m
    · have hW : Below w.heap.size w wr := ho.2
      obtain ⟨wo, hwo⟩ : ∃ wo : World, wo = wr := ⟨_, rfl⟩
      rw [← hwo] at ho
      have hBo := Lib.hid (show Below w.heap.size w wo by rw [hwo]; exact hW)
      have hz0 : Below wo.heap.size wo wr := by rw [hwo]; exact Below.refl _ _
      have hlti : (i : Int) < (n : Int) + (m : Int) := by omega
      clear hwo hW
      go_wp2_with fail
      go_loopw [9, 10] (fun s9 s10 wx => ∃ (k s : Nat), k ≤ i + 1 ∧ s10 = .int .i64 (k : Int) ∧ s9 = .int .u64 (s : Int) ∧ Hid (csum xs ys i k % p = s) ∧ Below wo.heap.size wo wx) (fun _ s10 _ => i + 1 - (intOf s10).toNat)
      case atStart => exact ⟨0, 0, Nat.zero_le _, rfl, rfl, Lib.hid (Nat.zero_mod p), hz0⟩
      case round =>
        clear hz0
        obtain ⟨k, s, hk, rfl, rfl, HS, hB⟩ := hrel
        have ls : s < p := by rw [← HS.out]; exact Nat.mod_lt _ (by omega)
        by_cases hki : k ≤ i
        · have hx := (HX0.out.below hBo.out).below hB
          have hy := (HY0.out.below hBo.out).below hB
          obtain ⟨X, hX⟩ : ∃ X, nth xs k = X := ⟨_, rfl⟩
          obtain ⟨q, hq⟩ : ∃ q, i - k = q := ⟨_, rfl⟩
          have hqi : (i : Int) - (k : Int) = (q : Int) := by omega
          obtain ⟨Y, hY⟩ : ∃ Y, nth ys q = Y := ⟨_, rfl⟩
          have lX : X < 18446744073709551616 := hX ▸ hx.lt k
          have lY : Y < 18446744073709551616 := hY ▸ hy.lt q
          obtain ⟨M, hM⟩ : ∃ M, X * Y % p = M := ⟨_, rfl⟩
          have lM : M < p := hM ▸ Nat.mod_lt _ (by omega)
          obtain ⟨T, hT⟩ : ∃ T, s + M = T := ⟨_, rfl⟩
          obtain ⟨R, hR⟩ : ∃ R, T % p = R := ⟨_, rfl⟩
          have hw1 : IntKind.u64.wrap ((s : Int) + (M : Int)) = (T : Int) := by rw [← Int.natCast_add, hT]; exact wrap_small (by omega)
          have hw2 : (T : Int) % (p : Int) = (R : Int) := by rw [← hR, Int.natCast_emod]
          have hd0 : ((p : Int) == 0) = false := by rw [beq_eq_false_iff_ne]; omega
          have HN2 : Hid (csum xs ys i (k + 1) % p = R) := Lib.hid (by rw [csum, hq, hX, hY, Nat.add_mod, HS.out, hM, hT]; exact hR)
          have HXX := Lib.hid hX
          have HYY := Lib.hid hY
          have HMM := Lib.hid hM
          clear hX hY hM hT hR hq HS ho
          go_wp2_with fail
          refine (rat9_v hx HXX.out).mono ?_
          rintro e w2 ⟨rfl, B2⟩
          replace hy := hy.below B2
          replace hB := hB.trans (B2.mono hB.size)
          clear hx B2
          go_wp2_with fail
          refine (rat9_v hy HYY.out).mono ?_
          rintro e w3 ⟨rfl, B3⟩
          replace hB := hB.trans (B3.mono hB.size)
          clear hy B3
          go_wp2_with fail
          refine (rmul8_calls lX lY h2 h HMM.out w3).mono ?_
          rintro e w4 ⟨rfl, B4⟩
          replace hB := hB.trans (B4.mono hB.size)
          clear B4
          go_wp2_with fail
          go_roundw
          case rel => exact ⟨k + 1, R, by omega, by go_num, by go_num, HN2, hB⟩
          case measure => simp [intOf]; omega
        · obtain rfl : k = i + 1 := by omega
          have HT : Hid (mll p xs ys i ++ [s] = mll p xs ys (i + 1)) := Lib.hid (by rw [mll_succ, HS.out])
          have hl : (mll p xs ys i).length ≤ 4398046511104 := by rw [mll_len]; have := HNM.out; omega
          replace ho := ho.below hB
          clear HS hki
          go_wp2_with (at_builtin; refine wpList_app1 w wr rfl _ _ _ rfl 26 .u64 Tryd.underlying22 info_u64 _ _ (by rfl) ho _ s (by omega) (by rfl) hl ?_)
          intro v1 w9 ho1
          rw [HT.out] at ho1
          clear ho
          go_wp2_with fail
          go_roundw
          case rel => exact ⟨i + 1, by omega, by go_num, ho1⟩
          case measure => simp [intOf]; omega
    · obtain rfl : i = n + m := by omega
      obtain ⟨A5, c5, rfl, hg⟩ := ho.form
      have hlv := Lv.own ho (mll_low (by omega) h xs ys (n + m))
      have hB : Below w.heap.size w wr := ho.2
      have HE := Lib.hid (mll_nrm (p := p) (xs := xs) (ys := ys) (k := n + m) (by rw [HN.out, HM.out]; exact Nat.le_refl _))
      rw [mll_len] at hlv ⊢
      obtain ⟨K, hK⟩ : ∃ K, n + m = K := ⟨_, rfl⟩
      have hKi : (n : Int) + (m : Int) = (K : Int) := by omega
      rw [hK] at hlv HE ⊢
      have hKb := HNM.out
      rw [hK] at hKb
      clear ho hg hi hlt hK
      go_wp2_with fail
      refine (rnorm9_v h2 h hlv (by omega)).mono ?_
      rintro e w6 ⟨A6, n6, c6, rfl, r6, B6⟩
      rw [HE.out] at r6
      go_wp2_with fail
      exact bodyPost_ret (v := .slice A6 n6 c6) (by simp [results, Tryd.results25, go_sem]) rfl ⟨_, _, _, rfl, r6, hB.trans (B6.mono hB.size)⟩
set_option maxRecDepth 100000 in
set_option maxHeartbeats 1000000 in
/-- fpoly.Derive. -/
theorem derive_v {ab p n c : Nat} {A : Option Addr} {xs : List Nat} {w : World} (hp : ab + 2 = p) (h : p < 2147483648) (hx : Lv w A n c xs) (hn : n ≤ 1099511627776) :
    Calls Tryd.prog 39 #[.agg #[.int .u64 (ab : Int)], .slice A n c] w (LPost (nrm p (drl xs)) w) := by
  have HX0 := Lib.hid hx
  have hW := Below.refl w.heap.size w
  obtain ⟨wp0, hwp0⟩ : ∃ xw, xw = w.alloc (.cells #[.int .u64 (ab : Int)] 28) := ⟨_, rfl⟩
  have zp0 : Below w.heap.size w wp0 := by rw [hwp0]; exact zba _ _
  have sp0 : wp0.heap.size = w.heap.size + 1 := by rw [hwp0, World.size_alloc]
  have If : Fb wp0 w.heap.size ab := by rw [hwp0]; exact Fb.new _ _ _
  replace hx := hx.below zp0
  replace hW := hW.trans (zp0.mono hW.size)
  have H_f := Lib.hid If
  clear If zp0
  have HW : Hid ((w.alloc (.cells #[.int .u64 (ab : Int)] 28)) = wp0) := Lib.hid (by rw [hwp0])
  have lw_f : w.heap.size ≤ w.heap.size := by omega
  clear hwp0 sp0
  have h2 : 2 ≤ p := by omega
  have HP := Lib.hid hp
  have HN := Lib.hid hx.len
  have hnc := hx.le
  have hcm := hx.cap
  clear hp
  go_enter Tryd.func39, Tryd.ntmps39
  rcases Nat.eq_zero_or_pos n with rfl | hn0
  · have e : nrm p (drl xs) = [] := by rw [List.length_eq_zero_iff.1 HN.out]; rfl
    have E := Lib.hid e
    clear e
    obtain ⟨f1, f2, f3⟩ := H_f.out
    go_wp2_with fail
    rw [HW.out]
    clear f1 f2 f3
    exact bodyPost_ret (v := (.slice none 0 0)) (by simp [results, Tryd.results39, go_sem]) rfl ⟨none, 0, 0, rfl, by rw [E.out]; exact Lv.nil _, hW⟩
  · skip
    obtain ⟨L, rfl⟩ : ∃ L, n = L + 1 := ⟨n - 1, by omega⟩
    have hne : (((L + 1 : Nat) : Int) == 0) = false := by rw [beq_eq_false_iff_ne]; omega
    have hne2 : ((L : Int) + 1 == 0) = false := by rw [beq_eq_false_iff_ne]; omega
    have HDL : Hid ((drl xs).length = L) := Lib.hid (by rw [drl_length, HN.out]; rfl)
    have hLw : IntKind.i64.wrap (L : Int) = (L : Int) := by rw [IntKind.wrap_i64]; omega
    obtain ⟨f1, f2, f3⟩ := H_f.out
    go_wp2_with (at_make; refine wpList_make_blk _ rfl _ _ 23 rfl 26 .u64 8 Tryd.underlying23 info_u64 _ _ _ _ L rfl rfl (by omega) (by omega) (by omega) (by omega) ?_)
    rw [HW.out]
    intro w1 hb1 hw1 hz1
    rw [show w.heap.size + 1 = wp0.heap.size by rw [← HW.out, World.size_alloc]] at hw1
    clear f1 f2 f3
    obtain ⟨gB, hgB⟩ : ∃ q, w.heap.size + 1 = q := ⟨_, rfl⟩
    have hg1 : w.heap.size < gB := by omega
    rw [hgB] at hb1
    have HB : Hid (Fb w1 w.heap.size ab ∧ Below w.heap.size w w1 ∧ Blk w1 gB 26 .u64 (mdl p L (drl xs) 0)) := Lib.hid ⟨H_f.out.below hw1, hW.trans (hw1.mono hW.size), by rw [mdl_zero]; exact hb1⟩
    rw [hgB]
    clear hW H_f hx hb1 hw1 hz1 hgB HW hne hne2 hLw
    go_wp2_with fail
    go_loopw [16] (fun s16 wr => ∃ k : Nat, s16 = .int .i64 (k : Int) ∧ k ≤ L ∧ Hid (Fb wr w.heap.size ab ∧ Below w.heap.size w wr ∧ Blk wr gB 26 .u64 (mdl p L (drl xs) k))) (fun s16 _ => L - (intOf s16).toNat)
    case atStart => exact ⟨0, rfl, Nat.zero_le _, HB⟩
    case round =>
      clear HB
      obtain ⟨k, rfl, hk, HB⟩ := hrel
      obtain ⟨I1, hW, hb⟩ := HB.out
      have hx := HX0.out.below hW
      have H_f := Lib.hid I1
      clear I1 HB
      by_cases hlt : k < L
      · obtain ⟨ad, rfl, _, c1⟩ := hx.at (k := k + 1) (by omega)
        obtain ⟨k1, hk1⟩ : ∃ q, k + 1 = q := ⟨_, rfl⟩
        have hk1n : k1 < L + 1 := by omega
        obtain ⟨X, hX⟩ : ∃ X, nth xs k1 = X := ⟨_, rfl⟩
        have lX : X < 18446744073709551616 := hX ▸ hx.lt k1
        obtain ⟨R, hR⟩ : ∃ R, k1 * X % p = R := ⟨_, rfl⟩
        have HR := Lib.hid hR
        have HX := Lib.hid hX
        have hl := mdl_len (p := p) (xs := drl xs) (show k ≤ L by omega) (by rw [HDL.out]; omega)
        have W1 : Hid (IntKind.i64.wrap ((k : Int) + 1) = (k1 : Int)) := Lib.hid (by rw [show (k : Int) + 1 = (k1 : Int) by omega, IntKind.wrap_i64]; omega)
        have W2 : Hid (IntKind.u64.wrap (k1 : Int) = (k1 : Int)) := Lib.hid (wrap_small (by omega))
        have HS : Hid ((mdl p L (drl xs) k).set k R = mdl p L (drl xs) (k + 1)) := Lib.hid (by rw [← mdl_step hlt (by rw [HDL.out]; exact hlt), nth_drl, hk1, hX, hR])
        clear c1 hX hR
        obtain ⟨f1, f2, f3⟩ := H_f.out
        go_upto_region 7 with fail
        clear f1 f2 f3
        refine region8 [] 13 [IsK (.slice (some ⟨gB, 0, none⟩) L L), IsK (.int .i64 (k : Int)), IsK (.agg #[.int .u64 (ab : Int)]), IsK (.int .i64 (k : Int)), IsK (.int .i64 (k1 : Int)), IsK (.int .u64 (k1 : Int)), IsK (.slice (some ad) (L + 1) c), IsK (.int .i64 (k : Int)), IsK (.int .i64 (k1 : Int)), IsK (.pointer (some (ad.add k1))), IsK (.int .u64 (X : Int)), IsK (.int .u64 (R : Int)), IsK (.pointer (some ⟨gB, k, none⟩))] (fun _ _ d _ _ h => by cases d <;> exact h) (by kernel_rfl) (by kernel_rfl) (by kernel_rfl) ⟨stay_k _, stay_k _, stay_k _, stay_k _, stay_k _, stay_k _, stay_k _, stay_k _, stay_k _, stay_k _, stay_k _, stay_k _, stay_k _, trivial⟩ ?_ ?_
        · refine HopAll.cons rfl ?_ (HopAll.cons rfl ?_ (HopAll.cons rfl ?_ (HopAll.cons rfl ?_ (HopAll.cons rfl ?_ (HopAll.cons rfl ?_ (HopAll.cons rfl ?_ (HopAll.cons rfl ?_ (HopAll.cons rfl ?_ (HopAll.cons rfl ?_ (HopAll.cons rfl ?_ (HopAll.cons rfl ?_ (HopAll.cons rfl ?_ HopAll.nil))))))))))))
          · intro a w1 hB ho hp K hK
            have e5 : a.eval (.tmp 5) = (.slice (some ⟨gB, 0, none⟩) L L) := ho 5 (by kernel_rfl)
            refine hop_val (wanted_none rfl) ?_ (hK (.slice (some ⟨gB, 0, none⟩) L L) _ rfl (Below.refl _ _))
            unfold execOp; simp only [eval_const, e5]; simp [go_sem]
          · intro a w1 hB ho hp K hK
            have e6 : a.eval (.tmp 6) = (.int .i64 (k : Int)) := ho 6 (by kernel_rfl)
            refine hop_val (wanted_none rfl) ?_ (hK (.int .i64 (k : Int)) _ rfl (Below.refl _ _))
            unfold execOp; simp only [eval_const, e6]; simp [go_sem]
          · intro a w1 hB ho hp K hK
            have e2 : a.eval (.tmp 2) = (.pointer (some ⟨w.heap.size, 0, none⟩)) := ho 2 (by kernel_rfl)
            obtain ⟨u1, u2, u3⟩ := H_f.out.below hB
            exact hop_load (wanted_none rfl) rfl e2 (run_ldf u1) (hK _ _ rfl (Below.refl _ _))
          · intro a w1 hB ho hp K hK
            have e6 : a.eval (.tmp 6) = (.int .i64 (k : Int)) := ho 6 (by kernel_rfl)
            refine hop_val (wanted_none rfl) ?_ (hK (.int .i64 (k : Int)) _ rfl (Below.refl _ _))
            unfold execOp; simp only [eval_const, e6]; simp [go_sem]
          · intro a w1 hB ho hp K hK
            have e22 : a.eval (.tmp 22) = (.int .i64 (k : Int)) := hp 3 22 (by kernel_rfl)
            refine hop_val (wanted_none rfl) ?_ (hK (.int .i64 (k1 : Int)) _ rfl (Below.refl _ _))
            unfold execOp; simp only [eval_const, e22]; simp [go_sem, W1.out]
          · intro a w1 hB ho hp K hK
            have e23 : a.eval (.tmp 23) = (.int .i64 (k1 : Int)) := hp 4 23 (by kernel_rfl)
            refine hop_val (wanted_none rfl) ?_ (hK (.int .u64 (k1 : Int)) _ rfl (Below.refl _ _))
            unfold execOp; simp only [eval_const, e23]; simp [go_sem, W2.out]
          · intro a w1 hB ho hp K hK
            have e1 : a.eval (.tmp 1) = (.slice (some ad) (L + 1) c) := ho 1 (by kernel_rfl)
            refine hop_val (wanted_none rfl) ?_ (hK (.slice (some ad) (L + 1) c) _ rfl (Below.refl _ _))
            unfold execOp; simp only [eval_const, e1]; simp [go_sem]
          · intro a w1 hB ho hp K hK
            have e6 : a.eval (.tmp 6) = (.int .i64 (k : Int)) := ho 6 (by kernel_rfl)
            refine hop_val (wanted_none rfl) ?_ (hK (.int .i64 (k : Int)) _ rfl (Below.refl _ _))
            unfold execOp; simp only [eval_const, e6]; simp [go_sem]
          · intro a w1 hB ho hp K hK
            have e26 : a.eval (.tmp 26) = (.int .i64 (k : Int)) := hp 7 26 (by kernel_rfl)
            refine hop_val (wanted_none rfl) ?_ (hK (.int .i64 (k1 : Int)) _ rfl (Below.refl _ _))
            unfold execOp; simp only [eval_const, e26]; simp [go_sem, W1.out]
          · intro a w1 hB ho hp K hK
            have e25 : a.eval (.tmp 25) = (.slice (some ad) (L + 1) c) := hp 6 25 (by kernel_rfl)
            have e27 : a.eval (.tmp 27) = (.int .i64 (k1 : Int)) := hp 8 27 (by kernel_rfl)
            refine hop_val (wanted_none rfl) ?_ (hK (.pointer (some (ad.add k1))) _ rfl (Below.refl _ _))
            unfold execOp; simp only [eval_const, Option.map_some, Option.map_none, e25, e27]; simp [run_ixp hk1n]
          · intro a w1 hB ho hp K hK
            have e28 : a.eval (.tmp 28) = (.pointer (some (ad.add k1))) := hp 9 28 (by kernel_rfl)
            exact hop_load (wanted_none rfl) rfl e28 (run_ldw (by rw [← HX.out]; exact (hx.below hB).rd.cell rfl (by rw [HN.out]; exact hk1n))) (hK _ _ rfl (Below.refl _ _))
          · intro a w1 hB ho hp K hK
            have e21 : a.eval (.tmp 21) = (.agg #[.int .u64 (ab : Int)]) := hp 2 21 (by kernel_rfl)
            have e24 : a.eval (.tmp 24) = (.int .u64 (k1 : Int)) := hp 5 24 (by kernel_rfl)
            have e29 : a.eval (.tmp 29) = (.int .u64 (X : Int)) := hp 10 29 (by kernel_rfl)
            refine hop_call (wanted_none rfl) rfl (args := #[(.agg #[.int .u64 (ab : Int)]), (.int .u64 (k1 : Int)), (.int .u64 (X : Int))]) (by simp only [List.map_toArray, List.map_cons, List.map_nil, eval_const, e21, e24, e29]) (ent7 (by kernel_rfl) _ _) (fmul_v HP.out h (show k1 < 18446744073709551616 by omega) lX HR.out _) ?_
            rintro e w2 ⟨rfl, B⟩
            exact ⟨_, rfl, hK _ _ rfl B⟩
          · intro a w1 hB ho hp K hK
            have e19 : a.eval (.tmp 19) = (.slice (some ⟨gB, 0, none⟩) L L) := hp 0 19 (by kernel_rfl)
            have e20 : a.eval (.tmp 20) = (.int .i64 (k : Int)) := hp 1 20 (by kernel_rfl)
            refine hop_val (wanted_none rfl) ?_ (hK (.pointer (some ⟨gB, k, none⟩)) _ rfl (Below.refl _ _))
            unfold execOp; simp only [eval_const, Option.map_some, Option.map_none, e19, e20]; simp [run_ixp0 hlt]
        intro w21 B21
        refine EndAll.one rfl fun vv hv => ?_
        obtain rfl : vv = (.slice (some ⟨gB, 0, none⟩) L L) := hv
        refine EndAll.one rfl fun vv hv => ?_
        obtain rfl : vv = (.int .i64 (k : Int)) := hv
        refine EndAll.one rfl fun vv hv => ?_
        obtain rfl : vv = (.agg #[.int .u64 (ab : Int)]) := hv
        refine EndAll.one rfl fun vv hv => ?_
        obtain rfl : vv = (.int .i64 (k : Int)) := hv
        refine EndAll.one rfl fun vv hv => ?_
        obtain rfl : vv = (.int .i64 (k1 : Int)) := hv
        refine EndAll.one rfl fun vv hv => ?_
        obtain rfl : vv = (.int .u64 (k1 : Int)) := hv
        refine EndAll.one rfl fun vv hv => ?_
        obtain rfl : vv = (.slice (some ad) (L + 1) c) := hv
        refine EndAll.one rfl fun vv hv => ?_
        obtain rfl : vv = (.int .i64 (k : Int)) := hv
        refine EndAll.one rfl fun vv hv => ?_
        obtain rfl : vv = (.int .i64 (k1 : Int)) := hv
        refine EndAll.one rfl fun vv hv => ?_
        obtain rfl : vv = (.pointer (some (ad.add k1))) := hv
        refine EndAll.one rfl fun vv hv => ?_
        obtain rfl : vv = (.int .u64 (X : Int)) := hv
        refine EndAll.one rfl fun vv hv => ?_
        obtain rfl : vv = (.int .u64 (R : Int)) := hv
        refine EndAll.one rfl fun vv hv => ?_
        obtain rfl : vv = (.pointer (some ⟨gB, k, none⟩)) := hv
        refine EndAll.nil (l := [_]) rfl ?_
        simp only [Act.put, List.setIfInBounds_toArray, List.set_cons_zero, List.set_cons_succ]
        replace H_f := Lib.hid (H_f.out.below B21)
        replace hx := hx.below B21
        replace hW := hW.trans (B21.mono hW.size)
        replace hb := hb.below B21 hb.lt
        have c1 := hb.cell (j := k) (by rw [hl]; exact hlt)
        have c2 := hb.free k
        have hl3 := hb.lt
        go_wp2_with fail
        have hs := hb.set k R
        rw [HS.out] at hs
        have e9 : (k1 : Int) = ((k + 1 : Nat) : Int) := by omega
        go_roundw
        case rel => exact ⟨k + 1, by go_num, by omega, Lib.hid ⟨Fb.other H_f.out (q := ⟨gB, k, none⟩) (by simp only; omega) _, hW.setCell (p := ⟨gB, k, none⟩) (by simpa using Nat.le_of_lt hg1) _, hs⟩⟩
        case measure => first | (simp [intOf]; done) | (simp [intOf]; omega)
      · obtain rfl : k = L := by omega
        have hl := mdl_len (p := p) (xs := drl xs) (Nat.le_refl k) (by rw [HDL.out]; exact Nat.le_refl _)
        have hv := Lv.blk hb (Nat.le_refl _) (by rw [hl]; omega) (Low.of_any fun j => by have := mdl_low (p := p) (L := k) (xs := drl xs) (k := k) (by omega) (by rw [HDL.out]; exact Nat.le_refl _) j; omega)
        rw [hl] at hv
        have HE : Hid (nrm p (mdl p k (drl xs) k) = nrm p (drl xs)) := Lib.hid (nrm_eq (by have := eqm_mdl (p := p) (L := k) (xs := drl xs); rw [HDL.out] at this; exact this))
        clear hb hl hx
        obtain ⟨f1, f2, f3⟩ := H_f.out
        go_wp2_with fail
        clear f1 f2 f3
        refine (norm_v HP.out h hv (by omega)).mono ?_
        rintro e w6 ⟨A6, n6, c6, rfl, r6, B6⟩
        rw [HE.out] at r6
        go_wp2_with fail
        exact bodyPost_ret (v := .slice A6 n6 c6) (by simp [results, Tryd.results39, go_sem]) rfl ⟨_, _, _, rfl, r6, hW.trans (B6.mono hW.size)⟩
end Go.Proofs.YthigedcpiglmnaaDoor
