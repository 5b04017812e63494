/-
  Package fpoly: DivMod, multiplyBy, power, PowMod.
-/
import Derived.Test.YthigedcpiglmnaaDoorFpD
import Derived.Test.YthigedcpiglmnaaDoorPolD
import Derived.Test.YthigedcpiglmnaaDoorNatB
/-! Contracts of polynomials over a field: division of any lists, powers. -/
namespace Go.Proofs.YthigedcpiglmnaaDoor
open Go.RowKit
set_option linter.unusedVariables false
set_option linter.unusedSimpArgs false

/-- Two polynomials are answered, and a truth. -/
def LLBPost (zs ys : List Nat) (b : Bool) (w : World) (e : Ending) (w' : World) : Prop := ∃ A n c D m d, e = .returned (.tuple #[.slice A n c, .slice D m d, .bool b]) ∧ (Lv w' A n c zs ∧ Lv w' D m d ys) ∧ Below w.heap.size w w'
/-- A polynomial is answered, and a truth. -/
def LBPost (zs : List Nat) (b : Bool) (w : World) (e : Ending) (w' : World) : Prop := ∃ A n c, e = .returned (.tuple #[.slice A n c, .bool b]) ∧ Lv w' A n c zs ∧ Below w.heap.size w w'
def IsPPB (zs ys : List Nat) (b : Bool) : FVal := fun v w => ∃ A n c D m d, v = .tuple #[.slice A n c, .slice D m d, .bool b] ∧ Lv w A n c zs ∧ Lv w D m d ys
theorem stay_ppb (zs ys : List Nat) (b : Bool) : Stays (IsPPB zs ys b) := fun v w w' ⟨A, n, c, D, m, d, e, h, k⟩ hb => ⟨A, n, c, D, m, d, e, h.below hb, k.below hb⟩
set_option maxRecDepth 100000 in
set_option maxHeartbeats 4000000 in
/-- fpoly.DivMod. -/
theorem divmod_v {ab p n c m d : Nat} {A D : Option Addr} {xs ys : List Nat} {w : World} (hp : ab + 2 = p) (h : p < 2147483648) (hx : Lv w A n c xs) (hn : n ≤ 1099511627776) (hy : Lv w D m d ys) (hm : m ≤ 1099511627776) (hpr : MR.Pr p) {b : Bool} (hb : b = true ↔ nrm p ys ≠ []) :
    Calls Tryd.prog 29 #[.agg #[.int .u64 (ab : Int)], .slice A n c, .slice D m d] w (LLBPost (quoP p (nrm p xs) (nrm p ys)) (remP p (nrm p xs) (nrm p ys)) b w) := by
  have hW := Below.refl w.heap.size w
  obtain ⟨wp0, hwp0⟩ : ∃ xw, xw = w.alloc (.cells #[.int .u64 (ab : Int)] 28) := ⟨_, rfl⟩
  have zp0 : Below w.heap.size w wp0 := by rw [hwp0]; exact zba _ _
  have sp0 : wp0.heap.size = w.heap.size + 1 := by rw [hwp0, World.size_alloc]
  have If : Fb wp0 w.heap.size ab := by rw [hwp0]; exact Fb.new _ _ _
  replace hx := hx.below zp0
  replace hy := hy.below zp0
  replace hW := hW.trans (zp0.mono hW.size)
  have H_f := Lib.hid If
  clear If zp0
  have HW : Hid ((w.alloc (.cells #[.int .u64 (ab : Int)] 28)) = wp0) := Lib.hid (by rw [hwp0])
  have lw_f : w.heap.size ≤ w.heap.size := by omega
  clear hwp0 sp0
  have h2 : 2 ≤ p := by omega
  have HP := Lib.hid hp
  have HB0 := Lib.hid hb
  clear hp hb
  go_enter Tryd.func29, Tryd.ntmps29
  obtain ⟨f1, f2, f3⟩ := H_f.out
  go_wp2_with fail
  rw [HW.out]
  clear f1 f2 f3
  refine (norm_v HP.out h hy (by omega)).mono ?_
  rintro e w21 ⟨A21, n21, c21, rfl, hz, B21⟩
  replace H_f := Lib.hid (H_f.out.below B21)
  replace hx := hx.below B21
  replace hy := hy.below B21
  replace hW := hW.trans (B21.mono hW.size)
  clear B21
  have hle := nrm_le p ys
  rw [hy.len] at hle
  have hzl := Lib.hid hz.len
  by_cases h0 : nrm p ys = []
  · obtain rfl : b = false := Bool.eq_false_iff.2 fun e => absurd h0 (HB0.out.1 e)
    obtain rfl : n21 = 0 := by rw [← hzl.out, h0]; rfl
    have hq : quoP p (nrm p xs) (nrm p ys) = [] ∧ remP p (nrm p xs) (nrm p ys) = [] := by rw [h0]; exact dmp_none _
    have HQ := Lib.hid hq
    clear hq
    obtain ⟨f1, f2, f3⟩ := H_f.out
    go_wp2_with fail
    clear f1 f2 f3
    exact bodyPost_ret (v := (.tuple #[.slice none 0 0, .slice none 0 0, .bool false])) (by simp [results, Tryd.results29, go_sem]) rfl ⟨none, 0, 0, none, 0, 0, rfl, ⟨by rw [HQ.out.1]; exact Lv.nil _, by rw [HQ.out.2]; exact Lv.nil _⟩, hW⟩
  · obtain rfl : b = true := HB0.out.2 h0
    have l1 : (nrm p xs).length ≤ 1099511627776 := by have := nrm_le p xs; rw [hx.len] at this; omega
    have hne : ((n21 : Int) == 0) = false := by rw [beq_eq_false_iff_ne]; have := List.length_pos_iff.2 h0; rw [hzl.out] at this; omega
    have hm2 : n21 ≤ 1099511627776 := by rw [← hzl.out]; omega
    have HNE := Lib.hid h0
    clear h0 hle
    obtain ⟨f1, f2, f3⟩ := H_f.out
    go_wp2_with fail
    clear f1 f2 f3
    refine region8 [] 11 [IsK (.agg #[.int .u64 (ab : Int)]), IsK (.agg #[.int .u64 (ab : Int)]), IsK (.slice A n c), IsP (nrm p xs), IsK (.slice A21 n21 c21), IsPP (quoP p (nrm p xs) (nrm p ys)) (remP p (nrm p xs) (nrm p ys)), IsPP (quoP p (nrm p xs) (nrm p ys)) (remP p (nrm p xs) (nrm p ys)), IsP (quoP p (nrm p xs) (nrm p ys)), IsP (remP p (nrm p xs) (nrm p ys)), IsP (quoP p (nrm p xs) (nrm p ys)), IsP (remP p (nrm p xs) (nrm p ys))] (fun _ _ d _ _ h => by cases d <;> exact h) (by kernel_rfl) (by kernel_rfl) (by kernel_rfl) ⟨stay_k _, stay_k _, stay_k _, stay_p _, stay_k _, stay_pp _ _, stay_pp _ _, stay_p _, stay_p _, stay_p _, stay_p _, trivial⟩ ?_ ?_
    · refine HopAll.cons rfl ?_ (HopAll.cons rfl ?_ (HopAll.cons rfl ?_ (HopAll.cons rfl ?_ (HopAll.cons rfl ?_ (HopAll.cons rfl ?_ (HopAll.cons rfl ?_ (HopAll.cons rfl ?_ (HopAll.cons rfl ?_ (HopAll.cons rfl ?_ (HopAll.cons rfl ?_ HopAll.nil))))))))))
      · intro a w1 hB ho hp K hK
        have e3 : a.eval (.tmp 3) = (.pointer (some ⟨w.heap.size, 0, none⟩)) := ho 3 (by kernel_rfl)
        obtain ⟨u1, u2, u3⟩ := H_f.out.below hB
        exact hop_load (wanted_none rfl) rfl e3 (run_ldf u1) (hK _ _ rfl (Below.refl _ _))
      · intro a w1 hB ho hp K hK
        have e3 : a.eval (.tmp 3) = (.pointer (some ⟨w.heap.size, 0, none⟩)) := ho 3 (by kernel_rfl)
        obtain ⟨u1, u2, u3⟩ := H_f.out.below hB
        exact hop_load (wanted_none rfl) rfl e3 (run_ldf u1) (hK _ _ rfl (Below.refl _ _))
      · intro a w1 hB ho hp K hK
        have e1 : a.eval (.tmp 1) = (.slice A n c) := ho 1 (by kernel_rfl)
        refine hop_val (wanted_none rfl) ?_ (hK (.slice A n c) _ rfl (Below.refl _ _))
        unfold execOp; simp only [eval_const, e1]; simp [go_sem]
      · intro a w1 hB ho hp K hK
        have e19 : a.eval (.tmp 19) = (.agg #[.int .u64 (ab : Int)]) := hp 1 19 (by kernel_rfl)
        have e20 : a.eval (.tmp 20) = (.slice A n c) := hp 2 20 (by kernel_rfl)
        refine hop_call (wanted_none rfl) rfl (args := #[(.agg #[.int .u64 (ab : Int)]), (.slice A n c)]) (by simp only [List.map_toArray, List.map_cons, List.map_nil, eval_const, e19, e20]) (ent7 (by kernel_rfl) _ _) (norm_v HP.out h (hx.below hB) (by omega)) ?_
        rintro e w2 ⟨A, n, c, rfl, p, B⟩
        exact ⟨_, rfl, hK _ _ ⟨A, n, c, rfl, p⟩ B⟩
      · intro a w1 hB ho hp K hK
        have e2 : a.eval (.tmp 2) = (.slice A21 n21 c21) := ho 2 (by kernel_rfl)
        refine hop_val (wanted_none rfl) ?_ (hK (.slice A21 n21 c21) _ rfl (Below.refl _ _))
        unfold execOp; simp only [eval_const, e2]; simp [go_sem]
      · intro a w1 hB ho hp K hK
        have e18 : a.eval (.tmp 18) = (.agg #[.int .u64 (ab : Int)]) := hp 0 18 (by kernel_rfl)
        obtain ⟨A_21, n_21, c_21, e21, p21⟩ : IsP (nrm p xs) (a.eval (.tmp 21)) w1 := hp 3 21 (by kernel_rfl)
        have e22 : a.eval (.tmp 22) = (.slice A21 n21 c21) := hp 4 22 (by kernel_rfl)
        refine hop_call (wanted_none rfl) rfl (args := #[(.agg #[.int .u64 (ab : Int)]), (.slice A_21 n_21 c_21), (.slice A21 n21 c21)]) (by simp only [List.map_toArray, List.map_cons, List.map_nil, eval_const, e18, e21, e22]) (ent7 (by kernel_rfl) _ _) (divide_v HP.out h p21 (by rw [← p21.len]; exact l1) (hz.below hB) hm2 hpr (nm_nrm (show 0 < p by omega) xs) (nm_nrm (show 0 < p by omega) ys) HNE.out) ?_
        rintro e w2 ⟨A, n, c, D, m, d, rfl, p, B⟩
        exact ⟨_, rfl, hK _ _ ⟨A, n, c, D, m, d, rfl, p⟩ B⟩
      · intro a w1 hB ho hp K hK
        obtain ⟨A_23, n_23, c_23, D_23, m_23, d_23, e23, p23⟩ : IsPP (quoP p (nrm p xs) (nrm p ys)) (remP p (nrm p xs) (nrm p ys)) (a.eval (.tmp 23)) w1 := hp 5 23 (by kernel_rfl)
        refine hop_val (wanted_none rfl) ?_ (hK (.tuple #[.slice A_23 n_23 c_23, .slice D_23 m_23 d_23]) _ ⟨_, _, _, _, _, _, rfl, p23⟩ (Below.refl _ _))
        unfold execOp; simp only [e23]; simp [go_sem]
      · intro a w1 hB ho hp K hK
        obtain ⟨A_17, n_17, c_17, D_17, m_17, d_17, e17, p17⟩ : IsPP (quoP p (nrm p xs) (nrm p ys)) (remP p (nrm p xs) (nrm p ys)) (a.eval (.tmp 17)) w1 := hp 6 17 (by kernel_rfl)
        refine hop_val (wanted_none rfl) ?_ (hK (.slice A_17 n_17 c_17) _ ⟨_, _, _, rfl, p17.1⟩ (Below.refl _ _))
        unfold execOp; simp only [e17]; simp [go_sem]
      · intro a w1 hB ho hp K hK
        obtain ⟨A_17, n_17, c_17, D_17, m_17, d_17, e17, p17⟩ : IsPP (quoP p (nrm p xs) (nrm p ys)) (remP p (nrm p xs) (nrm p ys)) (a.eval (.tmp 17)) w1 := hp 6 17 (by kernel_rfl)
        refine hop_val (wanted_none rfl) ?_ (hK (.slice D_17 m_17 d_17) _ ⟨_, _, _, rfl, p17.2⟩ (Below.refl _ _))
        unfold execOp; simp only [e17]; simp [go_sem]
      · intro a w1 hB ho hp K hK
        obtain ⟨A_24, n_24, c_24, e24, p24⟩ : IsP (quoP p (nrm p xs) (nrm p ys)) (a.eval (.tmp 24)) w1 := hp 7 24 (by kernel_rfl)
        refine hop_val (wanted_none rfl) ?_ (hK (.slice A_24 n_24 c_24) _ ⟨_, _, _, rfl, p24⟩ (Below.refl _ _))
        unfold execOp; simp only [e24]; simp [go_sem]
      · intro a w1 hB ho hp K hK
        obtain ⟨A_25, n_25, c_25, e25, p25⟩ : IsP (remP p (nrm p xs) (nrm p ys)) (a.eval (.tmp 25)) w1 := hp 8 25 (by kernel_rfl)
        refine hop_val (wanted_none rfl) ?_ (hK (.slice A_25 n_25 c_25) _ ⟨_, _, _, rfl, p25⟩ (Below.refl _ _))
        unfold execOp; simp only [e25]; simp [go_sem]
    intro w22 B22
    refine EndAll.one rfl fun vv hv => ?_
    obtain rfl : vv = (.agg #[.int .u64 (ab : Int)]) := hv
    refine EndAll.one rfl fun vv hv => ?_
    obtain rfl : vv = (.agg #[.int .u64 (ab : Int)]) := hv
    refine EndAll.one rfl fun vv hv => ?_
    obtain rfl : vv = (.slice A n c) := hv
    refine EndAll.one rfl fun vv hv => ?_
    obtain ⟨A23, n23, c23, rfl, p23⟩ : IsP (nrm p xs) vv w22 := hv
    refine EndAll.one rfl fun vv hv => ?_
    obtain rfl : vv = (.slice A21 n21 c21) := hv
    refine EndAll.one rfl fun vv hv => ?_
    obtain ⟨A24, n24, c24, D24, m24, d24, rfl, p24⟩ : IsPP (quoP p (nrm p xs) (nrm p ys)) (remP p (nrm p xs) (nrm p ys)) vv w22 := hv
    refine EndAll.one rfl fun vv hv => ?_
    obtain ⟨A25, n25, c25, D25, m25, d25, rfl, p25⟩ : IsPP (quoP p (nrm p xs) (nrm p ys)) (remP p (nrm p xs) (nrm p ys)) vv w22 := hv
    refine EndAll.one rfl fun vv hv => ?_
    obtain ⟨A26, n26, c26, rfl, p26⟩ : IsP (quoP p (nrm p xs) (nrm p ys)) vv w22 := hv
    refine EndAll.one rfl fun vv hv => ?_
    obtain ⟨A27, n27, c27, rfl, p27⟩ : IsP (remP p (nrm p xs) (nrm p ys)) vv w22 := hv
    refine EndAll.one rfl fun vv hv => ?_
    obtain ⟨A28, n28, c28, rfl, p28⟩ : IsP (quoP p (nrm p xs) (nrm p ys)) vv w22 := hv
    refine EndAll.one rfl fun vv hv => ?_
    obtain ⟨A29, n29, c29, rfl, p29⟩ : IsP (remP p (nrm p xs) (nrm p ys)) vv w22 := hv
    refine EndAll.nil (l := []) rfl ?_
    simp only [Act.put, List.setIfInBounds_toArray, List.set_cons_zero, List.set_cons_succ]
    replace H_f := Lib.hid (H_f.out.below B22)
    replace hx := hx.below B22
    replace hy := hy.below B22
    replace hz := hz.below B22
    replace hW := hW.trans (B22.mono hW.size)
    have rq := p28
    have rr := p29
    clear p23 p24 p25 p26 p27 p28 p29
    clear B22
    obtain ⟨f1, f2, f3⟩ := H_f.out
    go_wp2_with fail
    clear f1 f2 f3
    exact bodyPost_ret (v := (.tuple #[.slice A28 n28 c28, .slice A29 n29 c29, .bool true])) (by simp [results, Tryd.results29, go_sem]) rfl ⟨_, _, _, _, _, _, rfl, ⟨rq, rr⟩, hW⟩
set_option maxRecDepth 100000 in
set_option maxHeartbeats 4000000 in
/-- fpoly.multiplyBy, of normal lists. -/
theorem mulby_z {ab p n c m d : Nat} {A D : Option Addr} {xs ys : List Nat} {w : World} (hp : ab + 2 = p) (h : p < 2147483648) (hx : Lv w A n c xs) (hn : n ≤ 549755813888) (hy : Lv w D m d ys) (hm : m ≤ 549755813888) {E : Option Addr} {k2 e2 : Nat} {ms : List Nat} (hz : Lv w E k2 e2 ms) (hk2 : k2 ≤ 549755813888) (hpr : MR.Pr p) (nx : Nm p xs) (ny : Nm p ys) (nm : Nm p ms) (m0 : ms ≠ []) :
    Calls Tryd.prog 64 #[.agg #[.int .u64 (ab : Int)], .slice A n c, .slice D m d, .slice E k2 e2] w (LZ (remP p (mulp p xs ys) ms) w) := by
  have hW := Below.refl w.heap.size w
  obtain ⟨wp0, hwp0⟩ : ∃ xw, xw = w.alloc (.cells #[.int .u64 (ab : Int)] 28) := ⟨_, rfl⟩
  have zp0 : Below w.heap.size w wp0 := by rw [hwp0]; exact zba _ _
  have sp0 : wp0.heap.size = w.heap.size + 1 := by rw [hwp0, World.size_alloc]
  have If : Fb wp0 w.heap.size ab := by rw [hwp0]; exact Fb.new _ _ _
  replace hx := hx.below zp0
  replace hy := hy.below zp0
  replace hz := hz.below zp0
  replace hW := hW.trans (zp0.mono hW.size)
  have H_f := Lib.hid If
  clear If zp0
  have HW : Hid ((w.alloc (.cells #[.int .u64 (ab : Int)] 28)) = wp0) := Lib.hid (by rw [hwp0])
  have lw_f : w.heap.size ≤ w.heap.size := by omega
  clear hwp0 sp0
  have h2 : 2 ≤ p := by omega
  have HP := Lib.hid hp
  have hl1 : (mulp p xs ys).length ≤ 1099511627776 := by have := mulp_le p xs ys; rw [hx.len, hy.len] at this; omega
  clear hp
  go_enter Tryd.func64, Tryd.ntmps64
  obtain ⟨f1, f2, f3⟩ := H_f.out
  go_wp2_with fail
  rw [HW.out]
  clear f1 f2 f3
  refine region8 [] 12 [IsK (.agg #[.int .u64 (ab : Int)]), IsK (.agg #[.int .u64 (ab : Int)]), IsK (.slice A n c), IsK (.slice D m d), IsP (mulp p xs ys), IsK (.slice E k2 e2), IsPPz w.heap.size (quoP p (mulp p xs ys) ms) (remP p (mulp p xs ys) ms), IsPPz w.heap.size (quoP p (mulp p xs ys) ms) (remP p (mulp p xs ys) ms), IsP (quoP p (mulp p xs ys) ms), IsPz w.heap.size (remP p (mulp p xs ys) ms), IsP (quoP p (mulp p xs ys) ms), IsPz w.heap.size (remP p (mulp p xs ys) ms)] (fun _ _ d _ _ h => by cases d <;> exact h) (by kernel_rfl) (by kernel_rfl) (by kernel_rfl) ⟨stay_k _, stay_k _, stay_k _, stay_k _, stay_p _, stay_k _, stay_ppz _ _ _, stay_ppz _ _ _, stay_p _, stay_pz _ _, stay_p _, stay_pz _ _, trivial⟩ ?_ ?_
  · refine HopAll.cons rfl ?_ (HopAll.cons rfl ?_ (HopAll.cons rfl ?_ (HopAll.cons rfl ?_ (HopAll.cons rfl ?_ (HopAll.cons rfl ?_ (HopAll.cons rfl ?_ (HopAll.cons rfl ?_ (HopAll.cons rfl ?_ (HopAll.cons rfl ?_ (HopAll.cons rfl ?_ (HopAll.cons rfl ?_ HopAll.nil)))))))))))
    · intro a w1 hB ho hp K hK
      have e4 : a.eval (.tmp 4) = (.pointer (some ⟨w.heap.size, 0, none⟩)) := ho 4 (by kernel_rfl)
      obtain ⟨u1, u2, u3⟩ := H_f.out.below hB
      exact hop_load (wanted_none rfl) rfl e4 (run_ldf u1) (hK _ _ rfl (Below.refl _ _))
    · intro a w1 hB ho hp K hK
      have e4 : a.eval (.tmp 4) = (.pointer (some ⟨w.heap.size, 0, none⟩)) := ho 4 (by kernel_rfl)
      obtain ⟨u1, u2, u3⟩ := H_f.out.below hB
      exact hop_load (wanted_none rfl) rfl e4 (run_ldf u1) (hK _ _ rfl (Below.refl _ _))
    · intro a w1 hB ho hp K hK
      have e1 : a.eval (.tmp 1) = (.slice A n c) := ho 1 (by kernel_rfl)
      refine hop_val (wanted_none rfl) ?_ (hK (.slice A n c) _ rfl (Below.refl _ _))
      unfold execOp; simp only [eval_const, e1]; simp [go_sem]
    · intro a w1 hB ho hp K hK
      have e2 : a.eval (.tmp 2) = (.slice D m d) := ho 2 (by kernel_rfl)
      refine hop_val (wanted_none rfl) ?_ (hK (.slice D m d) _ rfl (Below.refl _ _))
      unfold execOp; simp only [eval_const, e2]; simp [go_sem]
    · intro a w1 hB ho hp K hK
      have e13 : a.eval (.tmp 13) = (.agg #[.int .u64 (ab : Int)]) := hp 1 13 (by kernel_rfl)
      have e14 : a.eval (.tmp 14) = (.slice A n c) := hp 2 14 (by kernel_rfl)
      have e15 : a.eval (.tmp 15) = (.slice D m d) := hp 3 15 (by kernel_rfl)
      refine hop_call (wanted_none rfl) rfl (args := #[(.agg #[.int .u64 (ab : Int)]), (.slice A n c), (.slice D m d)]) (by simp only [List.map_toArray, List.map_cons, List.map_nil, eval_const, e13, e14, e15]) (ent7 (by kernel_rfl) _ _) (mulN_v HP.out h (hx.below hB) (by omega) (hy.below hB) (by omega) nx.1 ny.1) ?_
      rintro e w2 ⟨A, n, c, rfl, p, B⟩
      exact ⟨_, rfl, hK _ _ ⟨A, n, c, rfl, p⟩ B⟩
    · intro a w1 hB ho hp K hK
      have e3 : a.eval (.tmp 3) = (.slice E k2 e2) := ho 3 (by kernel_rfl)
      refine hop_val (wanted_none rfl) ?_ (hK (.slice E k2 e2) _ rfl (Below.refl _ _))
      unfold execOp; simp only [eval_const, e3]; simp [go_sem]
    · intro a w1 hB ho hp K hK
      have e12 : a.eval (.tmp 12) = (.agg #[.int .u64 (ab : Int)]) := hp 0 12 (by kernel_rfl)
      obtain ⟨A_16, n_16, c_16, e16, p16⟩ : IsP (mulp p xs ys) (a.eval (.tmp 16)) w1 := hp 4 16 (by kernel_rfl)
      have e17 : a.eval (.tmp 17) = (.slice E k2 e2) := hp 5 17 (by kernel_rfl)
      refine hop_call (wanted_none rfl) rfl (args := #[(.agg #[.int .u64 (ab : Int)]), (.slice A_16 n_16 c_16), (.slice E k2 e2)]) (by simp only [List.map_toArray, List.map_cons, List.map_nil, eval_const, e12, e16, e17]) (ent7 (by kernel_rfl) _ _) (divide_z HP.out h p16 (by rw [← p16.len]; exact hl1) (hz.below hB) (by omega) hpr (nm_mulp (show 0 < p by omega) xs ys) nm m0) ?_
      rintro e w2 ⟨A, n, c, D, m, d, rfl, ⟨p, q, z⟩, B⟩
      exact ⟨_, rfl, hK _ _ ⟨A, n, c, D, m, d, rfl, p, q, z.mono (by have := hB.size; have := hW.size; omega)⟩ B⟩
    · intro a w1 hB ho hp K hK
      obtain ⟨A_18, n_18, c_18, D_18, m_18, d_18, e18, p18⟩ : IsPPz w.heap.size (quoP p (mulp p xs ys) ms) (remP p (mulp p xs ys) ms) (a.eval (.tmp 18)) w1 := hp 6 18 (by kernel_rfl)
      refine hop_val (wanted_none rfl) ?_ (hK (.tuple #[.slice A_18 n_18 c_18, .slice D_18 m_18 d_18]) _ ⟨_, _, _, _, _, _, rfl, p18⟩ (Below.refl _ _))
      unfold execOp; simp only [e18]; simp [go_sem]
    · intro a w1 hB ho hp K hK
      obtain ⟨A_11, n_11, c_11, D_11, m_11, d_11, e11, p11⟩ : IsPPz w.heap.size (quoP p (mulp p xs ys) ms) (remP p (mulp p xs ys) ms) (a.eval (.tmp 11)) w1 := hp 7 11 (by kernel_rfl)
      refine hop_val (wanted_none rfl) ?_ (hK (.slice A_11 n_11 c_11) _ ⟨_, _, _, rfl, p11.1⟩ (Below.refl _ _))
      unfold execOp; simp only [e11]; simp [go_sem]
    · intro a w1 hB ho hp K hK
      obtain ⟨A_11, n_11, c_11, D_11, m_11, d_11, e11, p11⟩ : IsPPz w.heap.size (quoP p (mulp p xs ys) ms) (remP p (mulp p xs ys) ms) (a.eval (.tmp 11)) w1 := hp 7 11 (by kernel_rfl)
      refine hop_val (wanted_none rfl) ?_ (hK (.slice D_11 m_11 d_11) _ ⟨_, _, _, rfl, p11.2.1, p11.2.2⟩ (Below.refl _ _))
      unfold execOp; simp only [e11]; simp [go_sem]
    · intro a w1 hB ho hp K hK
      obtain ⟨A_19, n_19, c_19, e19, p19⟩ : IsP (quoP p (mulp p xs ys) ms) (a.eval (.tmp 19)) w1 := hp 8 19 (by kernel_rfl)
      refine hop_val (wanted_none rfl) ?_ (hK (.slice A_19 n_19 c_19) _ ⟨_, _, _, rfl, p19⟩ (Below.refl _ _))
      unfold execOp; simp only [e19]; simp [go_sem]
    · intro a w1 hB ho hp K hK
      obtain ⟨A_20, n_20, c_20, e20, p20⟩ : IsPz w.heap.size (remP p (mulp p xs ys) ms) (a.eval (.tmp 20)) w1 := hp 9 20 (by kernel_rfl)
      refine hop_val (wanted_none rfl) ?_ (hK (.slice A_20 n_20 c_20) _ ⟨_, _, _, rfl, p20⟩ (Below.refl _ _))
      unfold execOp; simp only [e20]; simp [go_sem]
  intro w21 B21
  refine EndAll.one rfl fun vv hv => ?_
  obtain rfl : vv = (.agg #[.int .u64 (ab : Int)]) := hv
  refine EndAll.one rfl fun vv hv => ?_
  obtain rfl : vv = (.agg #[.int .u64 (ab : Int)]) := hv
  refine EndAll.one rfl fun vv hv => ?_
  obtain rfl : vv = (.slice A n c) := hv
  refine EndAll.one rfl fun vv hv => ?_
  obtain rfl : vv = (.slice D m d) := hv
  refine EndAll.one rfl fun vv hv => ?_
  obtain ⟨A22, n22, c22, rfl, p22⟩ : IsP (mulp p xs ys) vv w21 := hv
  refine EndAll.one rfl fun vv hv => ?_
  obtain rfl : vv = (.slice E k2 e2) := hv
  refine EndAll.one rfl fun vv hv => ?_
  obtain ⟨A23, n23, c23, D23, m23, d23, rfl, p23⟩ : IsPPz w.heap.size (quoP p (mulp p xs ys) ms) (remP p (mulp p xs ys) ms) vv w21 := hv
  refine EndAll.one rfl fun vv hv => ?_
  obtain ⟨A24, n24, c24, D24, m24, d24, rfl, p24⟩ : IsPPz w.heap.size (quoP p (mulp p xs ys) ms) (remP p (mulp p xs ys) ms) vv w21 := hv
  refine EndAll.one rfl fun vv hv => ?_
  obtain ⟨A25, n25, c25, rfl, p25⟩ : IsP (quoP p (mulp p xs ys) ms) vv w21 := hv
  refine EndAll.one rfl fun vv hv => ?_
  obtain ⟨A26, n26, c26, rfl, p26⟩ : IsPz w.heap.size (remP p (mulp p xs ys) ms) vv w21 := hv
  refine EndAll.one rfl fun vv hv => ?_
  obtain ⟨A27, n27, c27, rfl, p27⟩ : IsP (quoP p (mulp p xs ys) ms) vv w21 := hv
  refine EndAll.one rfl fun vv hv => ?_
  obtain ⟨A28, n28, c28, rfl, p28⟩ : IsPz w.heap.size (remP p (mulp p xs ys) ms) vv w21 := hv
  refine EndAll.nil (l := []) rfl ?_
  simp only [Act.put, List.setIfInBounds_toArray, List.set_cons_zero, List.set_cons_succ]
  replace H_f := Lib.hid (H_f.out.below B21)
  replace hx := hx.below B21
  replace hy := hy.below B21
  replace hz := hz.below B21
  replace hW := hW.trans (B21.mono hW.size)
  have rr := p28
  clear p22 p23 p24 p25 p26 p27 p28
  clear B21
  obtain ⟨f1, f2, f3⟩ := H_f.out
  go_wp2_with fail
  clear f1 f2 f3
  exact bodyPost_ret (v := (.slice A28 n28 c28)) (by simp [results, Tryd.results64, go_sem]) rfl ⟨_, _, _, rfl, rr, hW⟩
theorem mulby_v {ab p n c m d : Nat} {A D : Option Addr} {xs ys : List Nat} {w : World} (hp : ab + 2 = p) (h : p < 2147483648) (hx : Lv w A n c xs) (hn : n ≤ 549755813888) (hy : Lv w D m d ys) (hm : m ≤ 549755813888) {E : Option Addr} {k2 e2 : Nat} {ms : List Nat} (hz : Lv w E k2 e2 ms) (hk2 : k2 ≤ 549755813888) (hpr : MR.Pr p) (nx : Nm p xs) (ny : Nm p ys) (nm : Nm p ms) (m0 : ms ≠ []) :
    Calls Tryd.prog 64 #[.agg #[.int .u64 (ab : Int)], .slice A n c, .slice D m d, .slice E k2 e2] w (LPost (remP p (mulp p xs ys) ms) w) := (mulby_z hp h hx hn hy hm hz hk2 hpr nx ny nm m0).mono fun _ _ h => h.post
theorem low_one : Low 18446744073709551616 [1] := fun k hk => by
  have : k = 0 := by simp at hk; omega
  subst this; decide
theorem own_one (w : World) : OwnV w (w.alloc (.cells #[.int .u64 1] 26)) 26 .u64 (.slice (some ⟨w.heap.size, 0, none⟩) 1 1) [1] :=
  ⟨⟨rfl, .inr ⟨w.heap.size, 1, #[.int .u64 1], rfl, Nat.le_refl _, heap_alloc_new w _, Nat.le_refl _, by unfold maxLen; omega, rfl, rfl⟩⟩, zba w _⟩
theorem Lv.own {w w' : World} {A : Option Addr} {n c : Nat} {xs : List Nat} (h : OwnV w w' 26 .u64 (.slice A n c) xs) (hl : Low 18446744073709551616 xs) : Lv w' A n c xs := by
  obtain ⟨A1, c1, e, hg⟩ := h.form
  injection e with e1 e2 e3
  subst e1; subst e2; subst e3
  exact ⟨hg.rd, rfl, hg.cap.1, by have := hg.cap.2; unfold maxLen at this; omega, hl⟩
theorem lv_one (w : World) : Lv (w.alloc (.cells #[.int .u64 1] 26)) (some ⟨w.heap.size, 0, none⟩) 1 1 [1] := Lv.own (own_one w) low_one
theorem rem_len {p : Nat} (hp : MR.Pr p) (a : List Nat) {m : List Nat} (hm : Nm p m) (m0 : m ≠ []) : (remP p a m).length ≤ m.length := Nat.le_of_lt (dm_spec hp (a := a) hm m0).lt
theorem bit_split {n k : Nat} : n / 2 ^ k = 2 * (n / 2 ^ (k + 1)) + n / 2 ^ k % 2 := by
  rw [Nat.pow_succ, ← Nat.div_div_eq_div_mul]; omega
set_option maxRecDepth 100000 in
set_option maxHeartbeats 4000000 in
/-- fpoly.power, of normal lists. -/
theorem power9_z {ab p n c m d e : Nat} {A D : Option Addr} {xs ms : List Nat} {w : World} (hp : ab + 2 = p) (h : p < 2147483648) (hx : Lv w A n c xs) (hn : n ≤ 549755813888) (hz : Lv w D m d ms) (hm : m ≤ 549755813888) (he : e < 18446744073709551616) (hpr : MR.Pr p) (nx : Nm p xs) (nm : Nm p ms) (m0 : ms ≠ []) :
    Calls Tryd.prog 55 #[.agg #[.int .u64 (ab : Int)], .slice A n c, .int .u64 (e : Int), .slice D m d] w (LZ (remP p (pw p xs e) ms) w) := by
  have HZ0 := Lib.hid hz
  have hW := Below.refl w.heap.size w
  obtain ⟨wp0, hwp0⟩ : ∃ xw, xw = w.alloc (.cells #[.int .u64 (ab : Int)] 28) := ⟨_, rfl⟩
  have zp0 : Below w.heap.size w wp0 := by rw [hwp0]; exact zba _ _
  have sp0 : wp0.heap.size = w.heap.size + 1 := by rw [hwp0, World.size_alloc]
  have If : Fb wp0 w.heap.size ab := by rw [hwp0]; exact Fb.new _ _ _
  replace hx := hx.below zp0
  replace hz := hz.below zp0
  replace hW := hW.trans (zp0.mono hW.size)
  have H_f := Lib.hid If
  clear If zp0
  have HW : Hid ((w.alloc (.cells #[.int .u64 (ab : Int)] 28)) = wp0) := Lib.hid (by rw [hwp0])
  have lw_f : w.heap.size ≤ w.heap.size := by omega
  clear hwp0 sp0
  have h2 : 2 ≤ p := by omega
  have HP := Lib.hid hp
  have HM := Lib.hid hz.len
  have HNM := Lib.hid nm
  have HM0 := Lib.hid m0
  have hr2 : ∀ us, (remP p us ms).length ≤ 549755813888 := fun us => by have := rem_len hpr us nm m0; rw [hz.len] at this; omega
  have HR2 := Lib.hid hr2
  clear hp nm m0 hr2
  go_enter Tryd.func55, Tryd.ntmps55
  obtain ⟨f1, f2, f3⟩ := H_f.out
  go_wp2_with fail
  rw [HW.out]
  clear f1 f2 f3
  refine (divide_v HP.out h hx (by omega) hz (by omega) hpr nx HNM.out HM0.out).mono ?_
  rintro e w1 ⟨A1, n1, c1, D1, m1, d1, rfl, ⟨rq, rb⟩, B1⟩
  replace H_f := Lib.hid (H_f.out.below B1)
  replace hx := hx.below B1
  replace hz := hz.below B1
  replace hW := hW.trans (B1.mono hW.size)
  clear B1 rq hx
  obtain ⟨f1, f2, f3⟩ := H_f.out
  go_wp2_with fail
  clear f1 f2 f3
  obtain ⟨w2, hw2⟩ : ∃ xw, xw = w1.alloc (.cells #[.int .u64 1] 26) := ⟨_, rfl⟩
  have h1 := lv_one w1
  have B2 : Below w1.heap.size w1 w2 := by rw [hw2]; exact zba _ _
  rw [← hw2] at h1 ⊢
  replace H_f := Lib.hid (H_f.out.below B2)
  replace hz := hz.below B2
  replace rb := rb.below B2
  replace hW := hW.trans (B2.mono hW.size)
  clear B2 hw2
  refine (divide_z HP.out h h1 (by omega) hz (by omega) hpr (nm_one hpr) HNM.out HM0.out).mono ?_
  rintro e w3 ⟨A3, n3, c3, D3, m3, d3, rfl, ⟨rq, rr, rz⟩, B3⟩
  replace rz := rz.mono (b := w.heap.size) hW.size
  replace H_f := Lib.hid (H_f.out.below B3)
  replace hz := hz.below B3
  replace rb := rb.below B3
  replace hW := hW.trans (B3.mono hW.size)
  clear B3 rq h1
  obtain ⟨f1, f2, f3⟩ := H_f.out
  go_wp2_with fail
  clear f1 f2 f3
  refine (len64_calls e he w3).mono ?_
  rintro e w4 ⟨rfl, rfl⟩
  have hbl : bl e ≤ 64 := bl_le.2 he
  obtain ⟨L, hL⟩ : ∃ L, bl e = L := ⟨_, rfl⟩
  rw [hL] at hbl ⊢
  have hLz : e / 2 ^ L = 0 := Nat.div_eq_of_lt (bl_le.1 (Nat.le_of_eq hL))
  have hone : nrm p [1] = [1] := nrm_of (by omega) (nm_one hpr)
  have HB : Hid (Fb w3 w.heap.size ab ∧ Below w.heap.size w w3 ∧ Lv w3 D1 m1 d1 (remP p xs ms) ∧ ∃ A n c, Value.slice D3 m3 d3 = .slice A n c ∧ Lv w3 A n c (remP p (pw p xs (e / 2 ^ L)) ms) ∧ Nz w.heap.size w3 A) := Lib.hid ⟨H_f.out, hW, rb, _, _, _, rfl, by rw [hLz]; unfold pw; rw [hone]; exact rr, rz⟩
  clear hW H_f rb rr hz hL hLz hone
  have hbi : ((L : Int) - 1) = ((L : Int) - 1) := rfl
  clear hbi
  go_wp2_with fail
  go_loopw [12, 13] (fun s12 s13 wr => ∃ k : Nat, s13 = .int .i64 ((k : Int) - 1) ∧ k ≤ L ∧ Hid (Fb wr w.heap.size ab ∧ Below w.heap.size w wr ∧ Lv wr D1 m1 d1 (remP p xs ms) ∧ ∃ A n c, s12 = .slice A n c ∧ Lv wr A n c (remP p (pw p xs (e / 2 ^ k)) ms) ∧ Nz w.heap.size wr A)) (fun _ s13 _ => (intOf s13 + 1).toNat)
  case atStart => exact ⟨L, rfl, Nat.le_refl _, HB⟩
  case round =>
    clear HB
    obtain ⟨k, rfl, hk, HB⟩ := hrel
    obtain ⟨I1, hW, rb, A5, n5, c5, rfl, rr, rz⟩ := HB.out
    have hz := HZ0.out.below hW
    have H_f := Lib.hid I1
    clear I1 HB
    rcases Nat.eq_zero_or_pos k with rfl | hk0
    · rw [Nat.pow_zero, Nat.div_one] at rr
      obtain ⟨f1, f2, f3⟩ := H_f.out
      go_wp2_with fail
      clear f1 f2 f3
      exact bodyPost_ret (v := (.slice A5 n5 c5)) (by simp [results, Tryd.results55, go_sem]) rfl ⟨_, _, _, rfl, ⟨rr, rz⟩, hW⟩
    · obtain ⟨k, rfl⟩ : ∃ q, k = q + 1 := ⟨k - 1, by omega⟩
      have e5 : (((k + 1 : Nat) : Int) - 1) = (k : Int) := by omega
      rw [e5]
      have hr5 := HR2.out (pw p xs (e / 2 ^ (k + 1)))
      rw [rr.len] at hr5
      have hr1 := HR2.out xs
      rw [rb.len] at hr1
      have nr5 := rem_nm hpr (pw p xs (e / 2 ^ (k + 1))) HNM.out HM0.out
      have nr1 := rem_nm hpr xs HNM.out HM0.out
      have HEV := Lib.hid (pow_even hpr xs HNM.out HM0.out (e / 2 ^ (k + 1)))
      have HNR5 := Lib.hid nr5
      have HNR1 := Lib.hid nr1
      have hz1 : (e / 2 ^ k) % 2 < 2 := Nat.mod_lt _ (by omega)
      have hbs : Hid (e / 2 ^ k = 2 * (e / 2 ^ (k + 1)) + (e / 2 ^ k) % 2) := Lib.hid bit_split
      obtain ⟨bt, hbt⟩ : ∃ bt, (e / 2 ^ k) % 2 = bt := ⟨_, rfl⟩
      rw [hbt] at hbs hz1
      have hand : bits BinOp.and IntKind.u64 ((e : Int) / 2 ^ k) 1 = (bt : Int) := by
        rw [show (e : Int) / 2 ^ k = ((e / 2 ^ k : Nat) : Int) by rw [Int.natCast_ediv, Int.natCast_pow]; rfl, and_one (Nat.lt_of_le_of_lt (Nat.div_le_self _ _) he), hbt]
      have HAND := Lib.hid hand
      clear nr5 nr1 e5 hand hbt
      obtain ⟨f1, f2, f3⟩ := H_f.out
      go_wp2_with fail
      clear f1 f2 f3
      refine (mulby_z HP.out h rr hr5 rr hr5 hz (by omega) hpr HNR5.out HNR5.out HNM.out HM0.out).mono ?_
      rintro e6 w6 ⟨A6, n6, c6, rfl, ⟨r6, z6⟩, B6⟩
      replace z6 := z6.mono (b := w.heap.size) hW.size
      rw [HEV.out] at r6
      replace H_f := Lib.hid (H_f.out.below B6)
      replace rb := rb.below B6
      replace rr := rr.below B6
      replace hz := hz.below B6
      replace hW := hW.trans (B6.mono hW.size)
      clear B6 HEV rr
      rcases Nat.lt_or_ge bt 1 with hb0 | hb1
      · skip
        obtain rfl : bt = 0 := by omega
        have hand : (bits BinOp.and IntKind.u64 ((e : Int) / 2 ^ k) 1 == 1) = false := by rw [HAND.out]; rfl
        go_wp2_with fail
        go_roundw
        case rel => exact ⟨k, by go_num, by omega, Lib.hid ⟨H_f.out, hW, rb, _, _, _, rfl, by rw [hbs.out]; exact r6, z6⟩⟩
        case measure => first | (simp [intOf]; done) | (simp [intOf]; omega)
      · skip
        obtain rfl : bt = 1 := by omega
        have hand : (bits BinOp.and IntKind.u64 ((e : Int) / 2 ^ k) 1 == 1) = true := by rw [HAND.out]; rfl
        have hr6 := HR2.out (pw p xs (2 * (e / 2 ^ (k + 1))))
        rw [r6.len] at hr6
        have HNR6 := Lib.hid (rem_nm hpr (pw p xs (2 * (e / 2 ^ (k + 1)))) HNM.out HM0.out)
        have HOD := Lib.hid (pow_odd hpr xs HNM.out HM0.out (2 * (e / 2 ^ (k + 1))))
        obtain ⟨f1, f2, f3⟩ := H_f.out
        go_wp2_with fail
        clear f1 f2 f3
        refine (mulby_z HP.out h rb hr1 r6 hr6 hz (by omega) hpr HNR1.out HNR6.out HNM.out HM0.out).mono ?_
        rintro e7 w7 ⟨A7, n7, c7, rfl, ⟨r7, z7⟩, B7⟩
        replace z7 := z7.mono (b := w.heap.size) hW.size
        rw [HOD.out] at r7
        replace H_f := Lib.hid (H_f.out.below B7)
        replace rb := rb.below B7
        replace hz := hz.below B7
        replace r6 := r6.below B7
        replace hW := hW.trans (B7.mono hW.size)
        clear B7 HOD r6
        go_wp2_with fail
        go_roundw
        case rel => exact ⟨k, by go_num, by omega, Lib.hid ⟨H_f.out, hW, rb, _, _, _, rfl, by rw [hbs.out]; exact r7, z7⟩⟩
        case measure => first | (simp [intOf]; done) | (simp [intOf]; omega)
theorem power9_v {ab p n c m d e : Nat} {A D : Option Addr} {xs ms : List Nat} {w : World} (hp : ab + 2 = p) (h : p < 2147483648) (hx : Lv w A n c xs) (hn : n ≤ 549755813888) (hz : Lv w D m d ms) (hm : m ≤ 549755813888) (he : e < 18446744073709551616) (hpr : MR.Pr p) (nx : Nm p xs) (nm : Nm p ms) (m0 : ms ≠ []) :
    Calls Tryd.prog 55 #[.agg #[.int .u64 (ab : Int)], .slice A n c, .int .u64 (e : Int), .slice D m d] w (LPost (remP p (pw p xs e) ms) w) := (power9_z hp h hx hn hz hm he hpr nx nm m0).mono fun _ _ h => h.post
end Go.Proofs.YthigedcpiglmnaaDoor
