/-
  The reference of layer 7; awake.
-/
import Derived.Test.YtfpncmhaoadfdaaGreatRatE
/-! Contracts: quincunxref07; awake. -/
namespace Go.Proofs.YtfpncmhaoadfdaaGreat
open Go.RowKit
set_option linter.unusedVariables false
set_option linter.unusedSimpArgs false

/-- A whole number, in whatever form, is answered. -/
def VPost (z : Int) (k : Nat) (w : World) (e : Ending) (w' : World) : Prop :=
  ∃ s A n c, e = .returned (.agg #[.bool s, .slice A n c]) ∧ Zv w' s A n c z ∧ n ≤ k ∧ Below w.heap.size w w'
theorem vfin {w w2 : World} {A B : Option Addr} {n c g k m d : Nat} {s t : Bool} {z : Int} (h : Zv w2 s A n c z) (hi : Ib w2 g t B m d) (hk : n ≤ k) (hg : w.heap.size ≤ g) (hB : Below w.heap.size w w2) :
    VPost z k w (.returned (.agg #[.bool s, .slice A n c])) ((w2.setCell ⟨g, 0, none⟩ (.bool s)).setCell ⟨g, 1, none⟩ (.slice A n c)) :=
  ⟨s, A, n, c, rfl, h.put hi, hk, below_put hB hg⟩
/-- A fraction's number as a quotient with a denominator above 0. -/
def rN (N D : Int) : Int := if D = 0 then 0 else if D < 0 then -N else N
def rD (D : Int) : Int := if D = 0 then 1 else (D.natAbs : Int)
theorem rD_pos (D : Int) : 0 < rD D := by unfold rD; split <;> omega
theorem rq_ref (N D : Int) : Rat.divInt (rN N D) (rD D) = Rat.divInt N D := by
  unfold rN rD
  split
  · rename_i h; subst h; simp
  · split
    · rw [show (D.natAbs : Int) = -D by omega, Rat.neg_divInt_neg]
    · rw [show (D.natAbs : Int) = D by omega]
theorem add_block7 (a : Addr) (j : Nat) : (a.add j).block = a.block := by unfold Addr.add; split <;> rfl
set_option maxRecDepth 100000 in
set_option maxHeartbeats 2000000 in
theorem plain_v {A : Option Addr} {n c : Nat} {s : Bool} {z : Int} {w : World} (h : Zc w s A n c z) :
    Calls Tryz.prog 22 #[.agg #[.bool s, .slice A n c]] w (TruePost w) := by
  obtain ⟨⟨hR, hl, hnc, hc9⟩, hs⟩ := h
  rcases Nat.eq_zero_or_pos n with rfl | hpos
  · have hv := (cn_nil_iff 18446744073709551616 z.natAbs (by omega)).1 hl
    obtain rfl : s = false := by rw [hs.out]; simp; omega
    have HZ := Lib.hid (zba w (.cells #[.bool false, .slice A 0 c] 25))
    clear hR hl hv hs
    go_enter Tryz.func22, Tryz.ntmps22
    go_wp2_with fail
    go_ret
    exact ⟨rfl, HZ.out⟩
  · obtain ⟨i, rfl⟩ : ∃ i, n = i + 1 := ⟨n - 1, by omega⟩
    have hi : i < (cn 18446744073709551616 z.natAbs).length := by omega
    obtain ⟨ad, rfl, hb, hcell⟩ := hR.at hi
    have hne := (top_cn z.natAbs).resolve_left (by omega)
    rw [hl, Nat.add_sub_cancel] at hne
    generalize nth (cn 18446744073709551616 z.natAbs) i = x at *
    obtain ⟨m, hm⟩ : ∃ m, m = i + 1 := ⟨_, rfl⟩
    rw [← hm]
    rw [← hm] at hnc
    have hidx : (m : Int) - 1 = (i : Int) := by omega
    have hx : ((x : Int) == 0) = false := by rw [beq_eq_false_iff_ne]; omega
    have hx2 : ((x : Int) != 0) = true := by rw [bne_iff_ne]; omega
    have z0 := zba w (.cells #[.bool s, .slice (some ad) m c] 25)
    have hcell2 := (z0.cell (p := ad.add i) (by rw [add_block7]; exact hb)).trans hcell
    have HZ := Lib.hid z0
    have him : i < m := by omega
    have hpos2 : 0 < m := by omega
    clear hl hs hm z0 hcell hb hne hi hpos hR
    go_enter Tryz.func22, Tryz.ntmps22
    go_wp2_with fail
    go_ret
    exact ⟨rfl, HZ.out⟩
set_option maxRecDepth 100000 in
set_option maxHeartbeats 4000000 in
theorem normalr_v {A B : Option Addr} {n c m d : Nat} {s t : Bool} {q : Rat} {w : World} (hq : Qc w s A n c t B m d q) (hnk : n ≤ 137438953472) (hmk : m ≤ 137438953472) :
    Calls Tryz.prog 9 #[.agg #[.bool s, .slice A n c, .bool t, .slice B m d]] w (TruePost w) := by
  have hW := Below.refl w.heap.size w
  obtain ⟨wp0, hwp0⟩ : ∃ x, x = w.alloc (.cells #[.bool s, .slice A n c, .bool t, .slice B m d] 27) := ⟨_, rfl⟩
  have zp0 : Below w.heap.size w wp0 := by rw [hwp0]; exact zba _ _
  have sp0 : wp0.heap.size = w.heap.size + 1 := by rw [hwp0, World.size_alloc]
  have Ia : Rb wp0 w.heap.size s A n c t B m d := by rw [hwp0]; exact Rb.new _ _ _ _ _ _ _ _ _ _
  replace hq := hq.below zp0
  replace hW := hW.trans (zp0.mono hW.size)
  have H_a := Lib.hid Ia
  clear Ia zp0
  have HW : Hid ((w.alloc (.cells #[.bool s, .slice A n c, .bool t, .slice B m d] 27)) = wp0) := Lib.hid (by rw [hwp0])
  have lw_a : w.heap.size ≤ w.heap.size := by omega
  clear hwp0 sp0
  have HG : Hid (((Nat.gcd q.num.natAbs ((q.den : Int)).natAbs : Nat) : Int) = 1) := Lib.hid (by rw [Int.natAbs_natCast]; have := q.reduced; unfold Nat.Coprime at this; rw [this]; rfl)
  have HS : Hid (((q.den : Int)).sign = 1) := Lib.hid (Int.sign_eq_one_of_pos (by have := q.den_nz; omega))
  go_enter Tryz.func9, Tryz.ntmps9
  obtain ⟨a1, a2, a3, a4, a5, a6, a7, a8, a9⟩ := H_a.out
  go_wp2_with fail
  rw [HW.out]
  clear a1 a2 a3 a4 a5 a6 a7 a8 a9
  refine (plain_v hq.1).mono ?_
  rintro e w21 ⟨rfl, B21⟩
  replace H_a := Lib.hid (H_a.out.below B21)
  replace hq := hq.below B21
  replace hW := hW.trans (B21.mono hW.size)
  clear B21
  obtain ⟨a1, a2, a3, a4, a5, a6, a7, a8, a9⟩ := H_a.out
  go_wp2_with fail
  clear a1 a2 a3 a4 a5 a6 a7 a8 a9
  refine (plain_v hq.2).mono ?_
  rintro e w22 ⟨rfl, B22⟩
  replace H_a := Lib.hid (H_a.out.below B22)
  replace hq := hq.below B22
  replace hW := hW.trans (B22.mono hW.size)
  clear B22
  obtain ⟨a1, a2, a3, a4, a5, a6, a7, a8, a9⟩ := H_a.out
  go_wp2_with fail
  clear a1 a2 a3 a4 a5 a6 a7 a8 a9
  refine (zsign_v hq.dv (by omega) HS.out).mono ?_
  rintro e w23 ⟨rfl, B23⟩
  replace H_a := Lib.hid (H_a.out.below B23)
  replace hq := hq.below B23
  replace hW := hW.trans (B23.mono hW.size)
  clear B23
  obtain ⟨a1, a2, a3, a4, a5, a6, a7, a8, a9⟩ := H_a.out
  go_wp2_with fail
  clear a1 a2 a3 a4 a5 a6 a7 a8 a9
  refine (zgcd_v hq.nv hq.dv (by omega) (by omega) HG.out).mono ?_
  rintro e w24 ⟨s24, A24, n24, c24, rfl, pg, k24, B24⟩
  replace H_a := Lib.hid (H_a.out.below B24)
  replace hq := hq.below B24
  replace hW := hW.trans (B24.mono hW.size)
  clear B24
  obtain ⟨a1, a2, a3, a4, a5, a6, a7, a8, a9⟩ := H_a.out
  go_wp2_with fail
  clear a1 a2 a3 a4 a5 a6 a7 a8 a9
  refine (zof_v 1 (by omega) (by omega) _).mono ?_
  rintro e w25 ⟨s25, A25, n25, c25, rfl, p1, k25, B25⟩
  replace H_a := Lib.hid (H_a.out.below B25)
  replace hq := hq.below B25
  replace pg := pg.below B25
  replace hW := hW.trans (B25.mono hW.size)
  clear B25
  obtain ⟨a1, a2, a3, a4, a5, a6, a7, a8, a9⟩ := H_a.out
  go_wp2_with fail
  clear a1 a2 a3 a4 a5 a6 a7 a8 a9
  refine (zsame_yes pg.zv p1.zv (by omega) (by omega) rfl).mono ?_
  rintro e w26 ⟨rfl, B26⟩
  replace H_a := Lib.hid (H_a.out.below B26)
  replace hq := hq.below B26
  replace pg := pg.below B26
  replace p1 := p1.below B26
  replace hW := hW.trans (B26.mono hW.size)
  clear B26
  go_wp2_with fail
  go_ret
  exact ⟨rfl, hW⟩
theorem few7_v {A B : Option Addr} {n m c d : Nat} {s t b : Bool} {k : Nat} {w : World} (hn : n ≤ 9223372036854775807) (hm : m ≤ 9223372036854775807) (hk : k ≤ 100) (hb : decide (n ≤ k ∧ m ≤ k) = b) :
    Calls Tryz.prog 5 #[.agg #[.bool s, .slice A n c, .bool t, .slice B m d], .int .i64 (k : Int)] w fun e w' => e = .returned (.bool b) ∧ Below w.heap.size w w' := by
  have HZ := Lib.hid (zba w (.cells #[.bool s, .slice A n c, .bool t, .slice B m d] 27))
  by_cases h1 : n ≤ k
  · by_cases h2 : m ≤ k
    · obtain rfl : b = true := by rw [← hb, decide_eq_true_iff]; exact ⟨h1, h2⟩
      clear hb
      go_enter Tryz.func5, Tryz.ntmps5
      go_wp2_with fail
      go_ret
      exact ⟨rfl, HZ.out⟩
    · obtain rfl : b = false := by rw [← hb, decide_eq_false_iff_not]; omega
      clear hb
      go_enter Tryz.func5, Tryz.ntmps5
      go_wp2_with fail
      go_ret
      exact ⟨rfl, HZ.out⟩
  · obtain rfl : b = false := by rw [← hb, decide_eq_false_iff_not]; omega
    clear hb
    go_enter Tryz.func5, Tryz.ntmps5
    go_wp2_with fail
    go_ret
    exact ⟨rfl, HZ.out⟩
set_option maxRecDepth 100000 in
set_option maxHeartbeats 4000000 in
theorem qawake_v (w : World) :
    Calls Tryz.prog 4 #[] w (TruePost w) := by
  have hW := Below.refl w.heap.size w
  have HN : Hid ((Rat.divInt 2 (-4)).num = -1) := Lib.hid (by decide +kernel)
  have HD : Hid (((Rat.divInt 2 (-4)).den : Int) = 2) := Lib.hid (by decide +kernel)
  have PR : ∀ w : World, QPrPost (Rat.divInt (Rat.divInt 2 (-4)).num ((Rat.divInt 2 (-4)).den : Int)) w = fun e w' => e = .returned (.string ({ data := #[45, 49, 47, 50] } : ByteArray)) ∧ Below w.heap.size w w' := fun w => by
    unfold QPrPost
    rw [rnum_rden, show qstr (Rat.divInt 2 (-4)) = ({ data := #[45, 49, 47, 50] } : ByteArray) from by decide +kernel]
  go_enter Tryz.func4, Tryz.ntmps4
  go_wp2_with fail
  refine (zof_v 2 (by omega) (by omega) _).mono ?_
  rintro e w21 ⟨s21, A21, n21, c21, rfl, p2, k21, B21⟩
  replace hW := hW.trans (B21.mono hW.size)
  clear B21
  go_wp2_with fail
  refine (zof_v (-4) (by omega) (by omega) _).mono ?_
  rintro e w22 ⟨s22, A22, n22, c22, rfl, p4, k22, B22⟩
  replace p2 := p2.below B22
  replace hW := hW.trans (B22.mono hW.size)
  clear B22
  go_wp2_with fail
  refine (make_v (k := 1) (b := true) p2.zv p4.zv (by omega) (by omega) (by omega) (by omega) (by decide)).mono ?_
  rintro e w23 ⟨s23, A23, n23, c23, t23, D23, m23, d23, rfl, pq, k23, l23, B23⟩
  replace p2 := p2.below B23
  replace p4 := p4.below B23
  replace hW := hW.trans (B23.mono hW.size)
  clear B23
  clear p2 p4
  obtain ⟨w24, hw24⟩ : ∃ x, x = w23.alloc (.cells #[.bool s23, .slice A23 n23 c23, .bool t23, .slice D23 m23 d23] 27) := ⟨_, rfl⟩
  have z24 : Below w23.heap.size w23 w24 := by rw [hw24]; exact zba _ _
  have HW24 : Hid (w23.alloc (.cells #[.bool s23, .slice A23 n23 c23, .bool t23, .slice D23 m23 d23] 27) = w24) := Lib.hid hw24.symm
  have lw_a : w.heap.size ≤ w23.heap.size := hW.size
  replace pq := pq.below z24
  replace hW := hW.trans (z24.mono hW.size)
  have H_a : Hid (Rb w24 w23.heap.size s23 A23 n23 c23 t23 D23 m23 d23) := Lib.hid (by rw [hw24]; exact Rb.new _ _ _ _ _ _ _ _ _ _)
  clear z24 hw24
  go_wp2_with fail
  rw [HW24.out]
  refine region7 [] 19 [IsK (.bool true), IsK (.bool true), IsK (.pointer (some ⟨w23.heap.size, 0, none⟩)), IsK (.agg #[.bool s23, .slice A23 n23 c23]), IsC (-1) 1, IsK (.bool true), IsK (.bool true), IsK (.bool true), IsK (.pointer (some ⟨w23.heap.size, 2, none⟩)), IsK (.agg #[.bool t23, .slice D23 m23 d23]), IsC 2 1, IsK (.bool true), IsK (.bool true), IsK (.bool true), IsK (.agg #[.bool s23, .slice A23 n23 c23, .bool t23, .slice D23 m23 d23]), IsK (.string ({ data := #[45, 49, 47, 50] } : ByteArray)), IsK (.bool true), IsK (.bool true), IsK (.bool true)] (fun _ _ d _ _ h => by cases d <;> exact h) (by kernel_rfl) (by kernel_rfl) (by kernel_rfl) ⟨stay_k _, stay_k _, stay_k _, stay_k _, stay_c _ _, stay_k _, stay_k _, stay_k _, stay_k _, stay_k _, stay_c _ _, stay_k _, stay_k _, stay_k _, stay_k _, stay_k _, stay_k _, stay_k _, stay_k _, trivial⟩ ?_ ?_
  · refine HopAll.cons rfl ?_ (HopAll.cons rfl ?_ (HopAll.cons rfl ?_ (HopAll.cons rfl ?_ (HopAll.cons rfl ?_ (HopAll.cons rfl ?_ (HopAll.cons rfl ?_ (HopAll.cons rfl ?_ (HopAll.cons rfl ?_ (HopAll.cons rfl ?_ (HopAll.cons rfl ?_ (HopAll.cons rfl ?_ (HopAll.cons rfl ?_ (HopAll.cons rfl ?_ (HopAll.cons rfl ?_ (HopAll.cons rfl ?_ (HopAll.cons rfl ?_ (HopAll.cons rfl ?_ (HopAll.cons rfl ?_ HopAll.nil))))))))))))))))))
    · intro a w1 hB ho hp K hK
      have e2 : a.eval (.tmp 2) = (.bool true) := ho 2 (by kernel_rfl)
      refine hop_val (wanted_none rfl) ?_ (hK (.bool true) _ rfl (Below.refl _ _))
      unfold execOp; simp only [eval_const, e2]; simp [go_sem]
    · intro a w1 hB ho hp K hK
      have e9 : a.eval (.tmp 9) = (.bool true) := hp 0 9 (by kernel_rfl)
      refine hop_val (wanted_none rfl) ?_ (hK (.bool true) _ rfl (Below.refl _ _))
      unfold execOp; simp only [eval_const, e9]; simp [go_sem]
    · intro a w1 hB ho hp K hK
      have e1 : a.eval (.tmp 1) = (.pointer (some ⟨w23.heap.size, 0, none⟩)) := ho 1 (by kernel_rfl)
      refine hop_val (wanted_at rfl (j := 1) (d := 10) (b := true) (by kernel_rfl) (hp 1 10 (by kernel_rfl))) ?_ (hK (.pointer (some ⟨w23.heap.size, 0, none⟩)) _ rfl (Below.refl _ _))
      unfold execOp; simp only [e1]; simp [go_sem]
    · intro a w1 hB ho hp K hK
      have e11 : a.eval (.tmp 11) = (.pointer (some ⟨w23.heap.size, 0, none⟩)) := hp 2 11 (by kernel_rfl)
      obtain ⟨u1, u2, u3, u4, u5, u6, u7, u8, u9⟩ := H_a.out.below hB
      exact hop_load (wanted_at rfl (j := 1) (d := 10) (b := true) (by kernel_rfl) (hp 1 10 (by kernel_rfl))) rfl e11 (run_ldz u1 u2) (hK _ _ rfl (Below.refl _ _))
    · intro a w1 hB ho hp K hK
      refine hop_call (wanted_at rfl (j := 1) (d := 10) (b := true) (by kernel_rfl) (hp 1 10 (by kernel_rfl))) rfl (args := #[.int .i64 (-1)]) (by simp only [List.map_toArray, List.map_cons, List.map_nil, eval_const]) (ent7 (by kernel_rfl) _ _) (zof_v (-1) (by omega) (by omega) _) ?_
      rintro e w2 ⟨s, A, n, c, rfl, p, k, B⟩
      exact ⟨_, rfl, hK _ _ ⟨s, A, n, c, rfl, p, by omega⟩ B⟩
    · intro a w1 hB ho hp K hK
      have e12 : a.eval (.tmp 12) = (.agg #[.bool s23, .slice A23 n23 c23]) := hp 3 12 (by kernel_rfl)
      obtain ⟨s13, A13, n13, c13, e13, p13, k13⟩ : IsC (-1) 1 (a.eval (.tmp 13)) w1 := hp 4 13 (by kernel_rfl)
      refine hop_call (wanted_at rfl (j := 1) (d := 10) (b := true) (by kernel_rfl) (hp 1 10 (by kernel_rfl))) rfl (args := #[(.agg #[.bool s23, .slice A23 n23 c23]), (.agg #[.bool s13, .slice A13 n13 c13])]) (by simp only [List.map_toArray, List.map_cons, List.map_nil, eval_const, e12, e13]) (ent7 (by kernel_rfl) _ _) (zsame_yes (pq.below hB).nv p13.zv (by omega) (by omega) HN.out) ?_
      rintro e w2 ⟨rfl, B⟩
      exact ⟨_, rfl, hK _ _ rfl B⟩
    · intro a w1 hB ho hp K hK
      have e10 : a.eval (.tmp 10) = (.bool true) := hp 1 10 (by kernel_rfl)
      have e14 : a.eval (.tmp 14) = (.bool true) := hp 5 14 (by kernel_rfl)
      refine hop_val (wanted_none rfl) ?_ (hK (.bool true) _ rfl (Below.refl _ _))
      unfold execOp; simp only [eval_const, e10, e14]; simp [go_sem]
    · intro a w1 hB ho hp K hK
      have e15 : a.eval (.tmp 15) = (.bool true) := hp 6 15 (by kernel_rfl)
      refine hop_val (wanted_none rfl) ?_ (hK (.bool true) _ rfl (Below.refl _ _))
      unfold execOp; simp only [eval_const, e15]; simp [go_sem]
    · intro a w1 hB ho hp K hK
      have e1 : a.eval (.tmp 1) = (.pointer (some ⟨w23.heap.size, 0, none⟩)) := ho 1 (by kernel_rfl)
      refine hop_val (wanted_at rfl (j := 7) (d := 16) (b := true) (by kernel_rfl) (hp 7 16 (by kernel_rfl))) ?_ (hK (.pointer (some ⟨w23.heap.size, 2, none⟩)) _ rfl (Below.refl _ _))
      unfold execOp; simp only [e1]; simp [go_sem]
    · intro a w1 hB ho hp K hK
      have e17 : a.eval (.tmp 17) = (.pointer (some ⟨w23.heap.size, 2, none⟩)) := hp 8 17 (by kernel_rfl)
      obtain ⟨u1, u2, u3, u4, u5, u6, u7, u8, u9⟩ := H_a.out.below hB
      exact hop_load (wanted_at rfl (j := 7) (d := 16) (b := true) (by kernel_rfl) (hp 7 16 (by kernel_rfl))) rfl e17 (run_ldz u3 u4) (hK _ _ rfl (Below.refl _ _))
    · intro a w1 hB ho hp K hK
      refine hop_call (wanted_at rfl (j := 7) (d := 16) (b := true) (by kernel_rfl) (hp 7 16 (by kernel_rfl))) rfl (args := #[.int .i64 (2)]) (by simp only [List.map_toArray, List.map_cons, List.map_nil, eval_const]) (ent7 (by kernel_rfl) _ _) (zof_v 2 (by omega) (by omega) _) ?_
      rintro e w2 ⟨s, A, n, c, rfl, p, k, B⟩
      exact ⟨_, rfl, hK _ _ ⟨s, A, n, c, rfl, p, by omega⟩ B⟩
    · intro a w1 hB ho hp K hK
      have e18 : a.eval (.tmp 18) = (.agg #[.bool t23, .slice D23 m23 d23]) := hp 9 18 (by kernel_rfl)
      obtain ⟨s19, A19, n19, c19, e19, p19, k19⟩ : IsC 2 1 (a.eval (.tmp 19)) w1 := hp 10 19 (by kernel_rfl)
      refine hop_call (wanted_at rfl (j := 7) (d := 16) (b := true) (by kernel_rfl) (hp 7 16 (by kernel_rfl))) rfl (args := #[(.agg #[.bool t23, .slice D23 m23 d23]), (.agg #[.bool s19, .slice A19 n19 c19])]) (by simp only [List.map_toArray, List.map_cons, List.map_nil, eval_const, e18, e19]) (ent7 (by kernel_rfl) _ _) (zsame_yes (pq.below hB).dv p19.zv (by omega) (by omega) HD.out) ?_
      rintro e w2 ⟨rfl, B⟩
      exact ⟨_, rfl, hK _ _ rfl B⟩
    · intro a w1 hB ho hp K hK
      have e16 : a.eval (.tmp 16) = (.bool true) := hp 7 16 (by kernel_rfl)
      have e20 : a.eval (.tmp 20) = (.bool true) := hp 11 20 (by kernel_rfl)
      refine hop_val (wanted_none rfl) ?_ (hK (.bool true) _ rfl (Below.refl _ _))
      unfold execOp; simp only [eval_const, e16, e20]; simp [go_sem]
    · intro a w1 hB ho hp K hK
      have e21 : a.eval (.tmp 21) = (.bool true) := hp 12 21 (by kernel_rfl)
      refine hop_val (wanted_none rfl) ?_ (hK (.bool true) _ rfl (Below.refl _ _))
      unfold execOp; simp only [eval_const, e21]; simp [go_sem]
    · intro a w1 hB ho hp K hK
      have e1 : a.eval (.tmp 1) = (.pointer (some ⟨w23.heap.size, 0, none⟩)) := ho 1 (by kernel_rfl)
      obtain ⟨u1, u2, u3, u4, u5, u6, u7, u8, u9⟩ := H_a.out.below hB
      exact hop_load (wanted_at rfl (j := 13) (d := 22) (b := true) (by kernel_rfl) (hp 13 22 (by kernel_rfl))) rfl e1 (run_ldq u1 u2 u3 u4) (hK _ _ rfl (Below.refl _ _))
    · intro a w1 hB ho hp K hK
      have e23 : a.eval (.tmp 23) = (.agg #[.bool s23, .slice A23 n23 c23, .bool t23, .slice D23 m23 d23]) := hp 14 23 (by kernel_rfl)
      refine hop_call (wanted_at rfl (j := 13) (d := 22) (b := true) (by kernel_rfl) (hp 13 22 (by kernel_rfl))) rfl (args := #[(.agg #[.bool s23, .slice A23 n23 c23, .bool t23, .slice D23 m23 d23])]) (by simp only [List.map_toArray, List.map_cons, List.map_nil, eval_const, e23]) (ent7 (by kernel_rfl) _ _) ((PR _) ▸ qprint_v (k := 1) (pq.below hB).nv (pq.below hB).dv (by omega) (by omega) (by omega) (by omega)) ?_
      rintro e w2 ⟨rfl, B⟩
      exact ⟨_, rfl, hK _ _ rfl B⟩
    · intro a w1 hB ho hp K hK
      have e24 : a.eval (.tmp 24) = (.string ({ data := #[45, 49, 47, 50] } : ByteArray)) := hp 15 24 (by kernel_rfl)
      refine hop_val (wanted_at rfl (j := 13) (d := 22) (b := true) (by kernel_rfl) (hp 13 22 (by kernel_rfl))) ?_ (hK (.bool true) _ rfl (Below.refl _ _))
      unfold execOp; simp only [eval_const, e24]; simp [go_sem]
    · intro a w1 hB ho hp K hK
      have e22 : a.eval (.tmp 22) = (.bool true) := hp 13 22 (by kernel_rfl)
      have e25 : a.eval (.tmp 25) = (.bool true) := hp 16 25 (by kernel_rfl)
      refine hop_val (wanted_none rfl) ?_ (hK (.bool true) _ rfl (Below.refl _ _))
      unfold execOp; simp only [eval_const, e22, e25]; simp [go_sem]
    · intro a w1 hB ho hp K hK
      have e26 : a.eval (.tmp 26) = (.bool true) := hp 17 26 (by kernel_rfl)
      refine hop_val (wanted_none rfl) ?_ (hK (.bool true) _ rfl (Below.refl _ _))
      unfold execOp; simp only [eval_const, e26]; simp [go_sem]
  intro w25 B25
  refine EndAll.one rfl fun vv hv => ?_
  obtain rfl : vv = (.bool true) := hv
  refine EndAll.one rfl fun vv hv => ?_
  obtain rfl : vv = (.bool true) := hv
  refine EndAll.one rfl fun vv hv => ?_
  obtain rfl : vv = (.pointer (some ⟨w23.heap.size, 0, none⟩)) := hv
  refine EndAll.one rfl fun vv hv => ?_
  obtain rfl : vv = (.agg #[.bool s23, .slice A23 n23 c23]) := hv
  refine EndAll.one rfl fun vv hv => ?_
  obtain ⟨s26, A26, n26, c26, rfl, p26, k26⟩ : IsC (-1) 1 vv w25 := hv
  refine EndAll.one rfl fun vv hv => ?_
  obtain rfl : vv = (.bool true) := hv
  refine EndAll.one rfl fun vv hv => ?_
  obtain rfl : vv = (.bool true) := hv
  refine EndAll.one rfl fun vv hv => ?_
  obtain rfl : vv = (.bool true) := hv
  refine EndAll.one rfl fun vv hv => ?_
  obtain rfl : vv = (.pointer (some ⟨w23.heap.size, 2, none⟩)) := hv
  refine EndAll.one rfl fun vv hv => ?_
  obtain rfl : vv = (.agg #[.bool t23, .slice D23 m23 d23]) := hv
  refine EndAll.one rfl fun vv hv => ?_
  obtain ⟨s27, A27, n27, c27, rfl, p27, k27⟩ : IsC 2 1 vv w25 := hv
  refine EndAll.one rfl fun vv hv => ?_
  obtain rfl : vv = (.bool true) := hv
  refine EndAll.one rfl fun vv hv => ?_
  obtain rfl : vv = (.bool true) := hv
  refine EndAll.one rfl fun vv hv => ?_
  obtain rfl : vv = (.bool true) := hv
  refine EndAll.one rfl fun vv hv => ?_
  obtain rfl : vv = (.agg #[.bool s23, .slice A23 n23 c23, .bool t23, .slice D23 m23 d23]) := hv
  refine EndAll.one rfl fun vv hv => ?_
  obtain rfl : vv = (.string ({ data := #[45, 49, 47, 50] } : ByteArray)) := hv
  refine EndAll.one rfl fun vv hv => ?_
  obtain rfl : vv = (.bool true) := hv
  refine EndAll.one rfl fun vv hv => ?_
  obtain rfl : vv = (.bool true) := hv
  refine EndAll.one rfl fun vv hv => ?_
  obtain rfl : vv = (.bool true) := hv
  refine EndAll.nil (l := []) rfl ?_
  simp only [Act.put, List.setIfInBounds_toArray, List.set_cons_zero, List.set_cons_succ]
  replace H_a := Lib.hid (H_a.out.below B25)
  replace pq := pq.below B25
  replace hW := hW.trans (B25.mono hW.size)
  clear B25
  go_wp2_with fail
  go_ret
  exact ⟨rfl, hW⟩
end Go.Proofs.YtfpncmhaoadfdaaGreat
