/-
  FpD
-/
import Derived.Test.YtddbhhedjipjkaaGreatDoorPr26

namespace Go.Proofs.YtddbhhedjipjkaaGreatDoor
open Go.RowKit
set_option linter.unusedVariables false
set_option linter.unusedSimpArgs false
theorem invW_word {p x : Nat} (hp : 0 < p) (h : p < 2147483648) : invW p x < 18446744073709551616 := by
  have := invW_lt (x := x) hp; omega
set_option maxRecDepth 100000 in
set_option maxHeartbeats 4000000 in
theorem mon_v {ab p n c : Nat} {A : Option Addr} {xs : List Nat} {w : World} (hp : ab + 2 = p) (h : p < 2147483648) (hx : Lv w A n c xs) (hn : n ≤ 1099511627776) :
    Calls Tryz.prog 128 #[.agg #[.int .u64 (ab : Int)], .slice A n c] w (LPost (mon p xs) w) := by
  have hW := Below.refl w.heap.size w
  obtain ⟨wp0, hwp0⟩ : ∃ xw, xw = w.alloc (.cells #[.int .u64 (ab : Int)] 54) := ⟨_, rfl⟩
  have zp0 : Below w.heap.size w wp0 := by rw [hwp0]; exact zba _ _
  have sp0 : wp0.heap.size = w.heap.size + 1 := by rw [hwp0, World.size_alloc]
  have If : Fb wp0 w.heap.size ab := by rw [hwp0]; exact Fb.new _ _ _
  replace hx := hx.below zp0
  replace hW := hW.trans (zp0.mono hW.size)
  have H_f := Lib.hid If
  clear If zp0
  have HW : Hid ((w.alloc (.cells #[.int .u64 (ab : Int)] 54)) = wp0) := Lib.hid (by rw [hwp0])
  have lw_f : w.heap.size ≤ w.heap.size := by omega
  clear hwp0 sp0
  have h2 : 2 ≤ p := by omega
  have HP := Lib.hid hp
  clear hp
  go_enter Tryz.func128, Tryz.ntmps128
  obtain ⟨f1, f2, f3⟩ := H_f.out
  go_wp2_with fail
  rw [HW.out]
  clear f1 f2 f3
  refine region8 [] 8 [IsK (.agg #[.int .u64 (ab : Int)]), IsK (.slice A n c), IsK (.agg #[.int .u64 (ab : Int)]), IsK (.agg #[.int .u64 (ab : Int)]), IsK (.slice A n c), IsP (nrm p xs), IsK (.int .u64 ((invW p (lead (nrm p xs)) : Nat) : Int)), IsP (mon p xs)] (fun _ _ d _ _ h => by cases d <;> exact h) (by kernel_rfl) (by kernel_rfl) (by kernel_rfl) ⟨stay_k _, stay_k _, stay_k _, stay_k _, stay_k _, stay_p _, stay_k _, stay_p _, trivial⟩ ?_ ?_
  · refine HopAll.cons rfl ?_ (HopAll.cons rfl ?_ (HopAll.cons rfl ?_ (HopAll.cons rfl ?_ (HopAll.cons rfl ?_ (HopAll.cons rfl ?_ (HopAll.cons rfl ?_ (HopAll.cons rfl ?_ HopAll.nil)))))))
    · intro a w1 hB ho hp K hK
      have e2 : a.eval (.tmp 2) = (.pointer (some ⟨w.heap.size, 0, none⟩)) := ho 2 (by kernel_rfl)
      obtain ⟨u1, u2, u3⟩ := H_f.out.below hB
      exact hop_load (wanted_none rfl) rfl e2 (run_ldf u1) (hK _ _ rfl (Below.refl _ _))
    · intro a w1 hB ho hp K hK
      have e1 : a.eval (.tmp 1) = (.slice A n c) := ho 1 (by kernel_rfl)
      refine hop_val (wanted_none rfl) ?_ (hK (.slice A n c) _ rfl (Below.refl _ _))
      unfold execOp; simp only [eval_const, e1]; simp [go_sem]
    · intro a w1 hB ho hp K hK
      have e2 : a.eval (.tmp 2) = (.pointer (some ⟨w.heap.size, 0, none⟩)) := ho 2 (by kernel_rfl)
      obtain ⟨u1, u2, u3⟩ := H_f.out.below hB
      exact hop_load (wanted_none rfl) rfl e2 (run_ldf u1) (hK _ _ rfl (Below.refl _ _))
    · intro a w1 hB ho hp K hK
      have e2 : a.eval (.tmp 2) = (.pointer (some ⟨w.heap.size, 0, none⟩)) := ho 2 (by kernel_rfl)
      obtain ⟨u1, u2, u3⟩ := H_f.out.below hB
      exact hop_load (wanted_none rfl) rfl e2 (run_ldf u1) (hK _ _ rfl (Below.refl _ _))
    · intro a w1 hB ho hp K hK
      have e1 : a.eval (.tmp 1) = (.slice A n c) := ho 1 (by kernel_rfl)
      refine hop_val (wanted_none rfl) ?_ (hK (.slice A n c) _ rfl (Below.refl _ _))
      unfold execOp; simp only [eval_const, e1]; simp [go_sem]
    · intro a w1 hB ho hp K hK
      have e8 : a.eval (.tmp 8) = (.agg #[.int .u64 (ab : Int)]) := hp 3 8 (by kernel_rfl)
      have e9 : a.eval (.tmp 9) = (.slice A n c) := hp 4 9 (by kernel_rfl)
      refine hop_call (wanted_none rfl) rfl (args := #[(.agg #[.int .u64 (ab : Int)]), (.slice A n c)]) (by simp only [List.map_toArray, List.map_cons, List.map_nil, eval_const, e8, e9]) (ent7 (by kernel_rfl) _ _) (pnorm_v HP.out h (hx.below hB) (by omega)) ?_
      rintro e w2 ⟨A, n, c, rfl, p, B⟩
      exact ⟨_, rfl, hK _ _ ⟨A, n, c, rfl, p⟩ B⟩
    · intro a w1 hB ho hp K hK
      have e7 : a.eval (.tmp 7) = (.agg #[.int .u64 (ab : Int)]) := hp 2 7 (by kernel_rfl)
      obtain ⟨A_10, n_10, c_10, e10, p10⟩ : IsP (nrm p xs) (a.eval (.tmp 10)) w1 := hp 5 10 (by kernel_rfl)
      refine hop_call (wanted_none rfl) rfl (args := #[(.agg #[.int .u64 (ab : Int)]), (.slice A_10 n_10 c_10)]) (by simp only [List.map_toArray, List.map_cons, List.map_nil, eval_const, e7, e10]) (ent7 (by kernel_rfl) _ _) (iot_v HP.out h p10) ?_
      rintro e w2 ⟨rfl, B⟩
      exact ⟨_, rfl, hK _ _ rfl B⟩
    · intro a w1 hB ho hp K hK
      have e5 : a.eval (.tmp 5) = (.agg #[.int .u64 (ab : Int)]) := hp 0 5 (by kernel_rfl)
      have e6 : a.eval (.tmp 6) = (.slice A n c) := hp 1 6 (by kernel_rfl)
      have e11 : a.eval (.tmp 11) = (.int .u64 ((invW p (lead (nrm p xs)) : Nat) : Int)) := hp 6 11 (by kernel_rfl)
      refine hop_call (wanted_none rfl) rfl (args := #[(.agg #[.int .u64 (ab : Int)]), (.slice A n c), (.int .u64 ((invW p (lead (nrm p xs)) : Nat) : Int))]) (by simp only [List.map_toArray, List.map_cons, List.map_nil, eval_const, e5, e6, e11]) (ent7 (by kernel_rfl) _ _) (scale_v HP.out h (hx.below hB) hn (invW_word (by omega) h)) ?_
      rintro e w2 ⟨A, n, c, rfl, p, B⟩
      exact ⟨_, rfl, hK _ _ ⟨A, n, c, rfl, p⟩ B⟩
  intro w21 B21
  refine EndAll.one rfl fun vv hv => ?_
  obtain rfl : vv = (.agg #[.int .u64 (ab : Int)]) := hv
  refine EndAll.one rfl fun vv hv => ?_
  obtain rfl : vv = (.slice A n c) := hv
  refine EndAll.one rfl fun vv hv => ?_
  obtain rfl : vv = (.agg #[.int .u64 (ab : Int)]) := hv
  refine EndAll.one rfl fun vv hv => ?_
  obtain rfl : vv = (.agg #[.int .u64 (ab : Int)]) := hv
  refine EndAll.one rfl fun vv hv => ?_
  obtain rfl : vv = (.slice A n c) := hv
  refine EndAll.one rfl fun vv hv => ?_
  obtain ⟨A22, n22, c22, rfl, p22⟩ : IsP (nrm p xs) vv w21 := hv
  refine EndAll.one rfl fun vv hv => ?_
  obtain rfl : vv = (.int .u64 ((invW p (lead (nrm p xs)) : Nat) : Int)) := hv
  refine EndAll.one rfl fun vv hv => ?_
  obtain ⟨A23, n23, c23, rfl, p23⟩ : IsP (mon p xs) vv w21 := hv
  refine EndAll.nil (l := [_]) rfl ?_
  simp only [Act.put, List.setIfInBounds_toArray, List.set_cons_zero, List.set_cons_succ]
  replace H_f := Lib.hid (H_f.out.below B21)
  replace hx := hx.below B21
  replace hW := hW.trans (B21.mono hW.size)
  have rr := p23
  clear p22 p23
  clear B21
  obtain ⟨f1, f2, f3⟩ := H_f.out
  go_wp2_with fail
  clear f1 f2 f3
  exact bodyPost_ret (v := (.slice A23 n23 c23)) (by simp [results, Tryz.results128, go_sem]) rfl ⟨A23, n23, c23, rfl, rr, hW⟩
theorem run_eqs {w : World} {ad : Addr} {n c : Nat} : (Go.binOp .eql 56 (.slice (some ad) n c) (.slice none 0 0)).run Tryz.prog w = .ok (.bool false) w := by kernel_rfl
theorem run_eqn0 {w : World} {c : Nat} : (Go.binOp .eql 56 (.slice none 0 c) (.slice none 0 0)).run Tryz.prog w = .ok (.bool true) w := by kernel_rfl
theorem own_empty (w : World) : OwnV w (w.alloc (.cells #[] 52)) 52 .u64 (.slice (some ⟨w.heap.size, 0, none⟩) 0 0) [] :=
  ⟨⟨rfl, .inr ⟨w.heap.size, 0, #[], rfl, Nat.le_refl _, heap_alloc_new w _, Nat.le_refl _, by unfold maxLen; omega, rfl, rfl⟩⟩, zba w _⟩
def ClPost (xs : List Nat) (w : World) (e : Ending) (w' : World) : Prop :=
  ∃ (A : Option Addr) (c : Nat), e = .returned (.slice A xs.length c) ∧ xs.length ≤ c ∧ c ≤ 9223372036854775807 ∧ Below w.heap.size w w' ∧ ((A = none ∧ xs = []) ∨ ∃ g, A = some ⟨g, 0, none⟩ ∧ w.heap.size ≤ g ∧ Wr w' g xs)
theorem OwnV.clone {w w' : World} {v : Value} {xs : List Nat} (h : OwnV w w' 52 .u64 v xs) : ClPost xs w (.returned v) w' := by
  obtain ⟨A, c, rfl, hg⟩ := h.form
  have hc := hg.cap
  refine ⟨A, c, rfl, hc.1, by have := hc.2; unfold maxLen at this; omega, hg.2, ?_⟩
  rcases Wr.own hg.1 with h | ⟨g, h1, h2, h3⟩
  · exact .inl h
  · exact .inr ⟨g, h1, h2, h3⟩
set_option maxRecDepth 100000 in
set_option maxHeartbeats 4000000 in
theorem clone_v {n c : Nat} {A : Option Addr} {xs : List Nat} {w : World} (hx : Lv w A n c xs) (hn : n ≤ 1099511627776) :
    Calls Tryz.prog 146 #[.slice A n c] w (ClPost xs w) := by
  have HN := Lib.hid hx.len
  rcases A with _ | ad
  · have h0 : xs = [] := by
      rcases Nat.eq_zero_or_pos n with h0 | h0
      · exact List.length_eq_zero_iff.1 (by rw [hx.len]; exact h0)
      · obtain ⟨_, h1, _⟩ := hx.at h0; cases h1
    subst h0
    obtain rfl : n = 0 := HN.out.symm
    go_enter Tryz.func146, Tryz.ntmps146
    have e0 := run_eqn0 (w := w) (c := c)
    go_wp2_with fail
    exact bodyPost_ret (v := .slice none 0 0) (by simp [results, Tryz.results146, go_sem]) rfl ⟨none, 0, rfl, Nat.le_refl _, by omega, Below.refl _ _, .inl ⟨rfl, rfl⟩⟩
  · go_enter Tryz.func146, Tryz.ntmps146
    have e0 := run_eqs (w := w) (ad := ad) (n := n) (c := c)
    go_wp2_with (at_builtin; refine wpList_appm w _ rfl (.tmp 5) (.tmp 6) _ rfl 52 .u64 Tryz.underlying56 info_u64 _ [] (by rfl) (own_empty w) _ n c xs (hx.rd.below (zba _ _)) HN.out (by rfl) (by simp; omega) ?_)
    intro v1 w1 ho
    have P := Lib.hid ho.clone
    clear ho
    go_wp2_with fail
    exact bodyPost_ret (v := v1) (by simp [results, Tryz.results146, go_sem]) rfl P.out
theorem run_slh2 {w : World} {A : Option Addr} {m cap k : Nat} (h : k ≤ cap) (hc : m ≤ cap) : (Instr.sliceAt 56 (.slice A m cap) none (some (.int .i64 (k : Int))) none).run Tryz.prog w = .ok (.slice A k cap) w := by
  rcases A with _ | ad
  · simp [go_sem, Tryz.underlying56, Instr.slice, Instr.sliceBounds, Instr.sliceBound]
    omega
  · simp [go_sem, Tryz.underlying56, Instr.slice, Instr.sliceBounds, Instr.sliceBound, addr_add]
    omega
structure DvMid (p : Nat) (xs ys : List Nat) (Lq k : Nat) (Q S : List Nat) : Prop where
  lq : Q.length = Lq
  ls : S.length = xs.length
  qp : ∀ j, nth Q j < p
  q0 : ∀ j, j < k → nth Q j = 0
  sp : ∀ j, nth S j < 2 * p * p
  s0 : ∀ j, k + (ys.length - 1) ≤ j → nth S j % p = 0
  fst : k = Lq → S = xs
  top : k < Lq → nth Q (Lq - 1) ≠ 0
  eq : Eqm p (pe xs) (fun x => pe Q x * pe ys x + pe S x)
theorem pe_zeros (L : Nat) (x : Int) : pe (List.replicate L 0) x = 0 := by
  have e : List.replicate L 0 = shl L [] := by unfold shl; rw [List.append_nil]
  rw [e, pe_shl, pe_nil]; simp
theorem dvmid_start {p : Nat} {xs ys : List Nat} (h2 : 2 ≤ p) (lx : Low p xs) : DvMid p xs ys (xs.length - (ys.length - 1)) (xs.length - (ys.length - 1)) (List.replicate (xs.length - (ys.length - 1)) 0) xs where
  lq := by simp
  ls := rfl
  qp := fun j => by rw [nth_replicate]; omega
  q0 := fun j _ => nth_replicate _ _
  sp := fun j => Nat.lt_of_lt_of_le (lx.any (by omega) j) (by rw [Nat.mul_assoc]; have := Nat.mul_le_mul h2 (Nat.le_refl p); omega)
  s0 := fun j hj => by rw [nth_ge (by omega), Nat.zero_mod]
  fst := fun _ => rfl
  top := fun h => by omega
  eq := .of fun x => by rw [pe_zeros]; grind
theorem pe_set {Q : List Nat} {k q : Nat} (h : k < Q.length) (h0 : nth Q k = 0) (x : Int) : pe (Q.set k q) x = pe Q x + (q : Int) * x ^ k := by
  induction Q generalizing k with
  | nil => simp at h
  | cons c t ih =>
    cases k with
    | zero =>
      rw [nth_cons_zero] at h0; subst h0
      rw [List.set_cons_zero, pe_cons, pe_cons]; simp; grind
    | succ k =>
      rw [nth_cons_succ] at h0
      rw [List.set_cons_succ, pe_cons, pe_cons, ih (by simpa using h) h0, Int.pow_succ]; grind
theorem neg_elem {p q : Nat} (hq : q < p) : Eqm p (fun _ => (((p - q % p) % p : Nat) : Int)) (fun _ => -(q : Int)) := by
  refine (eqm_const (n := p - q) (by rw [Nat.mod_mod, Nat.mod_eq_of_lt hq])).trans ?_
  exact ⟨fun _ => 1, ply_c _, fun x => by simp only; omega⟩
theorem dvmid_step {p k s q : Nat} {xs ys Q S S' : List Nat} (hp : MR.Pr p) (hx : Nm p xs) (hy : Nm p ys) (y0 : ys ≠ []) (h : DvMid p xs ys (xs.length - (ys.length - 1)) (k + 1) Q S) (hk : k + 1 ≤ xs.length - (ys.length - 1))
    (hs : nth S (k + (ys.length - 1)) = s) (hq : s * invW p (lead ys) % p = q) (g : GRel p S k ((p - q % p) % p) ys S') : DvMid p xs ys (xs.length - (ys.length - 1)) k (Q.set k q) S' := by
  have hp0 := pr_pos hp
  have ly := List.length_pos_iff.2 y0
  have lq : q < p := hq ▸ Nat.mod_lt _ hp0
  have ht := hy.top' hp0 y0
  refine ⟨by rw [List.length_set, h.lq], by rw [g.1, h.ls], fun j => ?_, fun j hj => ?_, g.2.1, fun j hj => ?_, fun e => by omega, fun _ => ?_, ?_⟩
  · by_cases e : j = k
    · subst e; rw [nth_set_eq (by rw [h.lq]; omega)]; exact lq
    · rw [nth_set_ne (by omega)]; exact h.qp j
  · rw [nth_set_ne (by omega)]; exact h.q0 j (by omega)
  · rw [g.2.2 j, nth_shl, if_neg (by omega)]
    by_cases e : j = k + (ys.length - 1)
    · subst e
      rw [hs, show k + (ys.length - 1) - k = ys.length - 1 by omega]
      have hu : nth ys (ys.length - 1) * invW p (lead ys) % p = 1 := unit_inv hp ht
      have e1 : q * nth ys (ys.length - 1) % p = s % p := by
        rw [← hq, Nat.mod_mul_mod, Nat.mul_assoc, Nat.mul_comm (invW p (lead ys)), ← Nat.mul_mod_mod, hu, Nat.mul_one]
      rw [Nat.mod_eq_of_lt lq, Nat.add_mod, Nat.mod_mul_mod, ← Nat.add_mod, Nat.add_mod, ← e1, ← Nat.add_mod, ← Nat.add_mul, show q + (p - q) = p by omega]
      exact Nat.mul_mod_right _ _
    · rw [nth_ge (xs := ys) (by omega), Nat.mul_zero, Nat.add_zero]
      exact h.s0 j (by omega)
  · by_cases e : k + 1 = xs.length - (ys.length - 1)
    · rw [← e, Nat.add_sub_cancel, nth_set_eq (by rw [h.lq]; omega)]
      have hS := h.fst e
      have x0 : xs ≠ [] := fun e2 => by rw [e2] at hk; simp at hk
      have h3 : s % p ≠ 0 := by
        rw [← hs, hS, show k + (ys.length - 1) = xs.length - 1 by omega]
        exact hx.top' hp0 x0
      have := pr_mul_ne hp h3 (inv_ne hp ht)
      rw [← hq]; exact this
    · rw [nth_set_ne (by omega)]; exact h.top (by omega)
  · have e1 := (grel_eqm g).trans ((Eqm.refl p (pe S)).add ((neg_elem lq).left ((ply_x.pow k).mul (ply_pe ys))))
    refine h.eq.trans (Eqm.symm (Eqm.trans ((Eqm.refl p (fun x => pe (Q.set k q) x * pe ys x)).add e1) ?_))
    exact .of fun x => by rw [pe_set (by rw [h.lq]; omega) (h.q0 k (by omega))]; grind
theorem nth_take_min {S : List Nat} {k j : Nat} : nth (S.take k) j = if j < k then nth S j else 0 := by
  split
  · rw [nth_take (by assumption)]
  · rw [nth_take_ge (by omega)]
theorem dvmid_end {p : Nat} {xs ys Q S : List Nat} (hp : MR.Pr p) (y0 : ys ≠ []) (h : DvMid p xs ys (xs.length - (ys.length - 1)) 0 Q S) : DivSpec p xs ys Q (nrm p (S.take (min (ys.length - 1) xs.length))) := by
  have hp0 := pr_pos hp
  have ly := List.length_pos_iff.2 y0
  have e : nrm p (S.take (min (ys.length - 1) xs.length)) = nrm p S := nrm_ext fun j => by
    rw [nth_take_min]
    split
    · rfl
    · by_cases h1 : ys.length - 1 ≤ j
      · rw [h.s0 j (by omega), Nat.zero_mod]
      · rw [nth_ge (by rw [h.ls]; omega)]
  refine ⟨nm_of (Low.of_any h.qp) ?_, nm_nrm hp0 _, ?_, ?_⟩
  · rw [h.lq]
    rcases Nat.eq_zero_or_pos (xs.length - (ys.length - 1)) with h0 | h0
    · exact .inl (List.length_eq_zero_iff.1 (by rw [h.lq, h0]))
    · exact .inr (h.top h0)
  · rw [e]
    have := nrm_short (p := p) (xs := S) (k := ys.length - 1) fun i hi => h.s0 i (by omega)
    omega
  · rw [e]
    exact h.eq.trans ((Eqm.refl p (fun x => pe Q x * pe ys x)).add (eqm_nrm p S).symm)
set_option maxRecDepth 100000 in
set_option maxHeartbeats 4000000 in
theorem divide_z {ab p n c m d : Nat} {A D : Option Addr} {xs ys : List Nat} {w : World} (hp : ab + 2 = p) (h : p < 2147483648) (hx : Lv w A n c xs) (hn : n ≤ 1099511627776) (hy : Lv w D m d ys) (hm : m ≤ 1099511627776) (hpr : MR.Pr p) (nx : Nm p xs) (ny : Nm p ys) (y0 : ys ≠ []) :
    Calls Tryz.prog 139 #[.agg #[.int .u64 (ab : Int)], .slice A n c, .slice D m d] w (LLZ (quoP p xs ys) (remP p xs ys) w) := by
  have HX0 := Lib.hid hx
  have HY0 := Lib.hid hy
  have hW := Below.refl w.heap.size w
  obtain ⟨wp0, hwp0⟩ : ∃ xw, xw = w.alloc (.cells #[.int .u64 (ab : Int)] 54) := ⟨_, rfl⟩
  have zp0 : Below w.heap.size w wp0 := by rw [hwp0]; exact zba _ _
  have sp0 : wp0.heap.size = w.heap.size + 1 := by rw [hwp0, World.size_alloc]
  have If : Fb wp0 w.heap.size ab := by rw [hwp0]; exact Fb.new _ _ _
  replace hx := hx.below zp0
  replace hy := hy.below zp0
  replace hW := hW.trans (zp0.mono hW.size)
  have H_f := Lib.hid If
  clear If zp0
  have HW : Hid ((w.alloc (.cells #[.int .u64 (ab : Int)] 54)) = wp0) := Lib.hid (by rw [hwp0])
  have lw_f : w.heap.size ≤ w.heap.size := by omega
  clear hwp0 sp0
  have h2 : 2 ≤ p := by omega
  have HP := Lib.hid hp
  have HN := Lib.hid hx.len
  have HM := Lib.hid hy.len
  have HNX := Lib.hid nx
  have HNY := Lib.hid ny
  have HY9 := Lib.hid y0
  have hm0 : 0 < m := by rw [← hy.len]; exact List.length_pos_iff.2 y0
  obtain ⟨g, hg⟩ : ∃ g, m = g + 1 := ⟨m - 1, by omega⟩
  subst hg
  obtain ⟨Lq, hLq⟩ : ∃ q, n - g = q := ⟨_, rfl⟩
  have hLi : max (0 : Int) ((n : Int) - (g : Int)) = (Lq : Int) := by omega
  have hgi : ((g + 1 : Nat) : Int) - 1 = (g : Int) := by omega
  have hwg : IntKind.i64.wrap (((g + 1 : Nat) : Int) - 1) = (g : Int) := by rw [IntKind.wrap_i64]; omega
  have hLqn : Lq ≤ n := by omega
  have HLQ := Lib.hid hLq
  clear hp nx ny y0 hLq
  go_enter Tryz.func139, Tryz.ntmps139
  obtain ⟨f1, f2, f3⟩ := H_f.out
  go_wp2_with fail
  rw [HW.out]
  clear f1 f2 f3
  refine (clone_v hx hn).mono ?_
  rintro e w1 ⟨AS, cS, rfl, hcS, hcM, B1, hS⟩
  rw [HN.out] at hcS ⊢
  have hgSl : ∀ q, AS = some (⟨q, 0, none⟩ : Addr) → w.heap.size < q ∧ q < w1.heap.size := fun q e => by
    rcases hS with ⟨e2, _⟩ | ⟨q2, e2, hq, hwr⟩
    · rw [e] at e2; cases e2
    · rw [e] at e2; cases e2; exact ⟨Nat.lt_of_lt_of_le H_f.out.2.2 hq, hwr.lt⟩
  replace H_f := Lib.hid (H_f.out.below B1)
  replace hx := hx.below B1
  replace hy := hy.below B1
  replace hW := hW.trans (B1.mono hW.size)
  have hS2 : (AS = none ∧ xs = []) ∨ ∃ q, AS = some ⟨q, 0, none⟩ ∧ Wr w1 q xs := hS.imp id fun ⟨q, a1, _, a2⟩ => ⟨q, a1, a2⟩
  have HS := Lib.hid hS2
  have HGS := Lib.hid hgSl
  clear B1 hS hS2 hgSl
  obtain ⟨f1, f2, f3⟩ := H_f.out
  go_wp2_with (at_make; refine wpList_make_blk _ rfl _ _ 56 rfl 52 .u64 8 Tryz.underlying56 info_u64 _ _ _ _ Lq rfl rfl (by omega) (by omega) (by omega) (by omega) ?_)
  intro w2 hb2 hw2 hz2
  clear f1 f2 f3
  obtain ⟨gQ, hgQ⟩ : ∃ q, w1.heap.size = q := ⟨_, rfl⟩
  rw [hgQ] at hb2
  have hgQf : w.heap.size < gQ := by rw [← hgQ]; exact H_f.out.2.2
  replace HS : Hid ((AS = none ∧ xs = []) ∨ ∃ q, AS = some ⟨q, 0, none⟩ ∧ Wr w2 q xs) := Lib.hid (HS.out.imp id fun ⟨q, a1, a2⟩ => ⟨q, a1, a2.below hw2⟩)
  replace HGS : Hid (∀ q, AS = some (⟨q, 0, none⟩ : Addr) → w.heap.size < q ∧ q < gQ) := Lib.hid fun q e => by have := HGS.out q e; omega
  replace H_f := Lib.hid (H_f.out.below hw2)
  replace hx := hx.below hw2
  replace hy := hy.below hw2
  replace hW := hW.trans (hw2.mono hW.size)
  rw [hgQ]
  clear hw2 hz2 hgQ
  have HbQ := Lib.hid hb2
  clear hb2
  obtain ⟨f1, f2, f3⟩ := H_f.out
  go_wp2_with fail
  clear f1 f2 f3
  refine (iot_v HP.out h hy).mono ?_
  rintro e w3 ⟨rfl, B3⟩
  obtain ⟨iv, hiv⟩ : ∃ iv, invW p (lead ys) = iv := ⟨_, rfl⟩
  rw [hiv]
  have HIV := Lib.hid hiv
  have liv : iv < 18446744073709551616 := by rw [← hiv]; exact invW_word (by omega) h
  have hs3 : (AS = none ∧ xs = []) ∨ ∃ q, AS = some ⟨q, 0, none⟩ ∧ Wr w3 q xs := HS.out.imp id fun ⟨q, a1, a2⟩ => ⟨q, a1, a2.below B3⟩
  have HB : Hid (∃ Q S : List Nat, Fb w3 w.heap.size ab ∧ Below w.heap.size w w3 ∧ Blk w3 gQ 52 .u64 Q ∧ ((AS = none ∧ S = []) ∨ ∃ q, AS = some ⟨q, 0, none⟩ ∧ Wr w3 q S) ∧ DvMid p xs ys Lq Lq Q S) := Lib.hid ⟨_, _, H_f.out.below B3, hW.trans (B3.mono hW.size), HbQ.out.below B3 HbQ.out.lt, hs3, by have := dvmid_start (ys := ys) h2 HNX.out.1; rw [HN.out, HM.out, show n - (g + 1 - 1) = Lq from HLQ.out] at this; exact this⟩
  have hqi : (Lq : Int) - 1 = ((Lq : Int) - 1) := rfl
  clear hW H_f hx hy HbQ HS B3 hiv hqi hLi hs3
  go_wp2_with fail
  go_loopw [12] (fun s12 wr => ∃ k : Nat, s12 = .int .i64 ((k : Int) - 1) ∧ k ≤ Lq ∧ Hid (∃ Q S : List Nat, Fb wr w.heap.size ab ∧ Below w.heap.size w wr ∧ Blk wr gQ 52 .u64 Q ∧ ((AS = none ∧ S = []) ∨ ∃ q, AS = some ⟨q, 0, none⟩ ∧ Wr wr q S) ∧ DvMid p xs ys Lq k Q S)) (fun s12 _ => (intOf s12 + 1).toNat)
  case atStart => exact ⟨Lq, rfl, Nat.le_refl _, HB⟩
  case round =>
    clear HB
    obtain ⟨k, rfl, hk, HB⟩ := hrel
    obtain ⟨Q, S, I1, hW, hb, hS, hD⟩ := HB.out
    have hx := HX0.out.below hW
    have hy := HY0.out.below hW
    have H_f := Lib.hid I1
    have HDM := Lib.hid hD
    clear I1 HB hD hx
    rcases Nat.eq_zero_or_pos k with rfl | hk0
    · have HE := Lib.hid (dvmid_end hpr HY9.out (by rw [HN.out, HM.out, show n - (g + 1 - 1) = Lq from HLQ.out]; exact HDM.out))
      obtain ⟨mn, hmn⟩ : ∃ q, min g n = q := ⟨_, rfl⟩
      have hmi : min (g : Int) (n : Int) = (mn : Int) := by omega
      have hmc : mn ≤ cS := by omega
      have hmb : mn ≤ 4398046511104 := by omega
      have hlv : ∀ w', Below wr.heap.size wr w' → Lv w' AS mn cS (S.take mn) := fun w' hB' => by
        have hl := HDM.out.ls
        rw [HN.out] at hl
        rcases hS with ⟨e1, e2⟩ | ⟨q, e1, e2⟩
        · have e3 : mn = 0 := by rw [e2] at hl; simp at hl; omega
          subst e1; subst e3; rw [List.take_zero]
          exact ⟨Rd.nil _ _ _, rfl, by omega, hcM, Low.nil _⟩
        · subst e1
          exact ⟨(e2.below hB').rd.take mn, by simp; omega, hmc, hcM, (low2 h HDM.out.sp).take mn⟩
      have hQ := Lv.blk hb (Nat.le_refl _) (by rw [HDM.out.lq]; omega) ((HE.out.nq).1.word h)
      rw [HDM.out.lq] at hQ
      have HDM2 := Lib.hid (dm_is hpr HNY.out HE.out)
      rw [HN.out, HM.out, show min (g + 1 - 1) n = mn from hmn] at HDM2
      clear hb hS HDM HE hy hmn
      obtain ⟨f1, f2, f3⟩ := H_f.out
      go_upto_region 9 with fail
      clear f1 f2 f3
      refine region8 [] 9 [IsK (.slice (some ⟨gQ, 0, none⟩) Lq Lq), IsK (.agg #[.int .u64 (ab : Int)]), IsK (.slice AS n cS), IsK (.int .i64 (g : Int)), IsK (.slice AS n cS), IsK (.int .i64 (n : Int)), IsK (.int .i64 (mn : Int)), IsK (.slice AS mn cS), IsPz w.heap.size (nrm p (S.take mn))] (fun _ _ d _ _ h => by cases d <;> exact h) (by kernel_rfl) (by kernel_rfl) (by kernel_rfl) ⟨stay_k _, stay_k _, stay_k _, stay_k _, stay_k _, stay_k _, stay_k _, stay_k _, stay_pz _ _, trivial⟩ ?_ ?_
      · refine HopAll.cons rfl ?_ (HopAll.cons rfl ?_ (HopAll.cons rfl ?_ (HopAll.cons rfl ?_ (HopAll.cons rfl ?_ (HopAll.cons rfl ?_ (HopAll.cons rfl ?_ (HopAll.cons rfl ?_ (HopAll.cons rfl ?_ HopAll.nil))))))))
        · intro a w1 hB ho hp K hK
          have e10 : a.eval (.tmp 10) = (.slice (some ⟨gQ, 0, none⟩) Lq Lq) := ho 10 (by kernel_rfl)
          refine hop_val (wanted_none rfl) ?_ (hK (.slice (some ⟨gQ, 0, none⟩) Lq Lq) _ rfl (Below.refl _ _))
          unfold execOp; simp only [eval_const, e10]; simp [go_sem]
        · intro a w1 hB ho hp K hK
          have e3 : a.eval (.tmp 3) = (.pointer (some ⟨w.heap.size, 0, none⟩)) := ho 3 (by kernel_rfl)
          obtain ⟨u1, u2, u3⟩ := H_f.out.below hB
          exact hop_load (wanted_none rfl) rfl e3 (run_ldf u1) (hK _ _ rfl (Below.refl _ _))
        · intro a w1 hB ho hp K hK
          have e8 : a.eval (.tmp 8) = (.slice AS n cS) := ho 8 (by kernel_rfl)
          refine hop_val (wanted_none rfl) ?_ (hK (.slice AS n cS) _ rfl (Below.refl _ _))
          unfold execOp; simp only [eval_const, e8]; simp [go_sem]
        · intro a w1 hB ho hp K hK
          have e9 : a.eval (.tmp 9) = (.int .i64 (g : Int)) := ho 9 (by kernel_rfl)
          refine hop_val (wanted_none rfl) ?_ (hK (.int .i64 (g : Int)) _ rfl (Below.refl _ _))
          unfold execOp; simp only [eval_const, e9]; simp [go_sem]
        · intro a w1 hB ho hp K hK
          have e8 : a.eval (.tmp 8) = (.slice AS n cS) := ho 8 (by kernel_rfl)
          refine hop_val (wanted_none rfl) ?_ (hK (.slice AS n cS) _ rfl (Below.refl _ _))
          unfold execOp; simp only [eval_const, e8]; simp [go_sem]
        · intro a w1 hB ho hp K hK
          have e62 : a.eval (.tmp 62) = (.slice AS n cS) := hp 4 62 (by kernel_rfl)
          refine hop_val (wanted_none rfl) ?_ (hK (.int .i64 (n : Int)) _ rfl (Below.refl _ _))
          unfold execOp; simp only [eval_const, resolve, Option.map_some, Option.map_none, List.map_toArray, List.map_cons, List.map_nil, e62]; simp [go_sem]
        · intro a w1 hB ho hp K hK
          have e61 : a.eval (.tmp 61) = (.int .i64 (g : Int)) := hp 3 61 (by kernel_rfl)
          have e63 : a.eval (.tmp 63) = (.int .i64 (n : Int)) := hp 5 63 (by kernel_rfl)
          refine hop_val (wanted_none rfl) ?_ (hK (.int .i64 (mn : Int)) _ rfl (Below.refl _ _))
          unfold execOp; simp only [eval_const, resolve, Option.map_some, Option.map_none, List.map_toArray, List.map_cons, List.map_nil, e61, e63]; simp [go_sem, hmi]
        · intro a w1 hB ho hp K hK
          have e60 : a.eval (.tmp 60) = (.slice AS n cS) := hp 2 60 (by kernel_rfl)
          have e64 : a.eval (.tmp 64) = (.int .i64 (mn : Int)) := hp 6 64 (by kernel_rfl)
          refine hop_val (wanted_none rfl) ?_ (hK (.slice AS mn cS) _ rfl (Below.refl _ _))
          unfold execOp; simp only [eval_const, Option.map_some, Option.map_none, e60, e64]; simp [run_slh2 hmc hcS]
        · intro a w1 hB ho hp K hK
          have e59 : a.eval (.tmp 59) = (.agg #[.int .u64 (ab : Int)]) := hp 1 59 (by kernel_rfl)
          have e65 : a.eval (.tmp 65) = (.slice AS mn cS) := hp 7 65 (by kernel_rfl)
          refine hop_call (wanted_none rfl) rfl (args := #[(.agg #[.int .u64 (ab : Int)]), (.slice AS mn cS)]) (by simp only [List.map_toArray, List.map_cons, List.map_nil, eval_const, e59, e65]) (ent7 (by kernel_rfl) _ _) (norm_z HP.out h (hlv _ hB) hmb) ?_
          rintro e w2 ⟨A, n, c, rfl, ⟨p, q⟩, B⟩
          exact ⟨_, rfl, hK _ _ ⟨A, n, c, rfl, p, q.mono (by have := hB.size; have := hW.size; omega)⟩ B⟩
      intro w21 B21
      refine EndAll.one rfl fun vv hv => ?_
      obtain rfl : vv = (.slice (some ⟨gQ, 0, none⟩) Lq Lq) := hv
      refine EndAll.one rfl fun vv hv => ?_
      obtain rfl : vv = (.agg #[.int .u64 (ab : Int)]) := hv
      refine EndAll.one rfl fun vv hv => ?_
      obtain rfl : vv = (.slice AS n cS) := hv
      refine EndAll.one rfl fun vv hv => ?_
      obtain rfl : vv = (.int .i64 (g : Int)) := hv
      refine EndAll.one rfl fun vv hv => ?_
      obtain rfl : vv = (.slice AS n cS) := hv
      refine EndAll.one rfl fun vv hv => ?_
      obtain rfl : vv = (.int .i64 (n : Int)) := hv
      refine EndAll.one rfl fun vv hv => ?_
      obtain rfl : vv = (.int .i64 (mn : Int)) := hv
      refine EndAll.one rfl fun vv hv => ?_
      obtain rfl : vv = (.slice AS mn cS) := hv
      refine EndAll.one rfl fun vv hv => ?_
      obtain ⟨A22, n22, c22, rfl, p22⟩ : IsPz w.heap.size (nrm p (S.take mn)) vv w21 := hv
      refine EndAll.nil (l := [_, _]) rfl ?_
      simp only [Act.put, List.setIfInBounds_toArray, List.set_cons_zero, List.set_cons_succ]
      replace H_f := Lib.hid (H_f.out.below B21)
      replace hQ := hQ.below B21
      replace hW := hW.trans (B21.mono hW.size)
      have rrz := p22
      clear p22
      clear B21
      obtain ⟨rr, rz⟩ := rrz
      obtain ⟨f1, f2, f3⟩ := H_f.out
      go_wp2_with fail
      clear f1 f2 f3
      exact bodyPost_ret (v := (.tuple #[.slice (some ⟨gQ, 0, none⟩) Lq Lq, .slice A22 n22 c22])) (by simp [results, Tryz.results139, go_sem]) rfl ⟨_, _, _, _, _, _, rfl, ⟨by rw [HDM2.out.1]; exact hQ, by rw [HDM2.out.2]; exact rr, rz⟩, hW⟩
    · obtain ⟨k, rfl⟩ : ∃ q, k = q + 1 := ⟨k - 1, by omega⟩
      have e5 : (((k + 1 : Nat) : Int) - 1) = (k : Int) := by omega
      rw [e5]
      have hlS : S.length = n := by rw [HDM.out.ls, HN.out]
      have hkn0 : k + g < n := by have := HLQ.out; omega
      obtain ⟨kg, hkg⟩ : ∃ q, k + g = q := ⟨_, rfl⟩
      have hkn : kg < n := by omega
      obtain ⟨gS, rfl, hwS⟩ : ∃ q, AS = some ⟨q, 0, none⟩ ∧ Wr wr q S := by
        rcases hS with ⟨e1, e2⟩ | h3
        · rw [e2] at hlS; simp at hlS; omega
        · exact h3
      obtain ⟨hgS1, hgS2⟩ := HGS.out gS rfl
      obtain ⟨s, hs⟩ : ∃ s, nth S kg = s := ⟨_, rfl⟩
      have lS : s < 18446744073709551616 := by rw [← hs]; exact (low2 h HDM.out.sp).any (by omega) _
      obtain ⟨q, hq⟩ : ∃ q, s * iv % p = q := ⟨_, rfl⟩
      have lq : q < p := by rw [← hq]; exact Nat.mod_lt _ (by omega)
      have HSS := Lib.hid hs
      have HQQ := Lib.hid hq
      have hwk : IntKind.i64.wrap ((k : Int) + (g : Int)) = (kg : Int) := by rw [IntKind.wrap_i64]; omega
      have HKG := Lib.hid hkg
      have hlQ := HDM.out.lq
      have hgl := hb.lt
      have hgl2 := hwS.lt
      clear hS e5 hs hq hk0 hkg hkn0
      obtain ⟨f1, f2, f3⟩ := H_f.out
      go_upto_region 7 with fail
      clear f1 f2 f3
      refine region8 [] 12 [IsK (.slice (some ⟨gQ, 0, none⟩) Lq Lq), IsK (.int .i64 (k : Int)), IsK (.agg #[.int .u64 (ab : Int)]), IsK (.slice (some ⟨gS, 0, none⟩) n cS), IsK (.int .i64 (k : Int)), IsK (.int .i64 (g : Int)), IsK (.int .i64 (kg : Int)), IsK (.pointer (some ⟨gS, kg, none⟩)), IsK (.int .u64 (s : Int)), IsK (.int .u64 (iv : Int)), IsK (.int .u64 (q : Int)), IsK (.pointer (some ⟨gQ, k, none⟩))] (fun _ _ d _ _ h => by cases d <;> exact h) (by kernel_rfl) (by kernel_rfl) (by kernel_rfl) ⟨stay_k _, stay_k _, stay_k _, stay_k _, stay_k _, stay_k _, stay_k _, stay_k _, stay_k _, stay_k _, stay_k _, stay_k _, trivial⟩ ?_ ?_
      · refine HopAll.cons rfl ?_ (HopAll.cons rfl ?_ (HopAll.cons rfl ?_ (HopAll.cons rfl ?_ (HopAll.cons rfl ?_ (HopAll.cons rfl ?_ (HopAll.cons rfl ?_ (HopAll.cons rfl ?_ (HopAll.cons rfl ?_ (HopAll.cons rfl ?_ (HopAll.cons rfl ?_ (HopAll.cons rfl ?_ HopAll.nil)))))))))))
        · intro a w1 hB ho hp K hK
          have e10 : a.eval (.tmp 10) = (.slice (some ⟨gQ, 0, none⟩) Lq Lq) := ho 10 (by kernel_rfl)
          refine hop_val (wanted_none rfl) ?_ (hK (.slice (some ⟨gQ, 0, none⟩) Lq Lq) _ rfl (Below.refl _ _))
          unfold execOp; simp only [eval_const, e10]; simp [go_sem]
        · intro a w1 hB ho hp K hK
          have e12 : a.eval (.tmp 12) = (.int .i64 (k : Int)) := ho 12 (by kernel_rfl)
          refine hop_val (wanted_none rfl) ?_ (hK (.int .i64 (k : Int)) _ rfl (Below.refl _ _))
          unfold execOp; simp only [eval_const, e12]; simp [go_sem]
        · intro a w1 hB ho hp K hK
          have e3 : a.eval (.tmp 3) = (.pointer (some ⟨w.heap.size, 0, none⟩)) := ho 3 (by kernel_rfl)
          obtain ⟨u1, u2, u3⟩ := H_f.out.below hB
          exact hop_load (wanted_none rfl) rfl e3 (run_ldf u1) (hK _ _ rfl (Below.refl _ _))
        · intro a w1 hB ho hp K hK
          have e8 : a.eval (.tmp 8) = (.slice (some ⟨gS, 0, none⟩) n cS) := ho 8 (by kernel_rfl)
          refine hop_val (wanted_none rfl) ?_ (hK (.slice (some ⟨gS, 0, none⟩) n cS) _ rfl (Below.refl _ _))
          unfold execOp; simp only [eval_const, e8]; simp [go_sem]
        · intro a w1 hB ho hp K hK
          have e12 : a.eval (.tmp 12) = (.int .i64 (k : Int)) := ho 12 (by kernel_rfl)
          refine hop_val (wanted_none rfl) ?_ (hK (.int .i64 (k : Int)) _ rfl (Below.refl _ _))
          unfold execOp; simp only [eval_const, e12]; simp [go_sem]
        · intro a w1 hB ho hp K hK
          have e9 : a.eval (.tmp 9) = (.int .i64 (g : Int)) := ho 9 (by kernel_rfl)
          refine hop_val (wanted_none rfl) ?_ (hK (.int .i64 (g : Int)) _ rfl (Below.refl _ _))
          unfold execOp; simp only [eval_const, e9]; simp [go_sem]
        · intro a w1 hB ho hp K hK
          have e38 : a.eval (.tmp 38) = (.int .i64 (k : Int)) := hp 4 38 (by kernel_rfl)
          have e39 : a.eval (.tmp 39) = (.int .i64 (g : Int)) := hp 5 39 (by kernel_rfl)
          refine hop_val (wanted_none rfl) ?_ (hK (.int .i64 (kg : Int)) _ rfl (Below.refl _ _))
          unfold execOp; simp only [eval_const, e38, e39]; simp [go_sem, hwk]
        · intro a w1 hB ho hp K hK
          have e37 : a.eval (.tmp 37) = (.slice (some ⟨gS, 0, none⟩) n cS) := hp 3 37 (by kernel_rfl)
          have e40 : a.eval (.tmp 40) = (.int .i64 (kg : Int)) := hp 6 40 (by kernel_rfl)
          refine hop_val (wanted_none rfl) ?_ (hK (.pointer (some ⟨gS, kg, none⟩)) _ rfl (Below.refl _ _))
          unfold execOp; simp only [eval_const, Option.map_some, Option.map_none, e37, e40]; simp [run_ixp0 hkn]
        · intro a w1 hB ho hp K hK
          have e41 : a.eval (.tmp 41) = (.pointer (some ⟨gS, kg, none⟩)) := hp 7 41 (by kernel_rfl)
          exact hop_load (wanted_none rfl) rfl e41 (run_ldw (by rw [← HSS.out]; exact (hwS.below hB).cell (by rw [hlS]; exact hkn))) (hK _ _ rfl (Below.refl _ _))
        · intro a w1 hB ho hp K hK
          have e11 : a.eval (.tmp 11) = (.int .u64 (iv : Int)) := ho 11 (by kernel_rfl)
          refine hop_val (wanted_none rfl) ?_ (hK (.int .u64 (iv : Int)) _ rfl (Below.refl _ _))
          unfold execOp; simp only [eval_const, e11]; simp [go_sem]
        · intro a w1 hB ho hp K hK
          have e36 : a.eval (.tmp 36) = (.agg #[.int .u64 (ab : Int)]) := hp 2 36 (by kernel_rfl)
          have e42 : a.eval (.tmp 42) = (.int .u64 (s : Int)) := hp 8 42 (by kernel_rfl)
          have e43 : a.eval (.tmp 43) = (.int .u64 (iv : Int)) := hp 9 43 (by kernel_rfl)
          refine hop_call (wanted_none rfl) rfl (args := #[(.agg #[.int .u64 (ab : Int)]), (.int .u64 (s : Int)), (.int .u64 (iv : Int))]) (by simp only [List.map_toArray, List.map_cons, List.map_nil, eval_const, e36, e42, e43]) (ent7 (by kernel_rfl) _ _) (fmul_v HP.out h lS liv HQQ.out _) ?_
          rintro e w2 ⟨rfl, B⟩
          exact ⟨_, rfl, hK _ _ rfl B⟩
        · intro a w1 hB ho hp K hK
          have e34 : a.eval (.tmp 34) = (.slice (some ⟨gQ, 0, none⟩) Lq Lq) := hp 0 34 (by kernel_rfl)
          have e35 : a.eval (.tmp 35) = (.int .i64 (k : Int)) := hp 1 35 (by kernel_rfl)
          refine hop_val (wanted_none rfl) ?_ (hK (.pointer (some ⟨gQ, k, none⟩)) _ rfl (Below.refl _ _))
          unfold execOp; simp only [eval_const, Option.map_some, Option.map_none, e34, e35]; simp [run_ixp0 (show k < Lq by omega)]
      intro w21 B21
      refine EndAll.one rfl fun vv hv => ?_
      obtain rfl : vv = (.slice (some ⟨gQ, 0, none⟩) Lq Lq) := hv
      refine EndAll.one rfl fun vv hv => ?_
      obtain rfl : vv = (.int .i64 (k : Int)) := hv
      refine EndAll.one rfl fun vv hv => ?_
      obtain rfl : vv = (.agg #[.int .u64 (ab : Int)]) := hv
      refine EndAll.one rfl fun vv hv => ?_
      obtain rfl : vv = (.slice (some ⟨gS, 0, none⟩) n cS) := hv
      refine EndAll.one rfl fun vv hv => ?_
      obtain rfl : vv = (.int .i64 (k : Int)) := hv
      refine EndAll.one rfl fun vv hv => ?_
      obtain rfl : vv = (.int .i64 (g : Int)) := hv
      refine EndAll.one rfl fun vv hv => ?_
      obtain rfl : vv = (.int .i64 (kg : Int)) := hv
      refine EndAll.one rfl fun vv hv => ?_
      obtain rfl : vv = (.pointer (some ⟨gS, kg, none⟩)) := hv
      refine EndAll.one rfl fun vv hv => ?_
      obtain rfl : vv = (.int .u64 (s : Int)) := hv
      refine EndAll.one rfl fun vv hv => ?_
      obtain rfl : vv = (.int .u64 (iv : Int)) := hv
      refine EndAll.one rfl fun vv hv => ?_
      obtain rfl : vv = (.int .u64 (q : Int)) := hv
      refine EndAll.one rfl fun vv hv => ?_
      obtain rfl : vv = (.pointer (some ⟨gQ, k, none⟩)) := hv
      refine EndAll.nil (l := [_]) rfl ?_
      simp only [Act.put, List.setIfInBounds_toArray, List.set_cons_zero, List.set_cons_succ]
      replace H_f := Lib.hid (H_f.out.below B21)
      replace hy := hy.below B21
      replace hW := hW.trans (B21.mono hW.size)
      replace hb := hb.below B21 hgl
      replace hwS := hwS.below B21
      clear B21
      have c1 := hb.cell (j := k) (by rw [hlQ]; omega)
      have c2 := hb.free k
      have hl3 := hb.lt
      obtain ⟨wt, hwt⟩ : ∃ xw, xw = w21.setCell ⟨gQ, k, none⟩ (.int .u64 (q : Int)) := ⟨_, rfl⟩
      have hb' := hb.set k q
      have hwS' := hwS.other (q := ⟨gQ, k, none⟩) (by simp only; omega) (.int .u64 (q : Int))
      have HF' := Lib.hid (Fb.other H_f.out (q := ⟨gQ, k, none⟩) (by simp only; omega) (.int .u64 (q : Int)))
      have hW' := hW.setCell (p := ⟨gQ, k, none⟩) (by simpa using Nat.le_of_lt hgQf) (.int .u64 (q : Int))
      rw [← hwt] at hb' hwS' HF' hW'
      have HWT := Lib.hid hwt.symm
      have cq : wt.cell? ⟨gQ, k, none⟩ = some (.int .u64 (q : Int)) := by rw [hb'.cell (by rw [List.length_set, hlQ]; omega), nth_set_eq (by rw [hlQ]; omega)]
      have hCQ := Lib.hid cq
      clear hwt hb hwS H_f cq hy
      go_upto_region 8 with fail
      rw [HWT.out]
      clear c1 c2 hl3 hW HWT
      have H_f := HF'
      have hW := hW'
      have hy := HY0.out.below hW
      have hgl := hb'.lt
      clear HF' hW'
      refine region8 [] 11 [IsK (.agg #[.int .u64 (ab : Int)]), IsK (.slice (some ⟨gS, 0, none⟩) n cS), IsK (.int .i64 (k : Int)), IsK (.slice (some ⟨gS, k, none⟩) (n - k) (cS - k)), IsK (.slice D (g + 1) d), IsK (.agg #[.int .u64 (ab : Int)]), IsK (.slice (some ⟨gQ, 0, none⟩) Lq Lq), IsK (.int .i64 (k : Int)), IsK (.pointer (some ⟨gQ, k, none⟩)), IsK (.int .u64 (q : Int)), IsK (.int .u64 (((p - q % p) % p : Nat) : Int))] (fun _ _ d _ _ h => by cases d <;> exact h) (by kernel_rfl) (by kernel_rfl) (by kernel_rfl) ⟨stay_k _, stay_k _, stay_k _, stay_k _, stay_k _, stay_k _, stay_k _, stay_k _, stay_k _, stay_k _, stay_k _, trivial⟩ ?_ ?_
      · refine HopAll.cons rfl ?_ (HopAll.cons rfl ?_ (HopAll.cons rfl ?_ (HopAll.cons rfl ?_ (HopAll.cons rfl ?_ (HopAll.cons rfl ?_ (HopAll.cons rfl ?_ (HopAll.cons rfl ?_ (HopAll.cons rfl ?_ (HopAll.cons rfl ?_ (HopAll.cons rfl ?_ HopAll.nil))))))))))
        · intro a w1 hB ho hp K hK
          have e3 : a.eval (.tmp 3) = (.pointer (some ⟨w.heap.size, 0, none⟩)) := ho 3 (by kernel_rfl)
          obtain ⟨u1, u2, u3⟩ := H_f.out.below hB
          exact hop_load (wanted_none rfl) rfl e3 (run_ldf u1) (hK _ _ rfl (Below.refl _ _))
        · intro a w1 hB ho hp K hK
          have e8 : a.eval (.tmp 8) = (.slice (some ⟨gS, 0, none⟩) n cS) := ho 8 (by kernel_rfl)
          refine hop_val (wanted_none rfl) ?_ (hK (.slice (some ⟨gS, 0, none⟩) n cS) _ rfl (Below.refl _ _))
          unfold execOp; simp only [eval_const, e8]; simp [go_sem]
        · intro a w1 hB ho hp K hK
          have e12 : a.eval (.tmp 12) = (.int .i64 (k : Int)) := ho 12 (by kernel_rfl)
          refine hop_val (wanted_none rfl) ?_ (hK (.int .i64 (k : Int)) _ rfl (Below.refl _ _))
          unfold execOp; simp only [eval_const, e12]; simp [go_sem]
        · intro a w1 hB ho hp K hK
          have e47 : a.eval (.tmp 47) = (.slice (some ⟨gS, 0, none⟩) n cS) := hp 1 47 (by kernel_rfl)
          have e48 : a.eval (.tmp 48) = (.int .i64 (k : Int)) := hp 2 48 (by kernel_rfl)
          refine hop_val (wanted_none rfl) ?_ (hK (.slice (some ⟨gS, k, none⟩) (n - k) (cS - k)) _ rfl (Below.refl _ _))
          unfold execOp; simp only [eval_const, Option.map_some, Option.map_none, e47, e48]; simp [run_slp (show k < n by have := HKG.out; omega) hcS]
        · intro a w1 hB ho hp K hK
          have e2 : a.eval (.tmp 2) = (.slice D (g + 1) d) := ho 2 (by kernel_rfl)
          refine hop_val (wanted_none rfl) ?_ (hK (.slice D (g + 1) d) _ rfl (Below.refl _ _))
          unfold execOp; simp only [eval_const, e2]; simp [go_sem]
        · intro a w1 hB ho hp K hK
          have e3 : a.eval (.tmp 3) = (.pointer (some ⟨w.heap.size, 0, none⟩)) := ho 3 (by kernel_rfl)
          obtain ⟨u1, u2, u3⟩ := H_f.out.below hB
          exact hop_load (wanted_none rfl) rfl e3 (run_ldf u1) (hK _ _ rfl (Below.refl _ _))
        · intro a w1 hB ho hp K hK
          have e10 : a.eval (.tmp 10) = (.slice (some ⟨gQ, 0, none⟩) Lq Lq) := ho 10 (by kernel_rfl)
          refine hop_val (wanted_none rfl) ?_ (hK (.slice (some ⟨gQ, 0, none⟩) Lq Lq) _ rfl (Below.refl _ _))
          unfold execOp; simp only [eval_const, e10]; simp [go_sem]
        · intro a w1 hB ho hp K hK
          have e12 : a.eval (.tmp 12) = (.int .i64 (k : Int)) := ho 12 (by kernel_rfl)
          refine hop_val (wanted_none rfl) ?_ (hK (.int .i64 (k : Int)) _ rfl (Below.refl _ _))
          unfold execOp; simp only [eval_const, e12]; simp [go_sem]
        · intro a w1 hB ho hp K hK
          have e52 : a.eval (.tmp 52) = (.slice (some ⟨gQ, 0, none⟩) Lq Lq) := hp 6 52 (by kernel_rfl)
          have e53 : a.eval (.tmp 53) = (.int .i64 (k : Int)) := hp 7 53 (by kernel_rfl)
          refine hop_val (wanted_none rfl) ?_ (hK (.pointer (some ⟨gQ, k, none⟩)) _ rfl (Below.refl _ _))
          unfold execOp; simp only [eval_const, Option.map_some, Option.map_none, e52, e53]; simp [run_ixp0 (show k < Lq by omega)]
        · intro a w1 hB ho hp K hK
          have e54 : a.eval (.tmp 54) = (.pointer (some ⟨gQ, k, none⟩)) := hp 8 54 (by kernel_rfl)
          exact hop_load (wanted_none rfl) rfl e54 (run_ldw (by rw [← hCQ.out]; exact hB.cell (p := ⟨gQ, k, none⟩) hgl)) (hK _ _ rfl (Below.refl _ _))
        · intro a w1 hB ho hp K hK
          have e51 : a.eval (.tmp 51) = (.agg #[.int .u64 (ab : Int)]) := hp 5 51 (by kernel_rfl)
          have e55 : a.eval (.tmp 55) = (.int .u64 (q : Int)) := hp 9 55 (by kernel_rfl)
          refine hop_call (wanted_none rfl) rfl (args := #[(.agg #[.int .u64 (ab : Int)]), (.int .u64 (q : Int))]) (by simp only [List.map_toArray, List.map_cons, List.map_nil, eval_const, e51, e55]) (ent7 (by kernel_rfl) _ _) (fneg_v HP.out h (show q < 18446744073709551616 by omega) rfl _) ?_
          rintro e w2 ⟨rfl, B⟩
          exact ⟨_, rfl, hK _ _ rfl B⟩
      intro w22 B22
      refine EndAll.one rfl fun vv hv => ?_
      obtain rfl : vv = (.agg #[.int .u64 (ab : Int)]) := hv
      refine EndAll.one rfl fun vv hv => ?_
      obtain rfl : vv = (.slice (some ⟨gS, 0, none⟩) n cS) := hv
      refine EndAll.one rfl fun vv hv => ?_
      obtain rfl : vv = (.int .i64 (k : Int)) := hv
      refine EndAll.one rfl fun vv hv => ?_
      obtain rfl : vv = (.slice (some ⟨gS, k, none⟩) (n - k) (cS - k)) := hv
      refine EndAll.one rfl fun vv hv => ?_
      obtain rfl : vv = (.slice D (g + 1) d) := hv
      refine EndAll.one rfl fun vv hv => ?_
      obtain rfl : vv = (.agg #[.int .u64 (ab : Int)]) := hv
      refine EndAll.one rfl fun vv hv => ?_
      obtain rfl : vv = (.slice (some ⟨gQ, 0, none⟩) Lq Lq) := hv
      refine EndAll.one rfl fun vv hv => ?_
      obtain rfl : vv = (.int .i64 (k : Int)) := hv
      refine EndAll.one rfl fun vv hv => ?_
      obtain rfl : vv = (.pointer (some ⟨gQ, k, none⟩)) := hv
      refine EndAll.one rfl fun vv hv => ?_
      obtain rfl : vv = (.int .u64 (q : Int)) := hv
      refine EndAll.one rfl fun vv hv => ?_
      obtain rfl : vv = (.int .u64 (((p - q % p) % p : Nat) : Int)) := hv
      refine EndAll.nil (l := [_]) rfl ?_
      simp only [Act.put, List.setIfInBounds_toArray, List.set_cons_zero, List.set_cons_succ]
      replace H_f := Lib.hid (H_f.out.below B22)
      replace hy := hy.below B22
      replace hW := hW.trans (B22.mono hW.size)
      replace hb' := hb'.below B22 hgl
      replace hwS' := hwS'.below B22
      clear B22
      obtain ⟨f1, f2, f3⟩ := H_f.out
      go_wp2_with fail
      clear f1 f2 f3
      refine (gather_v (o := k) HP.out h hwS' HDM.out.sp hy (fun ad e => by obtain ⟨a2, e2, hq, _⟩ := HY0.out.at (k := 0) hm0; rw [e] at e2; cases e2; omega) HNY.out.1 (Nat.mod_lt _ (by omega)) (by rw [hlS]; have := HKG.out; omega) (by have := HKG.out; omega) (by omega) (by omega)).mono ?_
      rintro e w9 ⟨rfl, S2, HG, hwS3, hg3⟩
      have HF3 := Lib.hid (H_f.out.grown hg3 (by omega))
      have hb3 := hb'.grown hg3 (fun e => by have := Option.some.inj e; omega)
      replace hW := grown_to_below hW hg3 (by omega)
      have HN3 : Hid (DvMid p xs ys Lq k (Q.set k q) S2) := Lib.hid (by
        have e6 : Lq = xs.length - (ys.length - 1) := by rw [HN.out, HM.out]; exact HLQ.out.symm
        have e7 : g = ys.length - 1 := by rw [HM.out]; rfl
        have h8 := HDM.out
        have h9 := HSS.out
        rw [← HKG.out] at h9
        rw [e6] at h8 ⊢
        rw [e7] at h9
        exact dvmid_step hpr HNX.out HNY.out HY9.out h8 (by rw [← e6]; exact hk) h9 (by rw [HIV.out]; exact HQQ.out) HG)
      clear HG hg3 H_f hb' hwS' hy HDM
      go_wp2_with fail
      go_roundw
      case rel => exact ⟨k, by go_num, by omega, Lib.hid ⟨_, _, HF3.out, hW, hb3, .inr ⟨gS, rfl, hwS3⟩, HN3.out⟩⟩
      case measure => first | (simp [intOf]; done) | (simp [intOf]; omega)
theorem divide_v {ab p n c m d : Nat} {A D : Option Addr} {xs ys : List Nat} {w : World} (hp : ab + 2 = p) (h : p < 2147483648) (hx : Lv w A n c xs) (hn : n ≤ 1099511627776) (hy : Lv w D m d ys) (hm : m ≤ 1099511627776) (hpr : MR.Pr p) (nx : Nm p xs) (ny : Nm p ys) (y0 : ys ≠ []) :
    Calls Tryz.prog 139 #[.agg #[.int .u64 (ab : Int)], .slice A n c, .slice D m d] w (LLPost (quoP p xs ys) (remP p xs ys) w) := (divide_z hp h hx hn hy hm hpr nx ny y0).mono fun _ _ h => h.post
end Go.Proofs.YtddbhhedjipjkaaGreatDoor
