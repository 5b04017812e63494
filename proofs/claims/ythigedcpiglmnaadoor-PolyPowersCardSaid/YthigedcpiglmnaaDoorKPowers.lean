/-
  The walk of PolyPowers.
-/
import Derived.Test.YthigedcpiglmnaaDoorFpT
/-! The walk of PolyPowers. -/
namespace Go.Proofs.YthigedcpiglmnaaDoor
open Go.RowKit
set_option linter.unusedVariables false
set_option linter.unusedSimpArgs false

/-- Two bytes in memory. -/
def T2b (w : World) (g a b : Nat) : Prop := w.cell? ⟨g, 0, none⟩ = some (.int .u8 (a : Int)) ∧ w.cell? ⟨g, 1, none⟩ = some (.int .u8 (b : Int)) ∧ w.frozen? ⟨g, 0, none⟩ = false ∧ w.frozen? ⟨g, 1, none⟩ = false ∧ g < w.heap.size
theorem T2b.below {w w' : World} {g a b : Nat} (h : T2b w g a b) (hb : Below w.heap.size w w') : T2b w' g a b := by
  obtain ⟨h0, h1, f0, f1, hl⟩ := h
  exact ⟨(hb.cell (p := ⟨g, 0, none⟩) hl).trans h0, (hb.cell (p := ⟨g, 1, none⟩) hl).trans h1, (hb.frozen (p := ⟨g, 0, none⟩) hl).trans f0, (hb.frozen (p := ⟨g, 1, none⟩) hl).trans f1, Nat.lt_of_lt_of_le hl hb.size⟩
theorem T2b.new (w : World) (a b : Nat) (T : TypeId) : T2b (w.alloc (.cells #[.int .u8 (a : Int), .int .u8 (b : Int)] T)) w.heap.size a b := by
  refine ⟨?_, ?_, ?_, ?_, ?_⟩ <;> simp [go_sem]
theorem run_ld8 {w : World} {q : Addr} {x : Nat} (h : w.cell? q = some (.int .u8 (x : Int))) : (Instr.loadAt 5 (.pointer (some q))).run Tryd.prog w = .ok (.int .u8 (x : Int)) w := by
  simp [go_sem, h]
theorem tmod31 (e : Int) : -31 < e.tmod 31 ∧ e.tmod 31 < 31 := by
  have h := Int.natAbs_tmod e 31
  have h2 : e.natAbs % 31 < 31 := Nat.mod_lt _ (by omega)
  have h3 : (31 : Int).natAbs = 31 := rfl
  rw [h3] at h
  omega
theorem pw_len (p : Nat) (a : List Nat) : ∀ n, (pw p a n).length ≤ n * a.length + 1
  | 0 => by
    have h1 := nrm_le p [1]
    have h2 : (pw p a 0).length = (nrm p [1]).length := rfl
    rw [h2]; simp at h1; omega
  | n + 1 => by
    have h1 := mulp_le p (pw p a n) a
    have h2 := pw_len p a n
    rw [Nat.succ_mul]
    have h3 : (pw p a (n + 1)).length ≤ (pw p a n).length + a.length - 1 := h1
    omega
set_option maxRecDepth 100000 in
set_option maxHeartbeats 1000000 in
/-- PolyPowers. -/
theorem powers9_calls {n b0 k1 c1 k2 c2 : Nat} {A1 A2 : Option Addr} {xs ys : List Nat} {w : World} (hn : n < 256) (hb0 : b0 < 256) (hx : Lv w A1 k1 c1 xs) (hy : Lv w A2 k2 c2 ys) (hT : TabHas w) :
    Calls Tryd.prog 7 #[.agg #[.int .u8 (n : Int), .int .u8 (b0 : Int)], .slice A1 k1 c1, .slice A2 k2 c2] w (BlPost true w) := by
  obtain ⟨p, hp0⟩ : ∃ p, pn (n % 12) = p := ⟨_, rfl⟩
  have hp := pn_pr (n % 12) (by omega)
  rw [hp0] at hp
  obtain ⟨ab, hab⟩ : ∃ ab, ab + 2 = p := ⟨p - 2, by have := hp.2.2; omega⟩
  have hpr := hp.1
  have h := hp.2.1
  have h2 : 2 ≤ p := hp.2.2
  have HP := Lib.hid hab
  have HP0 := Lib.hid hp0
  clear hab hp hp0
  have hW := Below.refl w.heap.size w
  obtain ⟨wp0, hwp0⟩ : ∃ xw, xw = w.alloc (.cells #[.int .u8 (n : Int), .int .u8 (b0 : Int)] 48) := ⟨_, rfl⟩
  have zp0 : Below w.heap.size w wp0 := by rw [hwp0]; exact zba _ _
  have sp0 : wp0.heap.size = w.heap.size + 1 := by rw [hwp0, World.size_alloc]
  have Itwo : T2b wp0 w.heap.size n b0 := by rw [hwp0]; exact T2b.new _ _ _ _
  replace hx := hx.below zp0
  replace hy := hy.below zp0
  replace hT := hT.below zp0
  replace hW := hW.trans (zp0.mono hW.size)
  have H_two := Lib.hid Itwo
  clear Itwo zp0
  have HW : Hid ((w.alloc (.cells #[.int .u8 (n : Int), .int .u8 (b0 : Int)] 48)) = wp0) := Lib.hid (by rw [hwp0])
  have lw_two : w.heap.size ≤ w.heap.size := by omega
  clear hwp0 sp0
  obtain ⟨E, hE⟩ : ∃ E : Int, IntKind.i8.wrap (b0 : Int) = E := ⟨_, rfl⟩
  have HE := Lib.hid hE
  obtain ⟨K, hK⟩ : ∃ K : Int, E.tmod 31 = K := ⟨_, rfl⟩
  have hKb := tmod31 E
  rw [hK] at hKb
  have HK := Lib.hid hK
  clear hE hK
  go_enter Tryd.func7, Tryd.ntmps7
  obtain ⟨two1, two2, two3, two4, two5⟩ := H_two.out
  go_wp2_with fail
  rw [HW.out]
  clear two1 two2 two3 two4 two5
  refine region8 [] 7 [IsK (.pointer (some ⟨w.heap.size, 0, none⟩)), IsK (.int .u8 (n : Int)), IsK (.pointer (some ⟨w.heap.size, 1, none⟩)), IsK (.int .u8 (b0 : Int)), IsK (.int .i8 E), IsK (.int .u8 (n : Int)), IsK (.int .i8 E)] (fun _ _ d _ _ h => by cases d <;> exact h) (by kernel_rfl) (by kernel_rfl) (by kernel_rfl) ⟨stay_k _, stay_k _, stay_k _, stay_k _, stay_k _, stay_k _, stay_k _, trivial⟩ ?_ ?_
  · refine HopAll.cons rfl ?_ (HopAll.cons rfl ?_ (HopAll.cons rfl ?_ (HopAll.cons rfl ?_ (HopAll.cons rfl ?_ (HopAll.cons rfl ?_ (HopAll.cons rfl ?_ HopAll.nil))))))
    · intro a w1 hB ho hp K hK
      have e3 : a.eval (.tmp 3) = (.pointer (some ⟨w.heap.size, 0, none⟩)) := ho 3 (by kernel_rfl)
      refine hop_val (wanted_none rfl) ?_ (hK (.pointer (some ⟨w.heap.size, 0, none⟩)) _ rfl (Below.refl _ _))
      unfold execOp; simp only [eval_const, e3]; simp [go_sem]
    · intro a w1 hB ho hp K hK
      have e18 : a.eval (.tmp 18) = (.pointer (some ⟨w.heap.size, 0, none⟩)) := hp 0 18 (by kernel_rfl)
      exact hop_load (wanted_none rfl) rfl e18 (run_ld8 (H_two.out.below hB).1) (hK _ _ rfl (Below.refl _ _))
    · intro a w1 hB ho hp K hK
      have e3 : a.eval (.tmp 3) = (.pointer (some ⟨w.heap.size, 0, none⟩)) := ho 3 (by kernel_rfl)
      refine hop_val (wanted_none rfl) ?_ (hK (.pointer (some ⟨w.heap.size, 1, none⟩)) _ rfl (Below.refl _ _))
      unfold execOp; simp only [eval_const, e3]; simp [go_sem]
    · intro a w1 hB ho hp K hK
      have e20 : a.eval (.tmp 20) = (.pointer (some ⟨w.heap.size, 1, none⟩)) := hp 2 20 (by kernel_rfl)
      exact hop_load (wanted_none rfl) rfl e20 (run_ld8 (H_two.out.below hB).2.1) (hK _ _ rfl (Below.refl _ _))
    · intro a w1 hB ho hp K hK
      have e21 : a.eval (.tmp 21) = (.int .u8 (b0 : Int)) := hp 3 21 (by kernel_rfl)
      refine hop_val (wanted_none rfl) ?_ (hK (.int .i8 E) _ rfl (Below.refl _ _))
      unfold execOp; simp only [eval_const, e21]; simp [go_sem, HE.out]
    · intro a w1 hB ho hp K hK
      have e19 : a.eval (.tmp 19) = (.int .u8 (n : Int)) := hp 1 19 (by kernel_rfl)
      refine hop_val (wanted_none rfl) ?_ (hK (.int .u8 (n : Int)) _ rfl (Below.refl _ _))
      unfold execOp; simp only [eval_const, e19]; simp [go_sem]
    · intro a w1 hB ho hp K hK
      have e22 : a.eval (.tmp 22) = (.int .i8 E) := hp 4 22 (by kernel_rfl)
      refine hop_val (wanted_none rfl) ?_ (hK (.int .i8 E) _ rfl (Below.refl _ _))
      unfold execOp; simp only [eval_const, e22]; simp [go_sem]
  intro w21 B21
  refine EndAll.one rfl fun vv hv => ?_
  obtain rfl : vv = (.pointer (some ⟨w.heap.size, 0, none⟩)) := hv
  refine EndAll.one rfl fun vv hv => ?_
  obtain rfl : vv = (.int .u8 (n : Int)) := hv
  refine EndAll.one rfl fun vv hv => ?_
  obtain rfl : vv = (.pointer (some ⟨w.heap.size, 1, none⟩)) := hv
  refine EndAll.one rfl fun vv hv => ?_
  obtain rfl : vv = (.int .u8 (b0 : Int)) := hv
  refine EndAll.one rfl fun vv hv => ?_
  obtain rfl : vv = (.int .i8 E) := hv
  refine EndAll.one rfl fun vv hv => ?_
  obtain rfl : vv = (.int .u8 (n : Int)) := hv
  refine EndAll.one rfl fun vv hv => ?_
  obtain rfl : vv = (.int .i8 E) := hv
  refine EndAll.nil (l := []) rfl ?_
  simp only [Act.put, List.setIfInBounds_toArray, List.set_cons_zero, List.set_cons_succ]
  replace H_two := Lib.hid (H_two.out.below B21)
  replace hx := hx.below B21
  replace hy := hy.below B21
  replace hT := hT.below B21
  replace hW := hW.trans (B21.mono hW.size)
  clear B21
  obtain ⟨two1, two2, two3, two4, two5⟩ := H_two.out
  go_wp2_with fail
  clear two1 two2 two3 two4 two5
  refine (awake9_v hT).mono ?_
  rintro e w22 ⟨rfl, B22⟩
  replace H_two := Lib.hid (H_two.out.below B22)
  replace hx := hx.below B22
  replace hy := hy.below B22
  replace hT := hT.below B22
  replace hW := hW.trans (B22.mono hW.size)
  clear B22
  by_cases hf : k1 ≤ 8 ∧ k2 ≤ 8
  · skip
    obtain ⟨two1, two2, two3, two4, two5⟩ := H_two.out
    go_wp2_with fail
    clear two1 two2 two3 two4 two5
    refine (few9_yes (k := 8) hf.1 hf.2).mono ?_
    rintro e w23 ⟨rfl, B23⟩
    replace H_two := Lib.hid (H_two.out.below B23)
    replace hx := hx.below B23
    replace hy := hy.below B23
    replace hT := hT.below B23
    replace hW := hW.trans (B23.mono hW.size)
    clear B23
    obtain ⟨hb1, hb2⟩ := hf
    have lx := hx.len
    have ly := hy.len
    obtain ⟨two1, two2, two3, two4, two5⟩ := H_two.out
    go_wp2_with fail
    clear two1 two2 two3 two4 two5
    refine (fof9_v (ab := ab) hn hT HP0.out HP.out).mono ?_
    rintro e w24 ⟨rfl, B24⟩
    replace H_two := Lib.hid (H_two.out.below B24)
    replace hx := hx.below B24
    replace hy := hy.below B24
    replace hT := hT.below B24
    replace hW := hW.trans (B24.mono hW.size)
    clear B24
    have O_two := H_two
    obtain ⟨w25, hw25⟩ : ∃ xw, xw = w24.alloc (.cells #[.int .u64 (ab : Int)] 28) := ⟨_, rfl⟩
    have z25 : Below w24.heap.size w24 w25 := by rw [hw25]; exact zba _ _
    have HW25 : Hid (w24.alloc (.cells #[.int .u64 (ab : Int)] 28) = w25) := Lib.hid hw25.symm
    have nn_two_f : ¬ (w.heap.size = w24.heap.size) := by have := H_two.out.2.2.2.2; omega
    have nm_two_f : ¬ (w24.heap.size = w.heap.size) := by omega
    have lw_f : w.heap.size ≤ w24.heap.size := by have := hW.size; omega
    replace H_two := Lib.hid (H_two.out.below z25)
    replace hx := hx.below z25
    replace hy := hy.below z25
    replace hT := hT.below z25
    replace hW := hW.trans (z25.mono hW.size)
    have H_f : Hid (Fb w25 w24.heap.size ab) := Lib.hid (by rw [hw25]; exact Fb.new _ _ _)
    clear z25 hw25
    have hk := HK.out
    have hw64 : IntKind.i64.wrap K = K := by rw [IntKind.wrap_i64]; omega
    by_cases hneg : K < 0 ∨ nrm p ys = []
    · have HNG := Lib.hid hneg
      obtain ⟨two1, two2, two3, two4, two5⟩ := O_two.out
      go_wp2_with fail
      rw [HW25.out]
      clear two1 two2 two3 two4 two5 O_two
      refine (powmod_no HP.out h hx (by omega) hy (by omega) HNG.out).mono ?_
      rintro e w26 ⟨A26, n26, c26, rfl, r1, B26⟩
      replace H_two := Lib.hid (H_two.out.below B26)
      replace H_f := Lib.hid (H_f.out.below B26)
      replace hx := hx.below B26
      replace hy := hy.below B26
      replace hT := hT.below B26
      replace hW := hW.trans (B26.mono hW.size)
      clear B26
      obtain rfl : n26 = 0 := r1.len.symm
      clear r1 hneg
      by_cases hs : K < 0
      · have hsb : decide (K < 0) = true := decide_eq_true hs
        obtain ⟨two1, two2, two3, two4, two5⟩ := H_two.out
        obtain ⟨f1, f2, f3⟩ := H_f.out
        go_wp2_with fail
        clear two1 two2 two3 two4 two5 f1 f2 f3
        exact bodyPost_ret (v := (.bool true)) (by simp [results, Tryd.results7, go_sem]) rfl ⟨rfl, hW⟩
      · have hsb : decide (K < 0) = false := decide_eq_false hs
        have hl0 : (nrm p ys).length = 0 := by rw [HNG.out.resolve_left hs]; rfl
        have HL0 := Lib.hid hl0
        clear hl0
        obtain ⟨two1, two2, two3, two4, two5⟩ := H_two.out
        obtain ⟨f1, f2, f3⟩ := H_f.out
        go_wp2_with fail
        clear two1 two2 two3 two4 two5 f1 f2 f3
        refine (deg_v HP.out h hy).mono ?_
        rintro e w27 ⟨rfl, B27⟩
        replace H_two := Lib.hid (H_two.out.below B27)
        replace H_f := Lib.hid (H_f.out.below B27)
        replace hx := hx.below B27
        replace hy := hy.below B27
        replace hT := hT.below B27
        replace hW := hW.trans (B27.mono hW.size)
        clear B27
        rw [HL0.out]
        have hdd : decide (((0 : Nat) : Int) - 1 < 0) = true := by decide
        obtain ⟨two1, two2, two3, two4, two5⟩ := H_two.out
        obtain ⟨f1, f2, f3⟩ := H_f.out
        go_wp2_with fail
        clear two1 two2 two3 two4 two5 f1 f2 f3
        exact bodyPost_ret (v := (.bool true)) (by simp [results, Tryd.results7, go_sem]) rfl ⟨rfl, hW⟩
    · obtain ⟨e, rfl⟩ : ∃ e : Nat, K = (e : Int) := ⟨K.toNat, by omega⟩
      have y0 : nrm p ys ≠ [] := fun h9 => hneg (.inr h9)
      have HY := Lib.hid y0
      have he : e < 31 := by omega
      have hsb : decide ((e : Int) < 0) = false := decide_eq_false (by omega)
      obtain ⟨Lb, hLb⟩ : ∃ L : Nat, (nrm p ys).length = L := ⟨_, rfl⟩
      have HLb := Lib.hid hLb
      have hLp : 0 < Lb := by rw [← hLb]; exact List.length_pos_iff.2 y0
      have hdd : decide ((Lb : Int) - 1 < 0) = false := decide_eq_false (by omega)
      clear hneg y0 hLb
      obtain ⟨two1, two2, two3, two4, two5⟩ := O_two.out
      go_wp2_with fail
      rw [HW25.out]
      clear two1 two2 two3 two4 two5 O_two
      refine (powmod_yes HP.out h hx (by omega) hy (by omega) hpr (by omega) HY.out).mono ?_
      rintro e w26 ⟨A26, n26, c26, rfl, r1, B26⟩
      replace H_two := Lib.hid (H_two.out.below B26)
      replace H_f := Lib.hid (H_f.out.below B26)
      replace hx := hx.below B26
      replace hy := hy.below B26
      replace hT := hT.below B26
      replace hW := hW.trans (B26.mono hW.size)
      clear B26
      obtain ⟨two1, two2, two3, two4, two5⟩ := H_two.out
      obtain ⟨f1, f2, f3⟩ := H_f.out
      go_wp2_with fail
      clear two1 two2 two3 two4 two5 f1 f2 f3
      refine (deg_v HP.out h hy).mono ?_
      rintro e w27 ⟨rfl, B27⟩
      replace H_two := Lib.hid (H_two.out.below B27)
      replace H_f := Lib.hid (H_f.out.below B27)
      replace hx := hx.below B27
      replace hy := hy.below B27
      replace hT := hT.below B27
      replace r1 := r1.below B27
      replace hW := hW.trans (B27.mono hW.size)
      clear B27
      rw [HLb.out]
      have hge9 := H_f.out.2.2
      obtain ⟨two1, two2, two3, two4, two5⟩ := H_two.out
      obtain ⟨f1, f2, f3⟩ := H_f.out
      go_wp2_with fail
      clear two1 two2 two3 two4 two5 f1 f2 f3
      obtain ⟨wz, hwz⟩ : ∃ xw, xw = w27.alloc (.cells #[.int .u64 1] 26) := ⟨_, rfl⟩
      have h1 := lv_one w27
      have Bz : Below w27.heap.size w27 wz := by rw [hwz]; exact zba _ _
      rw [← hwz] at h1 ⊢
      replace H_two := Lib.hid (H_two.out.below Bz)
      replace H_f := Lib.hid (H_f.out.below Bz)
      replace hx := hx.below Bz
      replace hy := hy.below Bz
      replace hT := hT.below Bz
      replace r1 := r1.below Bz
      replace hW := hW.trans (Bz.mono hW.size)
      have HB : Hid (Fb wz w24.heap.size ab ∧ Below w.heap.size w wz ∧ ∃ A n c, Value.slice (some ⟨w27.heap.size, 0, none⟩) 1 1 = .slice A n c ∧ Lv wz A n c (pw p xs 0)) := Lib.hid ⟨H_f.out, hW, _, _, _, rfl, by unfold pw; rw [nrm_of (by omega) (nm_one hpr)]; exact h1⟩
      have HR1 := Lib.hid r1
      have HX1 := Lib.hid hx
      have HY1 := Lib.hid hy
      have HBW := Lib.hid hW
      clear H_f H_two hW h1 Bz hwz hx hy hT r1 hge9
      go_loopw [13, 14] (fun s13 s14 wr => ∃ k : Nat, s14 = .int .i64 (k : Int) ∧ k ≤ e ∧ Hid (Fb wr w24.heap.size ab ∧ Below wz.heap.size wz wr ∧ ∃ A n c, s13 = .slice A n c ∧ Lv wr A n c (pw p xs k))) (fun _ s14 _ => e - (intOf s14).toNat)
      case atStart => exact ⟨0, rfl, Nat.zero_le _, Lib.hid ⟨HB.out.1, Below.refl _ _, HB.out.2.2⟩⟩
      case round =>
        clear HB
        obtain ⟨k, rfl, hk9, HB⟩ := hrel
        obtain ⟨I1, hWz, A9, n9, c9, rfl, r9⟩ := HB.out
        have H_f := Lib.hid I1
        clear I1 HB
        have hx := HX1.out.below hWz
        have hy := HY1.out.below hWz
        have hpl := pw_len p xs k
        have l9 := r9.len
        have hkx : k * xs.length ≤ 30 * 8 := Nat.mul_le_mul (by omega) (by omega)
        by_cases hlt : k < e
        · skip
          obtain ⟨f1, f2, f3⟩ := H_f.out
          go_wp2_with fail
          clear f1 f2 f3
          refine (pmul_v HP.out h r9 (by omega) hx (by omega)).mono ?_
          rintro e0 w8 ⟨A8, n8, c8, rfl, r8, B8⟩
          go_wp2_with fail
          go_roundw
          case rel => exact ⟨k + 1, by go_num, by omega, Lib.hid ⟨H_f.out.below B8, hWz.trans (B8.mono hWz.size), _, _, _, rfl, r8⟩⟩
          case measure => first | (simp [intOf]; done) | (simp [intOf]; omega)
        · obtain rfl : k = e := by omega
          obtain ⟨q, hq⟩ : ∃ q : Bool, decide (nrm p ys ≠ []) = q := ⟨_, rfl⟩
          have HQ : Hid (q = true ↔ nrm p ys ≠ []) := Lib.hid (by rw [← hq]; exact decide_eq_true_iff)
          have HPW := Lib.hid (nrm_of (show 0 < p by omega) (nm_pw (show 0 < p by omega) xs k))
          have r1 := HR1.out.below hWz
          clear hq
          obtain ⟨f1, f2, f3⟩ := H_f.out
          go_wp2_with fail
          clear f1 f2 f3
          refine (divmod_v HP.out h r9 (by omega) hy (by omega) hpr HQ.out).mono ?_
          rintro e0 w8 ⟨A8, n8, c8, D8, m8, d8, rfl, ⟨rq, rr⟩, B8⟩
          rw [HPW.out] at rr
          replace r1 := r1.below B8
          have hW8 := (HBW.out.trans (hWz.mono HBW.out.size)).trans (B8.mono (Nat.le_trans HBW.out.size hWz.size))
          clear rq H_f
          go_wp2_with fail
          refine (rsame_v (b := true) r1 rr ⟨fun _ => rfl, fun _ => rfl⟩).mono ?_
          rintro e0 w10 ⟨rfl, B10⟩
          go_wp2_with fail
          exact bodyPost_ret (v := .bool true) (by simp [results, Tryd.results7, go_sem]) rfl ⟨rfl, hW8.trans (B10.mono hW8.size)⟩
  · skip
    obtain ⟨two1, two2, two3, two4, two5⟩ := H_two.out
    go_wp2_with fail
    clear two1 two2 two3 two4 two5
    refine (few9_no (k := 8) hf).mono ?_
    rintro e w23 ⟨rfl, B23⟩
    replace H_two := Lib.hid (H_two.out.below B23)
    replace hx := hx.below B23
    replace hy := hy.below B23
    replace hT := hT.below B23
    replace hW := hW.trans (B23.mono hW.size)
    clear B23
    obtain ⟨two1, two2, two3, two4, two5⟩ := H_two.out
    go_wp2_with fail
    clear two1 two2 two3 two4 two5
    refine (awake9_v hT).mono ?_
    rintro e w24 ⟨rfl, B24⟩
    replace H_two := Lib.hid (H_two.out.below B24)
    replace hx := hx.below B24
    replace hy := hy.below B24
    replace hT := hT.below B24
    replace hW := hW.trans (B24.mono hW.size)
    clear B24
    obtain ⟨two1, two2, two3, two4, two5⟩ := H_two.out
    go_wp2_with fail
    clear two1 two2 two3 two4 two5
    exact bodyPost_ret (v := (.bool true)) (by simp [results, Tryd.results7, go_sem]) rfl ⟨rfl, hW⟩
end Go.Proofs.YthigedcpiglmnaaDoor
