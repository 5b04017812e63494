/-
  BarS
-/
import Derived.Test.YtcdkdanfiimlkaaPk37

/-! Contracts: pivots by minors; lists of ints that are the same. -/
namespace Go.Proofs.Ytcdkdanfiimlkaa
open Go.RowKit
set_option linter.unusedVariables false
set_option linter.unusedSimpArgs false

def IsIz (ps : List Nat) : FVal := fun v w => ∃ A c, v = .slice A ps.length c ∧ Iz w A ps.length c ps
def kIz (ps : List Nat) : FK := .f (IsIz ps) (fun v w w' ⟨A, c, e, h1⟩ hb => ⟨A, c, e, h1.below hb⟩)
theorem dk_eq (k : Nat) : ∀ r, dk k r = r * (k + 66) + 1
  | 0 => by simp [dk]
  | r + 1 => by unfold dk; rw [dk_eq k r, Nat.succ_mul]; omega
theorem bool_of (p : Prop) : ∃ b : Bool, b = true ↔ p := by
  rcases Classical.em p with h | h
  · exact ⟨true, by simp [h]⟩
  · exact ⟨false, by simp [h]⟩
set_option maxRecDepth 100000 in
set_option maxHeartbeats 1000000 in
/-- The reference's Pivots. -/
theorem rpiv_q {q : Bool} {r c n d k : Nat} {A : Option Addr} {F : Nat → Nat → Int} {w : World} (ha : Mt q w r c A n d k F) (hr : r ≤ 16) (hk : k ≤ 1000) : Calls Try.prog 50 #[.agg #[.int .i64 (r : Int), .int .i64 (c : Int), .slice A n d]] w (RetK (kIz (DT.piv r F c)) w) := by
  have h4 := ha.hc
  obtain ⟨w1, hw1, b1, z1, s1⟩ := boxes1 w 24 [.int .i64 (r : Int), .int .i64 (c : Int), .slice A n d]
  have HW := Lib.hid hw1
  have HZ := Lib.hid z1
  clear hw1 z1 s1
  go_enter Try.func50, Try.ntmps50
  go_upto_region 1 with fail
  rw [HW.out]
  have HM := Lib.hid ha
  have H0 : Hid (Below w.heap.size w w1 ∧ Bx w1 w.heap.size 24 [.int .i64 (r : Int), .int .i64 (c : Int), .slice A n d] ∧ ∃ A' c' L, L = DT.piv r F (0) ∧ Value.slice none 0 0 = .slice A' L.length c' ∧ Iz w1 A' L.length c' L) := Lib.hid ⟨HZ.out, b1, none, 0, [], rfl, rfl, Iz.nil _⟩
  clear b1 ha HZ HW
  go_wp2_with fail
  go_loopw [4, 3] (fun s4 s3 wr => ∃ j : Nat, s4 = .int .i64 (j : Int) ∧ j ≤ c ∧ Hid (Below w.heap.size w wr ∧ Bx wr w.heap.size 24 [.int .i64 (r : Int), .int .i64 (c : Int), .slice A n d] ∧ ∃ A' c' L, L = DT.piv r F (j) ∧ s3 = .slice A' L.length c' ∧ Iz wr A' L.length c' L)) (fun s4 _ _ => c - (intOf s4).toNat)
  case atStart => exact ⟨0, rfl, Nat.zero_le _, H0⟩
  case round =>
    obtain ⟨j, rfl, hj, HB⟩ := hrel
    clear H0
    obtain ⟨B0, b1, Av, cv, L, hL, rfl, hz⟩ := HB.out
    obtain ⟨i0, i1, i2, i3, i4, i5, i6⟩ := b1.m3
    clear HB
    by_cases hlt : j < c
    · have u2 : (j : Int) < (c : Int) := by omega
      have hlen : L.length ≤ r := by rw [hL]; exact DT.piv_len_le j
      have hlt2 : ∀ x, x ∈ L → x < j := fun x hx => DT.piv_lt j x (by rw [← hL]; exact hx)
      have hM := HM.out.below B0
      have HL := Lib.hid hL
      have HL2 := Lib.hid hlt2
      obtain ⟨N, hN⟩ : ∃ N, L.length = N := ⟨_, rfl⟩
      rw [hN] at hz hlen ⊢
      have HN := Lib.hid hN
      clear hL hlt2 hN
      go_wp2_with (at_builtin; refine wpList_appIz rfl _ _ rfl wr.heap.size (.slice none 0 0) 0 [] rfl (World.ownsRow_nil wr _ _ _) hz rfl (by omega) (Nat.le_refl _) ?_)
      intro vx w4 hx hgx hxb
      have B4 : Below wr.heap.size wr w4 := ⟨hgx.os, hgx.tape, hgx.output, hgx.size, fun k hk => hgx.block k hk (by simp [Value.ownBlock])⟩
      clear hxb hgx
      go_wp2_with (at_builtin; (refine wpList_appOne (wr := w4) rfl _ _ 64 3 (.int .i64 0) 8 rfl Try.underlying64 info_int2 rfl (by omega) wr.heap.size vx N _ rfl hx (.int .i64 (j : Int)) rfl rfl (by omega) B4.size ?_))
      intro vy w5 hy hgy hyb
      have hy2 : w5.ownsRow wr.heap.size 3 1 vy (N + 1) (ints' (L ++ [j])) := by simpa [ints'] using hy
      have B5 : Below wr.heap.size wr w5 := by
        refine (B4.trans ((zba w4 _).mono B4.size)).trans ⟨hgy.os, hgy.tape, hgy.output, hgy.size, fun k hk => hgy.block k (by have := B4.size; simp; omega) fun e => ?_⟩
        have := (hx.lt k e.symm).1
        omega
      obtain ⟨Ay, cy, rfl, hzy⟩ := own_iz hy2
      obtain ⟨b, hb⟩ := bool_of (DT.Som r F (N + 1) fun a => (L ++ [j]).getD a 0)
      have HBB := Lib.hid hb
      have b1' := b1.below B5
      have hzl := hz.below B5
      clear i0 i1 i2 i3 i4 i5 i6 hb hx hy hy2 hgy hyb B4 b1 hz
      go_upto_region 8 with fail
      cases b
      · refine Run.start 3 ?_
        refine .ld .o (ldM b1' 0) ?_
        refine .mv .o ?_
        refine .c2 (.i 0) (.i 1) (x := .k (.bool false)) (by rintro u v w6 hB rfl rfl; exact rsome_q (hM.below (B5.trans (hB.mono B5.size))) (hzy.below hB) hr (by omega) (fun a ha => DT.getD_lt (fun x hx => by have := HL2.out x hx; omega) hlt a) (by rw [dk_eq]; have : (N + 1) * (k + 66) ≤ 17 * 1066 := Nat.mul_le_mul (by omega) (by omega); omega) HBB.out) ?_
        refine .donep [some 19, some 20, some 21] ?_
        intro w6 B6
        change Shut (wpList _ _ _ [] _ _)
        refine ⟨?_⟩
        simp only [Act.put, List.setIfInBounds_toArray, List.set_cons_zero, List.set_cons_succ]
        have HS : Hid (Below w.heap.size w w6 ∧ Bx w6 w.heap.size 24 [.int .i64 (r : Int), .int .i64 (c : Int), .slice A n d] ∧ ∃ A' c' L, L = DT.piv r F (j + 1) ∧ Value.slice Av N cv = .slice A' L.length c' ∧ Iz w6 A' L.length c' L) := Lib.hid ⟨B0.trans ((B5.trans (B6.mono B5.size)).mono B0.size), b1'.below B6, Av, cv, L, by rw [DT.piv_no (by rw [← HL.out, HN.out]; exact fun h => by have := HBB.out.2 h; cases this)]; exact HL.out, by rw [HN.out], by rw [HN.out]; exact hzl.below B6⟩
        clear b1' hzl hzy B0 B5 B6 hM
        go_wp2_with fail
        go_roundw
        case rel => exact ⟨j + 1, by go_num, by omega, HS⟩
        case measure => first | (simp [intOf]; done) | (simp [intOf]; omega)
      · refine Run.start 3 ?_
        refine .ld .o (ldM b1' 0) ?_
        refine .mv .o ?_
        refine .c2 (.i 0) (.i 1) (x := .k (.bool true)) (by rintro u v w6 hB rfl rfl; exact rsome_q (hM.below (B5.trans (hB.mono B5.size))) (hzy.below hB) hr (by omega) (fun a ha => DT.getD_lt (fun x hx => by have := HL2.out x hx; omega) hlt a) (by rw [dk_eq]; have : (N + 1) * (k + 66) ≤ 17 * 1066 := Nat.mul_le_mul (by omega) (by omega); omega) HBB.out) ?_
        refine .donep [some 19, some 20, some 21] ?_
        intro w6 B6
        change Shut (wpList _ _ _ [] _ _)
        refine ⟨?_⟩
        simp only [Act.put, List.setIfInBounds_toArray, List.set_cons_zero, List.set_cons_succ]
        have HS : Hid (Below w.heap.size w w6 ∧ Bx w6 w.heap.size 24 [.int .i64 (r : Int), .int .i64 (c : Int), .slice A n d] ∧ ∃ A' c' L, L = DT.piv r F (j + 1) ∧ Value.slice Ay (N + 1) cy = .slice A' L.length c' ∧ Iz w6 A' L.length c' L) := Lib.hid ⟨B0.trans ((B5.trans (B6.mono B5.size)).mono B0.size), b1'.below B6, Ay, cy, L ++ [j], by rw [DT.piv_yes (by rw [← HL.out, HN.out]; exact HBB.out.1 rfl), ← HL.out], by rw [List.length_append, HN.out]; rfl, by rw [List.length_append, HN.out]; exact hzy.below B6⟩
        clear b1' hzl hzy B0 B5 B6 hM
        go_wp2_with fail
        go_roundw
        case rel => exact ⟨j + 1, by go_num, by omega, HS⟩
        case measure => first | (simp [intOf]; done) | (simp [intOf]; omega)
    · obtain rfl : j = c := by omega
      have u2 : ¬ (j : Int) < (j : Int) := by omega
      have P : Hid (RetK (kIz (DT.piv r F j)) w (.returned (.slice Av L.length cv)) wr) := Lib.hid ⟨_, rfl, ⟨Av, cv, by rw [← hL], by rw [← hL]; exact hz⟩, B0⟩
      clear b1 hz B0 hL
      go_wp2_with fail
      exact bodyPost_ret (v := .slice Av L.length cv) (by simp [results, Try.results50, go_sem]) rfl P.out
set_option maxRecDepth 100000 in
set_option maxHeartbeats 1000000 in
/-- The law's ints. -/
theorem ints_q {A B : Option Addr} {n m e f : Nat} {ps qs : List Nat} {b : Bool} {w : World} (hx : Iz w A n e ps) (hy : Iz w B m f qs) (hb : decide (ps = qs) = b) : Calls Try.prog 51 #[.slice A n e, .slice B m f] w (RetK (.k (.bool b)) w) := by
  have HX := Lib.hid hx
  have HY := Lib.hid hy
  have HB := Lib.hid hb
  have hnd := hx.le
  have hdm := hx.cap
  clear hx hy hb
  by_cases hn : n = m
  · subst hn
    go_enter Try.func51, Try.ntmps51
    go_wp2_with fail
    go_loopw [5] (fun s5 wr => ∃ j : Nat, s5 = .int .i64 (j : Int) ∧ j ≤ n ∧ Hid (Below w.heap.size w wr ∧ ∀ a, a < j → ps.getD a 0 = qs.getD a 0)) (fun s5 _ => n - (intOf s5).toNat)
    case atStart => exact ⟨0, rfl, Nat.zero_le _, Lib.hid ⟨Below.refl _ _, fun i hi => by omega⟩⟩
    case round =>
      obtain ⟨j, rfl, hj, HI⟩ := hrel
      by_cases hlt : j < n
      · have u2 : (j : Int) < (n : Int) := by omega
        obtain ⟨B0, hall⟩ := HI.out
        have HA := Lib.hid hall
        clear hall HI
        obtain ⟨ad, rfl, hab, hA⟩ := (HX.out.below B0).lt (by omega)
        obtain ⟨ad', rfl, hab', hA'⟩ := (HY.out.below B0).lt (by omega)
        have e1 := hA j hlt
        have e2 := hA' j hlt
        obtain ⟨x, hx⟩ : ∃ x, ps.getD j 0 = x := ⟨_, rfl⟩
        obtain ⟨y, hy⟩ : ∃ y, qs.getD j 0 = y := ⟨_, rfl⟩
        rw [hx] at e1
        rw [hy] at e2
        obtain ⟨t, ht⟩ : ∃ t, decide ((x : Int) ≠ (y : Int)) = t := ⟨_, rfl⟩
        have HT := Lib.hid ht
        have HXX := Lib.hid hx
        have HYY := Lib.hid hy
        clear ht hx hy hA hA'
        go_upto_region 6 with fail
        cases t
        · refine Run.start 9 ?_
          refine .mv .o ?_
          refine .mv .o ?_
          refine .two (.i 0) (.i 1) (opIxK hlt) ?_
          refine .ld (.i 2) (ldI (by rw [add_block]; exact hab) e1) ?_
          refine .mv .o ?_
          refine .mv .o ?_
          refine .two (.i 4) (.i 5) (opIxK hlt) ?_
          refine .ld (.i 6) (ldI (by rw [add_block]; exact hab') e2) ?_
          refine .two (.i 3) (.i 7) (opNe HT.out) ?_
          refine .done [some 17, some 18, some 19, some 20, some 21, some 22, some 23, some 24, some 25] ?_
          intro w2 B2
          change Shut (wpList _ _ _ [] _ _)
          refine ⟨?_⟩
          simp only [Act.put, List.setIfInBounds_toArray, List.set_cons_zero, List.set_cons_succ]
          have HS : Hid (Below w.heap.size w w2 ∧ ∀ a, a < j + 1 → ps.getD a 0 = qs.getD a 0) := Lib.hid ⟨zup B0 B2, fun a h => by
            rcases Nat.lt_or_ge a j with h1 | h1
            · exact HA.out a h1
            · have ea : a = j := by omega
              rw [ea, HXX.out, HYY.out]
              have := of_decide_eq_false HT.out
              omega⟩
          clear e1 e2 hab hab' B0 B2
          go_wp2_with fail
          go_roundw
          case rel => exact ⟨j + 1, by go_num, by omega, HS⟩
          case measure => first | (simp [intOf]; done) | (simp [intOf]; omega)
        · refine Run.start 9 ?_
          refine .mv .o ?_
          refine .mv .o ?_
          refine .two (.i 0) (.i 1) (opIxK hlt) ?_
          refine .ld (.i 2) (ldI (by rw [add_block]; exact hab) e1) ?_
          refine .mv .o ?_
          refine .mv .o ?_
          refine .two (.i 4) (.i 5) (opIxK hlt) ?_
          refine .ld (.i 6) (ldI (by rw [add_block]; exact hab') e2) ?_
          refine .two (.i 3) (.i 7) (opNe HT.out) ?_
          refine .done [some 17, some 18, some 19, some 20, some 21, some 22, some 23, some 24, some 25] ?_
          intro w2 B2
          change Shut (wpList _ _ _ [] _ _)
          refine ⟨?_⟩
          simp only [Act.put, List.setIfInBounds_toArray, List.set_cons_zero, List.set_cons_succ]
          have e : b = false := by
            rw [← HB.out]
            refine decide_eq_false fun h => ?_
            have h2 := of_decide_eq_true HT.out
            rw [← HXX.out, ← HYY.out, h] at h2
            exact h2 rfl
          subst e
          go_wp2_with fail
          exact bodyPost_ret (v := .bool false) (by simp [results, Try.results51, go_sem]) rfl (ret_k rfl (zup B0 B2))
      · obtain rfl : j = n := by omega
        have u2 : ¬ (j : Int) < (j : Int) := by omega
        obtain ⟨B0, hall⟩ := HI.out
        have e : b = true := by
          rw [← HB.out]
          refine decide_eq_true (List.ext_getElem (by rw [HX.out.len, HY.out.len]) fun i h1 h2 => ?_)
          have := hall i (by rw [HX.out.len] at h1; exact h1)
          simp [List.getD, h1, h2] at this
          exact this
        subst e
        clear HI hall
        go_wp2_with fail
        exact bodyPost_ret (v := .bool true) (by simp [results, Try.results51, go_sem]) rfl (ret_k rfl B0)
  · have u1 : ¬ (n : Int) = (m : Int) := by omega
    have e : b = false := by
      rw [← HB.out]
      exact decide_eq_false fun h => hn (by rw [← HX.out.len, ← HY.out.len, h])
    subst e
    go_enter Try.func51, Try.ntmps51
    go_wp2_with fail
    exact bodyPost_ret (v := .bool false) (by simp [results, Try.results51, go_sem]) rfl (ret_k rfl (Below.refl _ _))
end Go.Proofs.Ytcdkdanfiimlkaa
