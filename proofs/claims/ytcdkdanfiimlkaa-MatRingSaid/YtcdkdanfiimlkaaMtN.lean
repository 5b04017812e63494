/-
  The reference of layer 11: Mul, One.
-/
import Derived.Test.YtcdkdanfiimlkaaMtM
import Derived.Test.YtcdkdanfiimlkaaZapp
/-! Contracts of the reference: products, identities, number by number. -/
namespace Go.Proofs.Ytcdkdanfiimlkaa
open Go.RowKit
set_option linter.unusedVariables false
set_option linter.unusedSimpArgs false

theorem take_one {l : List Int} {m : Nat} (h : m < l.length) : l.take m ++ [ith l m] = l.take (m + 1) := by
  rw [List.take_succ_eq_append_getElem h]; simp [ith, List.getD, h]
theorem Zc.zero_len {w : World} {s : Bool} {A : Option Addr} {n c : Nat} (h : Zc w s A n c 0) : n = 0 := by
  have := h.1.2.1
  rw [← this]; rfl
theorem OwnZ.fresh {w0 w : World} {k g : Nat} {v : Value} {zs : List Int} (h : OwnZ w0 w k v zs) (hg : w.heap.size ≤ g) : v.ownBlock ≠ some g := fun e => by
  obtain ⟨⟨vs, ⟨h1, _⟩, _⟩, _⟩ := h
  have := (h1.lt g e).2
  omega
theorem OwnZ.zp {w0 w : World} {k g m d n c : Nat} {v : Value} {zs : List Int} {s t : Bool} {A B : Option Addr} (h : OwnZ w0 w k v zs) (b : Bx w g 28 [.bool t, .slice B m d]) (hg : w0.heap.size ≤ g) (hne : v.ownBlock ≠ some g) : OwnZ w0 (Go.Proofs.Ytcdkdanfiimlkaa.zput w g s A n c) k v zs := by
  obtain ⟨⟨vs, ⟨h1, h2⟩, h3⟩, h4⟩ := h
  have hgr : w.grownBy (Go.Proofs.Ytcdkdanfiimlkaa.zput w g s A n c) (some g) := gro_set (q := ⟨g, 1, none⟩) (gro_set (q := ⟨g, 0, none⟩) (gro_refl w (some g)) rfl _) rfl _
  refine ⟨⟨vs, ⟨h1.kept hgr (.inr hne), fun g' cs hg' hc => h2 g' cs hg' ?_⟩, fun j hj => ?_⟩, below_put h4 hg⟩
  · rw [← hgr.block g' (h1.lt g' hg').2 (by rw [← hg']; exact hne)]; exact hc
  · obtain ⟨s', A', n', c', c1, c2, c3, c4⟩ := h3 j hj
    exact ⟨s', A', n', c', c1, c2, Zc.zp c3 b, c4⟩
theorem OwnZ.mono {w0 w : World} {k k' : Nat} {v : Value} {zs : List Int} (h : OwnZ w0 w k v zs) (hk : k ≤ k') : OwnZ w0 w k' v zs := by
  obtain ⟨⟨vs, h1, h3⟩, h4⟩ := h
  exact ⟨⟨vs, h1, fun j hj => by obtain ⟨s', A', n', c', c1, c2, c3, c4⟩ := h3 j hj; exact ⟨s', A', n', c', c1, c2, c3, by omega⟩⟩, h4⟩
/-- A list of normal whole numbers. -/
def IsZs (k : Nat) (zs : List Int) : FVal := fun v w => ∃ A n d, v = .slice A n d ∧ ZL true w A n d k zs
def kZs (k : Nat) (zs : List Int) : FK := .f (IsZs k zs) (fun v w w' ⟨A, n, d, e, h⟩ hb => ⟨A, n, d, e, h.below hb⟩)
theorem retZs {w0 w w2 : World} {k : Nat} {v : Value} {zs : List Int} (h : OwnZ w0 w2 k v zs) (hB : Below w.heap.size w w2) : RetK (kZs k zs) w (.returned v) w2 := by
  obtain ⟨A, c, rfl, h1⟩ := h.form
  exact ⟨_, rfl, ⟨A, _, c, rfl, h1 true⟩, hB⟩
set_option maxRecDepth 100000 in
set_option maxHeartbeats 1000000 in
/-- Mul. -/
theorem rmul_q {q q' : Bool} {r c n d k r' c' n' d' k' : Nat} {A A' : Option Addr} {F G : Nat → Nat → Int} {w : World} (ha : Mt q w r c A n d k F) (hb : Mt q' w r' c' A' n' d' k' G) (hcr : c = r') (hk : k + k' ≤ 549755813888) : Calls Try.prog 29 #[.agg #[.int .i64 (r : Int), .int .i64 (c : Int), .slice A n d], .agg #[.int .i64 (r' : Int), .int .i64 (c' : Int), .slice A' n' d']] w (RetK (kZs (k + k' + c) (mk r c' (fun i j => dot F G i j c))) w) := by
  have hr1 := ha.hr
  have hc1 := ha.hc
  have hc2 := hb.hc
  obtain ⟨L, hL⟩ : ∃ L, mk r c' (fun i j => dot F G i j c) = L := ⟨_, rfl⟩
  have hlen : L.length = r * c' := by rw [← hL, mk_len]
  have hat : ∀ i j, i < r → j < c' → ith L (i * c' + j) = dot F G i j c := fun i j hi hj => by rw [← hL, mk_at hi hj]
  have hbig : r * c' ≤ 64 * 64 := Nat.mul_le_mul hr1 hc2
  rw [hL]
  obtain ⟨w1, hw1, b2, b3, z1, s1⟩ := boxes2 w 24 24 [.int .i64 (r : Int), .int .i64 (c : Int), .slice A n d] [.int .i64 (r' : Int), .int .i64 (c' : Int), .slice A' n' d']
  have HW := Lib.hid hw1
  have HZ := Lib.hid z1
  have hlen_ := Lib.hid hlen
  have hat_ := Lib.hid hat
  have hcr_ := Lib.hid hcr
  clear hw1 z1 hlen hat hcr hL s1
  go_enter Try.func29, Try.ntmps29
  go_upto_region 1 with fail
  rw [HW.out]
  have HO : Hid (OwnZ w1 w1 (k + k' + c) (.slice none 0 0) (L.take (0 * c'))) := Lib.hid (by rw [Nat.zero_mul]; exact OwnZ.nil _ _)
  go_wp2_with fail
  go_loopw [6, 5] (fun s6 s5 wr => ∃ i : Nat, s6 = .int .i64 (i : Int) ∧ i ≤ r ∧ Hid (OwnZ w1 wr (k + k' + c) s5 (L.take (i * c')))) (fun s6 _ _ => r - (intOf s6).toNat)
  case atStart => exact ⟨0, rfl, Nat.zero_le _, HO⟩
  case round =>
    clear HO
    obtain ⟨i, rfl, hi, HO⟩ := hrel
    have Bq := HO.out.old
    obtain ⟨i0, i1, i2, i3, i4, i5, i6⟩ := (b2.below Bq).m3
    obtain ⟨j0, j1, j2, j3, j4, j5, j6⟩ := (b3.below Bq).m3
    clear Bq
    by_cases hlt : i < r
    · have u1 : (i : Int) < (r : Int) := by omega
      go_wp2_with fail
      clear i0 i1 i2 i3 i4 i5 i6 j0 j1 j2 j3 j4 j5 j6
      go_loopw [7, 5] (fun s7 s5 wr => ∃ j : Nat, s7 = .int .i64 (j : Int) ∧ j ≤ c' ∧ Hid (OwnZ w1 wr (k + k' + c) s5 (L.take (i * c' + j)))) (fun s7 _ _ => c' - (intOf s7).toNat)
      case atStart => exact ⟨0, rfl, Nat.zero_le _, HO⟩
      case round =>
        clear HO
        obtain ⟨j, rfl, hj, HO⟩ := hrel
        have Bq := HO.out.old
        obtain ⟨i0, i1, i2, i3, i4, i5, i6⟩ := (b2.below Bq).m3
        obtain ⟨j0, j1, j2, j3, j4, j5, j6⟩ := (b3.below Bq).m3
        clear Bq
        by_cases hjl : j < c'
        · have u2 : (j : Int) < (c' : Int) := by omega
          go_upto_region 8 with fail
          clear i0 i1 i2 i3 i4 i5 i6 j0 j1 j2 j3 j4 j5 j6
          have ho := HO.out
          have hs0 := ho.old.size
          clear HO
          refine Run.start 2 ?_
          refine .c1 .o (x := kC 0 1) (by rintro u w2 hB rfl; exact zof_q (by decide) (by decide) w2) ?_
          refine .al ?_
          refine .donep [some 22, some 8] ?_
          intro w2 B2
          rintro v0 ⟨s8, A8, n8, d8, rfl, hz8, hk8⟩
          rintro g8 hg8 hl8 hc8 -
          change Shut (wpList _ _ _ [_] _ _)
          refine ⟨?_⟩
          simp only [Act.put, List.setIfInBounds_toArray, List.set_cons_zero, List.set_cons_succ]
          have b8 := zeroZ (T := 0) hc8
          have hne := ho.fresh hg8
          replace ho := ho.below B2
          have hn8 := hz8.zero_len
          subst hn8
          clear B2 hc8 hk8
          replace ho := ho.zp (s := s8) (A := A8) (n := 0) (c := d8) b8 (by omega) hne
          have B0 := Below.refl w2.heap.size w2
          have hs2 := B0.size
          obtain ⟨w3, hw3⟩ : ∃ x, zput w2 g8 s8 A8 0 d8 = x := ⟨_, rfl⟩
          obtain ⟨f1_, f2_, f3_, f4_, f5_⟩ := Ib.entry b8
          replace hz8 := hz8.zp (s' := s8) (A' := A8) (n' := 0) (c' := d8) b8
          rw [hw3] at hz8 ho
          replace b8 := b8.zp (s := s8) (A := A8) (n := 0) (c := d8)
          rw [hw3] at b8
          have Hw3 := Lib.hid hw3
          unfold zput at Hw3
          clear hw3 B0 hs2
          have HT : Hid (OwnZ w1 w3 (k + k' + c) u5 (L.take (i * c' + j)) ∧ ∃ s A n d, Bx w3 g8 28 [.bool s, .slice A n d] ∧ Zc w3 s A n d (dot F G i j (0)) ∧ n ≤ k + k' + (0)) := Lib.hid ⟨ho, _, _, _, _, b8, hz8, Nat.zero_le _⟩
          clear ho b8 hz8
          go_wp2_with fail
          rw [Hw3.out]
          clear f1_ f2_ f3_ f4_ f5_ Hw3
          go_loopw [9] (fun s9 wr => ∃ t : Nat, s9 = .int .i64 (t : Int) ∧ t ≤ c ∧ Hid (OwnZ w1 wr (k + k' + c) u5 (L.take (i * c' + j)) ∧ ∃ s A n d, Bx wr g8 28 [.bool s, .slice A n d] ∧ Zc wr s A n d (dot F G i j (t)) ∧ n ≤ k + k' + (t))) (fun s9 _ => c - (intOf s9).toNat)
          case atStart => exact ⟨0, rfl, Nat.zero_le _, HT⟩
          case round =>
            clear HT
            obtain ⟨t, rfl, ht, HT⟩ := hrel
            obtain ⟨ho, s8, A8, n8, d8, b8, hz8, hk8⟩ := HT.out
            clear HT
            have Bq := ho.old
            have k2 := b2.below Bq
            have k3 := b3.below Bq
            obtain ⟨i0, i1, i2, i3, i4, i5, i6⟩ := k2.m3
            by_cases htl : t < c
            · have u3 : (t : Int) < (c : Int) := by omega
              go_upto_region 12 with fail
              clear i0 i1 i2 i3 i4 i5 i6
              refine Run.start 11 ?_
              refine .ld .o (ldZ b8 0) ?_
              refine .ld .o (ldM k2 0) ?_
              refine .mv .o ?_
              refine .mv .o ?_
              refine .c3 (.i 1) (.i 2) (.i 3) (x := kV (F i t) k) (by rintro u v x w2 hB rfl rfl rfl; exact rat_q (ha.below (zup HZ.out (zup Bq hB))) hlt htl) ?_
              refine .ld .o (ldM k3 0) ?_
              refine .mv .o ?_
              refine .mv .o ?_
              refine .c3 (.i 5) (.i 6) (.i 7) (x := kV (G t j) k') (by rintro u v x w2 hB rfl rfl rfl; exact rat_q (hb.below (zup HZ.out (zup Bq hB))) (by have := hcr_.out; omega) hjl) ?_
              refine .c2 (.i 4) (.i 8) (x := kC (F i t * G t j) (k + k')) (by intro u v w2 hB h1 h2; exact zmul_q h1 h2 (by omega) (by omega) (Nat.le_refl _)) ?_
              refine .c2 (.i 0) (.i 9) (x := kC (dot F G i j (t + 1)) (k + k' + (t + 1))) (by rintro u v w2 hB rfl h2; exact zadd_q ⟨_, _, _, _, rfl, (hz8.below hB).zv, hk8⟩ h2.v (by omega) (by omega) (by omega)) ?_
              refine .done [some 29, some 30, some 31, some 32, some 33, some 34, some 35, some 36, some 37, some 38, some 39] ?_
              intro w4 B4
              rintro v0 -
              rintro v1 -
              rintro v2 -
              rintro v3 ⟨s9, A9, n9, d9, rfl, hz9, hk9⟩
              change Shut (wpList _ _ _ [_] _ _)
              refine ⟨?_⟩
              simp only [Act.put, List.setIfInBounds_toArray, List.set_cons_zero, List.set_cons_succ]
              replace ho := ho.below B4
              replace b8 := b8.below B4
              obtain ⟨w5, hw5⟩ : ∃ x, zput w4 g8 s9 A9 n9 d9 = x := ⟨_, rfl⟩
              obtain ⟨f1_, f2_, f3_, f4_, f5_⟩ := Ib.entry b8
              replace ho := ho.zp (s := s9) (A := A9) (n := n9) (c := d9) b8 (by omega) hne
              replace hz9 := hz9.zp (s' := s9) (A' := A9) (n' := n9) (c' := d9) b8
              replace b8 := b8.zp (s := s9) (A := A9) (n := n9) (c := d9)
              rw [hw5] at ho hz9 b8
              have Hw5 := Lib.hid hw5
              unfold zput at Hw5
              have HN : Hid (OwnZ w1 w5 (k + k' + c) u5 (L.take (i * c' + j)) ∧ ∃ s A n d, Bx w5 g8 28 [.bool s, .slice A n d] ∧ Zc w5 s A n d (dot F G i j (t + 1)) ∧ n ≤ k + k' + (t + 1)) := Lib.hid ⟨ho, _, _, _, _, b8, hz9, hk9⟩
              clear ho b8 hz8 hz9 k2 k3 B4 Bq hw5
              go_wp2_with fail
              rw [Hw5.out]
              go_roundw
              case rel => exact ⟨t + 1, by go_num, by omega, HN⟩
              case measure => first | (simp [intOf]; done) | (simp [intOf]; omega)
            · obtain rfl : t = c := by omega
              have u3 : ¬ (t : Int) < (t : Int) := by omega
              have hlt2 := at_lt hlt hjl
              have HT : Hid (L.take (i * c' + j) ++ [dot F G i j t] = L.take (i * c' + (j + 1))) := Lib.hid (by rw [← hat_.out i j hlt hjl, take_one (by rw [hlen_.out]; exact hlt2)]; rfl)
              obtain ⟨f1_, f2_, f3_, f4_, f5_⟩ := Ib.entry b8
              have hlen3 : (L.take (i * c' + j)).length ≤ 1099511627776 := by rw [List.length_take, hlen_.out]; omega
              have H3 := Lib.hid hlen3
              clear b8 k2 k3 Bq hlen3
              go_wp2_with (at_builtin; refine wpList_appz w1 wr rfl _ _ 22 rfl Try.underlying22 info_zint _ _ _ (by rfl) ho _ _ _ _ _ hz8 hk8 (by rfl) H3.out ?_)
              intro v1 w10 ho1
              rw [HT.out] at ho1
              have HN := Lib.hid ho1
              clear ho hz8 ho1 f1_ f2_ f3_ f4_ f5_ i0 i1 i2 i3 i4 i5 i6
              go_wp2_with fail
              go_roundw
              case rel => exact ⟨j + 1, by go_num, by omega, HN⟩
              case measure => first | (simp [intOf]; done) | (simp [intOf]; omega)
        · obtain rfl : j = c' := by omega
          have u2 : ¬ (j : Int) < (j : Int) := by omega
          rw [show i * j + j = (i + 1) * j by rw [Nat.succ_mul]] at HO
          go_wp2_with fail
          go_roundw
          case rel => exact ⟨i + 1, by go_num, by omega, HO⟩
          case measure => first | (simp [intOf]; done) | (simp [intOf]; omega)
    · obtain rfl : i = r := by omega
      have u1 : ¬ (i : Int) < (i : Int) := by omega
      have P := Lib.hid (retZs HO.out (zup HZ.out HO.out.old))
      rw [List.take_of_length_le (by rw [hlen_.out]; exact Nat.le_refl _)] at P
      obtain ⟨A5, c5, rfl, _⟩ := HO.out.form
      clear HO
      go_wp2_with fail
      exact bodyPost_ret (v := .slice A5 _ c5) (by simp [results, Try.results29, go_sem]) rfl P.out
set_option maxRecDepth 100000 in
set_option maxHeartbeats 1000000 in
/-- One. -/
theorem rone_q {r : Nat} {w : World} (hr : r ≤ 64) : Calls Try.prog 32 #[.int .i64 (r : Int)] w (RetK (kZs 1 (mk r r (fun i j => if i = j then 1 else 0))) w) := by
  obtain ⟨L, hL⟩ : ∃ L, mk r r (fun i j => if i = j then 1 else 0) = L := ⟨_, rfl⟩
  have hlen : L.length = r * r := by rw [← hL, mk_len]
  have hat : ∀ i j, i < r → j < r → ith L (i * r + j) = if i = j then 1 else 0 := fun i j hi hj => by rw [← hL, mk_at hi hj]
  have hbig : r * r ≤ 64 * 64 := Nat.mul_le_mul hr hr
  rw [hL]
  have hlen_ := Lib.hid hlen
  have hat_ := Lib.hid hat
  clear hlen hat hL
  go_enter Try.func32, Try.ntmps32
  have HO : Hid (OwnZ w w 1 (.slice none 0 0) (L.take (0 * r))) := Lib.hid (by rw [Nat.zero_mul]; exact OwnZ.nil _ _)
  go_wp2_with fail
  go_loopw [4, 3] (fun s4 s3 wr => ∃ i : Nat, s4 = .int .i64 (i : Int) ∧ i ≤ r ∧ Hid (OwnZ w wr 1 s3 (L.take (i * r)))) (fun s4 _ _ => r - (intOf s4).toNat)
  case atStart => exact ⟨0, rfl, Nat.zero_le _, HO⟩
  case round =>
    clear HO
    obtain ⟨i, rfl, hi, HO⟩ := hrel
    by_cases hlt : i < r
    · have u1 : (i : Int) < (r : Int) := by omega
      go_wp2_with fail
      go_loopw [5, 3] (fun s5 s3 wr => ∃ j : Nat, s5 = .int .i64 (j : Int) ∧ j ≤ r ∧ Hid (OwnZ w wr 1 s3 (L.take (i * r + j)))) (fun s5 _ _ => r - (intOf s5).toNat)
      case atStart => exact ⟨0, rfl, Nat.zero_le _, HO⟩
      case round =>
        clear HO
        obtain ⟨j, rfl, hj, HO⟩ := hrel
        by_cases hjl : j < r
        · have u2 : (j : Int) < (r : Int) := by omega
          have hlt2 := at_lt hlt hjl
          obtain ⟨z, hz⟩ : ∃ z : Int, (if i = j then 1 else 0) = z := ⟨_, rfl⟩
          have HT : Hid (L.take (i * r + j) ++ [z] = L.take (i * r + (j + 1))) := Lib.hid (by rw [← hz, ← hat_.out i j hlt hjl, take_one (by rw [hlen_.out]; exact hlt2)]; rfl)
          have H3 : Hid ((L.take (i * r + j)).length ≤ 1099511627776) := Lib.hid (by rw [List.length_take, hlen_.out]; omega)
          have Hz := Lib.hid hz
          clear hz
          go_upto_region 8 with fail
          have ho := HO.out
          have hs0 := ho.old.size
          clear HO
          refine Run.start 2 ?_
          refine .c1 .o (x := kC 0 1) (by rintro u w2 hB rfl; exact zof_q (by decide) (by decide) w2) ?_
          refine .al ?_
          refine .donep [some 17, some 6] ?_
          intro w2 B2
          rintro v0 ⟨s8, A8, n8, d8, rfl, hz8, hk8⟩
          rintro g6 hg6 hl6 hc6 -
          change Shut (wpList _ _ _ [_] _ _)
          refine ⟨?_⟩
          simp only [Act.put, List.setIfInBounds_toArray, List.set_cons_zero, List.set_cons_succ]
          have b6 := zeroZ (T := 0) hc6
          have hne := ho.fresh hg6
          replace ho := ho.below B2
          clear B2 hc6
          replace ho := ho.zp (s := s8) (A := A8) (n := n8) (c := d8) b6 (by omega) hne
          obtain ⟨w3, hw3⟩ : ∃ x, zput w2 g6 s8 A8 n8 d8 = x := ⟨_, rfl⟩
          obtain ⟨f1_, f2_, f3_, f4_, f5_⟩ := Ib.entry b6
          replace hz8 := hz8.zp (s' := s8) (A' := A8) (n' := n8) (c' := d8) b6
          rw [hw3] at hz8 ho
          replace b6 := b6.zp (s := s8) (A := A8) (n := n8) (c := d8)
          rw [hw3] at b6
          have Hw3 := Lib.hid hw3
          unfold zput at Hw3
          clear hw3
          go_upto_region 9 with fail
          rw [Hw3.out]
          clear f1_ f2_ f3_ f4_ f5_ Hw3
          by_cases hij : i = j
          · have u3 : (i : Int) = (j : Int) := by omega
            have e1 : z = 1 := by rw [← Hz.out, if_pos hij]
            subst e1
            clear Hz hz8
            go_upto_region 10 with fail
            clear u3 hij
            refine Run.start 1 ?_
            refine .c1 .o (x := kC 1 1) (by rintro u w2 hB rfl; exact zof_q (by decide) (by decide) w2) ?_
            refine .donep [some 21] ?_
            intro w4 B4
            rintro v0 ⟨s9, A9, n9, d9, rfl, hz9, hk9⟩
            change Shut (wpList _ _ _ [_] _ _)
            refine ⟨?_⟩
            simp only [Act.put, List.setIfInBounds_toArray, List.set_cons_zero, List.set_cons_succ]
            replace ho := ho.below B4
            replace b6 := b6.below B4
            replace ho := ho.zp (s := s9) (A := A9) (n := n9) (c := d9) b6 (by omega) hne
            obtain ⟨w5, hw5⟩ : ∃ x, zput w4 g6 s9 A9 n9 d9 = x := ⟨_, rfl⟩
            obtain ⟨f1_, f2_, f3_, f4_, f5_⟩ := Ib.entry b6
            replace hz9 := hz9.zp (s' := s9) (A' := A9) (n' := n9) (c' := d9) b6
            rw [hw5] at hz9 ho
            replace b6 := b6.zp (s := s9) (A := A9) (n := n9) (c := d9)
            rw [hw5] at b6
            have Hw5 := Lib.hid hw5
            unfold zput at Hw5
            clear hw5 B4
            go_upto_region 11 with fail
            rw [Hw5.out]
            clear f1_ f2_ f3_ f4_ f5_ Hw5
            obtain ⟨f1_, f2_, f3_, f4_, f5_⟩ := Ib.entry b6
            clear b6
            go_wp2_with (at_builtin; refine wpList_appz w w5 rfl _ _ 22 rfl Try.underlying22 info_zint _ _ _ (by rfl) ho _ _ _ _ _ hz9 hk9 (by rfl) H3.out ?_)
            intro v1 w10 ho1
            rw [HT.out] at ho1
            have HN := Lib.hid ho1
            clear ho hz9 ho1 f1_ f2_ f3_ f4_ f5_
            go_wp2_with fail
            go_roundw
            case rel => exact ⟨j + 1, by go_num, by omega, HN⟩
            case measure => first | (simp [intOf]; done) | (simp [intOf]; omega)
          · have u3 : ¬ (i : Int) = (j : Int) := by omega
            have e1 : z = 0 := by rw [← Hz.out, if_neg hij]
            subst e1
            clear Hz
            obtain ⟨f1_, f2_, f3_, f4_, f5_⟩ := Ib.entry b6
            clear b6
            go_wp2_with (at_builtin; refine wpList_appz w w3 rfl _ _ 22 rfl Try.underlying22 info_zint _ _ _ (by rfl) ho _ _ _ _ _ hz8 hk8 (by rfl) H3.out ?_)
            intro v1 w10 ho1
            rw [HT.out] at ho1
            have HN := Lib.hid ho1
            clear ho hz8 ho1 f1_ f2_ f3_ f4_ f5_
            go_wp2_with fail
            go_roundw
            case rel => exact ⟨j + 1, by go_num, by omega, HN⟩
            case measure => first | (simp [intOf]; done) | (simp [intOf]; omega)
        · obtain rfl : j = r := by omega
          have u2 : ¬ (j : Int) < (j : Int) := by omega
          rw [show i * j + j = (i + 1) * j by rw [Nat.succ_mul]] at HO
          go_wp2_with fail
          go_roundw
          case rel => exact ⟨i + 1, by go_num, by omega, HO⟩
          case measure => first | (simp [intOf]; done) | (simp [intOf]; omega)
    · obtain rfl : i = r := by omega
      have u1 : ¬ (i : Int) < (i : Int) := by omega
      have P := Lib.hid (retZs HO.out HO.out.old)
      rw [List.take_of_length_le (by rw [hlen_.out]; exact Nat.le_refl _)] at P
      obtain ⟨A5, c5, rfl, _⟩ := HO.out.form
      clear HO
      go_wp2_with fail
      exact bodyPost_ret (v := .slice A5 _ c5) (by simp [results, Try.results32, go_sem]) rfl P.out
end Go.Proofs.Ytcdkdanfiimlkaa
