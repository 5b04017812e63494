/-
  BarQ
-/
import Derived.Test.YtcdkdanfiimlkaaPk35

/-! Contract of the reference: choices. -/
namespace Go.Proofs.Ytcdkdanfiimlkaa
open Go.RowKit
set_option linter.unusedVariables false
set_option linter.unusedSimpArgs false

set_option maxRecDepth 100000 in
theorem ch_zero (m : Int) (w : World) : Calls Try.prog 119 #[.int .i64 m, .int .i64 0] w (RetK (kLo w.heap.size [[]]) w) := by
  have P : Hid (RetK (kLo w.heap.size [[]]) w (.returned (.slice (some ⟨w.heap.size, 0, none⟩) 1 1)) (w.alloc (.cells #[.slice none 0 0] 64))) := Lib.hid ⟨_, rfl, ⟨[.slice none 0 0], ⟨rfl, .inr ⟨w.heap.size, 1, _, rfl, Nat.le_refl _, heap_alloc_new w _, Nat.le_refl _, by unfold maxLen; omega, rfl, rfl⟩⟩, ⟨rfl, fun j hj => by
    have e : j = 0 := by simp at hj; omega
    subst e
    exact ⟨none, 0, rfl, Iz.nil _⟩⟩⟩, zba w _⟩
  go_enter Try.func119, Try.ntmps119
  go_wp2_with fail
  exact bodyPost_ret (v := .slice (some ⟨w.heap.size, 0, none⟩) 1 1) (by simp [results, Try.results119, go_sem]) rfl P.out
set_option maxRecDepth 100000 in
theorem ch_none {M N : Nat} (h0 : 0 < N) (h : M < N) (w : World) : Calls Try.prog 119 #[.int .i64 (M : Int), .int .i64 (N : Int)] w (RetK (kLo w.heap.size []) w) := by
  have u1 : ¬ (N : Int) = 0 := by omega
  have u2 : (M : Int) < (N : Int) := by omega
  have P : Hid (RetK (kLo w.heap.size []) w (.returned (.slice none 0 0)) w) := Lib.hid ⟨_, rfl, ⟨[], World.ownsRow_nil w _ _ _, rfl, fun j hj => by simp at hj⟩, Below.refl _ _⟩
  go_enter Try.func119, Try.ntmps119
  go_wp2_with fail
  exact bodyPost_ret (v := .slice none 0 0) (by simp [results, Try.results119, go_sem]) rfl P.out
set_option maxRecDepth 100000 in
set_option maxHeartbeats 1000000 in
theorem ch_more {M N m n : Nat} (hM1 : M ≤ m + 1) (hM2 : m + 1 ≤ M) (hN1 : N ≤ n + 1) (hN2 : n + 1 ≤ N) (h : ¬ m + 1 < n + 1) (hm : m ≤ 16) {w : World}
    (ih1 : ∀ w, Calls Try.prog 119 #[.int .i64 (m : Int), .int .i64 (N : Int)] w (RetK (kLo w.heap.size (rch m (n + 1))) w)) (ih2 : ∀ w, Calls Try.prog 119 #[.int .i64 (m : Int), .int .i64 (n : Int)] w (RetK (kLo w.heap.size (rch m n)) w)) :
    Calls Try.prog 119 #[.int .i64 (M : Int), .int .i64 (N : Int)] w (RetK (kLo w.heap.size (rch (m + 1) (n + 1))) w) := by
  have hr : rch (m + 1) (n + 1) = rch m (n + 1) ++ (rch m n).map (· ++ [m]) := by
    show (if m + 1 < n + 1 then [] else _) = _
    rw [if_neg h]
  have hl1 := rch_len m (n + 1)
  have hl2 := rch_len m n
  have hp : 2 ^ m ≤ 2 ^ 16 := Nat.pow_le_pow_right (by omega) hm
  obtain ⟨L1, hL1⟩ : ∃ L, rch m (n + 1) = L := ⟨_, rfl⟩
  obtain ⟨L2, hL2⟩ : ∃ L, rch m n = L := ⟨_, rfl⟩
  have hL2n : ∀ l, l ∈ L2 → l.length = n := fun l hl => rch_size m n l (hL2 ▸ hl)
  rw [hL1] at hl1 ih1 hr
  rw [hL2] at hl2 ih2 hr
  have HR := Lib.hid hr
  have HI1 := Lib.hid ih1
  have HI2 := Lib.hid ih2
  have HN := Lib.hid hL2n
  have u1 : ¬ (N : Int) = 0 := by omega
  have u2 : ¬ (M : Int) < (N : Int) := by omega
  have hml : L1.length ≤ 65536 := by omega
  have hml2 : L2.length ≤ 65536 := by omega
  have hmn : n ≤ m := by omega
  clear hr hL1 hL2 ih1 ih2 hL2n hp hl1 hl2
  go_enter Try.func119, Try.ntmps119
  go_upto_region 5 with fail
  refine Run.start 5 ?_
  refine .mv .o ?_
  refine .two (.i 0) .o (opSub (show (M : Int) - 1 = (m : Int) by omega) (by omega) (by omega)) ?_
  refine .mv .o ?_
  refine .c2 (.i 1) (.i 2) (x := kLo w.heap.size L1) (by rintro u v w2 hB rfl rfl; exact (HI1.out w2).mono fun e w' h => h.mono fun v w ⟨vs, h1, h2⟩ => ⟨vs, own_base h1 hB.size, h2⟩) ?_
  refine .mf (.i 3) ?_
  refine .donep [some 15, some 16, some 17, some 18, some 5] ?_
  intro w2 B2
  rintro v18 -
  rintro v5 ⟨vs5, h5, h5'⟩
  change Shut (wpList _ _ _ [] _ _)
  refine ⟨?_⟩
  simp only [Act.put, List.setIfInBounds_toArray, List.set_cons_zero, List.set_cons_succ]
  have B0 := B2
  clear B2
  go_upto_region 6 with fail
  refine Run.start 6 ?_
  refine .mv .o ?_
  refine .two (.i 0) .o (opSub (show (M : Int) - 1 = (m : Int) by omega) (by omega) (by omega)) ?_
  refine .mv .o ?_
  refine .two (.i 2) .o (opSub (show (N : Int) - 1 = (n : Int) by omega) (by omega) (by omega)) ?_
  refine .c2 (.i 1) (.i 3) (x := kLo w2.heap.size L2) (by rintro u v w3 hB rfl rfl; exact (HI2.out w3).mono fun e w' h => h.mono fun v w ⟨vs, h1, h2⟩ => ⟨vs, own_base h1 hB.size, h2⟩) ?_
  refine .mf (.i 4) ?_
  refine .donep [some 19, some 20, some 21, some 22, some 23, some 6] ?_
  intro w3 B3
  rintro v23 -
  rintro v6 ⟨vs6, h6, h6'⟩
  change Shut (wpList _ _ _ [] _ _)
  refine ⟨?_⟩
  simp only [Act.put, List.setIfInBounds_toArray, List.set_cons_zero, List.set_cons_succ]
  obtain ⟨A6, c6, e6⟩ : ∃ A c, v6 = .slice A L2.length c := by
    rcases h6.2 with ⟨e, e0⟩ | ⟨g, cap, cur, e, _⟩
    · exact ⟨none, 0, by rw [e0]; exact e⟩
    · exact ⟨_, cap, e⟩
  have hd : v6.ownBlock = none ∨ v6.ownBlock ≠ v5.ownBlock := by
    cases hv : v6.ownBlock with
    | none => exact .inl rfl
    | some g =>
      right
      intro e
      have a1 := (h6.lt g hv).1
      have a2 := (h5.lt g e.symm).2
      omega
  have H0 : Hid (Below w.heap.size w w3 ∧ (∃ vs, w3.ownsRow w.heap.size 64 1 v5 (L1.length + (0)) vs ∧ LLat w3 vs (L1 ++ (L2.take (0)).map (· ++ [m]))) ∧ (∃ vs, w3.ownsRow w.heap.size 64 1 v6 L2.length vs ∧ LLat w3 vs L2) ∧ (v6.ownBlock = none ∨ v6.ownBlock ≠ v5.ownBlock)) := Lib.hid ⟨zup B0 B3, ⟨vs5, own_below h5 B3, by simpa using h5'.below B3⟩, ⟨vs6, own_base h6 B0.size, h6'⟩, hd⟩
  have E6 := Lib.hid e6
  clear h5 h5' h6 h6' hd B0 B3 e6
  go_wp2_with fail
  go_loopw [7, 5] (fun s7 s5 wr => ∃ i : Nat, s7 = .int .i64 (i : Int) ∧ i ≤ L2.length ∧ Hid (Below w.heap.size w wr ∧ (∃ vs, wr.ownsRow w.heap.size 64 1 s5 (L1.length + (i)) vs ∧ LLat wr vs (L1 ++ (L2.take (i)).map (· ++ [m]))) ∧ (∃ vs, wr.ownsRow w.heap.size 64 1 v6 L2.length vs ∧ LLat wr vs L2) ∧ (v6.ownBlock = none ∨ v6.ownBlock ≠ s5.ownBlock))) (fun s7 _ _ => L2.length - (intOf s7).toNat)
  case atStart => exact ⟨0, rfl, Nat.zero_le _, H0⟩
  case round =>
    obtain ⟨i, rfl, hi, HB⟩ := hrel
    clear H0
    have e6 := E6.out
    by_cases hlt : i < L2.length
    · have u3 : (i : Int) < (L2.length : Int) := by omega
      obtain ⟨B0, ⟨vs5, h5, h5'⟩, ⟨vs6, h6, h6'⟩, hd⟩ := HB.out
      clear HB
      subst e6
      obtain ⟨Ai, cell, eli, hz⟩ := h6'.2 i hlt
      have hcell : ∃ ad, A6 = some ad ∧ wr.cell? (ad.add i) = some (.slice Ai (L2.getD i []).length cell) := by
        rcases h6.2 with ⟨e, e0⟩ | ⟨g, cap, cur, e, _⟩
        · omega
        · cases e
          exact ⟨_, rfl, h6.cells (g := g) rfl i _ eli⟩
      obtain ⟨ad, rfl, d1⟩ := hcell
      have hsz : (L2.getD i []).length ≤ 16 := by rw [HN.out _ (getD_mem hlt)]; omega
      obtain ⟨pl, hpl⟩ : ∃ p, L2.getD i [] = p := ⟨_, rfl⟩
      rw [hpl] at d1 hz hsz
      have HPL := Lib.hid hpl
      obtain ⟨K, hK⟩ : ∃ K, pl.length = K := ⟨_, rfl⟩
      rw [hK] at d1 hz hsz
      clear hpl eli
      go_wp2_with (at_builtin; refine wpList_appIz rfl _ _ rfl wr.heap.size (.slice none 0 0) 0 [] rfl (World.ownsRow_nil wr _ _ _) hz rfl (by omega) (Nat.le_refl _) ?_)
      intro vx w4 hx hgx hxb
      have B4 : Below wr.heap.size wr w4 := ⟨hgx.os, hgx.tape, hgx.output, hgx.size, fun k hk => hgx.block k hk (by simp [Value.ownBlock])⟩
      clear d1 hxb hgx
      go_wp2_with (at_builtin; (refine wpList_appOne (wr := w4) rfl _ _ 64 3 (.int .i64 0) 8 rfl Try.underlying64 info_int2 rfl (by omega) wr.heap.size vx K _ rfl hx (.int .i64 ((M : Int) - 1)) rfl rfl (by omega) B4.size ?_))
      intro vy w5 hy hgy hyb
      have hy2 : w5.ownsRow wr.heap.size 3 1 vy (K + 1) (ints' (pl ++ [m])) := by
        rw [show (M : Int) - 1 = (m : Int) by omega] at hy
        simpa [ints'] using hy
      have B5 : Below wr.heap.size wr w5 := by
        refine (B4.trans ((zba w4 _).mono B4.size)).trans ⟨hgy.os, hgy.tape, hgy.output, hgy.size, fun k hk => hgy.block k (by have := B4.size; simp; omega) fun e => ?_⟩
        have := (hx.lt k e.symm).1
        omega
      obtain ⟨Ay, cy, rfl, hzy⟩ := own_iz hy2
      have h5b := own_below h5 B5
      have h5b' := (h5'.below B5).app hzy
      have h6b := own_below h6 B5
      have h6b' := h6'.below B5
      have B6 := B0.trans (B5.mono B0.size)
      have e25 : L1 ++ (L2.take i).map (· ++ [m]) ++ [pl ++ [m]] = L1 ++ (L2.take (i + 1)).map (· ++ [m]) := by
        rw [List.append_assoc, List.take_succ_eq_append_getElem hlt, List.map_append]
        have := HPL.out
        simp [List.getD, hlt] at this
        simp [this]
      rw [e25] at h5b'
      clear h5 h5' h6 h6' hx hy hy2 hgy hyb hzy e25 hz
      go_wp2_with (at_builtin; go_loud (refine wpList_appOne (wr := w5) rfl _ _ 118 64 (.slice none 0 0) 24 rfl Try.underlying118 info_is rfl (by omega) w.heap.size u5 (L1.length + i) _ rfl h5b (.slice Ay (K + 1) cy) rfl rfl (by omega) B6.size ?_))
      intro vo w7 ho hgo hob
      have B7 : Below w.heap.size w w7 := (B6.trans ((zba w5 _).mono B6.size)).trans ⟨hgo.os, hgo.tape, hgo.output, hgo.size, fun k hk => hgo.block k (by have := B6.size; simp; omega) fun e => by have := (h5b.lt k e.symm).1; omega⟩
      have hX5 := h5b.alloc (.cells #[.slice Ay (K + 1) cy] 64)
      have hl6 := own_below h6b (zba w5 (.cells #[.slice Ay (K + 1) cy] 64))
      have h6c := hl6.kept hgo hd
      have h6c' := (h6b'.below (zba w5 (.cells #[.slice Ay (K + 1) cy] 64))).grown hX5 (by decide) hgo
      have h5c' := (h5b'.below (zba w5 (.cells #[.slice Ay (K + 1) cy] 64)))
      have hd7 : (Value.slice (some ad) L2.length c6).ownBlock = none ∨ (Value.slice (some ad) L2.length c6).ownBlock ≠ vo.ownBlock := by
        right
        rcases hob with e | e
        · rw [e]; exact hd.resolve_left (by simp [Value.ownBlock])
        · rw [e]
          intro e2
          have := (h6b.lt _ e2).2
          omega
      have HS : Hid (Below w.heap.size w w7 ∧ (∃ vs, w7.ownsRow w.heap.size 64 1 vo (L1.length + (i + 1)) vs ∧ LLat w7 vs (L1 ++ (L2.take (i + 1)).map (· ++ [m]))) ∧ (∃ vs, w7.ownsRow w.heap.size 64 1 (Value.slice (some ad) L2.length c6) L2.length vs ∧ LLat w7 vs L2) ∧ ((Value.slice (some ad) L2.length c6).ownBlock = none ∨ (Value.slice (some ad) L2.length c6).ownBlock ≠ vo.ownBlock)) := Lib.hid ⟨B7, ⟨_, ho, h5c'.grown hX5 (by decide) hgo⟩, ⟨vs6, h6c, h6c'⟩, hd7⟩
      clear h5b h5b' h6b h6b' h5c' h6c h6c' ho hgo hob hd hd7 hX5 hl6 B4 B5 B6 B7 B0
      go_wp2_with fail
      go_roundw
      case rel => exact ⟨i + 1, by go_num, by omega, HS⟩
      case measure => first | (simp [intOf]; done) | (simp [intOf]; omega)
    · obtain rfl : i = L2.length := by omega
      have u3 : ¬ (L2.length : Int) < (L2.length : Int) := by omega
      obtain ⟨B0, ⟨vs5, h5, h5'⟩, -, -⟩ := HB.out
      subst e6
      rw [List.take_length, ← HR.out] at h5'
      have e5 : L1.length + L2.length = (rch (m + 1) (n + 1)).length := by rw [HR.out]; simp
      rw [e5] at h5
      have P := Lib.hid (show RetK (kLo w.heap.size (rch (m + 1) (n + 1))) w (.returned u5) wr from ⟨_, rfl, ⟨vs5, h5, h5'⟩, B0⟩)
      clear HB h5 h5' B0 e5
      go_wp2_with fail
      exact bodyPost_ret (v := u5) (by simp [results, Try.results119, go_sem]) rfl P.out
/-- The reference's Choices. -/
theorem choices_q : ∀ (m n : Nat) (w : World), m ≤ 16 → Calls Try.prog 119 #[.int .i64 (m : Int), .int .i64 (n : Int)] w (RetK (kLo w.heap.size (rch m n)) w)
  | m, 0, w, _ => by
    have e : rch m 0 = [[]] := by cases m <;> rfl
    rw [e]
    exact ch_zero m w
  | 0, n + 1, w, _ => ch_none (M := 0) (N := n + 1) (by omega) (by omega) w
  | m + 1, n + 1, w, hm => by
    by_cases h : m + 1 < n + 1
    · have e : rch (m + 1) (n + 1) = [] := by show (if m + 1 < n + 1 then [] else _) = _; rw [if_pos h]
      rw [e]
      exact ch_none (by omega) h w
    · exact ch_more (Nat.le_refl _) (Nat.le_refl _) (Nat.le_refl _) (Nat.le_refl _) h (by omega) (fun w => choices_q m (n + 1) w (by omega)) (fun w => choices_q m n w (by omega))
end Go.Proofs.Ytcdkdanfiimlkaa
