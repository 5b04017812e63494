/-
  BarR
-/
import Derived.Test.YtcdkdanfiimlkaaPk36
import Derived.Test.YtcdkdanfiimlkaaPk34
import Derived.Test.YtcdkdanfiimlkaaPk20

/-! Contracts of the reference: parts of a matrix, minors that aren't 0. -/
namespace Go.Proofs.Ytcdkdanfiimlkaa
open Go.RowKit
set_option linter.unusedVariables false
set_option linter.unusedSimpArgs false

/-! ### Choices -/
theorem rch_inc : ∀ (m k : Nat) (l : List Nat), l ∈ rch m k → DT.Inc k m fun i => l.getD i 0
  | m, 0, l, h => ⟨fun i hi => by omega, fun i hi => by omega⟩
  | 0, k + 1, l, h => by simp [rch] at h
  | m + 1, k + 1, l, h => by
    unfold rch at h
    split at h
    · simp at h
    · rw [List.mem_append, List.mem_map] at h
      rcases h with h | ⟨x, h, rfl⟩
      · have e := rch_inc m (k + 1) l h
        exact ⟨e.up, fun i hi => Nat.lt_succ_of_lt (e.lt i hi)⟩
      · have e := rch_inc m k x h
        have hl := rch_size m k x h
        have g : ∀ i, i < k → (x ++ [m]).getD i 0 = x.getD i 0 := fun i hi => by simp [List.getD, List.getElem?_append_left (show i < x.length by omega)]
        have gk : (x ++ [m]).getD k 0 = m := by simp [List.getD, ← hl]
        refine ⟨fun i hi => ?_, fun i hi => ?_⟩
        · show (x ++ [m]).getD i 0 < (x ++ [m]).getD (i + 1) 0
          rw [g i (by omega)]
          rcases Nat.lt_or_ge (i + 1) k with h1 | h1
          · rw [g _ h1]; exact e.up i h1
          · rw [show i + 1 = k by omega, gk]; exact e.lt i (by omega)
        · show (x ++ [m]).getD i 0 < m + 1
          rcases Nat.lt_or_ge i k with h1 | h1
          · rw [g _ h1]; exact Nat.lt_succ_of_lt (e.lt i h1)
          · rw [show i = k by omega, gk]; omega
theorem inc_up {k n : Nat} {f : Nat → Nat} (h : DT.Inc k n f) : ∀ d i, i + d < k → f i ≤ f (i + d)
  | 0, i, _ => Nat.le_refl _
  | d + 1, i, hi => Nat.le_trans (inc_up h d i (by omega)) (Nat.le_of_lt (h.up (i + d) (by omega)))
theorem inc_rch : ∀ (m k : Nat) (f : Nat → Nat), DT.Inc k m f → ∃ l, l ∈ rch m k ∧ ∀ i, i < k → l.getD i 0 = f i
  | m, 0, f, h => ⟨[], by cases m <;> simp [rch], fun i hi => by omega⟩
  | 0, k + 1, f, h => by have := h.lt 0 (by omega); omega
  | m + 1, k + 1, f, h => by
    have hk : ¬ m + 1 < k + 1 := fun e => by have := h.ge k (by omega); have := h.lt k (by omega); omega
    have e : rch (m + 1) (k + 1) = rch m (k + 1) ++ (rch m k).map (· ++ [m]) := by show (if m + 1 < k + 1 then [] else _) = _; rw [if_neg hk]
    rw [e]
    by_cases hf : f k = m
    · have hlt : ∀ i, i < k → f i < m := fun i hi => by
        have h1 := h.up i (by omega)
        have h2 := inc_up h (k - (i + 1)) (i + 1) (by omega)
        rw [show i + 1 + (k - (i + 1)) = k by omega] at h2
        omega
      obtain ⟨l, hl, hg⟩ := inc_rch m k f ⟨fun i hi => h.up i (by omega), hlt⟩
      have hs := rch_size m k l hl
      refine ⟨l ++ [m], List.mem_append.2 (.inr (List.mem_map.2 ⟨l, hl, rfl⟩)), fun i hi => ?_⟩
      rcases Nat.lt_or_ge i k with h1 | h1
      · rw [← hg i h1]; simp [List.getD, List.getElem?_append_left (show i < l.length by omega)]
      · have : i = k := by omega
        subst this
        rw [hf]; simp [List.getD, ← hs]
    · have hkm := h.lt k (by omega)
      obtain ⟨l, hl, hg⟩ := inc_rch m (k + 1) f ⟨h.up, fun i hi => by
        have h2 := inc_up h (k - i) i (by omega)
        rw [show i + (k - i) = k by omega] at h2
        omega⟩
      exact ⟨l, List.mem_append.2 (.inl hl), hg⟩
/-- Some minor of these columns isn't 0, by the choices. -/
theorem som_rch {R k : Nat} {F : Nat → Nat → Int} {cols : Nat → Nat} : DT.Som R F k cols ↔ ∃ i, i < (rch R k).length ∧ DT.det k (fun a b => F (((rch R k).getD i []).getD a 0) (cols b)) ≠ 0 := by
  constructor
  · rintro ⟨f, hf, hd⟩
    obtain ⟨l, hl, hg⟩ := inc_rch R k f hf
    obtain ⟨i, hi, e⟩ := List.getElem_of_mem hl
    refine ⟨i, hi, ?_⟩
    have e2 : (rch R k).getD i [] = l := by simp [List.getD, hi, e]
    rw [e2, DT.det_ext (N := fun a b => F (f a) (cols b)) fun a b ha hb => by rw [hg a ha]]
    exact hd
  · rintro ⟨i, hi, hd⟩
    exact ⟨_, rch_inc R k _ (getD_mem hi), hd⟩
theorem run_ixK {w : World} {ad : Addr} {n c k : Nat} (h : k < n) : (Instr.indexAt 64 (.slice (some ad) n c) (.int .i64 (k : Int))).run Try.prog w = .ok (.pointer (some (ad.add k))) w := by
  simp [go_sem, Try.underlying64, show Try.prog.cellsOf 3 = 1 by kernel_rfl]
  omega
theorem opIxK {ad : Addr} {n c k : Nat} {X Y : Operand} (h : k < n) (w : World) : RunTwo Try.prog (.indexAddr 64 X Y) w (.slice (some ad) n c) (.int .i64 (k : Int)) (.pointer (some (ad.add k))) := run_ixK h
theorem ldI {w : World} {p : Addr} {x : Int} (hp : p.block < w.heap.size) (h : w.cell? p = some (.int .i64 x)) : ∀ w', Below w.heap.size w w' → (Instr.loadAt 3 (.pointer (some p))).run Try.prog w' = .ok (.int .i64 x) w' := fun w' hb => by
  have := (hb.cell hp).trans h
  simp [go_sem, addr_add0, this]
theorem run_ixLL {w : World} {ad : Addr} {n c k : Nat} (h : k < n) : (Instr.indexAt 118 (.slice (some ad) n c) (.int .i64 (k : Int))).run Try.prog w = .ok (.pointer (some (ad.add k))) w := by
  simp [go_sem, Try.underlying118, show Try.prog.cellsOf 64 = 1 by kernel_rfl]
  omega
theorem opIxLL {ad : Addr} {n c k : Nat} {X Y : Operand} (h : k < n) (w : World) : RunTwo Try.prog (.indexAddr 118 X Y) w (.slice (some ad) n c) (.int .i64 (k : Int)) (.pointer (some (ad.add k))) := run_ixLL h
theorem ldSI {w : World} {p : Addr} {A : Option Addr} {n c : Nat} (hp : p.block < w.heap.size) (h : w.cell? p = some (.slice A n c)) : ∀ w', Below w.heap.size w w' → (Instr.loadAt 64 (.pointer (some p))).run Try.prog w' = .ok (.slice A n c) w' := fun w' hb => by
  have := (hb.cell hp).trans h
  simp [go_sem, addr_add0, this]
set_option maxRecDepth 100000 in
set_option maxHeartbeats 1000000 in
/-- The reference's Part. -/
theorem rpart_q {q : Bool} {r c n d k p s e1 e2 : Nat} {A Ar Ac : Option Addr} {F : Nat → Nat → Int} {qs cs : List Nat} {f g : Nat → Nat} {w : World} (ha : Mt q w r c A n d k F) (hq : Iz w Ar p e1 qs) (hc : Iz w Ac s e2 cs) (hp : p ≤ 64) (hs : s ≤ 64) (hf : ∀ a, a < p → qs.getD a 0 = f a) (hg : ∀ a, a < s → cs.getD a 0 = g a) (hqr : ∀ a, a < p → f a < r) (hcc : ∀ b, b < s → g b < c) : Calls Try.prog 120 #[.agg #[.int .i64 (r : Int), .int .i64 (c : Int), .slice A n d], .slice Ar p e1, .slice Ac s e2] w (RetK (kM false p s k (fun a b => F (f a) (g b))) w) := by
  have h3 := ha.hr
  have h4 := ha.hc
  obtain ⟨L, hL⟩ : ∃ L, mk p s (fun a b => F (f a) (g b)) = L := ⟨_, rfl⟩
  have hLl : L.length = p * s := by rw [← hL, mk_len]
  have hL2 : p * s ≤ 64 * 64 := Nat.mul_le_mul hp hs
  have HQ := Lib.hid hq
  have HC := Lib.hid hc
  obtain ⟨w1, hw1, b3, b6, z1, s1⟩ := boxes2 w 24 24 [.int .i64 (r : Int), .int .i64 (c : Int), .slice A n d] [.int .i64 0, .int .i64 0, .slice none 0 0]
  have HW := Lib.hid hw1
  have HZ := Lib.hid z1
  have hL_ := Lib.hid hL
  clear hw1 z1 hL hq hc
  go_enter Try.func120, Try.ntmps120
  go_upto_region 1 with fail
  rw [HW.out]
  obtain ⟨w2, hw2, b7, z2, s2⟩ := boxes1 w1 24 [.int .i64 (p : Int), .int .i64 (s : Int), .slice none 0 0]
  rw [s1] at b7
  have HW2 := Lib.hid hw2
  have HM := Lib.hid ha
  have H0 : Hid (∃ v, Bx w2 w.heap.size 24 [.int .i64 (r : Int), .int .i64 (c : Int), .slice A n d] ∧ Bx w2 (w.heap.size + 1) 24 [.int .i64 0, .int .i64 0, .slice none 0 0] ∧ Bx w2 (w.heap.size + 1 + 1) 24 [.int .i64 (p : Int), .int .i64 (s : Int), v] ∧ OwnW w w2 k v (L.take (0 * s)) ∧ v.ownBlock ≠ some (w.heap.size + 1 + 1) ∧ v.ownBlock ≠ some (w.heap.size + 1) ∧ v.ownBlock ≠ some w.heap.size) := Lib.hid ⟨_, b3.below z2, b6.below z2, b7, by rw [Nat.zero_mul]; exact OwnW.nil' (zup HZ.out z2) k, by simp [Value.ownBlock], by simp [Value.ownBlock], by simp [Value.ownBlock]⟩
  clear hw2 b7 b6 b3 z2 s2 ha HZ
  go_upto_region 2 with fail
  rw [HW2.out]
  clear HW2 HW s1
  go_wp2_with fail
  go_loopw [8] (fun s8 wr => ∃ a : Nat, s8 = .int .i64 (a : Int) ∧ a ≤ p ∧ Hid (∃ v, Bx wr w.heap.size 24 [.int .i64 (r : Int), .int .i64 (c : Int), .slice A n d] ∧ Bx wr (w.heap.size + 1) 24 [.int .i64 0, .int .i64 0, .slice none 0 0] ∧ Bx wr (w.heap.size + 1 + 1) 24 [.int .i64 (p : Int), .int .i64 (s : Int), v] ∧ OwnW w wr k v (L.take (a * s)) ∧ v.ownBlock ≠ some (w.heap.size + 1 + 1) ∧ v.ownBlock ≠ some (w.heap.size + 1) ∧ v.ownBlock ≠ some w.heap.size)) (fun s8 _ => p - (intOf s8).toNat)
  case atStart => exact ⟨0, rfl, Nat.zero_le _, H0⟩
  case round =>
    obtain ⟨a, rfl, har, HB⟩ := hrel
    clear H0
    by_cases hlt : a < p
    · have u2 : (a : Int) < (p : Int) := by omega
      go_wp2_with fail
      go_loopw [9] (fun s9 wr => ∃ e : Nat, s9 = .int .i64 (e : Int) ∧ e ≤ s ∧ Hid (∃ v, Bx wr w.heap.size 24 [.int .i64 (r : Int), .int .i64 (c : Int), .slice A n d] ∧ Bx wr (w.heap.size + 1) 24 [.int .i64 0, .int .i64 0, .slice none 0 0] ∧ Bx wr (w.heap.size + 1 + 1) 24 [.int .i64 (p : Int), .int .i64 (s : Int), v] ∧ OwnW w wr k v (L.take (a * s + e)) ∧ v.ownBlock ≠ some (w.heap.size + 1 + 1) ∧ v.ownBlock ≠ some (w.heap.size + 1) ∧ v.ownBlock ≠ some w.heap.size)) (fun s9 _ => s - (intOf s9).toNat)
      case atStart => exact ⟨0, rfl, Nat.zero_le _, HB⟩
      case round =>
        clear HB
        obtain ⟨e, rfl, hec, HB⟩ := hrel
        by_cases hel : e < s
        · have u7 : (e : Int) < (s : Int) := by omega
          obtain ⟨v, b3, b6, b7, ho, n1, n2, n3⟩ := HB.out
          have B0 := ho.old
          have hM := HM.out.below B0
          obtain ⟨adr, rfl, hbr, hcr⟩ := (HQ.out.below B0).lt (by omega)
          obtain ⟨adc, rfl, hbc, hccc⟩ := (HC.out.below B0).lt (by omega)
          have x1 := hcr a hlt
          have x2 := hccc e hel
          rw [hf a hlt] at x1
          rw [hg e hel] at x2
          obtain ⟨Av, cv, rfl, -⟩ := ho.form
          obtain ⟨nv, hnv⟩ : ∃ nv, (List.take (a * s + e) L).length = nv := ⟨_, rfl⟩
          rw [hnv] at b7 n1 n2 n3 ho
          have hlen : ((L.take (a * s + e))).length ≤ 4096 := by rw [List.length_take]; omega
          clear HB hnv hcr hccc
          go_upto_region 8 with fail
          refine Run.start 13 ?_
          refine .fa .o (fM2 2) ?_
          refine .ld (.i 0) (ldSl b7 2) ?_
          refine .ld .o (ldM b3 0) ?_
          refine .mv .o ?_
          refine .mv .o ?_
          refine .two (.i 3) (.i 4) (opIxK hlt) ?_
          refine .ld (.i 5) (ldI (by rw [add_block]; exact hbr) x1) ?_
          refine .mv .o ?_
          refine .mv .o ?_
          refine .two (.i 7) (.i 8) (opIxK hel) ?_
          refine .ld (.i 9) (ldI (by rw [add_block]; exact hbc) x2) ?_
          refine .c3 (.i 2) (.i 6) (.i 10) (x := kV (F (f a) (g e)) k) (by rintro u v x w4 hB rfl rfl rfl; exact rat_q (i := f a) (j := g e) (hM.below hB) (hqr a hlt) (hcc e hel)) ?_
          refine .bsv (.i 11) (Nat.le_refl _) ?_
          refine .done [some 27, some 28, some 29, some 30, some 31, some 32, some 33, some 34, some 35, some 36, some 37, some 38, some 39] ?_
          intro w4 B4
          rintro v38 -
          rintro v ⟨gx, s_, A_, n_, c_, rfl, bg, hge, hz, hk⟩
          change Shut (wpList _ _ _ [_, _, _] _ _)
          refine ⟨?_⟩
          simp only [Act.put, List.setIfInBounds_toArray, List.set_cons_zero, List.set_cons_succ]
          have hg0 := bg.cell 0
          have hg1 := bg.cell 1
          simp only [List.getElem?_cons_succ, List.getElem?_cons_zero] at hg0 hg1
          have ho4 := ho.below B4
          replace b3 := b3.below B4
          replace b6 := b6.below B4
          replace b7 := b7.below B4
          clear B4 ho hM x1 x2 hbr hbc
          go_wp2_with (at_builtin; refine wpList_appgv w _ rfl _ _ 22 rfl Try.underlying22 info_zint k _ _ rfl ho4 hg0 hg1 hz hk rfl (by omega) ?_)
          intro v5 w5 ho5 hG
          have b3' := hG.bx b3 n3
          have b6' := hG.bx b6 n2
          have b7' := hG.bx b7 n1
          have n1' := hG.ne b7.lt n1
          have n2' := hG.ne b6.lt n2
          have n3' := hG.ne b3.lt n3
          have hm : a * s + e < L.length := by rw [hLl]; exact at_lt hlt hel
          have hz5 : F (f a) (g e) = ith L (a * s + e) := by rw [← hL_.out, mk_at hlt hel]
          rw [hz5, take_one' hm, Nat.add_assoc] at ho5
          obtain ⟨A5, c5, rfl, -⟩ := ho5.form
          obtain ⟨nl, hnl⟩ : ∃ nl, (List.take (a * s + (e + 1)) L).length = nl := ⟨_, rfl⟩
          have i2 := b7'.cell 2
          have i2' := b7'.free 2
          simp only [List.getElem?_cons_succ, List.getElem?_cons_zero] at i2
          have HS : Hid (∃ v, Bx (w5.setCell ⟨w.heap.size + 1 + 1, 2, none⟩ (.slice A5 (List.take (a * s + (e + 1)) L).length c5)) w.heap.size 24 [.int .i64 (r : Int), .int .i64 (c : Int), .slice A n d] ∧ Bx (w5.setCell ⟨w.heap.size + 1 + 1, 2, none⟩ (.slice A5 (List.take (a * s + (e + 1)) L).length c5)) (w.heap.size + 1) 24 [.int .i64 0, .int .i64 0, .slice none 0 0] ∧ Bx (w5.setCell ⟨w.heap.size + 1 + 1, 2, none⟩ (.slice A5 (List.take (a * s + (e + 1)) L).length c5)) (w.heap.size + 1 + 1) 24 [.int .i64 (p : Int), .int .i64 (s : Int), v] ∧ OwnW w (w5.setCell ⟨w.heap.size + 1 + 1, 2, none⟩ (.slice A5 (List.take (a * s + (e + 1)) L).length c5)) k v (L.take (a * s + (e + 1))) ∧ v.ownBlock ≠ some (w.heap.size + 1 + 1) ∧ v.ownBlock ≠ some (w.heap.size + 1) ∧ v.ownBlock ≠ some w.heap.size) := Lib.hid ⟨_, b3'.off (by omega) _ _, b6'.off (by omega) _ _, b7'.set 2 _, ho5.set b7' (by simp) (by omega) n1' 2, n1', n2', n3'⟩
          rw [hnl] at HS
          try rw [hnl]
          clear b3 b6 b7 b3' b6' b7' ho4 ho5 hG bg hge hz hk hg0 hg1 hz5 hnl
          go_wp2_with fail
          go_roundw
          case rel => exact ⟨e + 1, by go_num, by omega, HS⟩
          case measure => first | (simp [intOf]; done) | (simp [intOf]; omega)
        · obtain rfl : e = s := by omega
          have u7 : ¬ (e : Int) < (e : Int) := by omega
          rw [show a * e + e = (a + 1) * e by rw [Nat.succ_mul]] at HB
          go_wp2_with fail
          go_roundw
          case rel => exact ⟨a + 1, by go_num, by omega, HB⟩
          case measure => first | (simp [intOf]; done) | (simp [intOf]; omega)
    · obtain rfl : a = p := by omega
      have u2 : ¬ (a : Int) < (a : Int) := by omega
      obtain ⟨v, b3, b6, b7, ho, n1, n2, n3⟩ := HB.out
      rw [← hLl, List.take_length, ← hL_.out] at ho
      obtain ⟨Av, cv, rfl, -⟩ := ho.form
      obtain ⟨N, hN⟩ : ∃ N, (mk a s (fun a b => F (f a) (g b))).length = N := ⟨_, rfl⟩
      rw [hN] at ho b7
      have hM := ho.mt hp hs
      have P := Lib.hid (retM hM b6 (by omega) ho.old)
      have j0 := b7.cell 0
      have j1 := b7.cell 1
      have j2 := b7.cell 2
      obtain ⟨k0, k1, k2, k3, k4, k5, k6⟩ := b6.m3
      simp only [List.getElem?_cons_succ, List.getElem?_cons_zero] at j0 j1 j2
      clear b3 b6 b7 hM HB ho n1 n2 n3
      unfold mput at P
      go_wp2_with fail
      exact bodyPost_ret (v := .agg #[.int .i64 (a : Int), .int .i64 (s : Int), .slice Av N cv]) (by simp [results, Try.results120, go_sem, k0, k1, k2]) rfl P.out
set_option maxRecDepth 100000 in
set_option maxHeartbeats 1000000 in
/-- The reference's Some. -/
theorem rsome_q {q : Bool} {r c n d k K e2 : Nat} {A Ac : Option Addr} {F : Nat → Nat → Int} {cs : List Nat} {b : Bool} {w : World} (ha : Mt q w r c A n d k F) (hc : Iz w Ac K e2 cs) (hr : r ≤ 16) (hK : K ≤ 64) (hcc : ∀ b, b < K → cs.getD b 0 < c) (hd : dk k K ≤ 549755813888) (hb : b = true ↔ DT.Som r F K fun j => cs.getD j 0) : Calls Try.prog 93 #[.agg #[.int .i64 (r : Int), .int .i64 (c : Int), .slice A n d], .slice Ac K e2] w (RetK (.k (.bool b)) w) := by
  have HC := Lib.hid hc
  have hb2 := hb.trans som_rch
  clear hb
  have HB := Lib.hid hb2
  have HCC := Lib.hid hcc
  obtain ⟨w1, hw1, b2, z1, s1⟩ := boxes1 w 24 [.int .i64 (r : Int), .int .i64 (c : Int), .slice A n d]
  have HW := Lib.hid hw1
  have HZ := Lib.hid z1
  clear hw1 z1 s1 hb2 hcc
  go_enter Try.func93, Try.ntmps93
  go_upto_region 1 with fail
  rw [HW.out]
  refine Run.start 6 ?_
  refine .fa .o (fM0 0) ?_
  refine .ld (.i 0) (ldInt b2 0) ?_
  refine .mv .o ?_
  refine .len (.i 2) Try.underlying64 ?_
  refine .c2 (.i 1) (.i 3) (x := kLo w1.heap.size (rch r K)) (by rintro u v w3 hB rfl rfl; exact (choices_q r K w3 hr).mono fun e w' h => h.mono fun v w ⟨vs, h1, h2⟩ => ⟨vs, own_base h1 hB.size, h2⟩) ?_
  refine .mf (.i 4) ?_
  refine .donep [some 7, some 8, some 9, some 10, some 11, some 5] ?_
  intro w2 B2
  rintro v11 -
  rintro v5 ⟨vs, h5, h5'⟩
  change Shut (wpList _ _ _ [] _ _)
  refine ⟨?_⟩
  simp only [Act.put, List.setIfInBounds_toArray, List.set_cons_zero, List.set_cons_succ]
  have B0 := zup HZ.out B2
  replace b2 := b2.below B2
  obtain ⟨A5, c5, e5, hat⟩ : ∃ A c, v5 = .slice A (rch r K).length c ∧ ∀ i, i < (rch r K).length → ∃ ad Ai ci, A = some ad ∧ ad.block < w2.heap.size ∧ w2.cell? (ad.add i) = some (.slice Ai K ci) ∧ Iz w2 Ai K ci ((rch r K).getD i []) := by
    have hsz : ∀ i, i < (rch r K).length → ((rch r K).getD i []).length = K := fun i hi => rch_size r K _ (getD_mem hi)
    rcases h5.2 with ⟨e, e0⟩ | ⟨g, cap, cur, e, hbg, hh, _⟩
    · exact ⟨none, 0, by rw [e0]; exact e, fun i hi => by omega⟩
    · refine ⟨_, cap, e, fun i hi => ?_⟩
      obtain ⟨Ai, ci, h1, h2⟩ := h5'.2 i hi
      rw [hsz i hi] at h1 h2
      exact ⟨⟨g, 0, none⟩, Ai, ci, rfl, (Array.getElem?_eq_some_iff.1 hh).1, by subst e; exact h5.cells (g := g) rfl i _ h1, h2⟩
  obtain ⟨NL, hNL⟩ : ∃ N, (rch r K).length = N := ⟨_, rfl⟩
  rw [hNL] at e5 hat
  have hrl := rch_len r K
  have hp16 : 2 ^ r ≤ 2 ^ 16 := Nat.pow_le_pow_right (by omega) hr
  have hNL2 : NL ≤ 65536 := by omega
  have HNL := Lib.hid hNL
  have HAT := Lib.hid hat
  have HM := Lib.hid ha
  have H0 : Hid (Below w.heap.size w w2 ∧ ∀ a, a < 0 → DT.det K (fun u_ v_ => F (((rch r K).getD a []).getD u_ 0) (cs.getD v_ 0)) = 0) := Lib.hid ⟨B0, fun a h => by omega⟩
  have HB2 := Lib.hid b2
  have HB0 := Lib.hid B0
  subst e5
  clear b2 h5 h5' hat ha hc hNL hrl hp16 B0 B2 HZ HW
  go_wp2_with fail
  go_loopw [6] (fun s6 wr => ∃ i : Nat, s6 = .int .i64 (i : Int) ∧ i ≤ NL ∧ Hid (Below w2.heap.size w2 wr ∧ ∀ a, a < i → DT.det K (fun u_ v_ => F (((rch r K).getD a []).getD u_ 0) (cs.getD v_ 0)) = 0)) (fun s6 _ => NL - (intOf s6).toNat)
  case atStart => exact ⟨0, rfl, Nat.zero_le _, Lib.hid ⟨Below.refl _ _, fun a h => by omega⟩⟩
  case round =>
    obtain ⟨i, rfl, hi, HI⟩ := hrel
    clear H0
    by_cases hlt : i < NL
    · have u2 : (i : Int) < (NL : Int) := by omega
      obtain ⟨B1, hall⟩ := HI.out
      have HA := Lib.hid hall
      clear HI hall
      obtain ⟨ad, Ai, ci, rfl, hab, hcell, hz⟩ := HAT.out i hlt
      have x1 := (B1.cell (p := ad.add i) (by rw [add_block]; exact hab)).trans hcell
      have hab2 := Nat.lt_of_lt_of_le hab B1.size
      have b2 := HB2.out.below B1
      obtain ⟨z, hzz⟩ : ∃ z, DT.det K (fun u_ v_ => F (((rch r K).getD i []).getD u_ 0) (cs.getD v_ 0)) = z := ⟨_, rfl⟩
      obtain ⟨x, hx⟩ : ∃ x, z.sign = x := ⟨_, rfl⟩
      obtain ⟨t, ht⟩ : ∃ t, decide (x ≠ 0) = t := ⟨_, rfl⟩
      have HZZ := Lib.hid hzz
      have HX := Lib.hid hx
      have HT := Lib.hid ht
      have hil : i < (rch r K).length := by rw [HNL.out]; exact hlt
      have hinc := rch_inc r K _ (getD_mem (d := []) hil)
      obtain ⟨f, hf⟩ : ∃ f : Nat → Nat, (fun a => ((rch r K).getD i []).getD a 0) = f := ⟨_, rfl⟩
      obtain ⟨g, hg⟩ : ∃ g : Nat → Nat, (fun a => cs.getD a 0) = g := ⟨_, rfl⟩
      rw [hf] at hinc
      have hzz2 : DT.det K (fun a b => F (f a) (g b)) = z := by rw [← hzz, ← hf, ← hg]
      have HF := Lib.hid hf
      have HG := Lib.hid hg
      have HZ2 := Lib.hid hzz2
      clear hf hg hzz2
      clear hzz hx ht hcell hab hil
      go_upto_region 5 with fail
      cases t
      · refine Run.start 10 ?_
        refine .ld .o (ldM b2 0) ?_
        refine .mv .o ?_
        refine .mv .o ?_
        refine .two (.i 1) (.i 2) (opIxLL hlt) ?_
        refine .ld (.i 3) (ldSI (by rw [add_block]; exact hab2) x1) ?_
        refine .mv .o ?_
        refine .c3 (.i 0) (.i 4) (.i 5) (x := kM false K K k (fun a b => F (f a) (g b))) (by rintro u v x w4 hB rfl rfl rfl; exact rpart_q (HM.out.below ((HB0.out.trans (B1.mono HB0.out.size)).trans (hB.mono (Nat.le_trans HB0.out.size B1.size)))) (hz.below (B1.trans (hB.mono B1.size))) (HC.out.below ((HB0.out.trans (B1.mono HB0.out.size)).trans (hB.mono (Nat.le_trans HB0.out.size B1.size)))) hK hK (fun a _ => by rw [← HF.out]) (fun a _ => by rw [← HG.out]) (fun a h => hinc.lt a h) (fun a h => by rw [← HG.out]; exact HCC.out a h)) ?_
        refine .c1 (.i 6) (x := kC z (dk k K)) (by rintro u w4 hB ⟨A', n', d', rfl, hM'⟩; rw [← HZ2.out]; exact rdt_q hM' hd) ?_
        refine .c1 (.i 7) (x := .k (.int .i64 x)) (by rintro u w4 hB hu; exact zsign_q hu.v (by omega) HX.out) ?_
        refine .two (.i 8) .o (opNe HT.out) ?_
        refine .done [some 18, some 19, some 20, some 21, some 22, some 23, some 24, some 25, some 26, some 27] ?_
        intro w4 B4
        rintro v24 -
        rintro v25 -
        change Shut (wpList _ _ _ [] _ _)
        refine ⟨?_⟩
        simp only [Act.put, List.setIfInBounds_toArray, List.set_cons_zero, List.set_cons_succ]
        have HS : Hid (Below w2.heap.size w2 w4 ∧ ∀ a, a < i + 1 → DT.det K (fun u_ v_ => F (((rch r K).getD a []).getD u_ 0) (cs.getD v_ 0)) = 0) := Lib.hid ⟨B1.trans (B4.mono B1.size), fun a h => by
          rcases Nat.lt_or_ge a i with h1 | h1
          · exact HA.out a h1
          · have h4 := HT.out
            rw [← HX.out] at h4
            have h5 := Int.sign_eq_zero_iff_zero.1 (by simpa using h4)
            have ea : i = a := by omega
            rw [← HZZ.out, ea] at h5
            exact h5⟩
        clear b2 B1 B4 x1 hz
        go_wp2_with fail
        go_roundw
        case rel => exact ⟨i + 1, by go_num, by omega, HS⟩
        case measure => first | (simp [intOf]; done) | (simp [intOf]; omega)
      · refine Run.start 10 ?_
        refine .ld .o (ldM b2 0) ?_
        refine .mv .o ?_
        refine .mv .o ?_
        refine .two (.i 1) (.i 2) (opIxLL hlt) ?_
        refine .ld (.i 3) (ldSI (by rw [add_block]; exact hab2) x1) ?_
        refine .mv .o ?_
        refine .c3 (.i 0) (.i 4) (.i 5) (x := kM false K K k (fun a b => F (f a) (g b))) (by rintro u v x w4 hB rfl rfl rfl; exact rpart_q (HM.out.below ((HB0.out.trans (B1.mono HB0.out.size)).trans (hB.mono (Nat.le_trans HB0.out.size B1.size)))) (hz.below (B1.trans (hB.mono B1.size))) (HC.out.below ((HB0.out.trans (B1.mono HB0.out.size)).trans (hB.mono (Nat.le_trans HB0.out.size B1.size)))) hK hK (fun a _ => by rw [← HF.out]) (fun a _ => by rw [← HG.out]) (fun a h => hinc.lt a h) (fun a h => by rw [← HG.out]; exact HCC.out a h)) ?_
        refine .c1 (.i 6) (x := kC z (dk k K)) (by rintro u w4 hB ⟨A', n', d', rfl, hM'⟩; rw [← HZ2.out]; exact rdt_q hM' hd) ?_
        refine .c1 (.i 7) (x := .k (.int .i64 x)) (by rintro u w4 hB hu; exact zsign_q hu.v (by omega) HX.out) ?_
        refine .two (.i 8) .o (opNe HT.out) ?_
        refine .done [some 18, some 19, some 20, some 21, some 22, some 23, some 24, some 25, some 26, some 27] ?_
        intro w4 B4
        rintro v24 -
        rintro v25 -
        change Shut (wpList _ _ _ [] _ _)
        refine ⟨?_⟩
        simp only [Act.put, List.setIfInBounds_toArray, List.set_cons_zero, List.set_cons_succ]
        have hb1 : b = true := HB.out.2 ⟨i, by rw [HNL.out]; exact hlt, fun e => by
          have h4 := HT.out
          rw [← HX.out, ← HZZ.out, e] at h4
          simp at h4⟩
        have P : Hid (RetK (.k (.bool b)) w (.returned (.bool true)) w4) := Lib.hid ⟨_, rfl, by rw [hb1]; rfl, (HB0.out.trans (B1.mono HB0.out.size)).trans (B4.mono (Nat.le_trans HB0.out.size B1.size))⟩
        clear b2 B1 B4 x1 hz hb1
        go_wp2_with fail
        exact bodyPost_ret (v := .bool true) (by simp [results, Try.results93, go_sem]) rfl P.out
    · obtain rfl : i = NL := by omega
      have u2 : ¬ (i : Int) < (i : Int) := by omega
      obtain ⟨B1, hall⟩ := HI.out
      have hb1 : b = false := by
        cases hbb : b with
        | false => rfl
        | true =>
          obtain ⟨a, h1, h2⟩ := HB.out.1 hbb
          exact absurd (hall a (by rw [HNL.out] at h1; exact h1)) h2
      have P : Hid (RetK (.k (.bool b)) w (.returned (.bool false)) wr) := Lib.hid ⟨_, rfl, by rw [hb1]; rfl, HB0.out.trans (B1.mono HB0.out.size)⟩
      clear HI hall B1 hb1
      go_wp2_with fail
      exact bodyPost_ret (v := .bool false) (by simp [results, Try.results93, go_sem]) rfl P.out
end Go.Proofs.Ytcdkdanfiimlkaa
