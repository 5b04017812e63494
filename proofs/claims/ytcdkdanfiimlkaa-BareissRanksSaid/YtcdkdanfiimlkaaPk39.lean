/-
  BarN
-/
import Derived.Test.YtcdkdanfiimlkaaPk32
import Derived.Test.YtcdkdanfiimlkaaPk38
import Derived.RegionTactic
import Derived.BigRegion
import Derived.Deep.RegionWith

/-! Contract: the rows when they are reduced, as a matrix. -/
namespace Go.Proofs.Ytcdkdanfiimlkaa
open Go.RowKit
set_option linter.unusedVariables false
set_option linter.unusedSimpArgs false

theorem run_app_none {P : Program} {w : World} (t ty e : TypeId) (i : TypeInfo) (ht : P.underlying t = some (.slice e)) (hi : P.info? e = some i) (g m cap c : Nat) (hm : m ≤ cap) : (Builtin.append_ #[t, t] ty #[.slice (some ⟨g, 0, none⟩) m cap, .slice none 0 c]).run P w = .ok (.slice (some ⟨g, 0, none⟩) m cap) w := by
  simp [Builtin.append_, run_underlying ht, sizeOf, typeInfo, hi, Builtin.lenOf, Builtin.firstCells, hm, storeCells]
theorem ZAt.spot {q : Bool} {w : World} {p : Addr} {k : Nat} {z : Int} (h : ZAt q w p k z) : p.spot = none := by
  obtain ⟨s, A, n, c, h1, -⟩ := h
  unfold World.cell? at h1
  cases hb : w.heap[p.block]? with
  | none => rw [hb] at h1; simp at h1
  | some o =>
    rw [hb] at h1
    cases hs : p.spot with
    | none => rfl
    | some x =>
      rw [hs] at h1
      cases o <;> simp at h1
/-- The first m, then a list, then the rest. -/
def splice (zs ys : List Int) (m : Nat) : List Int := zs.take m ++ ys ++ zs.drop (m + ys.length)
theorem splice_len {zs ys : List Int} {m : Nat} (h : m + ys.length ≤ zs.length) : (splice zs ys m).length = zs.length := by unfold splice; simp; omega
theorem splice_at {zs ys : List Int} {m j : Nat} (h : m + ys.length ≤ zs.length) : ith (splice zs ys m) j = if j < m then ith zs j else if j < m + ys.length then ith ys (j - m) else ith zs j := by
  unfold splice ith
  simp only [List.getD]
  have h1 : (zs.take m).length = m := by rw [List.length_take]; omega
  by_cases a : j < m
  · rw [if_pos a, List.append_assoc, List.getElem?_append_left (by omega), List.getElem?_take_of_lt a]
  · rw [if_neg a]
    by_cases b : j < m + ys.length
    · rw [if_pos b, List.append_assoc, List.getElem?_append_right (by omega), h1, List.getElem?_append_left (by omega)]
    · rw [if_neg b, List.getElem?_append_right (by rw [List.length_append]; omega), List.length_append, h1, List.getElem?_drop]
      congr 2; omega
/-- append of a list of whole numbers where there is room. -/
theorem wpList_apprm {P : Program} {w : World} {ops : Array Oper} {rest : List Oper} {o : Oper} {a : Act} {Q : Exit → Act → World → Prop} (hgd : o.guard = none) (s x : Operand) (t : TypeId)
    (ho : o.op = .call { callee := .builtin .append, args := #[s, x], argTypes := #[t, t] })
    (ht : P.underlying t = some (.slice 28)) (hinfo : (P.info? 28).map (fun i => (i.zero, i.size, i.bytes)) = some (some (.agg #[.bool false, .slice none 0 0]), 2, 32))
    {g k m cap n c : Nat} {A : Option Addr} {zs ys : List Int} (hs : a.eval s = .slice (some ⟨g, 0, none⟩) m cap) (hx : a.eval x = .slice A n c)
    (hz : ZL true w A n c k ys) (hb : ZB w g k zs) (hm : m + n ≤ zs.length) (hcap : cap = zs.length)
    (K : ∀ w', ZB w' g k (splice zs ys m) → w.grownBy w' (some g) → wpList P ops Q rest (a.put o.dst (.slice (some ⟨g, 0, none⟩) (m + n) cap)) w') :
    wpList P ops Q (o :: rest) a w := by
  obtain ⟨i, hi, hz0, hz1, hz2⟩ := info_parts hinfo
  have hno := hb.now
  have hyl := hz.len
  rcases Nat.eq_zero_or_pos n with h0 | h0
  · subst h0
    obtain rfl : ys = [] := List.length_eq_zero_iff.1 hyl
    have hsp : splice zs [] m = zs := by unfold splice; simp
    rw [hsp] at K
    cases A with
    | none =>
      have hrun := run_app_none (P := P) (w := w) t o.type _ i ht hi g m cap c (by omega)
      refine wpList_plain hgd fun K' hK' => ?_
      unfold Oper.wp execOp
      simp only [ho, resolve, invoke, builtin, Sem.run_bind, Sem.run_pure, Result.andThen_ok, List.map_toArray, List.map_cons, List.map_nil, hs, hx, hrun]
      exact hK' _ _ (K _ hb (gro_refl _ _))
    | some ad =>
      obtain ⟨cs, h1, h2, h3⟩ := id hb
      have hrun := run_append_room (P := P) w t o.type 28 i ht hi g m cap cs h1 ad 0 c [] (by simp) (fun j u hu => by simp at hu) (fun u hu => by simp at hu) (by omega) (by rw [hz1, h2]; simp; omega)
      obtain ⟨w', hw'⟩ : ∃ w', w' = w.setRow g (cs.toList.take (m * i.size) ++ [] ++ cs.toList.drop (m * i.size + ([] : List Value).length)).toArray := ⟨_, rfl⟩
      have hg : w'.heap[g]? = w.heap[g]? := by
        rw [hw', setRow_heap w g cs _ _ _ h1, h1]
        simp
      have hgr : w.grownBy w' (some g) := by
        subst hw'
        exact ⟨rfl, rfl, rfl, by simp [World.setRow], fun j _ hj => setRow_other w g j _ (fun e => hj (by rw [e]))⟩
      rw [← hw'] at hrun
      refine wpList_plain hgd fun K' hK' => ?_
      unfold Oper.wp execOp
      simp only [ho, resolve, invoke, builtin, Sem.run_bind, Sem.run_pure, Result.andThen_ok, List.map_toArray, List.map_cons, List.map_nil, hs, hx, hrun]
      refine hK' _ _ (K _ ?_ hgr)
      exact hb.below ⟨hgr.os, hgr.tape, hgr.output, hgr.size, fun j hj => by
        by_cases e : j = g
        · rw [e]; exact hg
        · exact hgr.block j hj (fun h => e (Option.some.inj h))⟩
  · obtain ⟨ad, rfl, hab, hat⟩ := hz.at' h0
    have hsp : ad.spot = none := by
      have := (hat 0 h0).spot
      rw [Nat.zero_mul, addr_add0] at this
      exact this
    obtain ⟨x0, o0, sp⟩ := ad
    simp only at hsp
    subst hsp
    have hz' : ∀ j, j < n → ∃ s A n c, w.cell? ⟨x0, o0 + j * 2, none⟩ = some (.bool s) ∧ w.cell? ⟨x0, o0 + (j * 2 + 1), none⟩ = some (.slice A n c) ∧ Zc w s A n c (ith ys j) ∧ n ≤ k := fun j hj => by
      obtain ⟨s, A, n', c', e1, e2, ze, hk⟩ := hat j hj
      rw [add_lit] at e1 e2
      exact ⟨s, A, n', c', e1, e2, ze.2 rfl, hk⟩
    have hcell : ∀ t, t < n * 2 → ∃ u, w.cell? ⟨x0, o0 + t, none⟩ = some u ∧ u.oneCell' = true := fun t ht => by
      obtain ⟨s, A, n', c', e1, e2, -⟩ := hz' (t / 2) (by omega)
      rcases (by omega : t = t / 2 * 2 ∨ t = t / 2 * 2 + 1) with h | h
      · exact ⟨_, by rw [h]; exact e1, rfl⟩
      · exact ⟨_, by rw [h]; exact e2, rfl⟩
    obtain ⟨news, hnl, hng⟩ : ∃ news : List Value, news.length = n * 2 ∧ ∀ t, t < n * 2 → w.cell? ⟨x0, o0 + t, none⟩ = news[t]? ∧ ∀ u, news[t]? = some u → u.oneCell' = true := by
      refine ⟨(List.range (n * 2)).map fun t => (w.cell? ⟨x0, o0 + t, none⟩).getD undef, by simp, fun t ht => ?_⟩
      obtain ⟨u, hu, h1⟩ := hcell t ht
      have e : ((List.range (n * 2)).map fun t => (w.cell? ⟨x0, o0 + t, none⟩).getD undef)[t]? = some u := by simp [ht, hu]
      exact ⟨by rw [e, hu], fun v hv => by rw [e] at hv; cases hv; exact h1⟩
    obtain ⟨cs, h1, h2, h3⟩ := id hb
    have hrun := run_append_room (P := P) w t o.type 28 i ht hi g m cap cs h1 ⟨x0, o0, none⟩ n c news (by rw [hz1]; exact hnl) (fun j u hu => by
        have hj : j < n * 2 := by
          rcases Nat.lt_or_ge j (n * 2) with h | h
          · exact h
          · rw [List.getElem?_eq_none (by omega)] at hu; cases hu
        rw [add_lit, (hng j hj).1, hu]) (fun u hu => by
        obtain ⟨j, hj, rfl⟩ := List.getElem_of_mem hu
        exact (hng j (by omega)).2 _ (List.getElem?_eq_getElem hj)) (by omega) (by rw [hz1, h2, hnl]; omega)
    rw [hz1, hnl] at hrun
    obtain ⟨C, hC⟩ : ∃ C, (cs.toList.take (m * 2) ++ news ++ cs.toList.drop (m * 2 + n * 2)).toArray = C := ⟨_, rfl⟩
    have hCg : ∀ j : Nat, C[j]? = if j < m * 2 then cs[j]? else if j < m * 2 + n * 2 then news[j - m * 2]? else cs[j]? := fun j => by
      rw [← hC, ← Array.getElem?_toList]
      simp only
      have hl : cs.toList.length = zs.length * 2 := by rw [Array.length_toList, h2]
      have h1 : (cs.toList.take (m * 2)).length = m * 2 := by rw [List.length_take]; omega
      by_cases a : j < m * 2
      · rw [if_pos a, List.append_assoc, List.getElem?_append_left (by omega), List.getElem?_take_of_lt a, Array.getElem?_toList]
      · rw [if_neg a]
        by_cases b : j < m * 2 + n * 2
        · rw [if_pos b, List.append_assoc, List.getElem?_append_right (by omega), h1, List.getElem?_append_left (by omega)]
        · rw [if_neg b, List.getElem?_append_right (by rw [List.length_append]; omega), List.length_append, h1, List.getElem?_drop, hnl, ← Array.getElem?_toList]
          congr 1; omega
    have hCs : C.size = zs.length * 2 := by
      rw [← hC]
      simp [hnl, h2]; omega
    rw [hC] at hrun
    obtain ⟨w', hw'⟩ : ∃ w', w' = w.setRow g C := ⟨_, rfl⟩
    have hgr : w.grownBy w' (some g) := by
      subst hw'
      exact ⟨rfl, rfl, rfl, by simp [World.setRow], fun j _ hj => setRow_other w g j _ (fun e => hj (by rw [e]))⟩
    rw [← hw'] at hrun
    refine wpList_plain hgd fun K' hK' => ?_
    unfold Oper.wp execOp
    simp only [ho, resolve, invoke, builtin, Sem.run_bind, Sem.run_pure, Result.andThen_ok, List.map_toArray, List.map_cons, List.map_nil, hs, hx, hrun]
    refine hK' _ _ (K _ ⟨C, ?_, by rw [splice_len (by omega)]; exact hCs, fun j hj => ?_⟩ hgr)
    · rw [hw', setRow_heap w g cs _ _ _ h1]
    · rw [splice_len (by omega)] at hj
      rw [splice_at (by omega), hyl]
      by_cases a : j < m
      · obtain ⟨s', A', n', c', c1, c2, c3, c4⟩ := h3 j hj
        exact ⟨s', A', n', c', by rw [hCg, if_pos (by omega)]; exact c1, by rw [hCg, if_pos (by omega)]; exact c2, by rw [if_pos a]; exact c3.gro hno hgr, c4⟩
      · rw [if_neg a]
        by_cases b : j < m + n
        · obtain ⟨s', A', n', c', c1, c2, c3, c4⟩ := hz' (j - m) (by omega)
          refine ⟨s', A', n', c', ?_, ?_, by rw [if_pos b]; exact c3.gro hno hgr, c4⟩
          · rw [hCg, if_neg (by omega), if_pos (by omega), ← (hng _ (by omega)).1, ← c1]; congr 2; omega
          · rw [hCg, if_neg (by omega), if_pos (by omega), ← (hng _ (by omega)).1, ← c2]; congr 2; omega
        · obtain ⟨s', A', n', c', c1, c2, c3, c4⟩ := h3 j hj
          exact ⟨s', A', n', c', by rw [hCg, if_neg (by omega), if_neg (by omega)]; exact c1, by rw [hCg, if_neg (by omega), if_neg (by omega)]; exact c2, by rw [if_neg b]; exact c3.gro hno hgr, c4⟩
theorem splice_fil {L : List Int} {m n : Nat} {ys : List Int} (hy : ys = (L.drop m).take n) (h : m + n ≤ L.length) : splice (fil L m) ys m = fil L (m + n) := by
  have hl : ys.length = n := by rw [hy]; simp; omega
  have hf : (fil L m).length = L.length := fil_len (by omega)
  apply List.ext_getElem
  · rw [splice_len (by omega), hf, fil_len h]
  · intro j h1 h2
    have e1 : ith (splice (fil L m) ys m) j = (splice (fil L m) ys m)[j] := by simp [ith, List.getD, h1]
    have e2 : ith (fil L (m + n)) j = (fil L (m + n))[j] := by simp [ith, List.getD, h2]
    rw [← e1, ← e2, splice_at (by omega), hl]
    rw [fil_len h] at h2
    have g : ∀ m', m' ≤ L.length → ith (fil L m') j = if j < m' then ith L j else 0 := fun m' hm' => by
      unfold fil ith
      simp only [List.getD]
      by_cases a : j < m'
      · rw [if_pos a, List.getElem?_append_left (by rw [List.length_take]; omega), List.getElem?_take_of_lt a]
      · rw [if_neg a, List.getElem?_append_right (by rw [List.length_take]; omega), List.getElem?_replicate]
        split <;> rfl
    rw [g _ (by omega), g _ h]
    by_cases a : j < m
    · rw [if_pos a, if_pos a, if_pos (by omega)]
    · rw [if_neg a, if_neg a]
      by_cases b : j < m + n
      · rw [if_pos b, if_pos b, hy, ith_take (by omega), ith_drop]; congr 1; omega
      · rw [if_neg b, if_neg b]
set_option maxRecDepth 100000 in
set_option maxHeartbeats 1000000 in
/-- join. -/
theorem join_q {H R C K : Nat} {M : Nat → Nat → Int} {rows : List Value} {S : List Nat} {w : World} (hd : Bx w H 22 rows) (hl : rows.length = R) (hrow : ∀ i, i < R → ∃ v, rows[i]? = some v ∧ RowOk w S v C K (M i)) (hR : R ≤ 64) (hC : C ≤ 64) : Calls Try.prog 92 #[.slice (some ⟨H, 0, none⟩) R R, .int .i64 (C : Int)] w (RetK (kM true R C K M) w) := by
  obtain ⟨w1, hw1, b4, z1, s1⟩ := boxes1 w 24 [.int .i64 0, .int .i64 0, .slice none 0 0]
  have HW := Lib.hid hw1
  have HD := Lib.hid hd
  have HR := Lib.hid hrow
  obtain ⟨N, hN⟩ : ∃ N, R * C = N := ⟨_, rfl⟩
  have hN2 : N ≤ 4096 := by rw [← hN]; exact Nat.mul_le_mul hR hC
  have e14 : (R : Int) * (C : Int) = (N : Int) := by rw [← hN]; simp
  have HN := Lib.hid hN
  clear hw1 hd hrow hN
  go_enter Try.func92, Try.ntmps92
  go_upto_region 1 with fail
  rw [HW.out]
  go_wp2_with (at_make; refine wpList_make_r _ rfl _ _ 22 rfl Try.underlying22 info_zint N rfl rfl (by omega) ?_)
  intro w2 hb B2 s2
  have s3 : w2.heap.size = w.heap.size + 1 + 1 := by omega
  rw [← s1] at B2
  have hb : ZB w2 (w.heap.size + 1) 0 (List.replicate N 0) := by first | exact hb | (rw [s1] at hb; exact hb)
  obtain ⟨w3, hw3, b5, z3, s4⟩ := boxes1 w2 24 [.int .i64 (R : Int), .int .i64 (C : Int), .slice (some ⟨w.heap.size + 1, 0, none⟩) 0 N]
  rw [s3] at b5
  have HW3 := Lib.hid hw3
  have HB : Hid (Below w.heap.size w w3 ∧ Bx w3 w.heap.size 24 [.int .i64 0, .int .i64 0, .slice none 0 0] ∧ Bx w3 (w.heap.size + 1 + 1) 24 [.int .i64 (R : Int), .int .i64 (C : Int), .slice (some ⟨w.heap.size + 1, 0, none⟩) (0 * C) N] ∧ ZB w3 (w.heap.size + 1) K (fil (mk R C M) (0 * C))) := Lib.hid ⟨zup (zup z1 B2) z3, (b4.below B2).below z3, by rw [Nat.zero_mul]; exact b5, by rw [Nat.zero_mul, fil_zero, mk_len, HN.out]; exact (hb.below z3).mono (Nat.zero_le _)⟩
  clear hw3 b5 b4 z1 z3 hb B2 s1 s2 s4
  go_upto_region 2 with fail
  rw [HW3.out]
  clear s3 HW3
  go_wp2_with fail
  go_loopw [19] (fun s19 wr => ∃ i : Nat, s19 = .int .i64 (i : Int) ∧ i ≤ R ∧ Hid (Below w.heap.size w wr ∧ Bx wr w.heap.size 24 [.int .i64 0, .int .i64 0, .slice none 0 0] ∧ Bx wr (w.heap.size + 1 + 1) 24 [.int .i64 (R : Int), .int .i64 (C : Int), .slice (some ⟨w.heap.size + 1, 0, none⟩) (i * C) N] ∧ ZB wr (w.heap.size + 1) K (fil (mk R C M) (i * C)))) (fun s19 _ => R - (intOf s19).toNat)
  case atStart => exact ⟨0, rfl, Nat.zero_le _, HB⟩
  case round =>
    clear HB
    obtain ⟨i, rfl, hi, HB⟩ := hrel
    by_cases hlt : i < R
    · have u1 : (i : Int) < (R : Int) := by omega
      obtain ⟨B0, b4, b5, hb⟩ := HB.out
      obtain ⟨v, hv, hro⟩ := HR.out i hlt
      obtain ⟨Av, cv, rfl, hz, -⟩ := hro.below B0
      have x1 := ((HD.out.below B0).cell i).trans hv
      have hm : i * C + C ≤ N := by rw [← HN.out, ← Nat.succ_mul]; exact Nat.mul_le_mul_right C hlt
      have hL : (fil (mk R C M) (i * C)).length = N := by rw [fil_len (by rw [mk_len, HN.out]; omega), mk_len, HN.out]
      have i2 := b5.cell 2
      simp only [List.getElem?_cons_succ, List.getElem?_cons_zero] at i2
      clear HB hv hro
      go_wp2_with (at_builtin; refine wpList_apprm rfl _ _ 22 rfl Try.underlying22 info_zint rfl rfl hz hb (by omega) hL.symm ?_)
      intro w5 hb5 hg5
      have hzl := hz.len
      rw [splice_fil (n := C) (mk_row hlt).symm (by rw [mk_len, HN.out]; exact hm)] at hb5
      have b5' := gro_bx b5 hg5 (by omega)
      have b4' := gro_bx b4 hg5 (by omega)
      have j2 := b5'.cell 2
      have j2' := b5'.free 2
      simp only [List.getElem?_cons_succ, List.getElem?_cons_zero] at j2
      have HS : Hid (Below w.heap.size w (w5.setCell ⟨w.heap.size + 1 + 1, 2, none⟩ (.slice (some ⟨w.heap.size + 1, 0, none⟩) (i * C + C) N)) ∧ Bx (w5.setCell ⟨w.heap.size + 1 + 1, 2, none⟩ (.slice (some ⟨w.heap.size + 1, 0, none⟩) (i * C + C) N)) w.heap.size 24 [.int .i64 0, .int .i64 0, .slice none 0 0] ∧ Bx (w5.setCell ⟨w.heap.size + 1 + 1, 2, none⟩ (.slice (some ⟨w.heap.size + 1, 0, none⟩) (i * C + C) N)) (w.heap.size + 1 + 1) 24 [.int .i64 (R : Int), .int .i64 (C : Int), .slice (some ⟨w.heap.size + 1, 0, none⟩) ((i + 1) * C) N] ∧ ZB (w5.setCell ⟨w.heap.size + 1 + 1, 2, none⟩ (.slice (some ⟨w.heap.size + 1, 0, none⟩) (i * C + C) N)) (w.heap.size + 1) K (fil (mk R C M) ((i + 1) * C))) := by
        refine Lib.hid ⟨(gro_up B0 hg5 (by omega)).setCell (by show _ ≤ w.heap.size + 1 + 1; omega) _, b4'.off (by omega) _ _, by rw [Nat.succ_mul]; exact b5'.set 2 _, ?_⟩
        rw [Nat.succ_mul]
        exact hb5.gro (by omega) (b5'.now (by simp)) (gro_set (q := ⟨w.heap.size + 1 + 1, 2, none⟩) (gro_refl _ _) rfl _)
      clear b4 b5 b4' b5' hb hb5 hg5 hz hL B0
      go_wp2_with fail
      go_roundw
      case rel => exact ⟨i + 1, by go_num, by omega, HS⟩
      case measure => first | (simp [intOf]; done) | (simp [intOf]; omega)
    · obtain rfl : i = R := by omega
      have u1 : ¬ (i : Int) < (i : Int) := by omega
      obtain ⟨B0, b4, b5, hb⟩ := HB.out
      rw [show fil (mk i C M) (i * C) = mk i C M by have := fil_all (mk i C M); rwa [mk_len] at this] at hb
      have hM : Mt true wr i C (some ⟨w.heap.size + 1, 0, none⟩) (i * C) N K M := ⟨by
        have := hb.zl0 true (n := i * C) (c := N) (by rw [mk_len]; exact Nat.le_refl _) (by rw [HN.out]; exact Nat.le_refl _) (by omega)
        rwa [List.take_of_length_le (by rw [mk_len]; exact Nat.le_refl _)] at this, hR, hC⟩
      have P := Lib.hid (retM hM b4 (Nat.le_refl _) B0)
      have i0 := b5.cell 0
      have i1 := b5.cell 1
      have i2 := b5.cell 2
      obtain ⟨j0, j1, j2, j3, j4, j5, j6⟩ := b4.m3
      simp only [List.getElem?_cons_succ, List.getElem?_cons_zero] at i0 i1 i2
      clear b4 b5 hb hM B0 HB
      unfold mput at P
      go_wp2_with fail
      exact bodyPost_ret (v := .agg #[.int .i64 (i : Int), .int .i64 (C : Int), .slice (some ⟨w.heap.size + 1, 0, none⟩) (i * C) N]) (by simp [results, Try.results92, go_sem, j0, j1, j2]) rfl P.out
end Go.Proofs.Ytcdkdanfiimlkaa
