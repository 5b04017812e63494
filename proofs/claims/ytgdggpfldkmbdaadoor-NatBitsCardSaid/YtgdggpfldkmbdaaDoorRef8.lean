/-
  The reference of layer 1: Half, Twice.
-/
import Derived.Test.YtgdggpfldkmbdaaDoorRef7
namespace Go.Proofs.YtgdggpfldkmbdaaDoor
open Go.RowKit

theorem run_append_nil {P : Program} (w : World) {base : Nat} {t ty e : TypeId} {i : TypeInfo} {size : Nat} (ht : P.underlying t = some (.slice e)) (hi : P.info? e = some i)
    {v : Value} {n : Nat} {xs : List Value} (hown : w.ownsRow base e size v n xs) (c : Nat) : (Builtin.append_ #[t, t] ty #[v, .slice none 0 c]).run P w = .ok v w := by
  rcases hown.2 with ⟨rfl, rfl⟩ | ⟨g, cap, cur, rfl, _, _, hnc, _⟩
  · simp [Builtin.append_, run_underlying ht, sizeOf, typeInfo, hi, Builtin.lenOf, Builtin.firstCells]
  · simp [Builtin.append_, run_underlying ht, sizeOf, typeInfo, hi, Builtin.lenOf, Builtin.firstCells, hnc, storeCells]

/-- An append of a slice that reads as ds, nil or not, to a row of the call's own. -/
theorem wpList_appm {P : Program} (w0 wr : World) {ops : Array Oper} {rest : List Oper} {o : Oper} {a : Act} {Q : Exit → Act → World → Prop} (hgd : o.guard = none) (s x : Operand) (t : TypeId)
    (ho : o.op = .call { callee := .builtin .append, args := #[s, x], argTypes := #[t, t] })
    (e : TypeId) (K : IntKind) (ht : P.underlying t = some (.slice e)) (hinfo : (P.info? e).map (fun i => (i.zero, i.size, i.bytes)) = some (some (.int K 0), 1, 8))
    (v : Value) (zs : List Nat) (hs : a.eval s = v) (hown : OwnV w0 wr e K v zs) (A : Option Addr) (m c : Nat) (ds : List Nat) (hr : Rd wr K A ds) (hm : ds.length = m)
    (hx : a.eval x = .slice A m c) (hlen : zs.length + m ≤ 4398046511104)
    (h : ∀ v' w', OwnV w0 w' e K v' (zs ++ ds) → wpList P ops Q rest (a.put o.dst v') w') :
    wpList P ops Q (o :: rest) a wr := by
  subst hm
  obtain ⟨i, hi, hz0, hz1, hz2⟩ := info_parts hinfo
  obtain ⟨h1, h2⟩ := hown
  rcases A with _ | ad
  · have hd : ds = [] := by
      rcases Nat.eq_zero_or_pos ds.length with h0 | h0
      · exact List.length_eq_zero_iff.1 h0
      · obtain ⟨ad, h, _⟩ := hr h0
        cases h
    subst hd
    refine wpList_plain hgd fun _ hK => ?_
    have hrun := run_append_nil (P := P) (ty := o.type) wr ht hi h1 c
    unfold Oper.wp
    simp only [execOp, ho, resolve, invoke, builtin, Sem.run_bind, Sem.run_pure, Result.andThen_ok, List.map_toArray, List.map_cons, List.map_nil, hs, hx, List.length_nil, hrun]
    exact hK _ _ (h v wr ⟨by simpa using h1, h2⟩)
  · refine wpList_append_own (P := P) _ hgd s x t ho w0.heap.size e i (.int K 0) 1 8 ht hi hz0 hz1 hz2 rfl (by omega) v zs.length (vs K zs) hs h1 ad ds.length c (vs K ds) hx (by rw [vs_length, Nat.mul_one]) ?_ (vs_one _ _) (by unfold maxLen; omega) (by omega) h2.size ?_
    · intro j u hu
      rcases Nat.lt_or_ge j ds.length with hj | hj
      · rw [vs_get hj] at hu
        rw [hr.cell rfl hj, hu]
      · rw [List.getElem?_eq_none (by rw [vs_length]; exact hj)] at hu
        cases hu
    · intro v' w' o1 o2 _
      refine h v' w' ⟨?_, h2.grown o2 h2.size (fun k hk => (h1.lt k hk).1)⟩
      rw [vs_append, List.length_append]
      exact o1

/-- A row of digits of the number v, at most b of them. -/
def Row (w wr : World) (v : Value) (x b : Nat) : Prop := ∃ zs, OwnV w wr 3 .i64 v zs ∧ Low 65536 zs ∧ ev 65536 zs = x ∧ zs.length ≤ b

theorem pow16 (s k : Nat) : (2 : Nat) ^ (16 * s + k) = 65536 ^ s * 2 ^ k := by rw [Nat.pow_add, Nat.pow_mul]

set_option maxHeartbeats 1000000 in
theorem twice_calls (A : Option Addr) (n c k s u : Nat) (xs : List Nat) (w : World) (hr : Rd w .i64 A xs) (hn : xs.length = n) (bn : n ≤ 1099511627776) (lx : Low 65536 xs) (hk : k ≤ 1048576) (hs : (k : Int) / 16 = (s : Int)) (hu : (k : Int) % 16 = (u : Int)) :
    Calls Tryd.prog 15 #[.slice A n c, .int .i64 k] w (DgPost (ev 65536 xs * 2 ^ k) w) := by
  have HN := Lib.hid hn
  have hk2 : k = 16 * s + u := by omega
  have hs2 : s ≤ 65536 := by omega
  have hu2 : u < 16 := by omega
  have HK2 := Lib.hid hk2
  clear hn hk2
  go_enter Tryd.func15, Tryd.ntmps15
  go_wp2
  go_loopw [5, 6] (fun v i wr => ∃ j : Nat, j ≤ s ∧ i = .int .i64 j ∧ OwnV w wr 3 .i64 v (List.replicate j 0)) (fun _ i _ => s - (intOf i).toNat)
  case atStart => exact ⟨0, Nat.zero_le _, rfl, OwnV.nil _ _ _⟩
  case round =>
    obtain ⟨j, hj, rfl, ho⟩ := hrel
    by_cases hlt : j < s
    · go_wp2_with (at_builtin; refine wpList_app1 w wr rfl _ _ _ rfl 3 .i64 Tryd.underlying25 info_i64 _ (List.replicate j 0) (by rfl) ho _ 0 rfl (by rfl) (by simp; omega) ?_)
      intro v1 w1 ho1
      clear ho
      go_wp2
      go_roundw
      case rel => exact ⟨j + 1, by omega, by go_num, by rw [zeros_snoc] at ho1; exact ho1⟩
      case measure => simp [intOf]; omega
    · obtain rfl : j = s := by omega
      have hr1 := hr.below ho.2
      clear hlt
      go_wp2_with (at_builtin; refine wpList_appm w wr rfl _ _ _ rfl 3 .i64 Tryd.underlying25 info_i64 _ (List.replicate j 0) (by rfl) ho _ n c xs hr1 HN.out (by rfl) (by simp; omega) ?_)
      intro v1 w1 ho1
      have hrow : Row w w1 v1 (ev 65536 xs * 2 ^ (16 * j + 0)) (j + n + 0) := by
        refine ⟨_, ho1, (Low.replicate _ _ (by omega)).append lx, ?_, by rw [List.length_append, HN.out]; simp⟩
        rw [ev_append, ev_replicate, pow16]
        simp [Nat.mul_comm]
      have HR := Lib.hid hrow
      clear ho ho1 hrow
      go_wp2
      go_loopw [5, 7] (fun v i wr => ∃ t : Nat, t ≤ u ∧ i = .int .i64 t ∧ Row w wr v (ev 65536 xs * 2 ^ (16 * j + t)) (j + n + t)) (fun _ i _ => u - (intOf i).toNat)
      case atStart => exact ⟨0, Nat.zero_le _, rfl, HR.out⟩
      case round =>
        obtain ⟨t, ht, rfl, zs, ho, lz, hz, hzl⟩ := hrel
        by_cases hlt2 : t < u
        · obtain ⟨A2, c2, rfl, hg⟩ := ho.form
          have HZ := Lib.hid hz
          have lz2 := lz.wide (c := 549755813888) (by omega)
          clear hz
          go_wp2_with fail
          refine (radd_calls _ _ _ _ _ _ zs zs _ hg.rd hg.rd rfl rfl (by omega) (by omega) lz2 lz2).mono ?_
          rintro e w2 ⟨A3, c3, rfl, hg3⟩
          have e2 : ev 65536 zs + ev 65536 zs = ev 65536 xs * 2 ^ (16 * j + (t + 1)) := by rw [HZ.out, ← Nat.add_assoc, Nat.pow_succ]; grind
          have l2 : ev 65536 zs + ev 65536 zs < 65536 ^ (zs.length + 1) := by have := ev_lt lz; rw [Nat.pow_succ]; omega
          have l3 := cn_len_of_lt 65536 _ _ (by omega) l2
          have hrow : Row w w2 (.slice A3 (cn 65536 (ev 65536 zs + ev 65536 zs)).length c3) (ev 65536 xs * 2 ^ (16 * j + (t + 1))) (j + n + (t + 1)) :=
            ⟨_, OwnV.of_got hg3 hg.2, cn_low _ _ (by omega), by rw [ev_cn _ _ (by omega), e2], by omega⟩
          have HR2 := Lib.hid hrow
          clear e2 l2 l3 hrow
          go_wp2
          go_roundw
          case rel => exact ⟨t + 1, by omega, by go_num, HR2.out⟩
          case measure => simp [intOf]; omega
        · obtain rfl : t = u := by omega
          have hx2 : ev 65536 zs = ev 65536 xs * 2 ^ k := by rw [hz, HK2.out]
          have HX2 := Lib.hid hx2
          clear hx2 hz hlt2
          go_wp2_with fail
          refine (rtrim_end ho lz HX2.out).mono ?_
          rintro e w' ⟨⟨A1, c1, rfl, hg⟩, rfl⟩
          go_wp2
          go_ret
          exact ⟨A1, c1, rfl, hg⟩
end Go.Proofs.YtgdggpfldkmbdaaDoor
