/-
  The reference of layer 1: Half, Twice.
-/
import Derived.Test.YthpohkklggabpaaRef7
namespace Go.Proofs.Ythpohkklggabpaa
open Go.RowKit

theorem run_append_nil {P : Program} (w : World) {base : Nat} {t ty e : TypeId} {i : TypeInfo} {size : Nat} (ht : P.underlying t = some (.slice e)) (hi : P.info? e = some i)
    {v : Value} {n : Nat} {xs : List Value} (hown : w.ownsRow base e size v n xs) (c : Nat) : (Builtin.append_ #[t, t] ty #[v, .slice none 0 c]).run P w = .ok v w := by
  rcases hown.2 with ⟨rfl, rfl⟩ | ⟨g, cap, cur, rfl, _, _, hnc, _⟩
  · simp [Builtin.append_, run_underlying ht, sizeOf, typeInfo, hi, Builtin.lenOf, Builtin.firstCells]
  · simp [Builtin.append_, run_underlying ht, sizeOf, typeInfo, hi, Builtin.lenOf, Builtin.firstCells, hnc, storeCells]

/-- An append of a slice that reads as ds, nil or not, to a row of the call's own. -/
theorem wpList_appm {P : Program} (w0 wr : World) {ops : Array Oper} {rest : List Oper} {o : Oper} {a : Act} {Q : Exit → Act → World → Prop} (hgd : o.guard = none) (s x : Operand) (t : TypeId)
    (ho : o.op = .call { callee := .builtin .append, args := #[s, x], argTypes := #[t, t] })
    (e : TypeId) (K : IntKind) (ht : P.underlying t = some (.slice e)) (hinfo : (P.info? e).map (fun i => (i.zero, i.size, i.bytes)) = some (some (.int K 0), 1, 8))
    (v : Value) (zs : List Nat) (hs : a.eval s = v) (hown : OwnV w0 wr e K v zs) (A : Option Addr) (m c : Nat) (ds : List Nat) (hr : Rd wr K A ds) (hm : ds.length = m)
    (hx : a.eval x = .slice A m c) (hlen : zs.length + m ≤ 4398046511104)
    (h : ∀ v' w', OwnV w0 w' e K v' (zs ++ ds) → wpList P ops Q rest (a.put o.dst v') w') :
    wpList P ops Q (o :: rest) a wr := by
  subst hm
  obtain ⟨i, hi, hz0, hz1, hz2⟩ := info_parts hinfo
  obtain ⟨h1, h2⟩ := hown
  rcases A with _ | ad
  · have hd : ds = [] := by
      rcases Nat.eq_zero_or_pos ds.length with h0 | h0
      · exact List.length_eq_zero_iff.1 h0
      · obtain ⟨ad, h, _⟩ := hr h0
        cases h
    subst hd
    refine wpList_plain hgd fun _ hK => ?_
    have hrun := run_append_nil (P := P) (ty := o.type) wr ht hi h1 c
    unfold Oper.wp
    simp only [execOp, ho, resolve, invoke, builtin, Sem.run_bind, Sem.run_pure, Result.andThen_ok, List.map_toArray, List.map_cons, List.map_nil, hs, hx, List.length_nil, hrun]
    exact hK _ _ (h v wr ⟨by simpa using h1, h2⟩)
  · refine wpList_append_own (P := P) _ hgd s x t ho w0.heap.size e i (.int K 0) 1 8 ht hi hz0 hz1 hz2 rfl (by omega) v zs.length (vs K zs) hs h1 ad ds.length c (vs K ds) hx (by rw [vs_length, Nat.mul_one]) ?_ (vs_one _ _) (by unfold maxLen; omega) (by omega) h2.size ?_
    · intro j u hu
      rcases Nat.lt_or_ge j ds.length with hj | hj
      · rw [vs_get hj] at hu
        rw [hr.cell rfl hj, hu]
      · rw [List.getElem?_eq_none (by rw [vs_length]; exact hj)] at hu
        cases hu
    · intro v' w' o1 o2 _
      refine h v' w' ⟨?_, h2.grown o2 h2.size (fun k hk => (h1.lt k hk).1)⟩
      rw [vs_append, List.length_append]
      exact o1

/-- A row of digits of the number v, at most b of them. -/
def Row (w wr : World) (v : Value) (x b : Nat) : Prop := ∃ zs, OwnV w wr 3 .i64 v zs ∧ Low 65536 zs ∧ ev 65536 zs = x ∧ zs.length ≤ b

theorem pow16 (s k : Nat) : (2 : Nat) ^ (16 * s + k) = 65536 ^ s * 2 ^ k := by rw [Nat.pow_add, Nat.pow_mul]

end Go.Proofs.Ythpohkklggabpaa
