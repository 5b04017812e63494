/-
  The reference of layer 1: half, Twice, Half, Bits.
-/
import Derived.Test.YthigedcpiglmnaaDoorNatB
import Derived.Test.YthigedcpiglmnaaDoorRefA
/-! The reference of layer 1: half, Half, Twice. -/
namespace Go.Proofs.YthigedcpiglmnaaDoor
open Go.RowKit

/-- Digits that are being halved: k are done. -/
def Halving (xs zs : List Nat) (k : Nat) : Prop := zs.length = k ∧ Low 65536 zs ∧ ev 65536 zs * 2 + nth xs 0 % 2 = pre 65536 xs k + 65536 ^ k * (nth xs k % 2)
theorem Halving.start (xs : List Nat) : Halving xs [] 0 := ⟨rfl, Low.nil _, by simp [ev, pre_zero]⟩
theorem Halving.step {xs zs : List Nat} {k : Nat} (lx : Low 65536 xs) (h : Halving xs zs k) : Halving xs (zs ++ [nth xs k / 2 + nth xs (k + 1) % 2 * 32768]) (k + 1) := by
  obtain ⟨h1, h2, h3⟩ := h
  have := lx.any (by omega) k
  refine ⟨by simp [h1], h2.snoc (by omega), ?_⟩
  rw [ev_snoc, pre_succ, h1, Nat.pow_succ]
  have e := Nat.mod_add_div (nth xs k) 2
  generalize nth xs k / 2 = q at *
  generalize nth xs k % 2 = r at *
  generalize nth xs (k + 1) % 2 = r1 at *
  rw [← e]
  grind
theorem Halving.stop {xs zs : List Nat} {k : Nat} (h : Halving xs zs k) (hk : xs.length ≤ k) : ev 65536 zs = ev 65536 xs / 2 := by
  obtain ⟨h1, h2, h3⟩ := h
  rw [pre_ge _ hk, nth_ge hk] at h3
  omega

theorem OwnV.of_got {w wr w' : World} {t : TypeId} {K : IntKind} {A : Option Addr} {c : Nat} {zs : List Nat} (h : Got wr w' t K A c zs) (hb : Below w.heap.size w wr) : OwnV w w' t K (.slice A zs.length c) zs := by
  have := Got.of_own h.1 hb.size (hb.trans (h.2.mono hb.size))
  exact ⟨this.1, this.2⟩

theorem half_word {a b : Nat} (ha : a < 65536) (hb : b < 65536) :
    IntKind.i64.wrap (IntKind.i64.wrap ((a : Int) / 2) + IntKind.i64.wrap ((b : Int).tmod 2 * 32768)) = ((a / 2 + b % 2 * 32768 : Nat) : Int) := by
  have e : (b : Int).tmod 2 = (b : Int) % 2 := Int.tmod_eq_emod_of_nonneg (by omega)
  rw [e, IntWalk.i64_in ((a : Int) / 2) (by omega), IntWalk.i64_in ((b : Int) % 2 * 32768) (by omega), IntWalk.i64_in _ (by omega)]
  omega

/-- What half answers: as many digits, of the half. -/
def HalfPost (xs : List Nat) (w : World) (e : Ending) (w' : World) : Prop :=
  ∃ A c zs, e = .returned (.slice A (List.length zs) c) ∧ Got w w' 3 .i64 A c zs ∧ zs.length = xs.length ∧ Low 65536 zs ∧ ev 65536 zs = ev 65536 xs / 2

end Go.Proofs.YthigedcpiglmnaaDoor

/-! The reference of layer 1: Half, Twice. -/
namespace Go.Proofs.YthigedcpiglmnaaDoor
open Go.RowKit

theorem run_append_nil {P : Program} (w : World) {base : Nat} {t ty e : TypeId} {i : TypeInfo} {size : Nat} (ht : P.underlying t = some (.slice e)) (hi : P.info? e = some i)
    {v : Value} {n : Nat} {xs : List Value} (hown : w.ownsRow base e size v n xs) (c : Nat) : (Builtin.append_ #[t, t] ty #[v, .slice none 0 c]).run P w = .ok v w := by
  rcases hown.2 with ⟨rfl, rfl⟩ | ⟨g, cap, cur, rfl, _, _, hnc, _⟩
  · simp [Builtin.append_, run_underlying ht, sizeOf, typeInfo, hi, Builtin.lenOf, Builtin.firstCells]
  · simp [Builtin.append_, run_underlying ht, sizeOf, typeInfo, hi, Builtin.lenOf, Builtin.firstCells, hnc, storeCells]

/-- An append of a slice that reads as ds, nil or not, to a row of the call's own. -/
theorem wpList_appm {P : Program} (w0 wr : World) {ops : Array Oper} {rest : List Oper} {o : Oper} {a : Act} {Q : Exit → Act → World → Prop} (hgd : o.guard = none) (s x : Operand) (t : TypeId)
    (ho : o.op = .call { callee := .builtin .append, args := #[s, x], argTypes := #[t, t] })
    (e : TypeId) (K : IntKind) (ht : P.underlying t = some (.slice e)) (hinfo : (P.info? e).map (fun i => (i.zero, i.size, i.bytes)) = some (some (.int K 0), 1, 8))
    (v : Value) (zs : List Nat) (hs : a.eval s = v) (hown : OwnV w0 wr e K v zs) (A : Option Addr) (m c : Nat) (ds : List Nat) (hr : Rd wr K A ds) (hm : ds.length = m)
    (hx : a.eval x = .slice A m c) (hlen : zs.length + m ≤ 4398046511104)
    (h : ∀ v' w', OwnV w0 w' e K v' (zs ++ ds) → wpList P ops Q rest (a.put o.dst v') w') :
    wpList P ops Q (o :: rest) a wr := by
  subst hm
  obtain ⟨i, hi, hz0, hz1, hz2⟩ := info_parts hinfo
  obtain ⟨h1, h2⟩ := hown
  rcases A with _ | ad
  · have hd : ds = [] := by
      rcases Nat.eq_zero_or_pos ds.length with h0 | h0
      · exact List.length_eq_zero_iff.1 h0
      · obtain ⟨ad, h, _⟩ := hr h0
        cases h
    subst hd
    refine wpList_plain hgd fun _ hK => ?_
    have hrun := run_append_nil (P := P) (ty := o.type) wr ht hi h1 c
    unfold Oper.wp
    simp only [execOp, ho, resolve, invoke, builtin, Sem.run_bind, Sem.run_pure, Result.andThen_ok, List.map_toArray, List.map_cons, List.map_nil, hs, hx, List.length_nil, hrun]
    exact hK _ _ (h v wr ⟨by simpa using h1, h2⟩)
  · refine wpList_append_own (P := P) _ hgd s x t ho w0.heap.size e i (.int K 0) 1 8 ht hi hz0 hz1 hz2 rfl (by omega) v zs.length (vs K zs) hs h1 ad ds.length c (vs K ds) hx (by rw [vs_length, Nat.mul_one]) ?_ (vs_one _ _) (by unfold maxLen; omega) (by omega) h2.size ?_
    · intro j u hu
      rcases Nat.lt_or_ge j ds.length with hj | hj
      · rw [vs_get hj] at hu
        rw [hr.cell rfl hj, hu]
      · rw [List.getElem?_eq_none (by rw [vs_length]; exact hj)] at hu
        cases hu
    · intro v' w' o1 o2 _
      refine h v' w' ⟨?_, h2.grown o2 h2.size (fun k hk => (h1.lt k hk).1)⟩
      rw [vs_append, List.length_append]
      exact o1

/-- A row of digits of the number v, at most b of them. -/
def Row (w wr : World) (v : Value) (x b : Nat) : Prop := ∃ zs, OwnV w wr 3 .i64 v zs ∧ Low 65536 zs ∧ ev 65536 zs = x ∧ zs.length ≤ b

theorem pow16 (s k : Nat) : (2 : Nat) ^ (16 * s + k) = 65536 ^ s * 2 ^ k := by rw [Nat.pow_add, Nat.pow_mul]

end Go.Proofs.YthigedcpiglmnaaDoor

/-! The reference of layer 1: Half. -/
namespace Go.Proofs.YthigedcpiglmnaaDoor
open Go.RowKit

theorem half_drop {xs : List Nat} (lx : Low 65536 xs) {s : Nat} (hs : s ≤ xs.length) (t : Nat) : ev 65536 (xs.drop s) / 2 ^ t = ev 65536 xs / 2 ^ (16 * s + t) := by
  rw [pow16, ← Nat.div_div_eq_div_mul]
  congr 1
  rw [ev_split 65536 xs s hs, Nat.add_mul_div_left _ _ (Nat.pow_pos (by omega)), Nat.div_eq_of_lt (pre_lt lx (by omega) s), Nat.zero_add]

end Go.Proofs.YthigedcpiglmnaaDoor

/-! For quincunxlaw01.NatBits: the reference's Bits; contracts by value. -/
namespace Go.Proofs.YthigedcpiglmnaaDoor
open Go.RowKit

theorem bup' {a b c : World} (h : Below a.heap.size a b) (k : Below b.heap.size b c) : Below a.heap.size a c := h.trans (k.mono h.size)
theorem sl_canon (b v : Nat) (hb : 2 ≤ b) : sl (cn b v) = (cn b v).length := sl_cn b v hb

end Go.Proofs.YthigedcpiglmnaaDoor
