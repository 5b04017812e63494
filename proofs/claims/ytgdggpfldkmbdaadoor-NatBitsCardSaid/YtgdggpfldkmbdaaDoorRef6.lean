/-
  The reference of layer 1: Mul.
-/
import Derived.Test.YtgdggpfldkmbdaaDoorVal
import Derived.Deep.RegionLaw
import Derived.IntWalk
namespace Go.Proofs.YtgdggpfldkmbdaaDoor
open Go.RowKit

theorem OwnV.alloc {w0 w : World} {t : TypeId} {K : IntKind} {v : Value} {zs : List Nat} (h : OwnV w0 w t K v zs) (o : Obj) : OwnV w0 (w.alloc o) t K v zs := h.below ((Below.refl _ _).alloc (Nat.le_refl _) o)
theorem OwnV.drew {w0 w : World} {t : TypeId} {K : IntKind} {v : Value} {zs : List Nat} (h : OwnV w0 w t K v zs) : OwnV w0 w.drew t K v zs := h.drewN 1

/-- One append of one number, as one step of a region that draws its order. -/
theorem step_app1 {P : Program} (w0 : World) {wr : World} {ops : Array Oper} {o : Oper} {a : Act} {Kc : Act → World → Prop} {Q : Exit → Act → World → Prop} {E : Prop} (hgd : o.guard = none) (s x : Operand) (t : TypeId)
    (ho : o.op = .call { callee := .builtin .append, args := #[s, x], argTypes := #[t, t] })
    (e : TypeId) (K : IntKind) (ht : P.underlying t = some (.slice e)) (hinfo : (P.info? e).map (fun i => (i.zero, i.size, i.bytes)) = some (some (.int K 0), 1, 8))
    (v : Value) (zs : List Nat) (hs : a.eval s = v) (hown : OwnV w0 wr e K v zs) (y : Int) (d : Nat) (hy : y = (d : Int))
    (hx : a.eval x = .slice (some ⟨wr.heap.size, 0, none⟩) 1 1) (hlen : zs.length ≤ 4398046511104)
    (h : ∀ v' w', OwnV w0 w' e K v' (zs ++ [d]) → Kc (a.put o.dst v') w') :
    if Region.wanted o (yielded ops a.tmps) = true then Oper.wp P o a (wr.alloc (.cells #[.int K y] e)).drew Kc Q else E := by
  have hw : Region.wanted o (yielded ops a.tmps) = true := by simp [Region.wanted, hgd]
  rw [if_pos hw]
  subst hy
  obtain ⟨i, hi, hz0, hz1, hz2⟩ := info_parts hinfo
  obtain ⟨h1, h2⟩ := hown.drew
  have hb := h2.size
  refine wp_append_own (P := P) _ s x t ho w0.heap.size e i (.int K 0) 1 8 ht hi hz0 hz1 hz2 rfl (by omega) v zs.length (vs K zs) hs ((h1.alloc _)) ⟨wr.heap.size, 0, none⟩ 1 1 [.int K (d : Int)] hx rfl ?_ ?_ (by unfold maxLen; omega) (by omega) (by simp; simp at hb; omega) ?_
  · intro j u hu
    match j, hu with
    | 0, hu =>
      simp at hu
      subst hu
      simp [Addr.add]
  · intro u hu
    simp at hu
    subst hu
    rfl
  · intro v' w' o1 o2 _
    refine h v' w' ⟨?_, (h2.alloc hb _).grown o2 (by simp; simp at hb; omega) (fun k hk => (h1.lt k hk).1)⟩
    rw [vs_append, List.length_append]
    exact o1

/-- A line of a product: i noughts, and k products with the digit y. -/
def Lining (xs L : List Nat) (y i k : Nat) : Prop := L.length = i + k ∧ Low 1099511627776 L ∧ ev 65536 L = 65536 ^ i * (pre 65536 xs k * y)
theorem Lining.start (xs : List Nat) (y i : Nat) : Lining xs (List.replicate i 0) y i 0 := ⟨by simp, Low.replicate _ _ (by omega), by rw [ev_replicate, pre_zero]; simp⟩
theorem Lining.step {xs L : List Nat} {y i k : Nat} (hx : Low 65536 xs) (hy : y < 65536) (h : Lining xs L y i k) : Lining xs (L ++ [nth xs k * y]) y i (k + 1) := by
  obtain ⟨h1, h2, h3⟩ := h
  have hb := hx.any (by omega) k
  have h4 : nth xs k * y ≤ 65535 * 65535 := Nat.mul_le_mul (by omega) (by omega)
  refine ⟨by simp [h1]; omega, h2.snoc (by omega), ?_⟩
  rw [ev_snoc, h1, h3, pre_succ, Nat.pow_add]
  grind
theorem Lining.stop {xs L : List Nat} {y i k : Nat} (h : Lining xs L y i k) (hk : xs.length ≤ k) : ev 65536 L = 65536 ^ i * (ev 65536 xs * y) := by
  rw [h.2.2, pre_ge _ hk]
theorem zeros_snoc (j : Nat) : List.replicate j 0 ++ [0] = List.replicate (j + 1) (0 : Nat) := by
  rw [List.replicate_succ']

theorem prod_step {p x y : Nat} (xs ys : List Nat) (i : Nat) (hp : p = x * pre 65536 ys i) (hy : y = nth ys i) (hx : ev 65536 xs = x) : p + 65536 ^ i * (ev 65536 xs * y) = x * pre 65536 ys (i + 1) := by
  subst hp hy hx
  rw [pre_succ]
  grind

end Go.Proofs.YtgdggpfldkmbdaaDoor
