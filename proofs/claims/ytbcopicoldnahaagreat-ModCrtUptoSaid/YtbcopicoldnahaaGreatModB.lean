/-
  Package modn: power.
-/
import Derived.Test.YtbcopicoldnahaaGreatModA
import Derived.Deep.RegionWith
/-! Contract: modn.power. -/
namespace Go.Proofs.YtbcopicoldnahaaGreat
open Go.RowKit
set_option linter.unusedVariables false
set_option linter.unusedSimpArgs false

/-- nat.Bits, by value. -/
theorem nbl_v {A : Option Addr} {n c v b : Nat} {w : World} (hx : Nv w A n c v) (hn : n ≤ 1099511627776) (hb : bl v = b) :
    Calls Tryz.prog 17 #[.slice A n c] w fun e w' => e = .returned (.int .i64 (b : Int)) ∧ w = w' := zbits_n hx hn hb
/-- A whole number in a variable, and true. -/
def VarTrue (w0 : World) (z : Int) (k : Nat) (v b : Value) (wx : World) : Prop := VarCut w0 z k v wx ∧ b = .bool true
/-- The power that is reckoned up to the bit k of the exponent. -/
def PwIs (w : World) (g : Nat) (s : Bool) (A : Option Addr) (n c : Nat) (z : Int) (E : Option Addr) (l f v : Nat) (t : Bool) (B : Option Addr) (m d : Nat) (y : Int) (r : Int) (wr : World) : Prop :=
  ∃ s6 A6 n6 c6, Ib wr g s6 A6 n6 c6 ∧ Zc wr s6 A6 n6 c6 r ∧ n6 ≤ m ∧ Zv wr s A n c z ∧ Nv wr E l f v ∧ Zv wr t B m d y ∧
    Ib wr w.heap.size s A n c ∧ Ib wr (w.heap.size + 1) t B m d ∧ Ib wr (w.heap.size + 1 + 1) false none 0 0 ∧ w.heap.size + 1 + 1 < g ∧ Below w.heap.size w wr
def PwAt (w : World) (g : Nat) (s : Bool) (A : Option Addr) (n c : Nat) (z : Int) (E : Option Addr) (l f v : Nat) (t : Bool) (B : Option Addr) (m d : Nat) (y : Int) (k : Nat) (wr : World) : Prop := PwIs w g s A n c z E l f v t B m d y (z ^ (v / 2 ^ k) % y) wr
theorem Zv.putv {w : World} {A A' B : Option Addr} {n c g n' c' m d : Nat} {s s' t : Bool} {z : Int} (h : Zv w s A n c z) (hi : Ib w g t B m d) : Zv ((w.setCell ⟨g, 0, none⟩ (.bool s')).setCell ⟨g, 1, none⟩ (.slice A' n' c')) s A n c z := h.put hi
theorem Nv.put {w : World} {A A' B : Option Addr} {n c g n' c' m d x : Nat} {s' t : Bool} (h : Nv w A n c x) (hi : Ib w g t B m d) : Nv (zput w g s' A' n' c') A n c x := by
  obtain ⟨i1, i2, i3, i4, i5⟩ := hi
  refine (h.other i1 (fun m e => by cases e)).other (u := .slice B m d) ?_ (fun m e => by cases e)
  rw [World.cell?_setCell_other (h := by simp)]
  exact i2
/-- The rest is written anew. -/
theorem PwIs.put {w : World} {g : Nat} {s s1 : Bool} {A A1 : Option Addr} {n c n1 c1 : Nat} {z : Int} {E : Option Addr} {l f v : Nat} {t : Bool} {B : Option Addr} {m d : Nat} {y r r' : Int} {wr w1 : World} (h : PwIs w g s A n c z E l f v t B m d y r wr) (hb : Below wr.heap.size wr w1) (p : Zc w1 s1 A1 n1 c1 r') (hn : n1 ≤ m) :
    PwIs w g s A n c z E l f v t B m d y r' ((w1.setCell ⟨g, 0, none⟩ (.bool s1)).setCell ⟨g, 1, none⟩ (.slice A1 n1 c1)) := by
  obtain ⟨s6, A6, n6, c6, I6, p6, k6, hx, he, hy, IA, IB, IR, hg, hW⟩ := h
  have J := I6.below hb
  refine ⟨s1, A1, n1, c1, J.own, p.put J, hn, (hx.below hb).put J, (he.below hb).put J, (hy.below hb).put J, ?_, ?_, ?_, hg, below_put (hW.trans (hb.mono hW.size)) (by omega)⟩
  · exact (IA.below hb).put (l := 0) (e := 0) (u := true) (C := none) (by omega)
  · exact (IB.below hb).put (l := 0) (e := 0) (u := true) (C := none) (by omega)
  · exact (IR.below hb).put (l := 0) (e := 0) (u := true) (C := none) (by omega)
theorem sq_rest (a y : Int) : a % y * (a % y) % y = a * a % y := (Int.mul_emod a a y).symm
theorem mul_rest (a b y : Int) : a % y * b % y = a * b % y := by rw [Int.mul_emod, Int.emod_emod, ← Int.mul_emod]
/-- One bit more: its square, and, where the bit is 1, once more the number. -/
theorem pwr_even {z y : Int} {v k : Nat} (h : v / 2 ^ k % 2 = 0) : z ^ (v / 2 ^ (k + 1)) % y * (z ^ (v / 2 ^ (k + 1)) % y) % y = z ^ (v / 2 ^ k) % y := by
  have e : v / 2 ^ k = v / 2 ^ (k + 1) + v / 2 ^ (k + 1) := by
    rw [Nat.pow_succ, ← Nat.div_div_eq_div_mul]; omega
  rw [sq_rest, e, Int.pow_add]
theorem pwr_odd {z y : Int} {v k : Nat} (h : v / 2 ^ k % 2 = 1) : z ^ (v / 2 ^ (k + 1)) % y * (z ^ (v / 2 ^ (k + 1)) % y) % y * z % y = z ^ (v / 2 ^ k) % y := by
  have e : v / 2 ^ k = v / 2 ^ (k + 1) + v / 2 ^ (k + 1) + 1 := by
    rw [Nat.pow_succ, ← Nat.div_div_eq_div_mul]; omega
  rw [sq_rest, mul_rest, e, Int.pow_add, Int.pow_add, Int.pow_one]
theorem bl_half (v : Nat) : v / 2 ^ (bl v) = 0 := Nat.div_eq_of_lt (bl_le.1 (Nat.le_refl _))

end Go.Proofs.YtbcopicoldnahaaGreat
