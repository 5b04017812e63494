/-
  Contract: nat.Add.
-/
import Derived.Test.YthpohkklggabpaaNat2
import Derived.Deep.DeepCutAuto
import Derived.Laws.Externs
namespace Go.Proofs.Ythpohkklggabpaa
open Go.RowKit

theorem info_u64 : (Try.prog.info? 45).map (fun i => (i.zero, i.size, i.bytes)) = some (some (.int .u64 0), 1, 8) := by kernel_rfl

theorem add64_run (x y c : Nat) (hc : c ≤ 1) (w : World) :
    (callFunc 43 #[.int .u64 x, .int .u64 y, .int .u64 c]).run Try.prog w =
      .ok (.value (.tuple #[.int .u64 (((x + y + c) % 18446744073709551616 : Nat) : Int), .int .u64 (((x + y + c) / 18446744073709551616 : Nat) : Int)])) w := by
  rw [run_callFunc_extern Try.func43 (by kernel_rfl) (by kernel_rfl) (by kernel_rfl) (e := add64Entry) (by kernel_rfl), run_add64 x y c (by omega) (by omega) (by omega) (by omega)]
  simp only [Result.andThen]
  congr 5 <;> omega

theorem add64_run0 (x c : Nat) (hc : c ≤ 1) (w : World) :
    (callFunc 43 #[.int .u64 x, .int .u64 0, .int .u64 c]).run Try.prog w =
      .ok (.value (.tuple #[.int .u64 (((x + c) % 18446744073709551616 : Nat) : Int), .int .u64 (((x + c) / 18446744073709551616 : Nat) : Int)])) w :=
  add64_run x 0 c hc w

/-- What nat.Add answers. -/
def NatPost (v : Nat) (w : World) (e : Ending) (w' : World) : Prop :=
  ∃ A c, e = .returned (.slice A (cn 18446744073709551616 v).length c) ∧ Got w w' 45 .u64 A c (cn 18446744073709551616 v)

theorem nat_end {w w' : World} {g v n : Nat} {zs : List Nat} (hb : Blk w' g 45 .u64 zs) (hg : w.heap.size ≤ g) (hw : Below w.heap.size w w') (hn : zs.length = n) (hm : n ≤ 9223372036854775807) (hl : Low 18446744073709551616 zs) (hv : ev 18446744073709551616 zs = v) :
    NatPost v w (.returned (.slice (some ⟨g, 0, none⟩) (sl zs) n)) w' := by
  subst hn hv
  exact ⟨_, _, by rw [sl_len _ (by omega) hl], got_trim (by omega) hb hg hw hm hl⟩

/-- Behind the exchange: the longer one, and the shorter one. -/
def AddCut (w : World) (F : Nat → Nat → Prop) (va vb : Value) (wx : World) : Prop :=
  ∃ (A B : Option Addr) (c d : Nat) (xs ys : List Nat), va = .slice A xs.length c ∧ vb = .slice B ys.length d ∧ Rd w .u64 A xs ∧ Rd w .u64 B ys ∧ ys.length ≤ xs.length ∧ xs.length ≤ 1099511627776 ∧
    Low 18446744073709551616 xs ∧ Low 18446744073709551616 ys ∧ F (ev 18446744073709551616 xs) (ev 18446744073709551616 ys) ∧ wx = w

theorem AddCut.mk {w : World} {A B : Option Addr} {c d : Nat} {xs ys : List Nat} (hx : Rd w .u64 A xs) (hy : Rd w .u64 B ys) (h : sl ys ≤ sl xs) (hm : sl xs ≤ 1099511627776)
    (lx : Low 18446744073709551616 xs) (ly : Low 18446744073709551616 ys) {F : Nat → Nat → Prop} (hS : F (ev 18446744073709551616 xs) (ev 18446744073709551616 ys)) :
    AddCut w F (.slice A (sl xs) c) (.slice B (sl ys) d) w := by
  have ex : (xs.take (sl xs)).length = sl xs := by simp [Nat.min_eq_left (sl_le xs)]
  have ey : (ys.take (sl ys)).length = sl ys := by simp [Nat.min_eq_left (sl_le ys)]
  exact ⟨A, B, c, d, xs.take (sl xs), ys.take (sl ys), by rw [ex], by rw [ey], hx.take _, hy.take _, by rw [ex, ey]; exact h, by rw [ex]; exact hm, lx.take _, ly.take _, by rw [ev_take_sl, ev_take_sl]; exact hS, rfl⟩

/-- The loops of nat.Add: k words are done. -/
def AddRel (w : World) (xs ys : List Nat) (n k : Nat) (s : Value) (wr : World) : Prop :=
  ∃ (c r : Nat) (zs : List Nat), Adding 18446744073709551616 xs ys zs k c ∧ s = .int .u64 c ∧ k + r = n ∧ Blk wr w.heap.size 45 .u64 (zs ++ List.replicate (r + 1) 0) ∧ Below w.heap.size w wr

theorem AddRel.next {w wr : World} {xs ys zs : List Nat} {n k c r : Nat} {s : Value} (lx : Low 18446744073709551616 xs) (ly : Low 18446744073709551616 ys) (ha : Adding 18446744073709551616 xs ys zs k c)
    (hn : k + (r + 1) = n) (hb : Blk wr w.heap.size 45 .u64 (zs ++ List.replicate (r + 1 + 1) 0)) (hw : Below w.heap.size w wr)
    (hs : s = .int .u64 (((nth xs k + nth ys k + c) / 18446744073709551616 : Nat) : Int)) :
    AddRel w xs ys n (k + 1) s (wr.setCell ⟨w.heap.size, k, none⟩ (.int .u64 (((nth xs k + nth ys k + c) % 18446744073709551616 : Nat) : Int))) := by
  have h := hb.set zs.length ((nth xs k + nth ys k + c) % 18446744073709551616)
  rw [set_end, ha.1] at h
  exact ⟨_, r, _, ha.step (by omega) lx ly, hs, by omega, h, hw.setCell (Nat.le_refl _) _⟩

end Go.Proofs.Ythpohkklggabpaa
