/-
  Contract: nat.Norm; the contracts of nat.Sub and nat.Norm by value.
-/
import Derived.Test.YthpohkklggabpaaNat7
import Derived.Laws.CopyOwn
namespace Go.Proofs.Ythpohkklggabpaa
open Go.RowKit

theorem splice_all {cur cs : List Value} (h : cs.length = cur.length) : splice cur 0 cs = cs := by
  simp [splice, h]

set_option maxHeartbeats 400000 in
theorem norm_calls (A : Option Addr) (n c : Nat) (xs : List Nat) (w : World) (hx : Rd w .u64 A xs) (hxn : xs.length = n)
    (hc : n ≤ c) (hc' : c ≤ 9223372036854775807) (lx : Low 18446744073709551616 xs) (bx : n ≤ 1099511627776) :
    Calls Try.prog 50 #[.slice A n c] w (NatPost (ev 18446744073709551616 xs) w) := by
  have sx : sl xs ≤ n := hxn ▸ sl_le xs
  have HX := Lib.hid hxn
  have ht := cn_ev 18446744073709551616 (by omega) xs lx
  have hl : (xs.take (sl xs)).length = sl xs := by simp [Nat.min_eq_left (sl_le xs)]
  have HT := Lib.hid ht
  have HL := Lib.hid hl
  clear hxn ht hl
  go_enter Try.func50, Try.ntmps50
  go_wp2_with fail
  refine (trim_calls _ _ _ xs _ hx HX.out (by omega) (by omega)).mono ?_
  rintro e w' ⟨rfl, rfl⟩
  go_wp2_with (at_make; refine wpList_make_blk _ rfl _ _ 23 rfl 45 .u64 8 Try.underlying23 info_u64 _ _ _ _ (sl xs) rfl rfl (by omega) (by omega) (by omega) (by omega) ?_)
  intro w1 hb1 hw1 hz1
  have HZ := Lib.hid hz1
  clear hz1
  go_wp2_with (refine wpList_copy_splice rfl (.tmp 9) (.tmp 10) _ _ rfl 45 Try.underlying23 (by kernel_rfl) (some ⟨w.heap.size, 0, none⟩) A (sl xs) (sl xs) (sl xs) c rfl rfl w.heap.size 0 (vs .u64 (List.replicate (sl xs) 0)) 45 hb1 (vs .u64 (xs.take (sl xs))) ?_ ?_ ?_ (vs_one _ _) w.heap.size w hw1 (Nat.le_refl _) ?_)
  · rw [vs_length, HL.out]; simp
  · intro hp
    rw [vs_length] at hp
    obtain ⟨ad, h1, _, h3⟩ := ((hx.take (sl xs)).below hw1) hp
    exact ⟨ad, h1, fun j v hv => by
      rcases Nat.lt_or_ge j (xs.take (sl xs)).length with hj | hj
      · rw [vs_get hj] at hv
        rw [h3 j hj, hv]
      · rw [List.getElem?_eq_none (by rw [vs_length]; exact hj)] at hv
        cases hv⟩
  · rw [vs_length, vs_length, HL.out]; simp
  · intro w2 hb2 hw2
    go_wp2
    go_ret
    have hb3 : Blk w2 w.heap.size 45 .u64 (xs.take (sl xs)) := by
      have := hb2.out
      rw [splice_all (by rw [vs_length, vs_length, HL.out]; simp)] at this
      exact this
    have ho := hb3.owns (n := sl xs) (Nat.le_refl _) (by rw [HL.out]; exact Nat.le_refl _) (by rw [HL.out]; unfold maxLen; omega)
    rw [HL.out, List.take_take, Nat.min_self] at ho
    refine ⟨some ⟨w.heap.size, 0, none⟩, sl xs, by rw [HT.out, HL.out]; rfl, ?_, hw2⟩
    rw [HT.out, HL.out]
    exact ho

theorem norm_v {A : Option Addr} {n c x : Nat} {w : World} (hx : Nv w A n c x) (hn : n ≤ 1099511627776) :
    Calls Try.prog 50 #[.slice A n c] w (NvPost x n w) := by
  have l1 := hx.lt
  obtain ⟨xs, h1, h2, h3, h4, h5, rfl⟩ := hx
  exact (norm_calls A n c xs w h1 h2 h3 h4 h5 hn).mono fun _ _ h => h.nv l1

/-- A difference is answered, and true. -/
def SubYes (x y : Nat) (k : Nat) (w : World) (e : Ending) (w' : World) : Prop :=
  ∃ A n c, e = .returned (.tuple #[.slice A n c, .bool true]) ∧ Nv w' A n c (x - y) ∧ n ≤ k ∧ Below w.heap.size w w'
end Go.Proofs.Ythpohkklggabpaa
