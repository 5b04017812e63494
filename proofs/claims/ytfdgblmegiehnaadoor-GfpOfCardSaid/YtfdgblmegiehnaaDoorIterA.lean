/-
  math/bits.Rem64; slices.Backward over a natural's words, as an iterator.
-/
import Derived.RangeFuncNested
import Derived.RangeFuncBound
import Derived.RangeFuncCalls
import Derived.RangeFuncLeaves
import Derived.RangeFuncBox
import Derived.Shelf.Abstract
import Derived.Shelf.RegionOpen
import Derived.OwnWalkIn
import Derived.TacticsInMore
import Derived.LoopNIn
import Derived.LoopIn
import Derived.Test.YtfdgblmegiehnaaDoorGfpA
import Derived.Test.YtfdgblmegiehnaaDoorDivA
/-! An iterator over words, from the end. -/
namespace Go.Proofs.YtfdgblmegiehnaaDoor
open Go.RowKit Go.Shelf
set_option linter.unusedVariables false
set_option linter.unusedSimpArgs false
attribute [local go_sem] Oper.semAt_some

/-- math/bits.Rem64. -/
theorem rem64_v {hi lo y r : Nat} (hlo : lo < 18446744073709551616) (h0 : 0 < y) (hy : y < 18446744073709551616) (hr : (hi * 18446744073709551616 + lo) % y = r) (w : World) :
    Calls Tryd.prog 31 #[.int .u64 (hi : Int), .int .u64 (lo : Int), .int .u64 (y : Int)] w (UPost r w) := by
  obtain ⟨H, hH⟩ : ∃ H, hi % y = H := ⟨_, rfl⟩
  have lH : H < y := hH ▸ Nat.mod_lt _ h0
  have e1 : (hi : Int) % (y : Int) = (H : Int) := by rw [← Int.natCast_emod, hH]
  have HR : Hid ((H * 18446744073709551616 + lo) % y = r) := Lib.hid (by rw [← hr, ← hH, Nat.add_mod, Nat.mul_mod, Nat.mod_mod, ← Nat.mul_mod, ← Nat.add_mod])
  have hy0 : ¬ (y = 0) := by omega
  clear hH hr
  go_enter Tryd.func31, Tryd.ntmps31
  go_wp2_with fail
  refine (div64_calls H lo y lH hlo hy _).mono ?_
  rintro e w1 ⟨rfl, B1⟩
  obtain ⟨q, hq⟩ : ∃ q, (H * 18446744073709551616 + lo) / y = q := ⟨_, rfl⟩
  rw [hq, HR.out]
  clear hq
  go_wp2_with fail
  go_ret
  exact ⟨rfl, B1.below _⟩

/-! ### slices.Backward -/
/-- What has come when k rounds are over. -/
def upto {α : Type} (f : Nat → α) (k : Nat) : List α := (List.range k).map f
theorem upto_succ {α : Type} (f : Nat → α) (k : Nat) : upto f (k + 1) = upto f k ++ [f k] := by simp [upto, List.range_succ]
theorem upto_length {α : Type} (f : Nat → α) (k : Nat) : (upto f k).length = k := by simp [upto]
/-- What a round must keep: what lay below n₀, and the block of the iterator's own box. -/
def KeepB (n₀ b : Nat) (W W' : World) : Prop := Below n₀ W W' ∧ W'.heap[b]? = W.heap[b]?
theorem keepB_t {n₀ b : Nat} {A B C : World} (h : KeepB n₀ b A B) (k : KeepB n₀ b B C) : KeepB n₀ b A C := ⟨h.1.trans k.1, k.2.trans h.2⟩
theorem keepB_b {n₀ b : Nat} {w : World} (hn : n₀ ≤ w.heap.size) (hb : b < w.heap.size) (W : World) (l : Nat) (o o' : Obj) (hl : w.heap.size ≤ l) (h : W.heap[l]? = some o) (h1 : o.isCells = false) (h2 : o.isWalk = false) : KeepB n₀ b W (W.putObj l o') :=
  ⟨belowK_b hn W l o o' hl h h1 h2, World.putObj_heap_other (fun e => by omega)⟩
/-- What a round is handed: an index and a word. -/
abbrev Wd := { x : Nat × Nat // x.2 < 18446744073709551616 }
/-- The k-th from the end: its index and its word. -/
def fromEnd (xs : List Nat) (h : Low 18446744073709551616 xs) (k : Nat) : Wd := ⟨(xs.length - 1 - k, nth xs (xs.length - 1 - k)), h.any (by omega) _⟩

set_option maxRecDepth 100000 in
set_option maxHeartbeats 2000000 in
/-- slices.Backward's closure, for every loop body that keeps what lay below n₀, and the iterator's box. -/
theorem back1_in (F : Fence) (n : Nat) (h7 : F.fn 43) (hro : F.round = none) (hn : 1 ≤ n) (l Bs n₀ : Nat) (A : Option Addr) (c : Nat) (xs : List Nat) (hlen : xs.length ≤ 9223372036854775807) (hL : Low 18446744073709551616 xs)
    (hA : ∀ ad, A = some ad → 0 < xs.length → ad.block < n₀) (J Jx : List Wd → World → Prop)
    (hY : ∀ pre x W, J pre W → pre.length < xs.length → YieldAt F (n - 1) Tryd.prog l #[.int .i64 (x.1.1 : Int), .int .u64 (x.1.2 : Int)] W fun e W' =>
      (e = .returned (.bool true) ∧ J (pre ++ [x]) W' ∧ KeepB n₀ Bs W W') ∨ (e = .returned (.bool false) ∧ Jx (pre ++ [x]) W'))
    (W : World) (hBs : W.cell? ⟨Bs, 0, none⟩ = some (.slice A xs.length c)) (hc : Rd W .u64 A xs) (h0 : J [] W) :
    CallsIn F n Tryd.prog 43 #[.func (.yield l) #[] #[], .pointer (some ⟨Bs, 0, none⟩)] W fun e W' => (∃ v, e = .returned v) ∧
      ((∃ ys, ys = upto (fromEnd xs hL) xs.length ∧ J ys W') ∨ (∃ pre, (∃ k, k ≤ xs.length ∧ pre = upto (fromEnd xs hL) k) ∧ Jx pre W')) := by
  obtain ⟨m, hm⟩ : ∃ m, xs.length = m := ⟨_, rfl⟩
  have hwr : IntKind.i64.wrap ((m : Int) - 1) = (m : Int) - 1 := by rw [IntKind.wrap_i64]; omega
  refine callsIn_of_wp Tryd.func43 rfl h7 ?_ hro
  simp only [Tryd.ntmps43, List.size_toArray, List.length_cons, List.length_nil, Nat.reduceAdd, Nat.reduceSub, Array.replicate_succ, Array.replicate_zero, List.push_toArray, List.append_toArray, List.nil_append, List.cons_append]
  rw [hm] at hBs
  gi_wp2
  gi_loopw [3] (fun i wr => ∃ k : Nat, k ≤ m ∧ i = .int .i64 ((k : Int) - 1) ∧ J (upto (fromEnd xs hL) (m - k)) wr ∧ KeepB n₀ Bs W wr)
    (fun i _ => (intOf i + 1).toNat)
  case atStart => exact ⟨m, Nat.le_refl _, rfl, by rw [Nat.sub_self]; exact h0, Below.refl _ _, rfl⟩
  case round =>
    obtain ⟨k, hk, rfl, hJs, hnx⟩ := hrel
    have hBr : wr.cell? ⟨Bs, 0, none⟩ = some (.slice A m c) := (World.cell?_of_block hnx.2).trans hBs
    rcases k with _ | k
    · gi_wp2
      go_end0
      exact ⟨⟨_, rfl⟩, .inl ⟨_, rfl, by rw [hm]; exact hJs⟩⟩
    · rw [show ((k + 1 : Nat) : Int) - 1 = (k : Int) by omega]
      obtain ⟨ad, rfl, hb0, hcs⟩ := hc (by omega)
      have hcx : wr.cell? (ad.add k) = some (.int .u64 (nth xs k)) := (hnx.1.cell (p := ad.add k) (by rw [add_block]; exact hA ad rfl (by omega))).trans (hcs k (by omega))
      have hfe : fromEnd xs hL (m - (k + 1)) = ⟨(k, nth xs k), hL.any (by omega) _⟩ := by unfold fromEnd; apply Subtype.ext; show (xs.length - 1 - (m - (k + 1)), nth xs (xs.length - 1 - (m - (k + 1)))) = (k, nth xs k); rw [hm, show m - 1 - (m - (k + 1)) = k by omega]
      obtain ⟨fn, tmps, assign, body, hy, hR⟩ := hY _ ⟨(k, nth xs k), hL.any (by omega) _⟩ wr hJs (by rw [upto_length]; omega)
      dsimp only at hy
      obtain ⟨z, hz⟩ : ∃ z, nth xs k = z := ⟨_, rfl⟩
      rw [hz] at hcx hy
      gi_wp2
      refine hR.mono ?_
      rintro e W3 (⟨rfl, hJ3, hk3⟩ | ⟨rfl, hJx3⟩)
      · gi_wp2
        go_roundw
        case rel => exact ⟨k, by omega, by simp, by rw [show m - k = (m - (k + 1)) + 1 by omega, upto_succ, hfe]; exact hJ3, keepB_t hnx hk3⟩
        case measure => simp [intOf]
      · gi_wp2
        refine bodyPost_ret (results_none rfl _ _ _) rfl ?_
        exact ⟨⟨_, rfl⟩, .inr ⟨_, ⟨m - (k + 1) + 1, by omega, by rw [upto_succ, hfe]⟩, hJx3⟩⟩
/-- slices.Backward(s): the slice is boxed; the function value captures the box. -/
theorem back_in (A : Option Addr) (len cap : Nat) (w : World) :
    Calls Tryd.prog 30 #[.slice A len cap] w fun e w' => e = .returned (.func (.func 43) #[] #[.pointer (some ⟨w.heap.size, 0, none⟩)]) ∧ w' = w.alloc (.cells #[.slice A len cap] 39) := by
  go_enter Tryd.func30, Tryd.ntmps30
  go_wp2_with fail
  go_ret
  exact ⟨rfl, rfl⟩
/-- slices.Backward(s) hands back what goes through all the words, from the end. -/
theorem back_stops (F : Fence) (n : Nat) (h7 : F.fn 43) (hro : F.round = none) (hn : 1 ≤ n) (Bs n₀ : Nat) (A : Option Addr) (c : Nat) (xs : List Nat) (hlen : xs.length ≤ 9223372036854775807) (hL : Low 18446744073709551616 xs) (hA : ∀ ad, A = some ad → 0 < xs.length → ad.block < n₀) (w : World) (hBs : Bs < w.heap.size) (hn₀ : n₀ ≤ w.heap.size)
    (hc : w.cell? ⟨Bs, 0, none⟩ = some (.slice A xs.length c)) (hI : Rd w .u64 A xs) :
    SeqStopsK F n Tryd.prog 43 #[.pointer (some ⟨Bs, 0, none⟩)] (fun x : Wd => #[Value.int .i64 (x.1.1 : Int), Value.int .u64 (x.1.2 : Int)]) (KeepB n₀ Bs) (fun ys => ys = upto (fromEnd xs hL) xs.length)
      (fun pre => ∃ k, k ≤ xs.length ∧ pre = upto (fromEnd xs hL) k) xs.length w := fun l J Jx W hW _ _ hY h0 =>
  back1_in F n h7 hro hn l Bs n₀ A c xs hlen hL hA J Jx hY W ((hW.cell (p := ⟨Bs, 0, none⟩) hBs).trans hc) (hI.below hW) h0
end Go.Proofs.YtfdgblmegiehnaaDoor
