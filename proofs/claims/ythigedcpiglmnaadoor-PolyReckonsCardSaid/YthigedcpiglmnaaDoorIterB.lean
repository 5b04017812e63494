/-
  slices.Backward over a polynomial's words, as an iterator.
-/
import Derived.Test.YthigedcpiglmnaaDoorIter0
/-! slices.Backward over a polynomial's words, as an iterator. -/
namespace Go.Proofs.YthigedcpiglmnaaDoor
open Go.RowKit Go.Shelf
set_option linter.unusedVariables false
set_option linter.unusedSimpArgs false
attribute [local go_sem] Oper.semAt_some

set_option maxRecDepth 100000 in
set_option maxHeartbeats 2000000 in
/-- slices.Backward's closure, for every loop body that keeps what lay below n₀, and the iterator's box. -/
theorem backp1_in (F : Fence) (n : Nat) (h7 : F.fn 60) (hro : F.round = none) (hn : 1 ≤ n) (l Bs n₀ : Nat) (A : Option Addr) (c : Nat) (xs : List Nat) (hlen : xs.length ≤ 9223372036854775807) (hL : Low 18446744073709551616 xs)
    (hA : ∀ ad, A = some ad → 0 < xs.length → ad.block < n₀) (J Jx : List Wd → World → Prop)
    (hY : ∀ pre x W, J pre W → pre.length < xs.length → YieldAt F (n - 1) Tryd.prog l #[.int .i64 (x.1.1 : Int), .int .u64 (x.1.2 : Int)] W fun e W' =>
      (e = .returned (.bool true) ∧ J (pre ++ [x]) W' ∧ KeepB n₀ Bs W W') ∨ (e = .returned (.bool false) ∧ Jx (pre ++ [x]) W'))
    (W : World) (hBs : W.cell? ⟨Bs, 0, none⟩ = some (.slice A xs.length c)) (hc : Rd W .u64 A xs) (h0 : J [] W) :
    CallsIn F n Tryd.prog 60 #[.func (.yield l) #[] #[], .pointer (some ⟨Bs, 0, none⟩)] W fun e W' => (∃ v, e = .returned v) ∧
      ((∃ ys, ys = upto (fromEnd xs hL) xs.length ∧ J ys W') ∨ (∃ pre, (∃ k, k ≤ xs.length ∧ pre = upto (fromEnd xs hL) k) ∧ Jx pre W')) := by
  obtain ⟨m, hm⟩ : ∃ m, xs.length = m := ⟨_, rfl⟩
  have hwr : IntKind.i64.wrap ((m : Int) - 1) = (m : Int) - 1 := by rw [IntKind.wrap_i64]; omega
  refine callsIn_of_wp Tryd.func60 rfl h7 ?_ hro
  simp only [Tryd.ntmps60, List.size_toArray, List.length_cons, List.length_nil, Nat.reduceAdd, Nat.reduceSub, Array.replicate_succ, Array.replicate_zero, List.push_toArray, List.append_toArray, List.nil_append, List.cons_append]
  rw [hm] at hBs
  gi_wp2
  gi_loopw [3] (fun i wr => ∃ k : Nat, k ≤ m ∧ i = .int .i64 ((k : Int) - 1) ∧ J (upto (fromEnd xs hL) (m - k)) wr ∧ KeepB n₀ Bs W wr)
    (fun i _ => (intOf i + 1).toNat)
  case atStart => exact ⟨m, Nat.le_refl _, rfl, by rw [Nat.sub_self]; exact h0, Below.refl _ _, rfl⟩
  case round =>
    obtain ⟨k, hk, rfl, hJs, hnx⟩ := hrel
    have hBr : wr.cell? ⟨Bs, 0, none⟩ = some (.slice A m c) := (World.cell?_of_block hnx.2).trans hBs
    rcases k with _ | k
    · gi_wp2
      go_end0
      exact ⟨⟨_, rfl⟩, .inl ⟨_, rfl, by rw [hm]; exact hJs⟩⟩
    · rw [show ((k + 1 : Nat) : Int) - 1 = (k : Int) by omega]
      obtain ⟨ad, rfl, hb0, hcs⟩ := hc (by omega)
      have hcx : wr.cell? (ad.add k) = some (.int .u64 (nth xs k)) := (hnx.1.cell (p := ad.add k) (by rw [add_block]; exact hA ad rfl (by omega))).trans (hcs k (by omega))
      have hfe : fromEnd xs hL (m - (k + 1)) = ⟨(k, nth xs k), hL.any (by omega) _⟩ := by unfold fromEnd; apply Subtype.ext; show (xs.length - 1 - (m - (k + 1)), nth xs (xs.length - 1 - (m - (k + 1)))) = (k, nth xs k); rw [hm, show m - 1 - (m - (k + 1)) = k by omega]
      obtain ⟨fn, tmps, assign, body, hy, hR⟩ := hY _ ⟨(k, nth xs k), hL.any (by omega) _⟩ wr hJs (by rw [upto_length]; omega)
      dsimp only at hy
      obtain ⟨z, hz⟩ : ∃ z, nth xs k = z := ⟨_, rfl⟩
      rw [hz] at hcx hy
      gi_wp2
      refine hR.mono ?_
      rintro e W3 (⟨rfl, hJ3, hk3⟩ | ⟨rfl, hJx3⟩)
      · gi_wp2
        go_roundw
        case rel => exact ⟨k, by omega, by simp, by rw [show m - k = (m - (k + 1)) + 1 by omega, upto_succ, hfe]; exact hJ3, keepB_t hnx hk3⟩
        case measure => simp [intOf]
      · gi_wp2
        refine bodyPost_ret (results_none rfl _ _ _) rfl ?_
        exact ⟨⟨_, rfl⟩, .inr ⟨_, ⟨m - (k + 1) + 1, by omega, by rw [upto_succ, hfe]⟩, hJx3⟩⟩
/-- slices.Backward(s): the slice is boxed; the function value captures the box. -/
theorem backp_in (A : Option Addr) (len cap : Nat) (w : World) :
    Calls Tryd.prog 48 #[.slice A len cap] w fun e w' => e = .returned (.func (.func 60) #[] #[.pointer (some ⟨w.heap.size, 0, none⟩)]) ∧ w' = w.alloc (.cells #[.slice A len cap] 23) := by
  go_enter Tryd.func48, Tryd.ntmps48
  go_wp2_with fail
  go_ret
  exact ⟨rfl, rfl⟩
/-- slices.Backward(s) hands back what goes through all the words, from the end. -/
theorem backp_stops (F : Fence) (n : Nat) (h7 : F.fn 60) (hro : F.round = none) (hn : 1 ≤ n) (Bs n₀ : Nat) (A : Option Addr) (c : Nat) (xs : List Nat) (hlen : xs.length ≤ 9223372036854775807) (hL : Low 18446744073709551616 xs) (hA : ∀ ad, A = some ad → 0 < xs.length → ad.block < n₀) (w : World) (hBs : Bs < w.heap.size) (hn₀ : n₀ ≤ w.heap.size)
    (hc : w.cell? ⟨Bs, 0, none⟩ = some (.slice A xs.length c)) (hI : Rd w .u64 A xs) :
    SeqStopsK F n Tryd.prog 60 #[.pointer (some ⟨Bs, 0, none⟩)] (fun x : Wd => #[Value.int .i64 (x.1.1 : Int), Value.int .u64 (x.1.2 : Int)]) (KeepB n₀ Bs) (fun ys => ys = upto (fromEnd xs hL) xs.length)
      (fun pre => ∃ k, k ≤ xs.length ∧ pre = upto (fromEnd xs hL) k) xs.length w := fun l J Jx W hW _ _ hY h0 =>
  backp1_in F n h7 hro hn l Bs n₀ A c xs hlen hL hA J Jx hY W ((hW.cell (p := ⟨Bs, 0, none⟩) hBs).trans hc) (hI.below hW) h0
end Go.Proofs.YthigedcpiglmnaaDoor
