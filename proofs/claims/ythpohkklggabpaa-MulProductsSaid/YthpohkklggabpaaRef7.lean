/-
  The reference of layer 1: half, Half, Twice.
-/
import Derived.Test.YthpohkklggabpaaNat11
import Derived.Test.YthpohkklggabpaaRef6
namespace Go.Proofs.Ythpohkklggabpaa
open Go.RowKit

/-- A call of at, as one step of a region that draws its order. -/
theorem step_at {ops : Array Oper} {o : Oper} {a : Act} {w : World} {Kc : Act → World → Prop} {Q : Exit → Act → World → Prop} {E : Prop} (hgd : o.guard = none) (s x : Operand)
    (ho : o.op = .call { callee := .value (.func 45), args := #[s, x], argTypes := #[25, 3] })
    (A : Option Addr) (n c : Nat) (xs : List Nat) (k : Nat) (y : Int) (hy : y = (k : Int)) (hs : a.eval s = .slice A n c) (hx : a.eval x = .int .i64 y) (hr : Rd w .i64 A xs) (hn : xs.length = n)
    (h : Kc (a.put o.dst (.int .i64 (nth xs k))) w) : if Region.wanted o (yielded ops a.tmps) = true then Oper.wp Try.prog o a w Kc Q else E := by
  have hw : Region.wanted o (yielded ops a.tmps) = true := by simp [Region.wanted, hgd]
  rw [if_pos hw]
  subst hy
  unfold Oper.wp
  simp only [execOp, ho, resolve, invoke, Sem.run_bind, List.map_toArray, List.map_cons, List.map_nil, hs, hx]
  go_simp
  refine (at_calls A n c k xs w hr hn).mono ?_
  rintro e w' ⟨rfl, rfl⟩
  exact h

/-- Digits that are being halved: k are done. -/
def Halving (xs zs : List Nat) (k : Nat) : Prop := zs.length = k ∧ Low 65536 zs ∧ ev 65536 zs * 2 + nth xs 0 % 2 = pre 65536 xs k + 65536 ^ k * (nth xs k % 2)
theorem Halving.start (xs : List Nat) : Halving xs [] 0 := ⟨rfl, Low.nil _, by simp [ev, pre_zero]⟩
theorem Halving.step {xs zs : List Nat} {k : Nat} (lx : Low 65536 xs) (h : Halving xs zs k) : Halving xs (zs ++ [nth xs k / 2 + nth xs (k + 1) % 2 * 32768]) (k + 1) := by
  obtain ⟨h1, h2, h3⟩ := h
  have := lx.any (by omega) k
  refine ⟨by simp [h1], h2.snoc (by omega), ?_⟩
  rw [ev_snoc, pre_succ, h1, Nat.pow_succ]
  have e := Nat.mod_add_div (nth xs k) 2
  generalize nth xs k / 2 = q at *
  generalize nth xs k % 2 = r at *
  generalize nth xs (k + 1) % 2 = r1 at *
  rw [← e]
  grind
theorem Halving.stop {xs zs : List Nat} {k : Nat} (h : Halving xs zs k) (hk : xs.length ≤ k) : ev 65536 zs = ev 65536 xs / 2 := by
  obtain ⟨h1, h2, h3⟩ := h
  rw [pre_ge _ hk, nth_ge hk] at h3
  omega

theorem OwnV.of_got {w wr w' : World} {t : TypeId} {K : IntKind} {A : Option Addr} {c : Nat} {zs : List Nat} (h : Got wr w' t K A c zs) (hb : Below w.heap.size w wr) : OwnV w w' t K (.slice A zs.length c) zs := by
  have := Got.of_own h.1 hb.size (hb.trans (h.2.mono hb.size))
  exact ⟨this.1, this.2⟩

theorem half_word {a b : Nat} (ha : a < 65536) (hb : b < 65536) :
    IntKind.i64.wrap (IntKind.i64.wrap ((a : Int) / 2) + IntKind.i64.wrap ((b : Int).tmod 2 * 32768)) = ((a / 2 + b % 2 * 32768 : Nat) : Int) := by
  have e : (b : Int).tmod 2 = (b : Int) % 2 := Int.tmod_eq_emod_of_nonneg (by omega)
  rw [e, IntWalk.i64_in ((a : Int) / 2) (by omega), IntWalk.i64_in ((b : Int) % 2 * 32768) (by omega), IntWalk.i64_in _ (by omega)]
  omega

/-- What half answers: as many digits, of the half. -/
def HalfPost (xs : List Nat) (w : World) (e : Ending) (w' : World) : Prop :=
  ∃ A c zs, e = .returned (.slice A (List.length zs) c) ∧ Got w w' 3 .i64 A c zs ∧ zs.length = xs.length ∧ Low 65536 zs ∧ ev 65536 zs = ev 65536 xs / 2

set_option maxHeartbeats 4000000 in
theorem half_calls (A : Option Addr) (n c : Nat) (xs : List Nat) (w : World) (hr : Rd w .i64 A xs) (hn : xs.length = n) (bn : n ≤ 4398046511104) (lx : Low 65536 xs) :
    Calls Try.prog 33 #[.slice A n c] w (HalfPost xs w) := by
  have HN := Lib.hid hn
  clear hn
  go_enter Try.func33, Try.ntmps33
  go_wp2
  go_loopw [3, 4] (fun v i wr => ∃ (k : Nat) (zs : List Nat), k ≤ n ∧ i = .int .i64 k ∧ Halving xs zs k ∧ OwnV w wr 3 .i64 v zs) (fun _ i _ => n - (intOf i).toNat)
  case atStart => exact ⟨0, [], Nat.zero_le _, rfl, Halving.start _, OwnV.nil _ _ _⟩
  case round =>
    obtain ⟨k, zs, hk, rfl, hH, ho⟩ := hrel
    have hl : zs.length ≤ 4398046511104 := by have := hH.1; omega
    by_cases hlt : k < n
    · have u1 := lx.any (by omega) k
      have u2 := lx.any (by omega) (k + 1)
      have hrw := hr.below ho.2
      obtain ⟨ad, rfl, _, c1⟩ := hrw.at (k := k) (by have := HN.out; omega)
      have hst := hH.step lx
      have hSt := Lib.hid hst
      have w1 : IntKind.i64.wrap ((k : Int) + 1) = ((k + 1 : Nat) : Int) := by rw [IntWalk.i64_in _ (by omega)]; omega
      have W1 := Lib.hid w1
      have HW := Lib.hid (half_word u1 u2)
      clear hH hst w1 u1 u2
      go_wp2
      go_region_law (first | (refine step_at rfl _ _ rfl _ n c xs (k + 1) _ W1.out (by rfl) (by rfl) hrw.drew HN.out ?_) | (refine step_app1 w rfl _ _ _ rfl 3 .i64 Try.underlying25 info_i64 _ zs (by rfl) ho _ (nth xs k / 2 + nth xs (k + 1) % 2 * 32768) HW.out (by rfl) hl ?_; intro v2 w2 ho2))
      all_goals
        clear ho
        go_wp2
        go_roundw
        case rel => exact ⟨k + 1, _, by omega, by go_num, hSt.out, ho2⟩
        case measure => simp [intOf]; omega
    · obtain rfl : k = n := by omega
      have e := hH.stop (by have := HN.out; omega)
      have E := Lib.hid e
      have lz := hH.2.1
      have hzl := Lib.hid hH.1
      obtain ⟨A2, c2, rfl, hg⟩ := ho.form
      clear e hH hlt
      go_wp2
      go_ret
      exact ⟨A2, c2, zs, rfl, hg, hzl.out.trans HN.out.symm, lz, E.out⟩
end Go.Proofs.Ythpohkklggabpaa
