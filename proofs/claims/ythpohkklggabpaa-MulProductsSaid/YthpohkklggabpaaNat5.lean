/-
  Contract: nat.Mul.
-/
import Derived.Test.YthpohkklggabpaaNat4
namespace Go.Proofs.Ythpohkklggabpaa
open Go.RowKit

theorem NatPost.nil (w : World) {v : Nat} (hv : v = 0) : NatPost v w (.returned (.slice none 0 0)) w := by
  subst hv
  exact ⟨none, 0, rfl, Got.nil w _ _⟩

/-- nat.Mul, in the middle: i words of the second factor are done. -/
def MuRel (w : World) (xs ys : List Nat) (i : Nat) (wr : World) : Prop :=
  ∃ (r : Nat) (Z : List Nat), Product 18446744073709551616 xs ys Z i ∧ i + r = ys.length ∧ Blk wr w.heap.size 45 .u64 (Z ++ List.replicate r 0) ∧ Below w.heap.size w wr

theorem MuRel.next {w wr w1 : World} {xs ys Z : List Nat} {i r : Nat} {s : Value} (hp : Product 18446744073709551616 xs ys Z i) (hir : i + (r + 1) = ys.length)
    (hw : Below w.heap.size w wr)
    (ha : ApRel wr w.heap.size i (Z ++ List.replicate (r + 1) 0) xs (nth ys i) xs.length s w1) :
    ∃ c : Nat, s = .int .u64 c ∧ (∃ v, w1.cell? ⟨w.heap.size, i + xs.length, none⟩ = some v) ∧ w1.frozen? ⟨w.heap.size, i + xs.length, none⟩ = false ∧
      MuRel w xs ys (i + 1) (w1.setCell ⟨w.heap.size, i + xs.length, none⟩ (.int .u64 (c : Int))) := by
  obtain ⟨c, zs, hm, rfl, hb, hg, hz⟩ := ha
  have hzl := hm.1
  have hZl := hp.1
  have e1 : (Z ++ List.replicate (r + 1) 0).take i = Z.take i := by rw [List.take_append_of_le_length (by omega)]
  have e2 : (Z ++ List.replicate (r + 1) 0).drop (i + xs.length) = List.replicate (r + 1) 0 := by rw [List.drop_append, List.drop_eq_nil_of_le (by omega)]; simp [hZl, Nat.add_comm]
  rw [e1, e2] at hb
  have hl : (Z.take i ++ zs).length = i + xs.length := by simp [hzl]; omega
  have hs := hb.set (i + xs.length) c
  rw [← hl, set_end, hl] at hs
  have hbw : Below w.heap.size w w1 := hw.trans ⟨hg.os, hg.tape, hg.output, hg.size, fun k hk => hg.block k (by have := hw.size; omega) (by intro h; have := Option.some.inj h; omega)⟩
  refine ⟨c, rfl, ⟨_, hb.cell (by simp [hzl]; omega)⟩, hb.free _, r, _, hp.step hm, by omega, ?_, hbw.setCell (Nat.le_refl _) _⟩
  exact hs

set_option maxHeartbeats 400000 in
theorem mul_calls (A B : Option Addr) (n m c d : Nat) (xs ys : List Nat) (w : World) (hx : Rd w .u64 A xs) (hy : Rd w .u64 B ys) (hxn : xs.length = n) (hyn : ys.length = m)
    (hc : n ≤ c) (hc' : c ≤ 9223372036854775807) (hd : m ≤ d) (hd' : d ≤ 9223372036854775807) (lx : Low 18446744073709551616 xs) (ly : Low 18446744073709551616 ys)
    (bx : n ≤ 1099511627776) (bY : m ≤ 1099511627776) :
    Calls Try.prog 16 #[.slice A n c, .slice B m d] w (NatPost (ev 18446744073709551616 xs * ev 18446744073709551616 ys) w) := by
  have sx : sl xs ≤ n := hxn ▸ sl_le xs
  have sy : sl ys ≤ m := hyn ▸ sl_le ys
  have HX := Lib.hid hxn
  have HY := Lib.hid hyn
  clear hxn hyn
  go_enter Try.func16, Try.ntmps16
  go_wp2_with fail
  refine (trim_calls _ _ _ xs _ hx HX.out (by omega) (by omega)).mono ?_
  rintro e w' ⟨rfl, rfl⟩
  go_wp2_with fail
  refine (trim_calls _ _ _ ys _ hy HY.out (by omega) (by omega)).mono ?_
  rintro e w' ⟨rfl, rfl⟩
  go_upto_if 16 with fail
  go_cut [0, 1] (AddCut w (fun x y => x * y = ev 18446744073709551616 xs * ev 18446744073709551616 ys))
  case first =>
    by_cases h : sl xs < sl ys
    · go_wp2
      go_meet
      exact AddCut.mk hy hx (by omega) (by omega) ly lx (Nat.mul_comm _ _)
    · go_wp2
      go_meet
      exact AddCut.mk hx hy (by omega) (by omega) lx ly rfl
  case rest =>
    clear hx hy lx ly sx sy HX HY hc hc' hd hd' bx bY
    obtain ⟨A, B, c, d, xs, ys, rfl, rfl, hx, hy, hle, hmx, lx, ly, hS, rfl⟩ := hcut
    have HS := Lib.hid hS
    clear hS
    by_cases h0 : ys.length = 0
    · have e0 := HS.out
      rw [List.length_eq_zero_iff.1 h0, ev_nil, Nat.mul_zero] at e0
      have E0 := Lib.hid e0
      have b0 : (((ys.length : Nat) : Int) == 0) = true := by rw [beq_iff_eq]; omega
      clear e0 h0
      go_wp2
      go_ret
      exact NatPost.nil _ E0.out.symm
    · have b0 : (((ys.length : Nat) : Int) == 0) = false := by rw [beq_eq_false_iff_ne]; omega
      have hpos : 0 < ys.length := by omega
      clear h0
      go_wp2_with (at_make; refine wpList_make_blk _ rfl _ _ 23 rfl 45 .u64 8 Try.underlying23 info_u64 _ _ _ _ (xs.length + ys.length) rfl rfl (by omega) (by omega) (by omega) (by omega) ?_)
      intro w1 hb1 hw1 hz1
      have HZ := Lib.hid hz1
      clear hz1
      go_wp2
      go_loopw [30] (fun i wr => ∃ k : Nat, k ≤ ys.length ∧ i = .int .i64 k ∧ MuRel wc xs ys k wr) (fun i _ => ys.length - (intOf i).toNat)
      case atStart => exact ⟨0, Nat.zero_le _, rfl, ys.length, _, Product.start (by omega) xs ys, by omega, by simpa using hb1, hw1⟩
      case round =>
        obtain ⟨i, hi, rfl, r, Z, hp, hir, hb, hw⟩ := hrel
        by_cases hlt : i < ys.length
        · obtain ⟨r, rfl⟩ : ∃ q, r = q + 1 := ⟨r - 1, by omega⟩
          obtain ⟨ae, rfl, _, c2⟩ := (hy.below hw).at (k := i) hlt
          have HP := Lib.hid hp
          have HI := Lib.hid hir
          clear hp hir
          have hA : ∀ ad, A = some ad → ad.block ≠ wc.heap.size := fun ad ha => by
            obtain ⟨ad', e', hb', _⟩ := hx (by omega)
            rw [e'] at ha
            obtain rfl := Option.some.inj ha
            omega
          have hL : i + xs.length ≤ (Z ++ List.replicate (r + 1) 0).length := by have := HP.out.1; simp; omega
          have hM : (Z ++ List.replicate (r + 1) 0).length ≤ 9223372036854775807 := by have := HP.out.1; have := HI.out; simp; omega
          have HA := Lib.hid hA
          clear hA
          go_wp2_with fail
          refine (ap_calls _ i _ _ _ _ (Z ++ List.replicate (r + 1) 0) xs (nth ys i) _ hb (hx.below hw) rfl HA.out hL (HP.out.2.1.append (Low.replicate _ _ (by omega))) lx (ly.any (by omega) i) hM).mono ?_
          rintro e w2 ⟨s, rfl, hap⟩
          obtain ⟨c0, rfl, ⟨v0, hcell⟩, hfree, hnext⟩ := MuRel.next HP.out HI.out hw hap
          clear hap hL hM hb
          go_wp2
          go_roundw
          case rel => exact ⟨i + 1, by omega, by go_num, hnext⟩
          case measure => simp [intOf]; omega
        · obtain rfl : i = ys.length := by omega
          obtain rfl : r = 0 := by omega
          have hS' := hp.stop (Nat.le_refl _)
          have lZ := hp.2.1
          have nZ := hp.1
          have HS' := Lib.hid hS'
          have HN := Lib.hid nZ
          simp only [List.replicate_zero, List.append_nil] at hb
          clear hp hir hlt hS' nZ
          go_wp2_with fail
          refine (trim_calls _ _ _ Z _ hb.rd0 HN.out (Nat.le_refl _) (by omega)).mono ?_
          rintro e w' ⟨rfl, rfl⟩
          go_wp2
          go_ret
          exact nat_end hb (Nat.le_refl _) hw HN.out (by omega) lZ (HS'.out.trans HS.out)
end Go.Proofs.Ythpohkklggabpaa
