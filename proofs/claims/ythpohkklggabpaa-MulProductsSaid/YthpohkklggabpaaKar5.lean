/-
  Contracts: mul.Mul, mul.Square.
-/
import Derived.Test.YthpohkklggabpaaKar4
import Derived.Outline
namespace Go.Proofs.Ythpohkklggabpaa
open Go.RowKit
set_option linter.unusedVariables false

/-- Behind the exchange: the longer one, and the shorter one. -/
def MlCut (w : World) (F : Nat → Nat → Prop) (k : Nat) (va vb : Value) (wx : World) : Prop :=
  ∃ (A B : Option Addr) (c d : Nat) (xs ys : List Nat), va = .slice A xs.length c ∧ vb = .slice B ys.length d ∧ Rd w .u64 A xs ∧ Rd w .u64 B ys ∧ ys.length ≤ xs.length ∧ xs.length ≤ 1099511627776 ∧ ys.length ≤ k ∧
    xs.length ≤ c ∧ c ≤ 9223372036854775807 ∧ ys.length ≤ d ∧ d ≤ 9223372036854775807 ∧
    Low 18446744073709551616 xs ∧ Low 18446744073709551616 ys ∧ F (ev 18446744073709551616 xs) (ev 18446744073709551616 ys) ∧ wx = w
theorem MlCut.mk {w : World} {A B : Option Addr} {c d k : Nat} {xs ys : List Nat} (hx : Rd w .u64 A xs) (hy : Rd w .u64 B ys) (h : sl ys ≤ sl xs) (hm : sl xs ≤ 1099511627776) (hk : sl ys ≤ k) (hc : sl xs ≤ c) (hc' : c ≤ 9223372036854775807) (hd : sl ys ≤ d) (hd' : d ≤ 9223372036854775807)
    (lx : Low 18446744073709551616 xs) (ly : Low 18446744073709551616 ys) {F : Nat → Nat → Prop} (hS : F (ev 18446744073709551616 xs) (ev 18446744073709551616 ys)) :
    MlCut w F k (.slice A (sl xs) c) (.slice B (sl ys) d) w := by
  have ex : (xs.take (sl xs)).length = sl xs := by simp [Nat.min_eq_left (sl_le xs)]
  have ey : (ys.take (sl ys)).length = sl ys := by simp [Nat.min_eq_left (sl_le ys)]
  exact ⟨A, B, c, d, xs.take (sl xs), ys.take (sl ys), by rw [ex], by rw [ey], hx.take _, hy.take _, by rw [ex, ey]; exact h, by rw [ex]; exact hm, by rw [ey]; exact hk, by rw [ex]; exact hc, hc', by rw [ey]; exact hd, hd', lx.take _, ly.take _, by rw [ev_take_sl, ev_take_sl]; exact hS, rfl⟩

/-- mul.Mul, in the middle: the words below i are done. -/
def MlRel (w : World) (xs ys : List Nat) (i : Nat) (wr : World) : Prop :=
  ∃ Z : List Nat, Hid (Z.length = xs.length + ys.length) ∧ Hid (ev 18446744073709551616 Z = pre 18446744073709551616 xs i * ev 18446744073709551616 ys) ∧ Wb wr w.heap.size 45 Z ∧ Below w.heap.size w wr
theorem pre_drop (b : Nat) (xs : List Nat) (i q : Nat) : pre b xs (i + q) = pre b xs i + b ^ i * ev b ((xs.drop i).take q) := by
  unfold pre
  rw [List.take_add, ev_append, List.length_take]
  rcases Nat.lt_or_ge i xs.length with h | h
  · rw [Nat.min_eq_left (by omega)]
  · rw [List.drop_of_length_le h]
    simp [ev]
/-- One round: the piece from i on, of q words. -/
theorem ml_step {b i q : Nat} {xs ys Z us fs : List Nat} (hb : 2 ≤ b) (lx : Low b xs) (ly : Low b ys) (hZ : Z.length = xs.length + ys.length) (hv : ev b Z = pre b xs i * ev b ys) (hi : i ≤ xs.length) (hu : ev b us = ev b ((xs.drop i).take q) * ev b ys) :
    ev b (Z.drop i) + ev b us < b ^ (xs.length + ys.length - i) ∧ (ev b fs = ev b (Z.drop i) + ev b us → ev b (Z.take i ++ fs) = pre b xs (i + q) * ev b ys) := by
  have e1 := ev_split b Z i (by omega)
  have e2 := pre_drop b xs i q
  have e3 : pre b xs (i + q) * ev b ys = pre b Z i + b ^ i * (ev b (Z.drop i) + ev b us) := by
    rw [e2, Nat.add_mul, ← hv, e1, hu]
    grind
  have e4 : pre b xs (i + q) * ev b ys < b ^ (xs.length + ys.length) := by
    rw [Nat.pow_add]
    refine Nat.mul_lt_mul'' ?_ (ev_lt ly)
    have h1 := ev_lt (lx.take (i + q))
    exact Nat.lt_of_lt_of_le h1 (Nat.pow_le_pow_right (by omega) (by simp; omega))
  have e5 : b ^ (xs.length + ys.length) = b ^ i * b ^ (xs.length + ys.length - i) := by rw [← Nat.pow_add]; congr 1; omega
  constructor
  · refine Nat.lt_of_mul_lt_mul_left (a := b ^ i) ?_
    omega
  · intro hf
    rw [ev_append, hf, e3]
    have : (Z.take i).length = i := by simp; omega
    rw [this]
    rfl

theorem off_new {G p m n : Nat} {A : Option Addr} {H : Nat} (h : ∀ ad, A = some ad → H ≤ ad.block) (hG : G < H) : Off (Seg G p m) A n := fun ad ha j hj hs => by
  have h1 := h ad ha
  have h2 := hs.1
  rw [add_block] at h2
  omega
/-- One round leaves the relation of the next. -/
theorem MlRel.next {w wr w2 w3 : World} {xs ys Z us fs : List Nat} {i N : Nat} (hN : Hid (N = xs.length + ys.length)) (lx : Low 18446744073709551616 xs) (ly : Low 18446744073709551616 ys) (hZ : Hid (Z.length = xs.length + ys.length))
    (hv : Hid (ev 18446744073709551616 Z = pre 18446744073709551616 xs i * ev 18446744073709551616 ys)) (hi : i ≤ xs.length)
    (hu : Hid (ev 18446744073709551616 us = ev 18446744073709551616 ((xs.drop i).take ys.length) * ev 18446744073709551616 ys))
    (ha : Wb wr w.heap.size 45 Z) (hw : Below w.heap.size w wr) (hb : Below wr.drew.heap.size wr.drew w2)
    (h1 : fs.length = (Z.drop i).length) (h2 : ev 18446744073709551616 fs = ev 18446744073709551616 (Z.drop i) + ev 18446744073709551616 us) (h3 : Ar w3 w.heap.size i 45 fs) (h4 : Tch (Seg w.heap.size i (Z.drop i).length) w2 w3) :
    MlRel w xs ys (i + ys.length) w3 := by
  have hz := hZ.out
  have hs := ml_step (fs := fs) (by omega) lx ly hZ.out hv.out hi hu.out
  have hb2 : Wb w2 w.heap.size 45 Z := ⟨Blk.below (w := wr.drew) ha.1 hb ha.1.lt, ha.2⟩
  have ha2 : Ar w2 w.heap.size 0 45 Z := Ar.of_wb hb2
  have ha3 := (ha2.take i (by omega)).tch h4 fun j hj hs => by have := hs.2.1; simp at hj; simp only at this; omega
  have hl : (Z.take i ++ fs).length = xs.length + ys.length := by simp at h1 ⊢; omega
  obtain ⟨L', k1, k2, k3⟩ := h4.blk _ _ _ hb2
  obtain ⟨M, n1, n2, n3⟩ := ha3.join h3 (by simp; omega)
  obtain rfl := k1.one n1
  have he : Z.take i ++ fs = L' := ext_nth (by omega) fun j hj => by have := n3 j hj; rw [Nat.zero_add] at this; exact this.symm
  rw [← he] at k1
  refine ⟨Z.take i ++ fs, hl, hs.2 h2, k1, ?_⟩
  have hw2 : Below w.heap.size w w2 := hw.trans ((below_drew wr).trans hb |>.mono hw.size)
  exact hw2.trans (h4.below hw2.size fun a hs => by have := hs.1; omega)

set_option maxHeartbeats 800000 in
theorem mmul_step {k : Nat} (ih : ∀ j, j < k → MulOk j) : MulOk k := by
  intro A B n m c d xs ys w hx hy hxn hyn hc hc' hd hd' lx ly bx bY hk
  have sx : sl xs ≤ n := hxn ▸ sl_le xs
  have sy : sl ys ≤ m := hyn ▸ sl_le ys
  have HX := Lib.hid hxn
  have HY := Lib.hid hyn
  clear hxn hyn
  go_enter Try.func12, Try.ntmps12
  go_wp2_with fail
  refine (mtrim_calls _ _ _ xs _ hx HX.out (by omega) (by omega)).mono ?_
  rintro e w' ⟨rfl, rfl⟩
  go_wp2_with fail
  refine (mtrim_calls _ _ _ ys _ hy HY.out (by omega) (by omega)).mono ?_
  rintro e w' ⟨rfl, rfl⟩
  go_upto_if 16 with fail
  go_cut [0, 1] (MlCut w (fun x y => x * y = ev 18446744073709551616 xs * ev 18446744073709551616 ys) k)
  case first =>
    by_cases h : sl xs < sl ys
    · go_wp2
      go_meet
      exact MlCut.mk hy hx (by omega) (by omega) (by omega) (by omega) hd' (by omega) hc' ly lx (Nat.mul_comm _ _)
    · go_wp2
      go_meet
      exact MlCut.mk hx hy (by omega) (by omega) (by omega) (by omega) hc' (by omega) hd' lx ly rfl
  case rest =>
    clear hx hy lx ly sx sy HX HY hc hc' hd hd' bx bY hk
    obtain ⟨A, B, c, d, xs, ys, rfl, rfl, hx, hy, hle, hmx, hky, hc, hc', hd, hd', lx, ly, hS, rfl⟩ := hcut
    have HS := Lib.hid hS
    clear hS
    by_cases h0 : ys.length < 40
    · go_wp2_with fail
      refine (mul_calls A B _ _ c d xs ys _ hx hy rfl rfl hc hc' hd hd' lx ly hmx (by omega)).mono ?_
      rintro e w1 ⟨A1, c1, rfl, hg⟩
      have P : Hid (NatPost (ev 18446744073709551616 xs * ev 18446744073709551616 ys) wc (.returned (.slice A1 (cn 18446744073709551616 (ev 18446744073709551616 xs * ev 18446744073709551616 ys)).length c1)) w1) := ⟨A1, c1, rfl, hg⟩
      clear hg
      rw [HS.out] at P ⊢
      go_wp2
      go_ret
      exact P.out
    · have h1 : 40 ≤ ys.length := by omega
      clear h0
      obtain ⟨N, hN⟩ : ∃ N, N = xs.length + ys.length := ⟨_, rfl⟩
      have nN : N ≤ 4398046511104 := by omega
      have HN := Lib.hid hN
      clear hN
      go_wp2_with (at_make; refine wpList_make_blk _ rfl _ _ 23 rfl 45 .u64 8 Try.underlying23 info_u64 _ _ _ _ N rfl rfl (by have := HN.out; omega) (by have := HN.out; omega) (by omega) (by omega) ?_)
      intro w1 hb1 hw1 hz1
      have HZ := Lib.hid hz1
      clear hz1
      go_wp2
      go_loopw [6] (fun i wr => ∃ i' : Nat, i = .int .i64 i' ∧ i' < N ∧ MlRel wc xs ys i' wr) (fun i _ => xs.length - (intOf i).toNat)
      case atStart => exact ⟨0, rfl, by have := HN.out; omega, List.replicate N 0, by show _ = _; rw [List.length_replicate, HN.out], by show _ = _; rw [ev_replicate, pre_zero, Nat.zero_mul], wb_made hb1, hw1⟩
      case round =>
        obtain ⟨i, rfl, hi, Z, hZ, hv, ha, hw⟩ := hrel
        by_cases hlt : i < xs.length
        · have u1 : (0 : Int) ≤ (i : Int) := by omega
          have u2 : (i : Int) ≤ (N : Int) := by omega
          have u3 : ¬ (N = i) := by omega
          have u4 : ¬ (c = i) := by omega
          obtain ⟨q, hq⟩ : ∃ q, q = ((xs.drop i).take ys.length).length := ⟨_, rfl⟩
          have hq1 : i + ys.length ≤ xs.length → i + ys.length - i = q := by rw [hq]; simp; omega
          have hq2 : ¬ i + ys.length ≤ xs.length → xs.length - i = q := by rw [hq]; simp; omega
          have hqy : q ≤ ys.length ∧ q ≤ xs.length - i := by rw [hq]; simp; omega
          have hq' := Lib.hid hq
          have HQ1 := Lib.hid hq1
          have HQ2 := Lib.hid hq2
          have hxp := (hx.below hw).drop i
          have hxq := hxp.take ys.length
          have hyw := hy.below hw
          have lxp := (lx.drop i).take ys.length
          have hcq : q ≤ c - i := by omega
          have hat : Ar wr wc.heap.size i 45 (Z.drop i) := by have := (Ar.of_wb ha).drop i (by have := hZ.out; omega); rwa [Nat.zero_add] at this
          have hlt2 := ha.1.lt
          have hzd : Hid ((Z.drop i).length = N - i) := by show _ = _; rw [List.length_drop, hZ.out, HN.out]
          clear hq hq1 hq2 hxp
          by_cases hf : i + ys.length ≤ xs.length
          all_goals
            have u5 : i + ys.length ≤ c ∨ xs.length ≤ c := by omega
            go_wp2_with fail
            first | rw [HQ1.out hf] | rw [HQ2.out hf]
            go_region_held3 (fun _ => True) (exact trivial) (first
              | (go_at_call 28; refine (piece_calls (fun j hj => ih j (by omega)) _ _ q (c - i) d _ ys _ hxq.drew hyw.drew hq'.out.symm rfl (by omega) (by omega) hd hd' lxp ly (by omega) (by omega)).mono ?_; rintro e w2 ⟨A2, c2, us, rfl, r1, r2, r3, r4, r5, r6, r7, r8⟩)
              | (go_at_call 27; refine (addto_calls wc.heap.size i (N - i) us.length c2 A2 (Z.drop i) us (N - i) _ (Ar.below (w := wr.drew) hat r8) hzd.out r6 rfl (off_new r7 hlt2) r5 (by have := HN.out; omega) (by omega) (by rw [HN.out]; exact (ml_step (fs := []) (by omega) lx ly hZ.out hv.out (by omega) r1.out).1)).mono ?_; rintro e w3 ⟨fs, rfl, f1, f2, f3, f4, f5⟩))
            have R := Lib.hid (MlRel.next HN lx ly hZ hv (by omega) r1 ha hw r8 f1 f2 f3 f4)
            clear f1 f2 f3 f4 f5 r1 r2 r3 r4 r5 r6 r7 r8
            go_wp2
            go_roundw
            case rel => exact ⟨i + ys.length, by go_num, by have := HN.out; omega, R.out⟩
            case measure => simp [intOf]; omega
        · have e1 := pre_ge 18446744073709551616 (xs := xs) (k := i) (by omega)
          have hv2 : Hid (ev 18446744073709551616 Z = ev 18446744073709551616 xs * ev 18446744073709551616 ys) := by show _ = _; rw [hv.out, e1]
          have hzn : Hid (Z.length = N) := by show _ = _; rw [hZ.out, HN.out]
          have hbl := ha.1
          have lz := ha.2
          clear e1 hv ha hi
          go_wp2_with fail
          refine (mtrim_calls _ N N Z _ hbl.rd0 hzn.out (Nat.le_refl _) (by omega)).mono ?_
          rintro e w' ⟨rfl, rfl⟩
          go_wp2
          go_ret
          exact nat_end hbl (Nat.le_refl _) hw hzn.out (by omega) lz (hv2.out.trans HS.out)

theorem mmul_ok (k : Nat) : MulOk k := by
  induction k using Nat.strongRecOn with
  | _ k ih => exact mmul_step ih
theorem mmul_calls (A B : Option Addr) (n m c d : Nat) (xs ys : List Nat) (w : World) (hx : Rd w .u64 A xs) (hy : Rd w .u64 B ys) (hxn : xs.length = n) (hyn : ys.length = m)
    (hc : n ≤ c) (hc' : c ≤ 9223372036854775807) (hd : m ≤ d) (hd' : d ≤ 9223372036854775807) (lx : Low 18446744073709551616 xs) (ly : Low 18446744073709551616 ys)
    (bx : n ≤ 1099511627776) (bY : m ≤ 1099511627776) :
    Calls Try.prog 12 #[.slice A n c, .slice B m d] w (NatPost (ev 18446744073709551616 xs * ev 18446744073709551616 ys) w) :=
  mmul_ok _ A B n m c d xs ys w hx hy hxn hyn hc hc' hd hd' lx ly bx bY (Nat.le_refl _)
/-- mul.Mul, by value. -/
theorem mmul_v {A B : Option Addr} {n m c d x y : Nat} {w : World} (hx : Nv w A n c x) (hy : Nv w B m d y) (hn : n ≤ 1099511627776) (hm : m ≤ 1099511627776) :
    Calls Try.prog 12 #[.slice A n c, .slice B m d] w (NatPost (x * y) w) := by
  obtain ⟨xs, h1, h2, h3, h4, h5, rfl⟩ := hx
  obtain ⟨ys, g1, g2, g3, g4, g5, rfl⟩ := hy
  exact mmul_calls A B n m c d xs ys w h1 g1 h2 g2 h3 h4 g3 g4 h5 g5 hn hm
end Go.Proofs.Ythpohkklggabpaa
