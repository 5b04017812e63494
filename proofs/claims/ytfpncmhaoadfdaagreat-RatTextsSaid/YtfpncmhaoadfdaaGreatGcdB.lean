/-
  Package lehmer: Jump.Take, Join.
-/
import Derived.Test.YtfpncmhaoadfdaaGreatGcdA
import Derived.BigRegion
/-! Contracts: lehmer.Jump.Take, Join. -/
namespace Go.Proofs.YtfpncmhaoadfdaaGreat
open Go.RowKit
set_option linter.unusedVariables false

/-- A difference of two products, word by word: k words are done. -/
def Diffing (b : Nat) (xs ys us : List Nat) (x y k m l o : Nat) : Prop :=
  us.length = k ∧ Low b us ∧ ev b us + pre b ys k * y + b ^ k * m = pre b xs k * x + b ^ k * (l + o)
theorem Diffing.start (b : Nat) (xs ys : List Nat) (x y : Nat) : Diffing b xs ys [] x y 0 0 0 0 := ⟨rfl, Low.nil b, by simp [ev, pre_zero]⟩
theorem Diffing.step {b : Nat} {xs ys us : List Nat} {x y k m l o z m' l' o' : Nat} (h : Diffing b xs ys us x y k m l o) (hz : z < b) (he : z + nth ys k * y + l + o + b * m' = nth xs k * x + m + b * (l' + o')) :
    Diffing b xs ys (us ++ [z]) x y (k + 1) m' l' o' := by
  obtain ⟨h1, h2, h3⟩ := h
  refine ⟨by simp [h1], h2.snoc hz, ?_⟩
  rw [ev_snoc, pre_succ, pre_succ, h1, Nat.pow_succ]
  generalize b ^ k = P at *
  have e : P * z + P * nth ys k * y + P * (l + o) + P * b * m' = P * nth xs k * x + P * m + P * b * (l' + o') := by
    have := congrArg (P * ·) he
    grind
  grind
theorem Diffing.stop {b : Nat} {xs ys us : List Nat} {x y k m l o D : Nat} (h : Diffing b xs ys us x y k m l o) (hb : 0 < b) (hD : pre b xs k * x = pre b ys k * y + D) (hD2 : D < b ^ k) : ev b us = D := by
  obtain ⟨h1, h2, h3⟩ := h
  have h4 := ev_lt h2
  rw [h1] at h4
  rw [hD] at h3
  have h5 : ev b us + b ^ k * m = D + b ^ k * (l + o) := by omega
  have h6 := congrArg (· % b ^ k) h5
  simp only [Nat.add_mul_mod_self_left] at h6
  rwa [Nat.mod_eq_of_lt h4, Nat.mod_eq_of_lt hD2] at h6

/-- The two differences that take begins with. -/
def TkCut (w : World) (p q r s : Nat) (v6 v7 : Value) (wx : World) : Prop :=
  ∃ h1 h2 : Nat, v6 = .pointer (some ⟨h1, 0, none⟩) ∧ v7 = .pointer (some ⟨h2, 0, none⟩) ∧ h1 ≠ h2 ∧ w.heap.size ≤ h1 ∧ w.heap.size ≤ h2 ∧ Wb wx h1 110 [p, q, 0, 0, 0] ∧ Wb wx h2 110 [s, r, 0, 0, 0] ∧ Below w.heap.size w wx
theorem low5 {p q : Nat} (hp : p < 18446744073709551616) (hq : q < 18446744073709551616) : Low 18446744073709551616 [p, q, 0, 0, 0] :=
  ((((((Low.nil _).cons (x := 0) (by omega)).cons (x := 0) (by omega)).cons (x := 0) (by omega)).cons hq).cons hp)
theorem tk_blk (w : World) (p q : Nat) : Blk (w.alloc (.cells #[.int .u64 p, .int .u64 q, .int .u64 0, .int .u64 0, .int .u64 0] 110)) w.heap.size 110 .u64 [p, q, 0, 0, 0] := heap_alloc_new w _
theorem tk_a {w : World} {p q r s : Nat} (o : Obj) (hp : p < 18446744073709551616) (hq : q < 18446744073709551616) (hr : r < 18446744073709551616) (hs : s < 18446744073709551616) :
    TkCut w p q r s (.pointer (some ⟨w.heap.size + 1, 0, none⟩)) (.pointer (some ⟨w.heap.size + 1 + 1, 0, none⟩)) (((w.alloc o).alloc (.cells #[.int .u64 p, .int .u64 q, .int .u64 0, .int .u64 0, .int .u64 0] 110)).alloc (.cells #[.int .u64 s, .int .u64 r, .int .u64 0, .int .u64 0, .int .u64 0] 110)).drew := by
  have e1 : (w.alloc o).heap.size = w.heap.size + 1 := by simp
  have e2 : ((w.alloc o).alloc (.cells #[.int .u64 p, .int .u64 q, .int .u64 0, .int .u64 0, .int .u64 0] 110)).heap.size = w.heap.size + 1 + 1 := by simp
  have b1 := (tk_blk (w.alloc o) p q).alloc (.cells #[.int .u64 s, .int .u64 r, .int .u64 0, .int .u64 0, .int .u64 0] 110)
  have b2 := tk_blk ((w.alloc o).alloc (.cells #[.int .u64 p, .int .u64 q, .int .u64 0, .int .u64 0, .int .u64 0] 110)) s r
  rw [e1] at b1
  rw [e2] at b2
  exact ⟨_, _, rfl, rfl, by omega, by omega, by omega, ⟨b1.drew, low5 hp hq⟩, ⟨b2.drew, low5 hs hr⟩, ((((Below.refl _ _).alloc (Nat.le_refl _) _).alloc (by simp) _).alloc (by simp; omega) _).drew⟩
theorem tk_b {w : World} {p q r s : Nat} (o : Obj) (hp : p < 18446744073709551616) (hq : q < 18446744073709551616) (hr : r < 18446744073709551616) (hs : s < 18446744073709551616) :
    TkCut w p q r s (.pointer (some ⟨w.heap.size + 1 + 1, 0, none⟩)) (.pointer (some ⟨w.heap.size + 1, 0, none⟩)) (((w.alloc o).alloc (.cells #[.int .u64 s, .int .u64 r, .int .u64 0, .int .u64 0, .int .u64 0] 110)).alloc (.cells #[.int .u64 p, .int .u64 q, .int .u64 0, .int .u64 0, .int .u64 0] 110)).drew := by
  obtain ⟨h1, h2, e1, e2, a1, a2, a3, a4, a5, a6⟩ := tk_a (w := w) (p := s) (q := r) (r := q) (s := p) o hs hr hq hp
  exact ⟨h2, h1, e2, e1, fun h => a1 h.symm, a3, a2, a5, a4, a6⟩

/-- The places that take may write. -/
def Tk2 (w : World) (g1 g2 : Nat) (a : Addr) : Prop := a.block = g1 ∨ a.block = g2 ∨ w.heap.size ≤ a.block
/-- What take leaves. -/
def TkPost (w : World) (base g1 g2 n D1 D2 : Nat) (La Lb : List Nat) (e : Ending) (w' : World) : Prop :=
  ∃ us1 us2 : List Nat, e = .returned (.tuple #[]) ∧ us1.length = n ∧ us2.length = n ∧ Hid (ev 18446744073709551616 us1 = D1) ∧ Hid (ev 18446744073709551616 us2 = D2) ∧
    Wb w' g1 55 (us1 ++ La.drop n) ∧ Wb w' g2 55 (us2 ++ Lb.drop n) ∧ Below base w w' ∧ Tch (Tk2 w g1 g2) w w'
/-- The loop of take: k words are done. -/
def TkRel (w : World) (base g1 g2 h1 h2 p q r s : Nat) (La Lb : List Nat) (k : Nat) (wr : World) : Prop :=
  ∃ (us1 us2 : List Nat) (m1 l1 o1 m2 l2 o2 : Nat), Diffing 18446744073709551616 La Lb us1 p q k m1 l1 o1 ∧ Diffing 18446744073709551616 Lb La us2 s r k m2 l2 o2 ∧ o1 ≤ 1 ∧ o2 ≤ 1 ∧
    Wb wr g1 55 (us1 ++ La.drop k) ∧ Wb wr g2 55 (us2 ++ Lb.drop k) ∧ Wb wr h1 110 [p, q, m1, l1, o1] ∧ Wb wr h2 110 [s, r, m2, l2, o2] ∧ Tch (Tk2 w g1 g2) w wr
/-- The places that take works in. -/
structure TkIn (w : World) (base g1 g2 h1 h2 : Nat) : Prop where
  b1 : base ≤ g1
  b2 : base ≤ g2
  b3 : base ≤ h1
  b4 : base ≤ h2
  d1 : g1 ≠ g2
  d2 : g1 ≠ h1
  d3 : g1 ≠ h2
  d4 : g2 ≠ h1
  d5 : g2 ≠ h2
  d6 : h1 ≠ h2
  s0 : base ≤ w.heap.size
  s1 : w.heap.size ≤ h1
  s2 : w.heap.size ≤ h2
theorem TkIn.below {w w' : World} {base g1 g2 h1 h2 : Nat} (k : TkIn w base g1 g2 h1 h2) (h : Tch (Tk2 w g1 g2) w w') : Below base w w' :=
  h.below k.s0 fun a ha => by
    rcases ha with h | h | h
    · rw [h]; exact k.b1
    · rw [h]; exact k.b2
    · exact Nat.le_trans k.s0 h

set_option maxRecDepth 100000 in
set_option maxHeartbeats 2000000 in
theorem jtake_calls (w : World) (base g1 g2 n c1 c2 p q r s D1 D2 : Nat) (La Lb : List Nat) (W1 : Wb w g1 55 La) (W2 : Wb w g2 55 Lb) (hg : g1 ≠ g2) (hb1 : base ≤ g1) (hb2 : base ≤ g2) (n1 : n ≤ La.length) (n2 : n ≤ Lb.length)
    (hm : n ≤ 1099511627776) (hp : p < 18446744073709551616) (hq : q < 18446744073709551616) (hr : r < 18446744073709551616) (hs : s < 18446744073709551616)
    (E1 : pre 18446744073709551616 La n * p = pre 18446744073709551616 Lb n * q + D1) (F1 : D1 < 18446744073709551616 ^ n) (E2 : pre 18446744073709551616 Lb n * s = pre 18446744073709551616 La n * r + D2) (F2 : D2 < 18446744073709551616 ^ n) :
    Calls Tryz.prog 78 #[.agg #[.int .u64 p, .int .u64 q, .int .u64 r, .int .u64 s], .slice (some ⟨g1, 0, none⟩) n c1, .slice (some ⟨g2, 0, none⟩) n c2] w (TkPost w base g1 g2 n D1 D2 La Lb) := by
  have HE1 := Lib.hid E1
  have HE2 := Lib.hid E2
  have HF1 := Lib.hid F1
  have HF2 := Lib.hid F2
  clear E1 E2 F1 F2
  go_enter Tryz.func78, Tryz.ntmps78
  go_upto_region 1 with fail
  go_cut [6, 7] (TkCut w p q r s)
  case first =>
    clear HE1 HE2 HF1 HF2 W1 W2 hg hb1 hb2 n1 n2 hm
    go_region
    all_goals
      go_wp2_with fail
      go_meet
      first
        | exact tk_a _ hp hq hr hs
        | exact tk_b _ hp hq hr hs
  case rest =>
    obtain ⟨h1, h2, rfl, rfl, hh, hh1, hh2, V1, V2, B0⟩ := hcut
    have lt1 := W1.1.lt
    have lt2 := W2.1.lt
    have I := Lib.hid (show TkIn w base g1 g2 h1 h2 from ⟨hb1, hb2, by omega, by omega, hg, by omega, by omega, by omega, by omega, hh, by omega, hh1, hh2⟩)
    have W1' : Wb wc g1 55 La := ⟨W1.1.below B0 lt1, W1.2⟩
    have W2' : Wb wc g2 55 Lb := ⟨W2.1.below B0 lt2, W2.2⟩
    have lLa := W1.2
    have lLb := W2.2
    have BB : Tch (Tk2 w g1 g2) w wc := Tch.of_below _ B0
    clear W1 W2 B0 hh hh1 hh2 hg lt1 lt2
    go_wp2_with fail
    go_loopw [23] (fun i wr => ∃ k : Nat, k ≤ n ∧ i = .int .i64 k ∧ TkRel w base g1 g2 h1 h2 p q r s La Lb k wr) (fun i _ => n - (intOf i).toNat)
    case atStart => exact ⟨0, Nat.zero_le _, rfl, [], [], 0, 0, 0, 0, 0, 0, Diffing.start _ _ _ _ _, Diffing.start _ _ _ _ _, by omega, by omega, by simpa using W1', by simpa using W2', V1, V2, BB⟩
    case round =>
      clear W1' W2' V1 V2 BB
      obtain ⟨k, hk, rfl, us1, us2, m1, l1, o1, m2, l2, o2, d1, d2, ho1, ho2, W1, W2, V1, V2, BB⟩ := hrel
      by_cases hlt : k < n
      · have cs1 := W1.1.cell (j := k) (by rw [len_front d1.1 (by omega)]; omega)
        rw [nth_front d1.1] at cs1
        have cs2 := W2.1.cell (j := k) (by rw [len_front d2.1 (by omega)]; omega)
        rw [nth_front d2.1] at cs2
        have x1 := lLa.any (by omega) k
        have x2 := lLb.any (by omega) k
        have HW1 := Lib.hid W1
        have HW2 := Lib.hid W2
        have HD1 := Lib.hid d1
        have HD2 := Lib.hid d2
        have HBB := Lib.hid BB
        clear W1 W2 d1 d2 BB
        go_wp2_with fail
        refine (diff_calls _ h1 p q m1 l1 o1 _ _ V1 ho1 x1 x2).mono ?_
        rintro e w2 ⟨z1, m1', l1', o1', rfl, hz1, he1, hm1, hl1, hoo1, V1', T1, Z1⟩
        have V2' := V2.tch T1 fun j _ h => I.out.d6 h.symm
        have W1 := HW1.out.tch T1 fun j _ h => I.out.d2 h
        have W2 := HW2.out.tch T1 fun j _ h => I.out.d4 h
        have HT1 := Lib.hid T1
        have HZ1 := Lib.hid Z1
        have HWa := Lib.hid W1
        have HWb := Lib.hid W2
        clear V1 V2 cs1 cs2 T1 Z1 W1 W2 HW1 HW2
        go_wp2_with fail
        refine (diff_calls _ h2 s r m2 l2 o2 _ _ V2' ho2 x2 x1).mono ?_
        rintro e w3 ⟨z2, m2', l2', o2', rfl, hz2, he2, hm2, hl2, hoo2, V2'', T2, Z2⟩
        have V1'' := V1'.tch T2 fun j _ h => I.out.d6 h
        have W1 := HWa.out.tch T2 fun j _ h => I.out.d3 h
        have W2 := HWb.out.tch T2 fun j _ h => I.out.d5 h
        have cs1 := W1.1.cell (j := k) (by rw [len_front HD1.out.1 (by omega)]; omega)
        have cf1 := W1.1.free k
        obtain ⟨T3, X1⟩ := Tch.store (S := fun a => a.block = g1) W1 k hz1 rfl
        rw [set_front HD1.out.1 (by omega)] at X1
        have X2 := W2.tch T3 fun j _ h => I.out.d1 h.symm
        have cs2 := X2.1.cell (j := k) (by rw [len_front HD2.out.1 (by omega)]; omega)
        have cf2 := X2.1.free k
        obtain ⟨T4, Y2⟩ := Tch.store (S := fun a => a.block = g2) X2 k hz2 rfl
        rw [set_front HD2.out.1 (by omega)] at Y2
        have Y1 := X1.tch T4 fun j _ h => I.out.d1 h
        have U1 := (V1''.tch T3 fun j _ h => I.out.d2 h.symm).tch T4 fun j _ h => I.out.d4 h.symm
        have U2 := (V2''.tch T3 fun j _ h => I.out.d3 h.symm).tch T4 fun j _ h => I.out.d5 h.symm
        have BB2 : Hid (Tch (Tk2 w g1 g2) w ((w3.setCell ⟨g1, k, none⟩ (.int .u64 (z1 : Int))).setCell ⟨g2, k, none⟩ (.int .u64 (z2 : Int)))) := Lib.hid (by
          have b1 := HT1.out.mono (S := Tk2 w g1 g2) fun a _ h => .inr (.inr (by rw [h]; exact I.out.s1))
          have b2 := T2.mono (S := Tk2 w g1 g2) fun a _ h => .inr (.inr (by rw [h]; exact I.out.s2))
          have b3 := T3.mono (S := Tk2 w g1 g2) fun a _ h => .inl h
          have b4 := T4.mono (S := Tk2 w g1 g2) fun a _ h => .inr (.inl h)
          exact (((HBB.out.trans b1).trans b2).trans b3).trans b4)
        have R : Hid (TkRel w base g1 g2 h1 h2 p q r s La Lb (k + 1) ((w3.setCell ⟨g1, k, none⟩ (.int .u64 (z1 : Int))).setCell ⟨g2, k, none⟩ (.int .u64 (z2 : Int)))) :=
          Lib.hid ⟨_, _, _, _, _, _, _, _, HD1.out.step hz1 he1.out, HD2.out.step hz2 he2.out, hoo1, hoo2, Y1, Y2, U1, U2, BB2.out⟩
        clear V1' V2' V1'' V2'' W1 W2 X1 X2 Y1 Y2 U1 U2 T2 T3 T4 Z2
        go_wp2_with fail
        go_roundw
        case rel => exact ⟨k + 1, by omega, by go_num, R.out⟩
        case measure => simp [intOf]; omega
      · obtain rfl : k = n := by omega
        have P : Hid (TkPost w base g1 g2 k D1 D2 La Lb (.returned (.tuple #[])) wr) := Lib.hid ⟨us1, us2, rfl, d1.1, d2.1, Lib.hid (d1.stop (by omega) HE1.out HF1.out), Lib.hid (d2.stop (by omega) HE2.out HF2.out), W1, W2, I.out.below BB, BB⟩
        clear d1 d2 W1 W2 V1 V2 BB hlt
        go_wp2_with fail
        go_end0
        exact P.out
end Go.Proofs.YtfpncmhaoadfdaaGreat
