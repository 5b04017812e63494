/-
  The reference of layer 5: norm, From, Is, Sign, Neg, Abs, Add, Sub, Mul, Cmp.
-/
import Derived.Test.YtfdgblmegiehnaaDoorZintB
import Derived.Test.YtfdgblmegiehnaaDoorRefA
/-! Contracts: quincunxref05. -/
namespace Go.Proofs.YtfdgblmegiehnaaDoor
open Go.RowKit
set_option linter.unusedVariables false
set_option linter.unusedSimpArgs false

/-- The struct of s and the digits (A, n, c) is the whole number z. -/
def Rz (w : World) (s : Bool) (A : Option Addr) (n c : Nat) (z : Int) : Prop := Dv w A n c z.natAbs ∧ Hid (s = decide (z < 0))
theorem Rz.below {w w' : World} {s : Bool} {A : Option Addr} {n c : Nat} {z : Int} (h : Rz w s A n c z) (hb : Below w.heap.size w w') : Rz w' s A n c z := ⟨h.1.below hb, h.2⟩
theorem sgn_eq {s : Bool} {z : Int} (h : s = decide (z < 0)) : z = sg s z.natAbs := by
  rw [h]
  by_cases hz : z < 0
  · simp [sg, hz]; omega
  · simp [sg, hz]; omega
theorem Rz.abs {w : World} {s : Bool} {A : Option Addr} {n c : Nat} {z : Int} (h : Rz w s A n c z) : Dv w A n c z.natAbs ∧ Hid (z = sg s z.natAbs) := ⟨h.1, Lib.hid (sgn_eq h.2.out)⟩
theorem Rz.up {W w : World} {s : Bool} {A : Option Addr} {n c : Nat} {z : Int} (h : Rz w s A n c z) (hb : Below w.heap.size w W) : Dv W A n c z.natAbs ∧ Hid (z = sg s z.natAbs) := (h.below hb).abs
theorem Dv.other {w : World} {A : Option Addr} {n c x : Nat} {p : Addr} {u v : Value} (h : Dv w A n c x) (hp : w.cell? p = some u) (hu : ∀ m, u ≠ .int .i64 m) : Dv (w.setCell p v) A n c x := ⟨h.1.other hp hu, h.2⟩
theorem Dv.put {w : World} {A A' B : Option Addr} {n c v g n' c' m d : Nat} {s t : Bool} (h : Dv w A n c v) (hi : Ib w g t B m d) : Dv (zput w g s A' n' c') A n c v := by
  obtain ⟨h1, h2, h3, h4, h5⟩ := hi
  refine (h.other h1 (fun m e => by cases e)).other (u := .slice B m d) ?_ (fun m e => by cases e)
  rw [World.cell?_setCell_other (h := by simp)]
  exact h2
theorem Rz.put {w : World} {A A' B : Option Addr} {n c g n' c' m d : Nat} {s s' t : Bool} {z : Int} (h : Rz w s A n c z) (hi : Ib w g t B m d) : Rz (zput w g s' A' n' c') s A n c z := ⟨h.1.put hi, h.2⟩
/-- A whole number of the reference is answered: of at most k digits. -/
def RzPost (z : Int) (k : Nat) (w : World) (e : Ending) (w' : World) : Prop :=
  ∃ s A n c, e = .returned (.agg #[.bool s, .slice A n c]) ∧ Rz w' s A n c z ∧ n ≤ k ∧ Below w.heap.size w w'
theorem rfin {w w2 : World} {A B : Option Addr} {n c g k m d : Nat} {s t : Bool} {z : Int} (h : Rz w2 s A n c z) (hi : Ib w2 g t B m d) (hk : n ≤ k) (hg : w.heap.size ≤ g) (hB : Below w.heap.size w w2) :
    RzPost z k w (.returned (.agg #[.bool s, .slice A n c])) ((w2.setCell ⟨g, 0, none⟩ (.bool s)).setCell ⟨g, 1, none⟩ (.slice A n c)) :=
  ⟨s, A, n, c, rfl, h.put hi, hk, below_put hB hg⟩
/-- A struct, and a result, in new memory. -/
theorem opent1 (w : World) (s : Bool) (A : Option Addr) (n c : Nat) (T U : TypeId) :
    ∃ w3, w3 = ((w.alloc (.cells #[.bool s, .slice A n c] T)).alloc (.cells #[.bool false, .slice none 0 0] U)) ∧
      Ib w3 w.heap.size s A n c ∧ Ib w3 (w.heap.size + 1) false none 0 0 ∧ Below w.heap.size w w3 := by
  refine ⟨_, rfl, (Ib.new w s A n c _).below (zba _ _), ?_, zba2 _ _ _⟩
  have := Ib.new (w.alloc (.cells #[.bool s, .slice A n c] T)) false none 0 0 U
  simpa using this
/-- Two structs in new memory. -/
theorem opent2 (w : World) (s t : Bool) (A B : Option Addr) (n c m d : Nat) (T U : TypeId) :
    ∃ w3, w3 = ((w.alloc (.cells #[.bool s, .slice A n c] T)).alloc (.cells #[.bool t, .slice B m d] U)) ∧
      Ib w3 w.heap.size s A n c ∧ Ib w3 (w.heap.size + 1) t B m d ∧ Below w.heap.size w w3 := by
  refine ⟨_, rfl, (Ib.new w s A n c _).below (zba _ _), ?_, zba2 _ _ _⟩
  have := Ib.new (w.alloc (.cells #[.bool s, .slice A n c] T)) t B m d U
  simpa using this
/-- Two structs, and a result, in new memory. -/
theorem opent3 (w : World) (s t : Bool) (A B : Option Addr) (n c m d : Nat) (T : TypeId) :
    ∃ w3, w3 = (((w.alloc (.cells #[.bool s, .slice A n c] T)).alloc (.cells #[.bool t, .slice B m d] T)).alloc (.cells #[.bool false, .slice none 0 0] T)) ∧
      Ib w3 w.heap.size s A n c ∧ Ib w3 (w.heap.size + 1) t B m d ∧ Ib w3 (w.heap.size + 1 + 1) false none 0 0 ∧ Below w.heap.size w w3 := by
  obtain ⟨w2, hw2, IA, IB, z⟩ := opent2 w s t A B n c m d T T
  have e1 : w2.heap.size = w.heap.size + 1 + 1 := by rw [hw2]; simp
  refine ⟨w2.alloc (.cells #[.bool false, .slice none 0 0] T), by rw [hw2], IA.below (zba _ _), IB.below (zba _ _), ?_, zup z (zba _ _)⟩
  rw [← e1]
  exact Ib.new _ _ _ _ _ _
theorem Dv.pos {w : World} {A : Option Addr} {n c v : Nat} (h : Dv w A n c v) : decide (0 < n) = decide (0 < v) := by
  have e := h.2.1
  rw [decide_eq_decide]
  constructor
  · intro h1
    rcases Nat.eq_zero_or_pos v with h2 | h2
    · rw [h2, cn_zero] at e; simp at e; omega
    · exact h2
  · intro h1
    rcases Nat.eq_zero_or_pos n with h2 | h2
    · have := (cn_nil_iff 65536 v (by omega)).1 (by omega); omega
    · exact h2
theorem rtrim_v {A : Option Addr} {n c v : Nat} {w : World} (h : Dv w A n c v) :
    Calls Tryd.prog 66 #[.slice A n c] w fun e w' => e = .returned (.slice A n c) ∧ w = w' := by
  have e : sl (cn 65536 v) = n := by rw [sl_cn _ _ (by omega)]; exact h.2.1
  refine (rtrim_calls A n c _ w h.1 h.2.1 h.2.2.1 h.2.2.2).mono ?_
  rw [e]
  exact fun _ _ k => k
/-- quincunxref05.norm. -/
theorem rnorm_calls {A : Option Addr} {n c v : Nat} {b s : Bool} {w : World} (h : Dv w A n c v) (hs : (b && decide (0 < n)) = s) :
    Calls Tryd.prog 46 #[.agg #[.bool b, .slice A n c]] w fun e w' => e = .returned (.agg #[.bool s, .slice A n c]) ∧ Below w.heap.size w w' := by
  obtain ⟨w3, hw3, IA, IR, z0⟩ := opent1 w b A n c 60 60
  have h1 := h.below z0
  have HW := Lib.hid hw3.symm
  have P : ∀ s, Hid (Below w.heap.size w (zput w3 (w.heap.size + 1) s A n c)) := fun s => Lib.hid (below_put z0 (by omega))
  have HP := Lib.hid P
  clear h z0 hw3 P
  obtain ⟨a1, a2, a3, a4, a5⟩ := IA
  obtain ⟨r1, r2, r3, r4, r5⟩ := IR
  have hcase : (b = false ∧ s = false) ∨ (b = true ∧ 0 < n ∧ s = true) ∨ (b = true ∧ n = 0 ∧ s = false) := by
    cases b
    · exact .inl ⟨rfl, by rw [← hs]; rfl⟩
    · by_cases h : 0 < n
      · exact .inr (.inl ⟨rfl, h, by rw [← hs]; simp [h]⟩)
      · exact .inr (.inr ⟨rfl, by omega, by rw [← hs]; simp [h]⟩)
  clear hs
  rcases hcase with ⟨rfl, rfl⟩ | ⟨rfl, h, rfl⟩ | ⟨rfl, rfl, rfl⟩
  · go_enter Tryd.func46, Tryd.ntmps46
    go_wp2_with fail
    rw [HW.out]
    refine (rtrim_v h1).mono ?_
    rintro e w' ⟨rfl, rfl⟩
    go_wp2_with fail
    exact bodyPost_ret (v := .agg #[.bool false, .slice A n c]) (by simp [results, Tryd.results46, go_sem, r1, r2]) rfl ⟨rfl, (HP.out false).out⟩
  · go_enter Tryd.func46, Tryd.ntmps46
    go_wp2_with fail
    rw [HW.out]
    refine (rtrim_v h1).mono ?_
    rintro e w' ⟨rfl, rfl⟩
    go_wp2_with fail
    exact bodyPost_ret (v := .agg #[.bool true, .slice A n c]) (by simp [results, Tryd.results46, go_sem, r1, r2]) rfl ⟨rfl, (HP.out true).out⟩
  · go_enter Tryd.func46, Tryd.ntmps46
    go_wp2_with fail
    rw [HW.out]
    refine (rtrim_v h1).mono ?_
    rintro e w' ⟨rfl, rfl⟩
    go_wp2_with fail
    exact bodyPost_ret (v := .agg #[.bool false, .slice A 0 c]) (by simp [results, Tryd.results46, go_sem, r1, r2]) rfl ⟨rfl, (HP.out false).out⟩
theorem rnorm_v {A : Option Addr} {n c v : Nat} {b : Bool} {w : World} (h : Dv w A n c v) :
    Calls Tryd.prog 46 #[.agg #[.bool b, .slice A n c]] w (RzPost (sg b v) n w) := by
  refine (rnorm_calls h (b := b) (s := decide (sg b v < 0)) (by rw [sg_neg, h.pos])).mono ?_
  rintro e w' ⟨rfl, hB⟩
  refine ⟨_, A, n, c, rfl, ⟨?_, Lib.hid rfl⟩, Nat.le_refl _, hB⟩
  rw [sg_abs]
  exact h.below hB
/-- quincunxref05.Neg. -/
theorem rneg_v {A : Option Addr} {n c : Nat} {s : Bool} {z : Int} {w : World} (h : Rz w s A n c z) :
    Calls Tryd.prog 49 #[.agg #[.bool s, .slice A n c]] w (RzPost (-z) n w) := by
  obtain ⟨w3, hw3, IA, IR, z0⟩ := opent1 w s A n c 60 60
  obtain ⟨h1, h2⟩ := h.up z0
  have HZ := Lib.hid z0
  have HW := Lib.hid hw3.symm
  have HR := Lib.hid IR
  have hs : sg (!s) z.natAbs = -z := by rw [sg_not]; exact congrArg _ h2.out.symm
  have HS := Lib.hid hs
  clear h z0 hw3 h2 hs IR
  obtain ⟨a1, a2, a3, a4, a5⟩ := IA
  go_enter Tryd.func49, Tryd.ntmps49
  go_wp2_with fail
  rw [HW.out]
  refine (rnorm_v h1).mono ?_
  rintro e w4 ⟨s4, A4, n4, c4, rfl, p4, k4, B4⟩
  rw [HS.out] at p4
  obtain ⟨r1, r2, r3, r4, r5⟩ := HR.out.below B4
  have P := Lib.hid (rfin p4 ⟨r1, r2, r3, r4, r5⟩ (k := n) (by omega) (by omega) (zup HZ.out B4))
  clear p4 B4 a1 a2 a3 a4 a5 h1
  go_wp2_with fail
  exact bodyPost_ret (v := .agg #[.bool s4, .slice A4 n4 c4]) (by simp [results, Tryd.results49, go_sem, r1, r2]) rfl P.out
/-- quincunxref05.Sign. -/
theorem rsign_v {A : Option Addr} {n c : Nat} {s : Bool} {z r : Int} {w : World} (h : Rz w s A n c z) (hr : z.sign = r) :
    Calls Tryd.prog 35 #[.agg #[.bool s, .slice A n c]] w (IPost r w) := by
  have HZ := Lib.hid (zba w (.cells #[.bool s, .slice A n c] 60))
  have e := sgn_eq h.2.out
  have hp := h.1.pos
  rw [decide_eq_decide] at hp
  have hm : n ≤ 9223372036854775807 := by have := h.1.2.2; omega
  have hcase : (n = 0 ∧ r = 0) ∨ (0 < n ∧ s = false ∧ r = 1) ∨ (0 < n ∧ s = true ∧ r = -1) := by
    rcases Nat.eq_zero_or_pos n with h0 | h0
    · have hz : z = 0 := by omega
      exact .inl ⟨h0, by rw [← hr, hz]; rfl⟩
    · have hz : 0 < z.natAbs := hp.1 h0
      cases s
      · simp [sg] at e
        exact .inr (.inl ⟨h0, rfl, by rw [← hr]; exact Int.sign_eq_one_of_pos (by omega)⟩)
      · simp [sg] at e
        exact .inr (.inr ⟨h0, rfl, by rw [← hr]; exact Int.sign_eq_neg_one_of_neg (by omega)⟩)
  clear h e hp hr
  rcases hcase with ⟨rfl, rfl⟩ | ⟨h0, rfl, rfl⟩ | ⟨h0, rfl, rfl⟩
  all_goals
    go_enter Tryd.func35, Tryd.ntmps35
    go_wp2_with fail
    go_ret
    exact ⟨rfl, HZ.out⟩

set_option maxHeartbeats 400000 in
theorem rmul2_v {A B : Option Addr} {n m c d : Nat} {s t : Bool} {x y : Int} {w : World} (hx : Rz w s A n c x) (hy : Rz w t B m d y) (hn : n ≤ 1099511627776) (hm : m ≤ 1099511627776) :
    Calls Tryd.prog 47 #[.agg #[.bool s, .slice A n c], .agg #[.bool t, .slice B m d]] w (RzPost (x * y) (n + m) w) := by
  obtain ⟨w3, hw3, IA, IB, IR, z0⟩ := opent3 w s t A B n c m d 60
  obtain ⟨hx1, ex⟩ := hx.up z0
  obtain ⟨hy1, ey⟩ := hy.up z0
  have HZ := Lib.hid z0
  obtain ⟨b, hb⟩ : ∃ b, (!(s == t)) = b := ⟨_, rfl⟩
  have hs : sg b (x.natAbs * y.natAbs) = x * y := by rw [← hb, sg_mul, ← ex.out, ← ey.out]
  have HS := Lib.hid hs
  have HW := Lib.hid hw3.symm
  clear hx hy ex ey hs z0 hw3
  have HA := Lib.hid IA
  have HB := Lib.hid IB
  have HR := Lib.hid IR
  have hX := Lib.hid hx1
  have hY := Lib.hid hy1
  obtain ⟨a1, a2, a3, a4, a5⟩ := IA
  obtain ⟨b1, b2, b3, b4, b5⟩ := IB
  clear IR
  have n1 : ¬ (w.heap.size + 1 + 1 = w.heap.size) := by omega
  have n2 : ¬ (w.heap.size = w.heap.size + 1 + 1) := by omega
  go_enter Tryd.func47, Tryd.ntmps47
  go_wp2_with fail
  rw [HW.out]
  have QW := below_drew w3
  go_region_held3 (fun w' => w'.cell? ⟨w.heap.size, 0, none⟩ = some (.bool s) ∧ w'.cell? ⟨w.heap.size, 1, none⟩ = some (.slice A n c) ∧ w'.cell? ⟨w.heap.size + 1, 0, none⟩ = some (.bool t) ∧ w'.cell? ⟨w.heap.size + 1, 1, none⟩ = some (.slice B m d)) (go_keep) (first
    | (go_at_call 67; refine (rmul_v (x := x.natAbs) (y := y.natAbs) (hX.out.below QW) (hY.out.below QW) hn hm).mono ?_; rintro e w4 ⟨A4, n4, c4, rfl, p4, k4, B4⟩; have Q4 := zup QW B4; obtain ⟨u1, u2, _⟩ := HA.out.below Q4; obtain ⟨u4, u3, _⟩ := HB.out.below Q4)
    | (go_at_call 46; refine (rnorm_v p4).mono ?_; rintro e w5 ⟨s5, A5, n5, c5, rfl, p5, k5, B5⟩; have Q5 := zup Q4 B5; obtain ⟨v1, v2, _⟩ := HA.out.below Q5; obtain ⟨v4, v3, _⟩ := HB.out.below Q5; obtain ⟨r1, r2, r3, r4, r5⟩ := HR.out.below Q5))
  rw [HS.out] at p5
  have P := Lib.hid (rfin p5 ⟨r1, r2, r3, r4, r5⟩ (k := n + m) (by omega) (by omega) (zup HZ.out Q5))
  clear p4 p5 B4 B5 Q4 Q5 k4 k5 QW
  go_wp2_with fail
  exact bodyPost_ret (v := .agg #[.bool s5, .slice A5 n5 c5]) (by simp [results, Tryd.results47, go_sem, r1, r2]) rfl P.out

set_option maxHeartbeats 400000 in
theorem radd_same {A B : Option Addr} {n m c d : Nat} {s t : Bool} {x y : Int} {w : World} (hx : Rz w s A n c x) (hy : Rz w t B m d y) (hn : n ≤ 1099511627776) (hm : m ≤ 1099511627776) (hst : (s == t) = true) :
    Calls Tryd.prog 48 #[.agg #[.bool s, .slice A n c], .agg #[.bool t, .slice B m d]] w (RzPost (x + y) (max n m + 1) w) := by
  obtain ⟨w3, hw3, IA, IB, IR, z0⟩ := opent3 w s t A B n c m d 60
  obtain ⟨hx1, ex⟩ := hx.up z0
  obtain ⟨hy1, ey⟩ := hy.up z0
  have HZ := Lib.hid z0
  have hst' : s = t := by simpa using hst
  have hs : sg s (x.natAbs + y.natAbs) = x + y := by rw [ex.out, ey.out, ← hst']; cases s <;> simp [sg] <;> omega
  clear hst'
  have HS := Lib.hid hs
  have HW := Lib.hid hw3.symm
  clear hx hy ex ey hs z0 hw3
  have HA := Lib.hid IA
  have HB := Lib.hid IB
  have HR := Lib.hid IR
  have hX := Lib.hid hx1
  have hY := Lib.hid hy1
  obtain ⟨a1, a2, a3, a4, a5⟩ := IA
  obtain ⟨b1, b2, b3, b4, b5⟩ := IB
  clear IR
  have n1 : ¬ (w.heap.size + 1 + 1 = w.heap.size) := by omega
  have n2 : ¬ (w.heap.size = w.heap.size + 1 + 1) := by omega
  go_enter Tryd.func48, Tryd.ntmps48
  go_wp2_with fail
  rw [HW.out]
  have QW := below_drew w3
  go_region_held3 (fun w' => w'.cell? ⟨w.heap.size, 0, none⟩ = some (.bool s) ∧ w'.cell? ⟨w.heap.size, 1, none⟩ = some (.slice A n c) ∧ w'.cell? ⟨w.heap.size + 1, 0, none⟩ = some (.bool t) ∧ w'.cell? ⟨w.heap.size + 1, 1, none⟩ = some (.slice B m d)) (go_keep) (first
    | (go_at_call 62; refine (radd_v (x := x.natAbs) (y := y.natAbs) (hX.out.below QW) (hY.out.below QW) (by omega) (by omega)).mono ?_; rintro e w4 ⟨A4, n4, c4, rfl, p4, k4, B4⟩; have Q4 := zup QW B4; obtain ⟨u1, u2, _⟩ := HA.out.below Q4; obtain ⟨u4, u3, _⟩ := HB.out.below Q4)
    | (go_at_call 46; refine (rnorm_v p4).mono ?_; rintro e w5 ⟨s5, A5, n5, c5, rfl, p5, k5, B5⟩; have Q5 := zup Q4 B5; obtain ⟨v1, v2, _⟩ := HA.out.below Q5; obtain ⟨v4, v3, _⟩ := HB.out.below Q5; obtain ⟨r1, r2, r3, r4, r5⟩ := HR.out.below Q5))
  rw [HS.out] at p5
  have P := Lib.hid (rfin p5 ⟨r1, r2, r3, r4, r5⟩ (k := max n m + 1) (by omega) (by omega) (zup HZ.out Q5))
  clear p4 p5 B4 B5 Q4 Q5 k4 k5 QW
  go_wp2_with fail
  exact bodyPost_ret (v := .agg #[.bool s5, .slice A5 n5 c5]) (by simp [results, Tryd.results48, go_sem, r1, r2]) rfl P.out

set_option maxHeartbeats 400000 in
theorem radd_ge {A B : Option Addr} {n m c d : Nat} {s t : Bool} {x y : Int} {w : World} (hx : Rz w s A n c x) (hy : Rz w t B m d y) (hn : n ≤ 1099511627776) (hm : m ≤ 1099511627776) (hst : (s == t) = false) (hle : y.natAbs ≤ x.natAbs) :
    Calls Tryd.prog 48 #[.agg #[.bool s, .slice A n c], .agg #[.bool t, .slice B m d]] w (RzPost (x + y) (max n m + 1) w) := by
  obtain ⟨w3, hw3, IA, IB, IR, z0⟩ := opent3 w s t A B n c m d 60
  obtain ⟨hx1, ex⟩ := hx.up z0
  obtain ⟨hy1, ey⟩ := hy.up z0
  have HZ := Lib.hid z0
  have hst' : t = !s := by cases s <;> cases t <;> simp at *
  have hs : sg s (x.natAbs - y.natAbs) = x + y := by rw [ex.out, ey.out, hst']; cases s <;> simp [sg] <;> omega
  clear hst'
  obtain ⟨rc, hrc⟩ : ∃ r, cmpN x.natAbs y.natAbs = r := ⟨_, rfl⟩
  have hr0 : 0 ≤ rc := by
    rw [← hrc]
    rcases Nat.lt_or_eq_of_le hle with h | h
    · rw [cmpN_gt h]; omega
    · rw [cmpN_eq h.symm]; omega
  have HC := Lib.hid hrc
  clear hrc
  have HS := Lib.hid hs
  have HW := Lib.hid hw3.symm
  clear hx hy ex ey hs z0 hw3
  have HA := Lib.hid IA
  have HB := Lib.hid IB
  have HR := Lib.hid IR
  have hX := Lib.hid hx1
  have hY := Lib.hid hy1
  obtain ⟨a1, a2, a3, a4, a5⟩ := IA
  obtain ⟨b1, b2, b3, b4, b5⟩ := IB
  clear IR
  have n1 : ¬ (w.heap.size + 1 + 1 = w.heap.size) := by omega
  have n2 : ¬ (w.heap.size = w.heap.size + 1 + 1) := by omega
  go_enter Tryd.func48, Tryd.ntmps48
  go_wp2_with fail
  rw [HW.out]
  refine (rcmp_v hx1 hy1 HC.out).mono ?_
  rintro e w9 ⟨rfl, B9⟩
  clear a1 a2 a3 a4 a5 b1 b2 b3 b4 b5 hx1 hy1
  obtain ⟨a1, a2, a3, a4, a5⟩ := HA.out.below B9
  obtain ⟨b1, b2, b3, b4, b5⟩ := HB.out.below B9
  go_wp2_with fail
  have QW := zup B9 (below_drew w9)
  go_region_held3 (fun w' => w'.cell? ⟨w.heap.size, 0, none⟩ = some (.bool s) ∧ w'.cell? ⟨w.heap.size, 1, none⟩ = some (.slice A n c) ∧ w'.cell? ⟨w.heap.size + 1, 0, none⟩ = some (.bool t) ∧ w'.cell? ⟨w.heap.size + 1, 1, none⟩ = some (.slice B m d)) (go_keep) (first
    | (go_at_call 65; refine (rsub_v (x := x.natAbs) (y := y.natAbs) (hX.out.below QW) (hY.out.below QW) (by omega) hle).mono ?_; rintro e w4 ⟨A4, n4, c4, rfl, p4, k4, B4⟩; have Q4 := zup QW B4; obtain ⟨u1, u2, _⟩ := HA.out.below Q4; obtain ⟨u4, u3, _⟩ := HB.out.below Q4)
    | (go_at_call 46; refine (rnorm_v p4).mono ?_; rintro e w5 ⟨s5, A5, n5, c5, rfl, p5, k5, B5⟩; have Q5 := zup Q4 B5; obtain ⟨v1, v2, _⟩ := HA.out.below Q5; obtain ⟨v4, v3, _⟩ := HB.out.below Q5; obtain ⟨r1, r2, r3, r4, r5⟩ := HR.out.below Q5))
  rw [HS.out] at p5
  have P := Lib.hid (rfin p5 ⟨r1, r2, r3, r4, r5⟩ (k := max n m + 1) (by omega) (by omega) (zup HZ.out Q5))
  clear p4 p5 B4 B5 Q4 Q5 k4 k5 QW
  go_wp2_with fail
  exact bodyPost_ret (v := .agg #[.bool s5, .slice A5 n5 c5]) (by simp [results, Tryd.results48, go_sem, r1, r2]) rfl P.out

set_option maxHeartbeats 400000 in
theorem radd_lt {A B : Option Addr} {n m c d : Nat} {s t : Bool} {x y : Int} {w : World} (hx : Rz w s A n c x) (hy : Rz w t B m d y) (hn : n ≤ 1099511627776) (hm : m ≤ 1099511627776) (hst : (s == t) = false) (hle : x.natAbs < y.natAbs) :
    Calls Tryd.prog 48 #[.agg #[.bool s, .slice A n c], .agg #[.bool t, .slice B m d]] w (RzPost (x + y) (max n m + 1) w) := by
  obtain ⟨w3, hw3, IA, IB, IR, z0⟩ := opent3 w s t A B n c m d 60
  obtain ⟨hx1, ex⟩ := hx.up z0
  obtain ⟨hy1, ey⟩ := hy.up z0
  have HZ := Lib.hid z0
  have hst' : t = !s := by cases s <;> cases t <;> simp at *
  have hs : sg t (y.natAbs - x.natAbs) = x + y := by rw [ex.out, ey.out, hst']; cases s <;> simp [sg] <;> omega
  clear hst'
  obtain ⟨rc, hrc⟩ : ∃ r, cmpN x.natAbs y.natAbs = r := ⟨_, rfl⟩
  have hr0 : ¬ 0 ≤ rc := by rw [← hrc, cmpN_lt hle]; omega
  have HC := Lib.hid hrc
  clear hrc
  have HS := Lib.hid hs
  have HW := Lib.hid hw3.symm
  clear hx hy ex ey hs z0 hw3
  have HA := Lib.hid IA
  have HB := Lib.hid IB
  have HR := Lib.hid IR
  have hX := Lib.hid hx1
  have hY := Lib.hid hy1
  obtain ⟨a1, a2, a3, a4, a5⟩ := IA
  obtain ⟨b1, b2, b3, b4, b5⟩ := IB
  clear IR
  have n1 : ¬ (w.heap.size + 1 + 1 = w.heap.size) := by omega
  have n2 : ¬ (w.heap.size = w.heap.size + 1 + 1) := by omega
  go_enter Tryd.func48, Tryd.ntmps48
  go_wp2_with fail
  rw [HW.out]
  refine (rcmp_v hx1 hy1 HC.out).mono ?_
  rintro e w9 ⟨rfl, B9⟩
  clear a1 a2 a3 a4 a5 b1 b2 b3 b4 b5 hx1 hy1
  obtain ⟨a1, a2, a3, a4, a5⟩ := HA.out.below B9
  obtain ⟨b1, b2, b3, b4, b5⟩ := HB.out.below B9
  go_wp2_with fail
  have QW := zup B9 (below_drew w9)
  go_region_held3 (fun w' => w'.cell? ⟨w.heap.size, 0, none⟩ = some (.bool s) ∧ w'.cell? ⟨w.heap.size, 1, none⟩ = some (.slice A n c) ∧ w'.cell? ⟨w.heap.size + 1, 0, none⟩ = some (.bool t) ∧ w'.cell? ⟨w.heap.size + 1, 1, none⟩ = some (.slice B m d)) (go_keep) (first
    | (go_at_call 65; refine (rsub_v (x := y.natAbs) (y := x.natAbs) (hY.out.below QW) (hX.out.below QW) (by omega) (by omega)).mono ?_; rintro e w4 ⟨A4, n4, c4, rfl, p4, k4, B4⟩; have Q4 := zup QW B4; obtain ⟨u1, u2, _⟩ := HA.out.below Q4; obtain ⟨u4, u3, _⟩ := HB.out.below Q4)
    | (go_at_call 46; refine (rnorm_v p4).mono ?_; rintro e w5 ⟨s5, A5, n5, c5, rfl, p5, k5, B5⟩; have Q5 := zup Q4 B5; obtain ⟨v1, v2, _⟩ := HA.out.below Q5; obtain ⟨v4, v3, _⟩ := HB.out.below Q5; obtain ⟨r1, r2, r3, r4, r5⟩ := HR.out.below Q5))
  rw [HS.out] at p5
  have P := Lib.hid (rfin p5 ⟨r1, r2, r3, r4, r5⟩ (k := max n m + 1) (by omega) (by omega) (zup HZ.out Q5))
  clear p4 p5 B4 B5 Q4 Q5 k4 k5 QW
  go_wp2_with fail
  exact bodyPost_ret (v := .agg #[.bool s5, .slice A5 n5 c5]) (by simp [results, Tryd.results48, go_sem, r1, r2]) rfl P.out

theorem radd2_v {A B : Option Addr} {n m c d : Nat} {s t : Bool} {x y : Int} {w : World} (hx : Rz w s A n c x) (hy : Rz w t B m d y) (hn : n ≤ 1099511627776) (hm : m ≤ 1099511627776) :
    Calls Tryd.prog 48 #[.agg #[.bool s, .slice A n c], .agg #[.bool t, .slice B m d]] w (RzPost (x + y) (max n m + 1) w) := by
  cases h : (s == t)
  · by_cases h2 : y.natAbs ≤ x.natAbs
    · exact radd_ge hx hy hn hm h h2
    · exact radd_lt hx hy hn hm h (by omega)
  · exact radd_same hx hy hn hm h
set_option maxHeartbeats 400000 in
/-- quincunxref05.Sub. -/
theorem rsub2_v {A B : Option Addr} {n m c d : Nat} {s t : Bool} {x y : Int} {w : World} (hx : Rz w s A n c x) (hy : Rz w t B m d y) (hn : n ≤ 1099511627776) (hm : m ≤ 1099511627776) :
    Calls Tryd.prog 33 #[.agg #[.bool s, .slice A n c], .agg #[.bool t, .slice B m d]] w (RzPost (x - y) (max n m + 1) w) := by
  obtain ⟨w3, hw3, IA, IB, IR, z0⟩ := opent3 w s t A B n c m d 60
  have hX := Lib.hid (hx.below z0)
  have hY := Lib.hid (hy.below z0)
  have HZ := Lib.hid z0
  have HW := Lib.hid hw3.symm
  clear hx hy z0 hw3
  have HA := Lib.hid IA
  have HB := Lib.hid IB
  have HR := Lib.hid IR
  obtain ⟨a1, a2, a3, a4, a5⟩ := IA
  obtain ⟨b1, b2, b3, b4, b5⟩ := IB
  clear IR
  have n1 : ¬ (w.heap.size + 1 + 1 = w.heap.size) := by omega
  have n2 : ¬ (w.heap.size = w.heap.size + 1 + 1) := by omega
  go_enter Tryd.func33, Tryd.ntmps33
  go_wp2_with fail
  rw [HW.out]
  go_region_held3 (fun w' => w'.cell? ⟨w.heap.size, 0, none⟩ = some (.bool s) ∧ w'.cell? ⟨w.heap.size, 1, none⟩ = some (.slice A n c) ∧ w'.cell? ⟨w.heap.size + 1, 0, none⟩ = some (.bool t) ∧ w'.cell? ⟨w.heap.size + 1, 1, none⟩ = some (.slice B m d)) (go_keep) (first
    | (go_at_call 49; refine (rneg_v (hY.out.below (below_drew _))).mono ?_; rintro e w4 ⟨s4, A4, n4, c4, rfl, p4, k4, B4⟩; have Q4 := zup (below_drew _) B4; obtain ⟨u1, u2, _⟩ := HA.out.below Q4; obtain ⟨u4, u3, _⟩ := HB.out.below Q4)
    | (go_at_call 48; refine (radd2_v (hX.out.below Q4) p4 hn (by omega)).mono ?_; rintro e w5 ⟨s5, A5, n5, c5, rfl, p5, k5, B5⟩; have Q5 := zup Q4 B5; obtain ⟨v1, v2, _⟩ := HA.out.below Q5; obtain ⟨v4, v3, _⟩ := HB.out.below Q5; obtain ⟨r1, r2, r3, r4, r5⟩ := HR.out.below Q5))
  rw [show x + -y = x - y from rfl] at p5
  have P := Lib.hid (rfin p5 ⟨r1, r2, r3, r4, r5⟩ (k := max n m + 1) (by omega) (by omega) (zup HZ.out Q5))
  clear p4 p5 B4 B5 Q4 Q5 k4 k5
  go_wp2_with fail
  exact bodyPost_ret (v := .agg #[.bool s5, .slice A5 n5 c5]) (by simp [results, Tryd.results33, go_sem, r1, r2]) rfl P.out
/-- quincunxref05.From. -/
theorem rfrom_v {A : Option Addr} {n c : Nat} {s : Bool} {z : Int} {w : World} (h : Zv w s A n c z) (hn : n ≤ 1099511627775) :
    Calls Tryd.prog 34 #[.agg #[.bool s, .slice A n c]] w (RzPost z (4 * n) w) := by
  obtain ⟨w3, hw3, IA, IR, z0⟩ := opent1 w s A n c 41 60
  obtain ⟨h1, h2⟩ := h.up z0
  have HZ := Lib.hid z0
  have HW := Lib.hid hw3.symm
  have HS := Lib.hid h2.out.symm
  clear h z0 hw3 h2
  have HA := Lib.hid IA
  have HR := Lib.hid IR
  obtain ⟨a1, a2, a3, a4, a5⟩ := IA
  clear IR
  have n1 : ¬ (w.heap.size + 1 = w.heap.size) := by omega
  have n2 : ¬ (w.heap.size = w.heap.size + 1) := by omega
  go_enter Tryd.func34, Tryd.ntmps34
  go_wp2_with fail
  rw [HW.out]
  go_region_held3 (fun w' => w'.cell? ⟨w.heap.size, 0, none⟩ = some (.bool s) ∧ w'.cell? ⟨w.heap.size, 1, none⟩ = some (.slice A n c)) (go_keep) (first
    | (go_at_call 50; refine (from_v (h1.below (below_drew _)) hn).mono ?_; rintro e w4 ⟨A4, n4, c4, rfl, p4, k4, B4⟩; have Q4 := zup (below_drew _) B4; obtain ⟨u1, u2, _⟩ := HA.out.below Q4)
    | (go_at_call 46; refine (rnorm_v p4).mono ?_; rintro e w5 ⟨s5, A5, n5, c5, rfl, p5, k5, B5⟩; have Q5 := zup Q4 B5; obtain ⟨v1, v2, _⟩ := HA.out.below Q5; obtain ⟨r1, r2, r3, r4, r5⟩ := HR.out.below Q5))
  rw [HS.out] at p5
  have P := Lib.hid (rfin p5 ⟨r1, r2, r3, r4, r5⟩ (k := 4 * n) (by omega) (by omega) (zup HZ.out Q5))
  clear p4 p5 B4 B5 Q4 Q5 k4 k5
  go_wp2_with fail
  exact bodyPost_ret (v := .agg #[.bool s5, .slice A5 n5 c5]) (by simp [results, Tryd.results34, go_sem, r1, r2]) rfl P.out
end Go.Proofs.YtfdgblmegiehnaaDoor
