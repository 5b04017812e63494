/-
  Package div: jumpOf, isNone, leading, step.
-/
import Derived.Test.YtobhoobdbbinhaaGcdA
/-! Contracts: div.jumpOf, isNone, leading. -/
namespace Go.Proofs.Ytobhoobdbbinhaa
open Go.RowKit
set_option linter.unusedVariables false

/-- A jump: what Euclid's steps, some at once, make of two numbers u and v: x is p u - q v, y is s v - r u, and of the leading words as many are left that each step was sure. -/
structure Jump (u v x y p q r s : Nat) : Prop where
  ex : p * u = q * v + x
  ey : s * v = r * u + y
  det : p * s = q * r + 1
  eu : s * x + q * y = u
  ev : r * x + p * y = v
  lx : q ≤ x
  ly : r ≤ y
  lp : 1 ≤ p
  ls : 1 ≤ s
  lyx : y ≤ x
theorem Jump.start {u v : Nat} (h : v ≤ u) : Jump u v u v 1 0 0 1 := ⟨by omega, by omega, by omega, by omega, by omega, by omega, by omega, by omega, by omega, h⟩
/-- One step more: the roles change. -/
theorem Jump.step {u v x y p q r s : Nat} (j : Jump u v x y p q r s) (hy : 0 < y) (hs : q + x / y * s ≤ x % y) : Jump v u y (x % y) s r (q + x / y * s) (p + x / y * r) := by
  obtain ⟨ex, ey, det, eu, ev, lx, ly, lp, ls, lyx⟩ := j
  have h1 := Nat.div_add_mod x y
  have h2 := Nat.mod_lt x hy
  generalize x / y = t at *
  generalize x % y = m at *
  subst h1
  refine ⟨by omega, ?_, ?_, ?_, ?_, ly, hs, ls, by omega, by omega⟩
  · have := congrArg (· * t) ey
    grind
  · grind
  · grind
  · grind
/-- Nothing runs over. -/
theorem Jump.fits {u v x y p q r s : Nat} (j : Jump u v x y p q r s) (hu : u < 18446744073709551616) (hv : v < 18446744073709551616) (hy : 0 < y) : q + x / y * s ≤ u ∧ p + x / y * r ≤ v ∧ x / y * s ≤ u ∧ x / y * r ≤ v ∧ s ≤ u ∧ x < 18446744073709551616 := by
  obtain ⟨ex, ey, det, eu, ev, lx, ly, lp, ls, lyx⟩ := j
  have h1 := Nat.div_add_mod x y
  have h2 : 0 < x / y := Nat.div_pos lyx hy
  generalize x / y = t at *
  generalize x % y = m at *
  have e1 : (q + t * s) * y + s * m = u := by rw [← eu, ← h1]; grind
  have e2 : (p + t * r) * y + r * m = v := by rw [← ev, ← h1]; grind
  have l1 : q + t * s ≤ (q + t * s) * y := Nat.le_mul_of_pos_right _ hy
  have l2 : p + t * r ≤ (p + t * r) * y := Nat.le_mul_of_pos_right _ hy
  have l3 : s ≤ t * s := Nat.le_mul_of_pos_left _ h2
  have l4 : x ≤ s * x := Nat.le_mul_of_pos_left _ ls
  omega
/-- What a jump makes of the whole numbers, whose leading words it was sure of. -/
theorem Jump.lift {u v x y p q r s K a b : Nat} (j : Jump u v x y p q r s) (ha : u * K ≤ a ∧ a < u * K + K) (hb : v * K ≤ b ∧ b < v * K + K) :
    ∃ X Y, a * p = b * q + X ∧ b * s = a * r + Y ∧ s * X + q * Y = a ∧ r * X + p * Y = b := by
  obtain ⟨ex, ey, det, eu, ev, lx, ly, lp, ls, lyx⟩ := j
  obtain ⟨a0, ha0⟩ := Nat.exists_eq_add_of_le ha.1
  obtain ⟨b0, hb0⟩ := Nat.exists_eq_add_of_le hb.1
  have ha1 : a0 < K := by omega
  have hb1 : b0 < K := by omega
  have k1 : q * b0 ≤ x * K := Nat.le_trans (Nat.mul_le_mul lx (by omega)) (Nat.le_refl _)
  have k2 : r * a0 ≤ y * K := Nat.le_trans (Nat.mul_le_mul ly (by omega)) (Nat.le_refl _)
  have f1 : a * p = b * q + (x * K + p * a0 - q * b0) := by
    have e : (u * K + a0) * p = (v * K + b0) * q + (x * K + p * a0 - q * b0) := by
      have h1 : (u * K + a0) * p = p * u * K + p * a0 := by grind
      have h2 : (v * K + b0) * q = q * v * K + q * b0 := by grind
      rw [h1, h2, ex, Nat.add_mul]
      omega
    rw [ha0, hb0]; exact e
  have f2 : b * s = a * r + (y * K + s * b0 - r * a0) := by
    have e : (v * K + b0) * s = (u * K + a0) * r + (y * K + s * b0 - r * a0) := by
      have h1 : (u * K + a0) * r = r * u * K + r * a0 := by grind
      have h2 : (v * K + b0) * s = s * v * K + s * b0 := by grind
      rw [h1, h2, ey, Nat.add_mul]
      omega
    rw [ha0, hb0]; exact e
  generalize x * K + p * a0 - q * b0 = X at *
  generalize y * K + s * b0 - r * a0 = Y at *
  refine ⟨X, Y, f1, f2, ?_, ?_⟩
  · have g1 : a * (p * s) = a * (q * r) + (s * X + q * Y) := by
      have h1 := congrArg (· * s) f1
      have h2 := congrArg (· * q) f2
      grind
    rw [det, Nat.mul_add, Nat.mul_one] at g1
    omega
  · have g1 : b * (p * s) = b * (q * r) + (r * X + p * Y) := by
      have h1 := congrArg (· * r) f1
      have h2 := congrArg (· * p) f2
      grind
    rw [det, Nat.mul_add, Nat.mul_one] at g1
    omega
theorem Jump.flip {u v x y p q r s : Nat} (h : Jump v u x y p q r s) {K a b : Nat} (ha : u * K ≤ a ∧ a < u * K + K) (hb : v * K ≤ b ∧ b < v * K + K) :
    ∃ X Y, a * s = b * r + X ∧ b * p = a * q + Y ∧ p * X + r * Y = a ∧ q * X + s * Y = b := by
  obtain ⟨X, Y, h1, h2, h3, h4⟩ := h.lift hb ha
  exact ⟨Y, X, h2, h1, by omega, by omega⟩
/-- Common divisors stay. -/
theorem jump_gcd {a b X Y p q r s : Nat} (h1 : a * p = b * q + X) (h2 : b * s = a * r + Y) (h3 : s * X + q * Y = a) (h4 : r * X + p * Y = b) : Nat.gcd X Y = Nat.gcd a b := by
  apply Nat.dvd_antisymm
  · refine Nat.dvd_gcd ?_ ?_
    · rw [← h3]; exact Nat.dvd_add (Nat.dvd_trans (Nat.gcd_dvd_left _ _) (Nat.dvd_mul_left X s)) (Nat.dvd_trans (Nat.gcd_dvd_right _ _) (Nat.dvd_mul_left Y q))
    · rw [← h4]; exact Nat.dvd_add (Nat.dvd_trans (Nat.gcd_dvd_left _ _) (Nat.dvd_mul_left X r)) (Nat.dvd_trans (Nat.gcd_dvd_right _ _) (Nat.dvd_mul_left Y p))
  · have d1 := Nat.gcd_dvd_left a b
    have d2 := Nat.gcd_dvd_right a b
    refine Nat.dvd_gcd ?_ ?_
    · have e : X = a * p - b * q := by omega
      rw [e]; exact Nat.dvd_sub (Nat.dvd_mul_right_of_dvd d1 _) (Nat.dvd_mul_right_of_dvd d2 _)
    · have e : Y = b * s - a * r := by omega
      rw [e]; exact Nat.dvd_sub (Nat.dvd_mul_right_of_dvd d2 _) (Nat.dvd_mul_right_of_dvd d1 _)
/-- A jump of a step or more makes the numbers less. -/
theorem jump_less {a b X Y p q r s : Nat} (h3 : s * X + q * Y = a) (h4 : r * X + p * Y = b) (hq : 1 ≤ q) (hp : 1 ≤ p) (hs : 1 ≤ s) (hb : 0 < b) : X + Y < a + b := by
  have k1 : X ≤ s * X := Nat.le_mul_of_pos_left _ hs
  have k2 : Y ≤ q * Y := Nat.le_mul_of_pos_left _ hq
  have k3 : Y ≤ p * Y := Nat.le_mul_of_pos_left _ hp
  rcases Nat.eq_zero_or_pos Y with h0 | h0
  · subst h0
    rcases Nat.eq_zero_or_pos (r * X) with h5 | h5
    · omega
    · omega
  · omega

/-- What a jump is good for: of all numbers whose leading words are u and v. -/
def JumpOk (u v p q r s : Nat) : Prop := ∀ K a b : Nat, u * K ≤ a ∧ a < u * K + K → v * K ≤ b ∧ b < v * K + K → ∃ X Y, a * p = b * q + X ∧ b * s = a * r + Y ∧ s * X + q * Y = a ∧ r * X + p * Y = b
def JoPost (u v : Nat) (w : World) (e : Ending) (w' : World) : Prop :=
  ∃ p q r s : Nat, e = .returned (.agg #[.int .u64 (p : Int), .int .u64 (q : Int), .int .u64 (r : Int), .int .u64 (s : Int)]) ∧ p < 18446744073709551616 ∧ q < 18446744073709551616 ∧ r < 18446744073709551616 ∧ s < 18446744073709551616 ∧ 1 ≤ p ∧ 1 ≤ s ∧ Hid (JumpOk u v p q r s) ∧ Below w.heap.size w w'
/-- The loop of jumpOf. -/
def JoRel (w : World) (u v g : Nat) (s0 s1 s6 : Value) (wr : World) : Prop :=
  ∃ (x p q r s U V : Nat) (b : Bool), s0 = .int .u64 (x : Int) ∧ s1 = .int .u64 (g : Int) ∧ s6 = .bool b ∧ (b = false ∧ U = u ∧ V = v ∨ b = true ∧ U = v ∧ V = u) ∧ Hid (Jump U V x g p q r s) ∧ U < 18446744073709551616 ∧ V < 18446744073709551616 ∧ x < 18446744073709551616 ∧ g < 18446744073709551616 ∧
    Wb wr (w.heap.size + 1) 74 [p, q, r, s] ∧ Wb wr w.heap.size 74 [0, 0, 0, 0] ∧ Below w.heap.size w wr
/-- Behind the loop of jumpOf. -/
def JoCut (w : World) (u v : Nat) (s6 : Value) (wx : World) : Prop :=
  ∃ (p q r s U V x g : Nat) (b : Bool), s6 = .bool b ∧ (b = false ∧ U = u ∧ V = v ∨ b = true ∧ U = v ∧ V = u) ∧ Hid (Jump U V x g p q r s) ∧
    Wb wx (w.heap.size + 1) 74 [p, q, r, s] ∧ Wb wx w.heap.size 74 [0, 0, 0, 0] ∧ Below w.heap.size w wx
theorem wb4 {w : World} {h p q r s : Nat} (W : Wb w h 74 [p, q, r, s]) : w.cell? ⟨h, 0, none⟩ = some (.int .u64 p) ∧ w.cell? ⟨h, 1, none⟩ = some (.int .u64 q) ∧ w.cell? ⟨h, 2, none⟩ = some (.int .u64 r) ∧ w.cell? ⟨h, 3, none⟩ = some (.int .u64 s) ∧
    p < 18446744073709551616 ∧ q < 18446744073709551616 ∧ r < 18446744073709551616 ∧ s < 18446744073709551616 ∧ w.frozen? ⟨h, 0, none⟩ = false ∧ w.frozen? ⟨h, 1, none⟩ = false ∧ w.frozen? ⟨h, 2, none⟩ = false ∧ w.frozen? ⟨h, 3, none⟩ = false :=
  ⟨W.1.cell (j := 0) (by simp), W.1.cell (j := 1) (by simp), W.1.cell (j := 2) (by simp), W.1.cell (j := 3) (by simp), W.2 0 (by simp), W.2 1 (by simp), W.2 2 (by simp), W.2 3 (by simp), W.1.free 0, W.1.free 1, W.1.free 2, W.1.free 3⟩
theorem low4 {p q r s : Nat} (hp : p < 18446744073709551616) (hq : q < 18446744073709551616) (hr : r < 18446744073709551616) (hs : s < 18446744073709551616) : Low 18446744073709551616 [p, q, r, s] :=
  ((((Low.nil _).cons hs).cons hr).cons hq).cons hp
theorem wb4_set {w : World} {h a b c d p q r s : Nat} (W : Wb w h 74 [a, b, c, d]) (hp : p < 18446744073709551616) (hq : q < 18446744073709551616) (hr : r < 18446744073709551616) (hs : s < 18446744073709551616) :
    Wb ((((w.setCell ⟨h, 0, none⟩ (.int .u64 (p : Int))).setCell ⟨h, 1, none⟩ (.int .u64 (q : Int))).setCell ⟨h, 2, none⟩ (.int .u64 (r : Int))).setCell ⟨h, 3, none⟩ (.int .u64 (s : Int))) h 74 [p, q, r, s] ∧
    Tch (fun a => a.block = h) w ((((w.setCell ⟨h, 0, none⟩ (.int .u64 (p : Int))).setCell ⟨h, 1, none⟩ (.int .u64 (q : Int))).setCell ⟨h, 2, none⟩ (.int .u64 (r : Int))).setCell ⟨h, 3, none⟩ (.int .u64 (s : Int))) := by
  obtain ⟨t1, v1⟩ := Tch.store (S := fun a => a.block = h) W 0 hp rfl
  obtain ⟨t2, v2⟩ := Tch.store (S := fun a => a.block = h) v1 1 hq rfl
  obtain ⟨t3, v3⟩ := Tch.store (S := fun a => a.block = h) v2 2 hr rfl
  obtain ⟨t4, v4⟩ := Tch.store (S := fun a => a.block = h) v3 3 hs rfl
  simp only [List.set_cons_succ, List.set_cons_zero] at v4
  exact ⟨v4, ((t1.trans t2).trans t3).trans t4⟩
theorem jo_alloc (w : World) (p q r s : Nat) : Blk (w.alloc (.cells #[.int .u64 p, .int .u64 q, .int .u64 r, .int .u64 s] 74)) w.heap.size 74 .u64 [p, q, r, s] := heap_alloc_new w _
theorem JumpOk.of {u v U V x g p q r s : Nat} (j : Jump U V x g p q r s) (h : U = u ∧ V = v) : JumpOk u v p q r s := by
  obtain ⟨rfl, rfl⟩ := h
  exact fun K a b ha hb => j.lift ha hb
theorem JumpOk.of_flip {u v U V x g p q r s : Nat} (j : Jump U V x g p q r s) (h : U = v ∧ V = u) : JumpOk u v s r q p := by
  obtain ⟨rfl, rfl⟩ := h
  exact fun K a b ha hb => j.flip ha hb
set_option maxRecDepth 100000 in
set_option maxHeartbeats 2000000 in
theorem jo_calls (u v : Nat) (hvu : v ≤ u) (hu : u < 18446744073709551616) (w : World) :
    Calls Try.prog 61 #[.int .u64 u, .int .u64 v] w (JoPost u v w) := by
  go_enter Try.func61, Try.ntmps61
  go_upto_block 0 with fail
  go_cut [6] (JoCut w u v)
  case first =>
    go_wp2_with fail
    go_loopg [0, 1, 6] v (fun g s0 s1 s6 wr => JoRel w u v g s0 s1 s6 wr)
    case atStart =>
      have b1 := (jo_alloc w 0 0 0 0).alloc (.cells #[.int .u64 1, .int .u64 0, .int .u64 0, .int .u64 1] 74)
      have b2 := jo_alloc (w.alloc (.cells #[.int .u64 0, .int .u64 0, .int .u64 0, .int .u64 0] 74)) 1 0 0 1
      rw [show (w.alloc (.cells #[.int .u64 0, .int .u64 0, .int .u64 0, .int .u64 0] 74)).heap.size = w.heap.size + 1 by simp] at b2
      exact ⟨u, 1, 0, 0, 1, u, v, false, rfl, rfl, rfl, .inl ⟨rfl, rfl, rfl⟩, Lib.hid (Jump.start hvu), hu, by omega, hu, by omega, ⟨b2, low4 (by omega) (by omega) (by omega) (by omega)⟩, ⟨b1, low4 (by omega) (by omega) (by omega) (by omega)⟩, ((Below.refl _ _).alloc (Nat.le_refl _) _).alloc (by simp) _⟩
    case round =>
      obtain ⟨x, p, q, r, s, U, V, b, rfl, rfl, rfl, hUV, hj, hU, hV, hx, hg, W1, W2, hw⟩ := hrel
      have HUV := Lib.hid hUV
      have HW1 := Lib.hid W1
      have HW2 := Lib.hid W2
      obtain ⟨a0, a1, a2, a3, x0, x1, x2, x3, f0, f1, f2, f3⟩ := wb4 W1
      have P : Hid (∀ q, JoCut w u v (.bool b) (wr.drewN q)) := Lib.hid (fun n => ⟨p, q, r, s, U, V, x, gk, b, rfl, HUV.out, hj, HW1.out, HW2.out, hw.trans ((below_drewN wr n).mono hw.size)⟩)
      have HHW := Lib.hid hw
      clear hUV W1 W2 hw
      rcases Nat.eq_zero_or_pos gk with rfl | h0
      · have b1 : (((0 : Nat) : Int) != 0) = false := by rfl
        go_wp2_with fail
        go_quiet (fail)
        go_wp2_with fail
        go_meet
        exact P.out _
      · obtain ⟨t, ht⟩ : ∃ t, t = x / gk := ⟨_, rfl⟩
        obtain ⟨m, hm⟩ : ∃ m, m = x % gk := ⟨_, rfl⟩
        obtain ⟨i1, i2, i3, i4, i5, i6⟩ := hj.out.fits hU hV h0
        rw [← ht] at i1 i2 i3 i4
        obtain ⟨ts, hts⟩ : ∃ y, y = t * s := ⟨_, rfl⟩
        obtain ⟨tr, htr⟩ : ∃ y, y = t * r := ⟨_, rfl⟩
        rw [← hts] at i1 i3
        rw [← htr] at i2 i4
        have hmg : m < gk := by rw [hm]; exact Nat.mod_lt _ h0
        have htx : t ≤ x := by rw [ht]; exact Nat.div_le_self _ _
        have e1 : (x : Int) / (gk : Int) = (t : Int) := by rw [ht]; rfl
        have e2 : (x : Int) % (gk : Int) = (m : Int) := by rw [hm]; rfl
        have e3 : (x : Int).tdiv (gk : Int) = (t : Int) := by rw [ht]; rfl
        have e4 : (x : Int).tmod (gk : Int) = (m : Int) := by rw [hm]; rfl
        have e5 : IntKind.u64.wrap (t : Int) = (t : Int) := by rw [IntKind.wrap_u64]; omega
        have e6 : IntKind.u64.wrap (m : Int) = (m : Int) := by rw [IntKind.wrap_u64]; omega
        have e7 : IntKind.u64.wrap ((t : Int) * (s : Int)) = (ts : Int) := by rw [← Int.natCast_mul, ← hts, IntKind.wrap_u64]; omega
        have e8 : IntKind.u64.wrap ((q : Int) + (ts : Int)) = ((q : Int) + (ts : Int)) := by rw [IntKind.wrap_u64]; omega
        have b1 : ((gk : Int) != 0) = true := by rw [bne_iff_ne]; omega
        have b2 : ((gk : Int) == 0) = false := by rw [beq_eq_false_iff_ne]; omega
        have b3 : ¬ (gk = 0) := by omega
        have HT := Lib.hid ht
        have HM := Lib.hid hm
        have HTS := Lib.hid hts
        have HTR := Lib.hid htr
        clear ht hm hts htr
        by_cases hc : q + ts ≤ m
        · have z1 : (q : Int) + (ts : Int) ≤ (m : Int) := by omega
          have HC := Lib.hid hc
          have e9 : IntKind.u64.wrap ((t : Int) * (r : Int)) = (tr : Int) := by rw [← Int.natCast_mul, ← HTR.out, IntKind.wrap_u64]; omega
          have e10 : IntKind.u64.wrap ((p : Int) + (tr : Int)) = ((p : Int) + (tr : Int)) := by rw [IntKind.wrap_u64]; omega
          have jn : Jump V U gk m s r (q + ts) (p + tr) := by rw [HTS.out, HTR.out, HT.out, HM.out]; exact hj.out.step h0 (by rw [← HT.out, ← HTS.out, ← HM.out]; exact HC.out)
          have JN := Lib.hid jn
          have R : Hid (∀ n, JoRel w u v m (.int .u64 (gk : Int)) (.int .u64 (m : Int)) (.bool (!b)) (((((wr.drewN n).setCell ⟨w.heap.size + 1, 0, none⟩ (.int .u64 (s : Int))).setCell ⟨w.heap.size + 1, 1, none⟩ (.int .u64 (r : Int))).setCell ⟨w.heap.size + 1, 2, none⟩ (.int .u64 ((q + ts : Nat) : Int))).setCell ⟨w.heap.size + 1, 3, none⟩ (.int .u64 ((p + tr : Nat) : Int)))) := Lib.hid (fun n => by
            have X1 : Wb (wr.drewN n) (w.heap.size + 1) 74 [p, q, r, s] := HW1.out
            obtain ⟨X, T⟩ := wb4_set X1 (p := s) (q := r) (r := q + ts) (s := p + tr) x3 x2 (by omega) (by omega)
            have Y := (show Wb (wr.drewN n) w.heap.size 74 [0, 0, 0, 0] from HW2.out).tch T fun j _ h => by simp at h
            have hB := (HHW.out.trans ((below_drewN wr n).mono HHW.out.size)).trans (T.below (B := w.heap.size) (by have := HHW.out.size; simpa using this) fun a h => by rw [h]; omega)
            refine ⟨gk, s, r, q + ts, p + tr, V, U, !b, rfl, rfl, rfl, ?_, JN, hV, hU, hg, by omega, X, Y, hB⟩
            rcases HUV.out with ⟨rfl, rfl, rfl⟩ | ⟨rfl, rfl, rfl⟩
            · exact .inr ⟨rfl, rfl, rfl⟩
            · exact .inl ⟨rfl, rfl, rfl⟩)
          clear jn
          go_wp2_with fail
          go_quiet (fail)
          go_wp2_with fail
          go_quiet (fail)
          go_wp2_with fail
          go_roundg m
          case rel => exact R.out _
          case measure => exact hmg
        · have z1 : ¬ ((q : Int) + (ts : Int) ≤ (m : Int)) := by omega
          clear hc
          go_wp2_with fail
          go_quiet (fail)
          go_wp2_with fail
          go_meet
          exact P.out _
  case rest =>
    obtain ⟨p, q, r, s, U, V, x, g, b, rfl, hUV, hj, W1, W2, hw⟩ := hcut
    obtain ⟨a0, a1, a2, a3, x0, x1, x2, x3, f0, f1, f2, f3⟩ := wb4 W1
    obtain ⟨z0, z1, z2, z3, _, _, _, _, k0, k1, k2, k3⟩ := wb4 W2
    have hs0 : w.heap.size ≤ wc.heap.size := hw.size
    have HW := Lib.hid hw
    have HW2 := Lib.hid W2
    clear W1 W2 hw
    rcases hUV with ⟨rfl, hUV⟩ | ⟨rfl, hUV⟩
    · have hok := Lib.hid (JumpOk.of hj.out hUV)
      obtain ⟨X, T⟩ := wb4_set HW2.out x0 x1 x2 x3
      obtain ⟨y0, y1, y2, y3, _⟩ := wb4 X
      have B := Lib.hid (HW.out.trans (T.below (B := w.heap.size) hs0 fun a h => by rw [h]; exact Nat.le_refl _))
      clear X T
      go_wp2_with fail
      refine bodyPost_ret (v := .agg #[.int .u64 (p : Int), .int .u64 (q : Int), .int .u64 (r : Int), .int .u64 (s : Int)]) (by simp [results, Try.results61, go_sem, y0, y1, y2, y3]) rfl ?_
      exact ⟨p, q, r, s, rfl, x0, x1, x2, x3, hj.out.lp, hj.out.ls, hok, B.out⟩
    · have hok := Lib.hid (JumpOk.of_flip hj.out hUV)
      obtain ⟨X, T⟩ := wb4_set HW2.out x3 x2 x1 x0
      obtain ⟨y0, y1, y2, y3, _⟩ := wb4 X
      have B := Lib.hid (HW.out.trans (T.below (B := w.heap.size) hs0 fun a h => by rw [h]; exact Nat.le_refl _))
      clear X T
      go_wp2_with fail
      refine bodyPost_ret (v := .agg #[.int .u64 (s : Int), .int .u64 (r : Int), .int .u64 (q : Int), .int .u64 (p : Int)]) (by simp [results, Try.results61, go_sem, y0, y1, y2, y3]) rfl ?_
      exact ⟨s, r, q, p, rfl, x3, x2, x1, x0, hj.out.ls, hj.out.lp, hok, B.out⟩
end Go.Proofs.Ytobhoobdbbinhaa
