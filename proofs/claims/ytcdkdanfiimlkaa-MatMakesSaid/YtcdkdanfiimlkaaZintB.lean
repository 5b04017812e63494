/-
  Package zint: Cmp, Same, Small, Pow.
-/
import Derived.Test.YtcdkdanfiimlkaaZintA
/-! Contracts: zint.Cmp, Same, Small, Pow. -/
namespace Go.Proofs.Ytcdkdanfiimlkaa
open Go.RowKit
set_option linter.unusedVariables false
set_option linter.unusedSimpArgs false

/-- Two whole numbers in new memory. -/
theorem open2 (w : World) (s t : Bool) (A B : Option Addr) (n c m d : Nat) :
    ∃ w3, w3 = ((w.alloc (.cells #[.bool s, .slice A n c] 28)).alloc (.cells #[.bool t, .slice B m d] 28)) ∧
      Ib w3 w.heap.size s A n c ∧ Ib w3 (w.heap.size + 1) t B m d ∧ Below w.heap.size w w3 := by
  refine ⟨_, rfl, ?_, ?_, zba2 _ _ _⟩
  · exact (Ib.new w s A n c _).below (zba _ _)
  · have := Ib.new (w.alloc (.cells #[.bool s, .slice A n c] 28)) t B m d 28
    simpa using this
theorem sign_apart {X Y : Int} (h : X.sign ≠ Y.sign) : (X.sign - Y.sign).sign = (X - Y).sign := by
  rcases Int.lt_trichotomy X 0 with h1 | h1 | h1
  · rw [Int.sign_eq_neg_one_of_neg h1] at *
    rcases Int.lt_trichotomy Y 0 with h2 | h2 | h2
    · rw [Int.sign_eq_neg_one_of_neg h2] at h; omega
    · subst h2; simp; rw [Int.sign_eq_neg_one_of_neg h1]
    · rw [Int.sign_eq_one_of_pos h2, Int.sign_eq_neg_one_of_neg (a := X - Y) (by omega)]; rfl
  · subst h1
    rcases Int.lt_trichotomy Y 0 with h2 | h2 | h2
    · rw [Int.sign_eq_neg_one_of_neg h2, Int.sign_eq_one_of_pos (a := 0 - Y) (by omega)]; rfl
    · subst h2; simp at h
    · rw [Int.sign_eq_one_of_pos h2, Int.sign_eq_neg_one_of_neg (a := 0 - Y) (by omega)]; rfl
  · rw [Int.sign_eq_one_of_pos h1] at *
    rcases Int.lt_trichotomy Y 0 with h2 | h2 | h2
    · rw [Int.sign_eq_neg_one_of_neg h2, Int.sign_eq_one_of_pos (a := X - Y) (by omega)]; rfl
    · subst h2; simp; rw [Int.sign_eq_one_of_pos h1]
    · rw [Int.sign_eq_one_of_pos h2] at h; omega
theorem sign_neg {X : Int} (h : X.sign < 0) : X < 0 := by
  rcases Int.lt_trichotomy X 0 with h1 | h1 | h1
  · exact h1
  · subst h1; simp at h
  · rw [Int.sign_eq_one_of_pos h1] at h; omega
theorem sign_nonneg {X : Int} (h : ¬ X.sign < 0) : 0 ≤ X := by
  rcases Int.lt_trichotomy X 0 with h1 | h1 | h1
  · rw [Int.sign_eq_neg_one_of_neg h1] at h; omega
  · omega
  · omega

set_option maxRecDepth 100000 in
set_option maxHeartbeats 400000 in
/-- zint.Cmp. -/
theorem zcmp_v {A B : Option Addr} {n m c d : Nat} {s t : Bool} {x y r : Int} {w : World} (hx : Zv w s A n c x) (hy : Zv w t B m d y) (hn : n ≤ 1099511627776) (hm : m ≤ 1099511627776) (hr : (x - y).sign = r) :
    Calls Try.prog 53 #[.agg #[.bool s, .slice A n c], .agg #[.bool t, .slice B m d]] w (IPost r w) := by
  obtain ⟨w3, hw3, IA, IB, z0⟩ := open2 w s t A B n c m d
  have hX := Lib.hid (hx.below z0)
  have hY := Lib.hid (hy.below z0)
  have HZ := Lib.hid z0
  have HW := Lib.hid hw3.symm
  obtain ⟨r1, hr1⟩ : ∃ r1, x.sign = r1 := ⟨_, rfl⟩
  obtain ⟨r2, hr2⟩ : ∃ r2, y.sign = r2 := ⟨_, rfl⟩
  have HR := Lib.hid hr
  have HR1 := Lib.hid hr1
  have HR2 := Lib.hid hr2
  clear hx hy z0 hw3 hr hr1 hr2
  have HA := Lib.hid IA
  have HB := Lib.hid IB
  obtain ⟨a1, a2, a3, a4, a5⟩ := IA
  obtain ⟨b1, b2, b3, b4, b5⟩ := IB
  go_enter Try.func53, Try.ntmps53
  go_wp2_with fail
  rw [HW.out]
  go_region_held3 (fun w' => w'.cell? ⟨w.heap.size, 0, none⟩ = some (.bool s) ∧ w'.cell? ⟨w.heap.size, 1, none⟩ = some (.slice A n c) ∧ w'.cell? ⟨w.heap.size + 1, 0, none⟩ = some (.bool t) ∧ w'.cell? ⟨w.heap.size + 1, 1, none⟩ = some (.slice B m d)) (go_keep) (first
    | (go_at_call 42; (with_reducible refine (zsign_v (z := x) (hX.out.below (below_drew _)) hn HR1.out).mono ?_); rintro e w4 ⟨rfl, B4⟩; have Q4 := zup (below_drew _) B4; obtain ⟨u1, u2, _⟩ := HA.out.below Q4; obtain ⟨u3, u4, _⟩ := HB.out.below Q4)
    | (go_at_call 42; (with_reducible refine (zsign_v (z := y) (hY.out.below Q4) hm HR2.out).mono ?_); rintro e w5 ⟨rfl, B5⟩; have Q5 := zup Q4 B5; obtain ⟨v1, v2, _⟩ := HA.out.below Q5; obtain ⟨v3, v4, _⟩ := HB.out.below Q5))
  clear u1 u2 u3 u4 a1 a2 a3 a4 a5 b1 b2 b3 b4 b5
  have HQ := Lib.hid (zup HZ.out Q5)
  have XQ := Lib.hid (hX.out.below Q5).abs
  have YQ := Lib.hid (hY.out.below Q5).abs
  clear Q4 Q5 B4 B5
  by_cases h : r1 = r2
  · subst h
    by_cases h0 : r1 < 0
    · have e1 : s = true := by
        have := sign_neg (X := x) (by rw [HR1.out]; exact h0)
        have e := XQ.out.2.out
        cases s
        · simp [sg] at e; omega
        · rfl
      have e2 : t = true := by
        have := sign_neg (X := y) (by rw [HR2.out]; exact h0)
        have e := YQ.out.2.out
        cases t
        · simp [sg] at e; omega
        · rfl
      have hc : cmpN y.natAbs x.natAbs = r := by
        rw [← HR.out, zcmp_tail true (by rw [← e1]; exact XQ.out.2.out) (by rw [← e2]; exact YQ.out.2.out)]; rfl
      have HC := Lib.hid hc
      clear e1 e2 hc
      go_wp2_with fail
      refine (cmp_as YQ.out.1 XQ.out.1 HC.out).mono ?_
      rintro e w6 ⟨rfl, B6⟩
      have HQ2 := Lib.hid (zup HQ.out B6)
      clear B6
      go_wp2_with fail
      go_ret
      exact ⟨rfl, HQ2.out⟩
    · have hc : cmpN x.natAbs y.natAbs = r := by
        have h1 := sign_nonneg (X := x) (by rw [HR1.out]; exact h0)
        have h2 := sign_nonneg (X := y) (by rw [HR2.out]; exact h0)
        rw [← HR.out, zcmp_tail (X := x) (Y := y) (x := x.natAbs) (y := y.natAbs) false (by simp [sg]; omega) (by simp [sg]; omega)]; rfl
      have HC := Lib.hid hc
      clear hc
      go_wp2_with fail
      refine (cmp_as XQ.out.1 YQ.out.1 HC.out).mono ?_
      rintro e w6 ⟨rfl, B6⟩
      have HQ2 := Lib.hid (zup HQ.out B6)
      clear B6
      go_wp2_with fail
      go_ret
      exact ⟨rfl, HQ2.out⟩
  · have q1 : (r1 == r2) = false := by rw [beq_eq_false_iff_ne]; exact h
    have q2 : (r1 != r2) = true := by rw [bne_iff_ne]; exact h
    have hc : (r1 - r2).sign = r := by
      rw [← HR1.out, ← HR2.out, ← HR.out]
      exact sign_apart (by rw [HR1.out, HR2.out]; exact h)
    have HC := Lib.hid hc
    clear hc h
    go_wp2_with fail
    refine (compare_calls r1 r2 r HC.out _).mono ?_
    rintro e w' ⟨rfl, rfl⟩
    go_wp2_with fail
    go_ret
    exact ⟨rfl, HQ.out⟩
/-- zint.Same. -/
theorem zsame_v {A B : Option Addr} {n m c d : Nat} {s t b : Bool} {x y : Int} {w : World} (hx : Zv w s A n c x) (hy : Zv w t B m d y) (hn : n ≤ 1099511627776) (hm : m ≤ 1099511627776) (hb : decide (x = y) = b) :
    Calls Try.prog 27 #[.agg #[.bool s, .slice A n c], .agg #[.bool t, .slice B m d]] w fun e w' => e = .returned (.bool b) ∧ Below w.heap.size w w' := by
  obtain ⟨w3, hw3, IA, IB, z0⟩ := open2 w s t A B n c m d
  have hX := hx.below z0
  have hY := hy.below z0
  have HZ := Lib.hid z0
  have HW := Lib.hid hw3.symm
  obtain ⟨r, hr⟩ : ∃ r, (x - y).sign = r := ⟨_, rfl⟩
  have HR := Lib.hid hr
  have q1 : (r == 0) = b := by
    rw [← hb, ← hr, Bool.eq_iff_iff, beq_iff_eq, decide_eq_true_iff, Int.sign_eq_zero_iff_zero]
    omega
  clear hx hy z0 hw3 hr hb
  obtain ⟨a1, a2, a3, a4, a5⟩ := IA
  obtain ⟨b1, b2, b3, b4, b5⟩ := IB
  go_enter Try.func27, Try.ntmps27
  go_wp2_with fail
  rw [HW.out]
  refine (zcmp_v hX hY hn hm HR.out).mono ?_
  rintro e w4 ⟨rfl, B4⟩
  have HQ := Lib.hid (zup HZ.out B4)
  clear B4 a1 a2 a3 a4 a5 b1 b2 b3 b4 b5 hX hY
  go_wp2_with fail
  go_ret
  exact ⟨rfl, HQ.out⟩
theorem zsame_yes {A B : Option Addr} {n m c d : Nat} {s t : Bool} {x y : Int} {w : World} (hx : Zv w s A n c x) (hy : Zv w t B m d y) (hn : n ≤ 1099511627776) (hm : m ≤ 1099511627776) (h : x = y) :
    Calls Try.prog 27 #[.agg #[.bool s, .slice A n c], .agg #[.bool t, .slice B m d]] w (TruePost w) :=
  zsame_v hx hy hn hm (by rw [h]; simp)

/-- nat.Word. -/
theorem zword_v {A : Option Addr} {n c x : Nat} {w : World} (hx : Nv w A n c x) :
    Calls Try.prog 134 #[.slice A n c] w (WordPost x w) := by
  obtain ⟨xs, h1, h2, h3, h4, h5, rfl⟩ := hx
  exact word_calls A n c xs w h1 h2 h3 h4 h5
/-- What zint.Small answers. -/
def SmallPost (z : Int) (w : World) (e : Ending) (w' : World) : Prop :=
  (e = .returned (.tuple #[.int .i64 (if -9223372036854775808 ≤ z ∧ z ≤ 9223372036854775807 then z else 0), .bool (decide (-9223372036854775808 ≤ z ∧ z ≤ 9223372036854775807))])) ∧ Below w.heap.size w w'
theorem SmallPost.yes {z : Int} {w w' : World} (h1 : -9223372036854775808 ≤ z) (h2 : z ≤ 9223372036854775807) (hb : Below w.heap.size w w') : SmallPost z w (.returned (.tuple #[.int .i64 z, .bool true])) w' :=
  ⟨by rw [if_pos ⟨h1, h2⟩, decide_eq_true ⟨h1, h2⟩], hb⟩
theorem SmallPost.no {z : Int} {w w' : World} (h : ¬ (-9223372036854775808 ≤ z ∧ z ≤ 9223372036854775807)) (hb : Below w.heap.size w w') : SmallPost z w (.returned (.tuple #[.int .i64 0, .bool false])) w' :=
  ⟨by rw [if_neg h, decide_eq_false h], hb⟩
/-- zint.Pow: a power. -/
def ZPowPost (z : Int) (k : Nat) (w : World) (e : Ending) (w' : World) : Prop :=
  ∃ s A n c, e = .returned (.tuple #[.agg #[.bool s, .slice A n c], .bool true]) ∧ Zc w' s A n c z ∧ n ≤ k ∧ Below w.heap.size w w'
theorem zfin2 {w w2 : World} {A B : Option Addr} {n c g k m d : Nat} {s t : Bool} {z : Int} (h : Zc w2 s A n c z) (hi : Ib w2 g t B m d) (hk : n ≤ k) (hg : w.heap.size ≤ g) (hB : Below w.heap.size w w2) :
    ZPowPost z k w (.returned (.tuple #[.agg #[.bool s, .slice A n c], .bool true])) ((w2.setCell ⟨g, 0, none⟩ (.bool s)).setCell ⟨g, 1, none⟩ (.slice A n c)) :=
  ⟨s, A, n, c, rfl, h.put hi, hk, below_put hB hg⟩
/-- A whole number, and a result, in new memory. -/
theorem open1 (w : World) (s : Bool) (A : Option Addr) (n c : Nat) :
    ∃ w3, w3 = ((w.alloc (.cells #[.bool s, .slice A n c] 28)).alloc (.cells #[.bool false, .slice none 0 0] 28)) ∧
      Ib w3 w.heap.size s A n c ∧ Ib w3 (w.heap.size + 1) false none 0 0 ∧ Below w.heap.size w w3 := open2 w s false A none n c 0 0
/-- Below 0: some number and false. -/
def ZNoPost (w : World) (e : Ending) (w' : World) : Prop := e = .returned (.tuple #[.agg #[.bool false, .slice none 0 0], .bool false]) ∧ Below w.heap.size w w'
end Go.Proofs.Ytcdkdanfiimlkaa
