/-
  Package div: DivMod, Mod, Exact, Small, by value.
-/
import Derived.Test.YtfpncmhaoadfdaaGreatDivD
/-! Contracts: div.DivMod, Mod, Exact, Small. -/
namespace Go.Proofs.YtfpncmhaoadfdaaGreat
open Go.RowKit
set_option linter.unusedVariables false

/-- Quotient and rest in new memory, and true. -/
def DmPost (q r : Nat) (w : World) (e : Ending) (w' : World) : Prop :=
  ∃ A c A' c', e = .returned (.tuple #[.slice A (cn 18446744073709551616 q).length c, .slice A' (cn 18446744073709551616 r).length c', .bool true]) ∧ Got w w' 55 .u64 A c (cn 18446744073709551616 q) ∧ Got w w' 55 .u64 A' c' (cn 18446744073709551616 r)
theorem trim_rd {w : World} {A : Option Addr} {xs : List Nat} (h : Rd w .u64 A xs) : Rd w .u64 A (xs.take (sl xs)) := h.take _
theorem trim_len (xs : List Nat) : (xs.take (sl xs)).length = sl xs := by simp [Nat.min_eq_left (sl_le xs)]
theorem Nv.trim {w : World} {A : Option Addr} {n c v : Nat} (h : Nv w A n c v) : ∃ xs, Rd w .u64 A xs ∧ xs.length = n ∧ n ≤ c ∧ c ≤ 9223372036854775807 ∧ Low 18446744073709551616 xs ∧ Nv w A (sl xs) c v ∧ sl xs ≤ n ∧ (v = 0 ↔ sl xs = 0) ∧
    Rd w .u64 A (xs.take (sl xs)) ∧ (xs.take (sl xs)).length = sl xs ∧ Low 18446744073709551616 (xs.take (sl xs)) ∧ ev 18446744073709551616 (xs.take (sl xs)) = v ∧ sl xs = (cn 18446744073709551616 v).length := by
  obtain ⟨xs, h1, h2, h3, h4, h5, rfl⟩ := h
  have hs : sl xs ≤ n := h2 ▸ sl_le xs
  refine ⟨xs, h1, h2, h3, h4, h5, ⟨_, h1.take (sl xs), trim_len xs, by omega, h4, h5.take _, ev_take_sl _ _⟩, hs, ?_, h1.take _, trim_len xs, h5.take _, ev_take_sl _ _, sl_len _ (by omega) h5⟩
  rw [sl_len _ (by omega) h5]
  exact (cn_nil_iff _ _ (by omega)).symm
theorem Got.on {w w1 w' : World} {t : TypeId} {K : IntKind} {A : Option Addr} {c : Nat} {zs : List Nat} (h : Got w w1 t K A c zs) (hb : Below w1.heap.size w1 w') : Got w w' t K A c zs := by
  obtain ⟨A', c', e, g⟩ := (OwnV.below (w0 := w) (v := .slice A zs.length c) h hb).form
  injection e with e1 e2 e3
  subst e1 e3
  exact g
theorem dm_none {A B : Option Addr} {n m c d x : Nat} {w : World} (hx : Nv w A n c x) (hy : Nv w B m d 0) (hn : n ≤ 549755813888) (hm : m ≤ 549755813888) :
    Calls Tryz.prog 64 #[.slice A n c, .slice B m d] w fun e w' => e = .returned (.tuple #[.slice none 0 0, .slice none 0 0, .bool false]) ∧ w = w' := by
  obtain ⟨xs, x1, x2, x3, x4, x5, x6, x7, x8, -⟩ := hx.trim
  obtain ⟨ys, y1, y2, y3, y4, y5, y6, y7, y8, -⟩ := hy.trim
  have h0 := Lib.hid (y8.1 rfl)
  have X2 := Lib.hid x2
  have Y2 := Lib.hid y2
  clear x2 y2 x8 y8 x6 y6
  go_enter Tryz.func64, Tryz.ntmps64
  go_wp2_with fail
  refine (dtrim_calls _ _ _ xs _ x1 X2.out x3 x4 x5 (by omega)).mono ?_
  rintro e w' ⟨rfl, rfl⟩
  go_wp2_with fail
  refine (dtrim_calls _ _ _ ys _ y1 Y2.out y3 y4 y5 (by omega)).mono ?_
  rintro e w' ⟨rfl, rfl⟩
  rw [h0.out]
  go_wp2
  go_ret3
  exact ⟨rfl, rfl⟩

set_option maxHeartbeats 1000000 in
theorem dm_calls {A B : Option Addr} {n m c d x y : Nat} {w : World} (hx : Nv w A n c x) (hy : Nv w B m d y) (hn : n ≤ 549755813888) (hm : m ≤ 549755813888) (h : 0 < y) :
    Calls Tryz.prog 64 #[.slice A n c, .slice B m d] w (DmPost (x / y) (x % y) w) := by
  obtain ⟨xs, x1, x2, x3, x4, x5, x6, x7, x8, x9, x10, x11, x12, x13⟩ := hx.trim
  obtain ⟨ys, y1, y2, y3, y4, y5, y6, y7, y8, y9, y10, y11, y12, y13⟩ := hy.trim
  have hs0 : 0 < sl ys := by
    rcases Nat.eq_zero_or_pos (sl ys) with h0 | h0
    · have := y8.2 h0; omega
    · exact h0
  obtain ⟨l, hl⟩ : ∃ l, sl ys = l + 1 := ⟨sl ys - 1, by omega⟩
  have htop := sl_top hs0
  rw [hl, Nat.add_sub_cancel, ← nth_take (n := sl ys) (by omega)] at htop
  have hlt : sl xs < sl ys → x < y := fun h0 => by rw [x13, y13] at h0; exact lt_of_len _ _ _ (by omega) h0
  have X2 := Lib.hid x2
  have Y2 := Lib.hid y2
  have X10 := Lib.hid x10
  have Y10 := Lib.hid y10
  have X12 := Lib.hid x12
  have Y12 := Lib.hid y12
  have HL := Lib.hid hl
  have HLT := Lib.hid hlt
  have HT := Lib.hid htop
  have sx : sl xs ≤ n := x7
  clear x2 y2 x8 y8 x10 y10 x12 y12 x13 y13 hlt hl htop
  generalize xs.take (sl xs) = us at *
  generalize ys.take (sl ys) = vs at *
  generalize hsx : sl xs = p at *
  generalize hsy : sl ys = q at *
  have HSX := Lib.hid hsx
  have HSY := Lib.hid hsy
  clear hsx hsy
  by_cases h1 : q = 1
  · subst h1
    obtain ⟨ae, rfl, _, c1⟩ := y9.at (k := 0) (by rw [Y10.out]; omega)
    have w1 := y11.any (by omega) 0
    have hv : ev 18446744073709551616 vs = nth vs 0 := by
      have := pre_succ 18446744073709551616 vs 0
      rw [pre_zero, Nat.zero_add, show (1 : Nat) = vs.length from Y10.out.symm, pre_len] at this
      simpa using this
    have hv2 : nth vs 0 = y := by rw [← hv, Y12.out]
    rw [hv2] at c1 w1
    have ez : ae.add 0 = ae := by unfold Addr.add; simp
    rw [ez] at c1
    clear hv hv2 ez
    go_enter Tryz.func64, Tryz.ntmps64
    go_wp2_with fail
    refine (dtrim_calls _ _ _ xs _ x1 X2.out x3 x4 x5 (by omega)).mono ?_
    rintro e w' ⟨rfl, rfl⟩
    rw [HSX.out]
    go_wp2_with fail
    refine (dtrim_calls _ _ _ ys _ y1 Y2.out y3 y4 y5 (by omega)).mono ?_
    rintro e w' ⟨rfl, rfl⟩
    rw [HSY.out]
    go_wp2_with fail
    refine (byword_calls _ _ _ us y _ x9 X10.out (by omega) x11 h w1).mono ?_
    rw [X12.out]
    rintro e w2 ⟨A2, c2, rfl, G2⟩
    have hr := Nat.mod_lt x h
    clear c1
    go_wp2_with fail
    refine (of_calls (x % y) (by omega) _).mono ?_
    rintro e w3 ⟨A3, c3, rfl, G3⟩
    have P : Hid (DmPost (x / y) (x % y) w (.returned (.tuple #[.slice A2 (cn 18446744073709551616 (x / y)).length c2, .slice A3 (cn 18446744073709551616 (x % y)).length c3, .bool true])) w3) :=
      Lib.hid ⟨A2, c2, A3, c3, rfl, Got.on G2 G3.2, G3.up G2.2⟩
    clear G2 G3
    go_wp2_with fail
    go_ret3
    exact P.out
  · have q1 : ((q : Int) == 0) = false := by rw [beq_eq_false_iff_ne]; omega
    have q2 : ((q : Int) == 1) = false := by rw [beq_eq_false_iff_ne]; omega
    have q3 : 2 ≤ q := by omega
    clear h1
    by_cases h2 : p < q
    · have hxy := HLT.out h2
      have hdiv : x / y = 0 := Nat.div_eq_of_lt hxy
      have hmod : x % y = x := Nat.mod_eq_of_lt hxy
      rw [hdiv, hmod]
      clear hdiv hmod
      go_enter Tryz.func64, Tryz.ntmps64
      go_wp2_with fail
      refine (dtrim_calls _ _ _ xs _ x1 X2.out x3 x4 x5 (by omega)).mono ?_
      rintro e w' ⟨rfl, rfl⟩
      rw [HSX.out]
      go_wp2_with fail
      refine (dtrim_calls _ _ _ ys _ y1 Y2.out y3 y4 y5 (by omega)).mono ?_
      rintro e w' ⟨rfl, rfl⟩
      rw [HSY.out]
      go_wp2_with fail
      refine (norm_calls _ _ _ us _ x9 X10.out (by omega) (by omega) x11 (by omega)).mono ?_
      rw [X12.out]
      rintro e w2 ⟨A2, c2, rfl, G2⟩
      have P : Hid (DmPost 0 x w (.returned (.tuple #[.slice none 0 0, .slice A2 (cn 18446744073709551616 x).length c2, .bool true])) w2) :=
        Lib.hid ⟨none, 0, A2, c2, rfl, Got.nil' _ _ G2.2, G2⟩
      clear G2
      go_wp2_with fail
      go_ret3
      exact P.out
    · go_enter Tryz.func64, Tryz.ntmps64
      go_wp2_with fail
      refine (dtrim_calls _ _ _ xs _ x1 X2.out x3 x4 x5 (by omega)).mono ?_
      rintro e w' ⟨rfl, rfl⟩
      rw [HSX.out]
      go_wp2_with fail
      refine (dtrim_calls _ _ _ ys _ y1 Y2.out y3 y4 y5 (by omega)).mono ?_
      rintro e w' ⟨rfl, rfl⟩
      rw [HSY.out]
      go_wp2_with fail
      refine (bywords_calls _ _ p q _ _ l us vs _ x9 y9 X10.out Y10.out HL.out q3 (by omega) (by omega) (by omega) (by omega) (by omega) x11 y11 HT.out (by omega)).mono ?_
      rw [X12.out, Y12.out]
      rintro e w2 ⟨A2, c2, A3, c3, rfl, G2, G3⟩
      have P : Hid (DmPost (x / y) (x % y) w (.returned (.tuple #[.slice A2 (cn 18446744073709551616 (x / y)).length c2, .slice A3 (cn 18446744073709551616 (x % y)).length c3, .bool true])) w2) :=
        Lib.hid ⟨A2, c2, A3, c3, rfl, G2, G3⟩
      clear G2 G3
      go_wp2_with fail
      go_ret3
      exact P.out

/-- Nothing and false; what was there is as it was. -/
def NoPost (w : World) (e : Ending) (w' : World) : Prop := e = .returned (.tuple #[.slice none 0 0, .bool false]) ∧ Below w.heap.size w w'
theorem mod_calls {A B : Option Addr} {n m c d x y : Nat} {w : World} (hx : Nv w A n c x) (hy : Nv w B m d y) (hn : n ≤ 549755813888) (hm : m ≤ 549755813888) (h : 0 < y) :
    Calls Tryz.prog 54 #[.slice A n c, .slice B m d] w (TwoPost (x % y) w) := by
  go_enter Tryz.func54, Tryz.ntmps54
  go_wp2_with fail
  refine (dm_calls hx hy hn hm h).mono ?_
  rintro e w2 ⟨A2, c2, A3, c3, rfl, G2, G3⟩
  have P : Hid (TwoPost (x % y) w (.returned (.tuple #[.slice A3 (cn 18446744073709551616 (x % y)).length c3, .bool true])) w2) := Lib.hid ⟨A3, c3, rfl, G3⟩
  clear G2 G3
  go_wp2_with fail
  go_ret2
  exact P.out
theorem mod_none {A B : Option Addr} {n m c d x : Nat} {w : World} (hx : Nv w A n c x) (hy : Nv w B m d 0) (hn : n ≤ 549755813888) (hm : m ≤ 549755813888) :
    Calls Tryz.prog 54 #[.slice A n c, .slice B m d] w (NoPost w) := by
  go_enter Tryz.func54, Tryz.ntmps54
  go_wp2_with fail
  refine (dm_none hx hy hn hm).mono ?_
  rintro e w2 ⟨rfl, rfl⟩
  go_wp2_with fail
  go_ret2
  exact ⟨rfl, Below.refl _ _⟩
theorem exact_calls {A B : Option Addr} {n m c d x y : Nat} {w : World} (hx : Nv w A n c x) (hy : Nv w B m d y) (hn : n ≤ 549755813888) (hm : m ≤ 549755813888) (h : 0 < y) (h0 : x % y = 0) :
    Calls Tryz.prog 44 #[.slice A n c, .slice B m d] w (TwoPost (x / y) w) := by
  have H0 := Lib.hid h0
  clear h0
  go_enter Tryz.func44, Tryz.ntmps44
  go_wp2_with fail
  refine (dm_calls hx hy hn hm h).mono ?_
  rw [H0.out]
  rintro e w2 ⟨A2, c2, A3, c3, rfl, G2, G3⟩
  have P : Hid (TwoPost (x / y) w (.returned (.tuple #[.slice A2 (cn 18446744073709551616 (x / y)).length c2, .bool true])) w2) := Lib.hid ⟨A2, c2, rfl, G2⟩
  clear G2 G3
  rw [show (cn 18446744073709551616 0).length = 0 from rfl]
  go_wp2_with fail
  go_ret2
  exact P.out
theorem exact_no {A B : Option Addr} {n m c d x y : Nat} {w : World} (hx : Nv w A n c x) (hy : Nv w B m d y) (hn : n ≤ 549755813888) (hm : m ≤ 549755813888) (h : 0 < y) (h0 : x % y ≠ 0) :
    Calls Tryz.prog 44 #[.slice A n c, .slice B m d] w (NoPost w) := by
  have hl : 0 < (cn 18446744073709551616 (x % y)).length := by
    rcases Nat.eq_zero_or_pos (cn 18446744073709551616 (x % y)).length with h1 | h1
    · exact absurd ((cn_nil_iff _ _ (by omega)).1 h1) h0
    · exact h1
  clear h0
  go_enter Tryz.func44, Tryz.ntmps44
  go_wp2_with fail
  refine (dm_calls hx hy hn hm h).mono ?_
  rintro e w2 ⟨A2, c2, A3, c3, rfl, G2, G3⟩
  have B2 := G2.2
  clear G2 G3
  generalize (cn 18446744073709551616 (x % y)).length = k at *
  go_wp2_with fail
  go_ret2
  exact ⟨rfl, B2⟩
theorem exact_none {A B : Option Addr} {n m c d x : Nat} {w : World} (hx : Nv w A n c x) (hy : Nv w B m d 0) (hn : n ≤ 549755813888) (hm : m ≤ 549755813888) :
    Calls Tryz.prog 44 #[.slice A n c, .slice B m d] w (NoPost w) := by
  go_enter Tryz.func44, Tryz.ntmps44
  go_wp2_with fail
  refine (dm_none hx hy hn hm).mono ?_
  rintro e w2 ⟨rfl, rfl⟩
  go_wp2_with fail
  go_ret2
  exact ⟨rfl, Below.refl _ _⟩
/-- Quotient and rest by a word, and true. -/
def SmPost (v x : Nat) (w : World) (e : Ending) (w' : World) : Prop :=
  ∃ A c, e = .returned (.tuple #[.slice A (cn 18446744073709551616 (v / x)).length c, .int .u64 ((v % x : Nat) : Int), .bool true]) ∧ Got w w' 55 .u64 A c (cn 18446744073709551616 (v / x))
theorem small_calls {A : Option Addr} {n c v x : Nat} {w : World} (hx : Nv w A n c v) (hn : n ≤ 549755813888) (h : 0 < x) (hx2 : x < 18446744073709551616) :
    Calls Tryz.prog 57 #[.slice A n c, .int .u64 x] w (SmPost v x w) := by
  obtain ⟨xs, x1, x2, x3, x4, x5, x6, x7, x8, x9, x10, x11, x12, x13⟩ := hx.trim
  have X2 := Lib.hid x2
  have X10 := Lib.hid x10
  have X12 := Lib.hid x12
  have q1 : ((x : Int) == 0) = false := by rw [beq_eq_false_iff_ne]; omega
  clear x2 x8 x10 x12 x13
  generalize xs.take (sl xs) = us at *
  generalize hsx : sl xs = p at *
  have HSX := Lib.hid hsx
  clear hsx
  go_enter Tryz.func57, Tryz.ntmps57
  go_wp2_with fail
  refine (dtrim_calls _ _ _ xs _ x1 X2.out x3 x4 x5 (by omega)).mono ?_
  rintro e w' ⟨rfl, rfl⟩
  rw [HSX.out]
  go_wp2_with fail
  refine (byword_calls _ _ _ us x _ x9 X10.out (by omega) x11 h hx2).mono ?_
  rw [X12.out]
  rintro e w2 ⟨A2, c2, rfl, G2⟩
  have P : Hid (SmPost v x w (.returned (.tuple #[.slice A2 (cn 18446744073709551616 (v / x)).length c2, .int .u64 ((v % x : Nat) : Int), .bool true])) w2) := Lib.hid ⟨A2, c2, rfl, G2⟩
  clear G2
  go_wp2_with fail
  go_ret3
  exact P.out
theorem small_none {A : Option Addr} {n c : Nat} {w : World} :
    Calls Tryz.prog 57 #[.slice A n c, .int .u64 0] w fun e w' => e = .returned (.tuple #[.slice none 0 0, .int .u64 0, .bool false]) ∧ w = w' := by
  go_enter Tryz.func57, Tryz.ntmps57
  go_wp2_with fail
  go_ret3
  exact ⟨rfl, rfl⟩

/-! By value, for the laws. -/
theorem Got.cv {w w' : World} {A : Option Addr} {c v : Nat} (h : Got w w' 55 .u64 A c (cn 18446744073709551616 v)) : Cv w' A (cn 18446744073709551616 v).length c v := by
  have hc := h.cap
  exact ⟨h.rd, rfl, hc.1, by have := hc.2; unfold maxLen at this; omega⟩
def DmCv (q r kq kr : Nat) (w : World) (e : Ending) (w' : World) : Prop :=
  ∃ A n c A' n' c', e = .returned (.tuple #[.slice A n c, .slice A' n' c', .bool true]) ∧ Cv w' A n c q ∧ Cv w' A' n' c' r ∧ n ≤ kq ∧ n' ≤ kr ∧ Below w.heap.size w w'
theorem div_lt_pow {x y n : Nat} (h : x < 18446744073709551616 ^ n) : x / y < 18446744073709551616 ^ n := Nat.lt_of_le_of_lt (Nat.div_le_self _ _) h
theorem dm_v {A B : Option Addr} {n m c d x y : Nat} {w : World} (hx : Nv w A n c x) (hy : Nv w B m d y) (hn : n ≤ 549755813888) (hm : m ≤ 549755813888) (h : 0 < y) :
    Calls Tryz.prog 64 #[.slice A n c, .slice B m d] w (DmCv (x / y) (x % y) n m w) := by
  have l1 := hx.lt
  have l2 := hy.lt
  refine (dm_calls hx hy hn hm h).mono ?_
  rintro e w' ⟨A2, c2, A3, c3, rfl, G2, G3⟩
  exact ⟨_, _, _, _, _, _, rfl, G2.cv, G3.cv, cn_len_of_lt _ _ _ (by omega) (div_lt_pow l1), cn_len_of_lt _ _ _ (by omega) (Nat.lt_trans (Nat.mod_lt _ h) l2), G2.2⟩
/-- A number is answered, and true: by value. -/
def TwoCv (v k : Nat) (w : World) (e : Ending) (w' : World) : Prop :=
  ∃ A n c, e = .returned (.tuple #[.slice A n c, .bool true]) ∧ Cv w' A n c v ∧ n ≤ k ∧ Below w.heap.size w w'
theorem TwoPost.cv {v k : Nat} {w w' : World} {e : Ending} (h : TwoPost v w e w') (hk : v < 18446744073709551616 ^ k) : TwoCv v k w e w' := by
  obtain ⟨A, c, rfl, hg⟩ := h
  exact ⟨A, _, c, rfl, hg.cv, cn_len_of_lt _ _ _ (by omega) hk, hg.2⟩
theorem mod_v {A B : Option Addr} {n m c d x y : Nat} {w : World} (hx : Nv w A n c x) (hy : Nv w B m d y) (hn : n ≤ 549755813888) (hm : m ≤ 549755813888) (h : 0 < y) :
    Calls Tryz.prog 54 #[.slice A n c, .slice B m d] w (TwoCv (x % y) m w) :=
  (mod_calls hx hy hn hm h).mono fun _ _ k => k.cv (Nat.lt_trans (Nat.mod_lt _ h) hy.lt)
theorem exact_v {A B : Option Addr} {n m c d x y : Nat} {w : World} (hx : Nv w A n c x) (hy : Nv w B m d y) (hn : n ≤ 549755813888) (hm : m ≤ 549755813888) (h : 0 < y) (h0 : x % y = 0) :
    Calls Tryz.prog 44 #[.slice A n c, .slice B m d] w (TwoCv (x / y) n w) :=
  (exact_calls hx hy hn hm h h0).mono fun _ _ k => k.cv (div_lt_pow hx.lt)
def SmCv (q r k : Nat) (w : World) (e : Ending) (w' : World) : Prop :=
  ∃ A n c, e = .returned (.tuple #[.slice A n c, .int .u64 (r : Int), .bool true]) ∧ Cv w' A n c q ∧ n ≤ k ∧ Below w.heap.size w w'
theorem small_v {A : Option Addr} {n c v x : Nat} {w : World} (hx : Nv w A n c v) (hn : n ≤ 549755813888) (h : 0 < x) (hx2 : x < 18446744073709551616) :
    Calls Tryz.prog 57 #[.slice A n c, .int .u64 x] w (SmCv (v / x) (v % x) n w) := by
  have l1 := hx.lt
  refine (small_calls hx hn h hx2).mono ?_
  rintro e w' ⟨A2, c2, rfl, G2⟩
  exact ⟨_, _, _, rfl, G2.cv, cn_len_of_lt _ _ _ (by omega) (div_lt_pow l1), G2.2⟩
theorem ofc_v (x : Nat) (hx : x < 18446744073709551616) (w : World) : Calls Tryz.prog 30 #[.int .u64 x] w (CvPost x 1 w) :=
  (of_calls x hx w).mono fun _ _ ⟨A, c, he, hg⟩ => ⟨A, _, c, he, hg.cv, cn_len_of_lt _ _ _ (by omega) (by omega), hg.2⟩
/-- A number, as a law's walk has it. -/
theorem natCast_small {k : Nat} {i : Int} (h : i = (k : Int)) : i = (k : Int) := h

/-! quincunxlaw03.awake. -/
end Go.Proofs.YtfpncmhaoadfdaaGreat
