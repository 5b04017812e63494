/-
  Package modn: power.
-/
import Derived.Test.YtofdbihohljmpaaModA
import Derived.Deep.RegionWith
/-! Contract: modn.power. -/
namespace Go.Proofs.Ytofdbihohljmpaa
open Go.RowKit
set_option linter.unusedVariables false
set_option linter.unusedSimpArgs false

/-- nat.Bit, by value. -/
theorem nbit_v {A : Option Addr} {n c v k : Nat} {w : World} (hx : Nv w A n c v) (hk : k ≤ 9223372036854775807) {b : Nat} (hb : v / 2 ^ k % 2 = b) :
    Calls Try.prog 52 #[.slice A n c, .int .i64 k] w fun e w' => e = .returned (.int .i64 (b : Int)) ∧ w = w' := by
  obtain ⟨xs, h1, h2, h3, h4, h5, rfl⟩ := hx
  rw [← hb]
  exact bit_calls A n c k (k / 64) (k % 64) xs w h1 h2 h5 hk (by omega) (by omega)
/-- nat.Bits, by value. -/
theorem nbl_v {A : Option Addr} {n c v b : Nat} {w : World} (hx : Nv w A n c v) (hn : n ≤ 1099511627776) (hb : bl v = b) :
    Calls Try.prog 20 #[.slice A n c] w fun e w' => e = .returned (.int .i64 (b : Int)) ∧ w = w' := zbits_n hx hn hb
/-- A whole number in a variable, and true. -/
def VarTrue (w0 : World) (z : Int) (k : Nat) (v b : Value) (wx : World) : Prop := VarCut w0 z k v wx ∧ b = .bool true
/-- The power that is reckoned up to the bit k of the exponent. -/
def PwIs (w : World) (g : Nat) (s : Bool) (A : Option Addr) (n c : Nat) (z : Int) (E : Option Addr) (l f v : Nat) (t : Bool) (B : Option Addr) (m d : Nat) (y : Int) (r : Int) (wr : World) : Prop :=
  ∃ s6 A6 n6 c6, Ib wr g s6 A6 n6 c6 ∧ Zc wr s6 A6 n6 c6 r ∧ n6 ≤ m ∧ Zv wr s A n c z ∧ Nv wr E l f v ∧ Zv wr t B m d y ∧
    Ib wr w.heap.size s A n c ∧ Ib wr (w.heap.size + 1) t B m d ∧ Ib wr (w.heap.size + 1 + 1) false none 0 0 ∧ w.heap.size + 1 + 1 < g ∧ Below w.heap.size w wr
def PwAt (w : World) (g : Nat) (s : Bool) (A : Option Addr) (n c : Nat) (z : Int) (E : Option Addr) (l f v : Nat) (t : Bool) (B : Option Addr) (m d : Nat) (y : Int) (k : Nat) (wr : World) : Prop := PwIs w g s A n c z E l f v t B m d y (z ^ (v / 2 ^ k) % y) wr
theorem Zv.putv {w : World} {A A' B : Option Addr} {n c g n' c' m d : Nat} {s s' t : Bool} {z : Int} (h : Zv w s A n c z) (hi : Ib w g t B m d) : Zv ((w.setCell ⟨g, 0, none⟩ (.bool s')).setCell ⟨g, 1, none⟩ (.slice A' n' c')) s A n c z := h.put hi
theorem Nv.put {w : World} {A A' B : Option Addr} {n c g n' c' m d x : Nat} {s' t : Bool} (h : Nv w A n c x) (hi : Ib w g t B m d) : Nv (zput w g s' A' n' c') A n c x := by
  obtain ⟨i1, i2, i3, i4, i5⟩ := hi
  refine (h.other i1 (fun m e => by cases e)).other (u := .slice B m d) ?_ (fun m e => by cases e)
  rw [World.cell?_setCell_other (h := by simp)]
  exact i2
/-- The rest is written anew. -/
theorem PwIs.put {w : World} {g : Nat} {s s1 : Bool} {A A1 : Option Addr} {n c n1 c1 : Nat} {z : Int} {E : Option Addr} {l f v : Nat} {t : Bool} {B : Option Addr} {m d : Nat} {y r r' : Int} {wr w1 : World} (h : PwIs w g s A n c z E l f v t B m d y r wr) (hb : Below wr.heap.size wr w1) (p : Zc w1 s1 A1 n1 c1 r') (hn : n1 ≤ m) :
    PwIs w g s A n c z E l f v t B m d y r' ((w1.setCell ⟨g, 0, none⟩ (.bool s1)).setCell ⟨g, 1, none⟩ (.slice A1 n1 c1)) := by
  obtain ⟨s6, A6, n6, c6, I6, p6, k6, hx, he, hy, IA, IB, IR, hg, hW⟩ := h
  have J := I6.below hb
  refine ⟨s1, A1, n1, c1, J.own, p.put J, hn, (hx.below hb).put J, (he.below hb).put J, (hy.below hb).put J, ?_, ?_, ?_, hg, below_put (hW.trans (hb.mono hW.size)) (by omega)⟩
  · exact (IA.below hb).put (l := 0) (e := 0) (u := true) (C := none) (by omega)
  · exact (IB.below hb).put (l := 0) (e := 0) (u := true) (C := none) (by omega)
  · exact (IR.below hb).put (l := 0) (e := 0) (u := true) (C := none) (by omega)
theorem sq_rest (a y : Int) : a % y * (a % y) % y = a * a % y := (Int.mul_emod a a y).symm
theorem mul_rest (a b y : Int) : a % y * b % y = a * b % y := by rw [Int.mul_emod, Int.emod_emod, ← Int.mul_emod]
/-- One bit more: its square, and, where the bit is 1, once more the number. -/
theorem pwr_even {z y : Int} {v k : Nat} (h : v / 2 ^ k % 2 = 0) : z ^ (v / 2 ^ (k + 1)) % y * (z ^ (v / 2 ^ (k + 1)) % y) % y = z ^ (v / 2 ^ k) % y := by
  have e : v / 2 ^ k = v / 2 ^ (k + 1) + v / 2 ^ (k + 1) := by
    rw [Nat.pow_succ, ← Nat.div_div_eq_div_mul]; omega
  rw [sq_rest, e, Int.pow_add]
theorem pwr_odd {z y : Int} {v k : Nat} (h : v / 2 ^ k % 2 = 1) : z ^ (v / 2 ^ (k + 1)) % y * (z ^ (v / 2 ^ (k + 1)) % y) % y * z % y = z ^ (v / 2 ^ k) % y := by
  have e : v / 2 ^ k = v / 2 ^ (k + 1) + v / 2 ^ (k + 1) + 1 := by
    rw [Nat.pow_succ, ← Nat.div_div_eq_div_mul]; omega
  rw [sq_rest, mul_rest, e, Int.pow_add, Int.pow_add, Int.pow_one]
theorem bl_half (v : Nat) : v / 2 ^ (bl v) = 0 := Nat.div_eq_of_lt (bl_le.1 (Nat.le_refl _))

set_option maxRecDepth 100000 in
set_option maxHeartbeats 4000000 in
/-- modn.power. -/
theorem power_v {A E B : Option Addr} {n c l f v m d : Nat} {s t : Bool} {z y : Int} {w : World} (hx : Zv w s A n c z) (he : Nv w E l f v) (hy : Zv w t B m d y) (hn : n ≤ 68719476736) (hl : l ≤ 68719476736) (hm : m ≤ 68719476736) (h0 : 0 < y) :
    Calls Try.prog 30 #[.agg #[.bool s, .slice A n c], .slice E l f, .agg #[.bool t, .slice B m d]] w (ZPost (z ^ v % y) m w) := by
  obtain ⟨w3, hw3, IA, IB, IR, z0⟩ := open3 w s t A B n c m d
  have HW := Lib.hid hw3.symm
  replace hx := hx.below z0
  replace he := he.below z0
  replace hy := hy.below z0
  have hW := z0
  have H_a := Lib.hid IA
  have H_b := Lib.hid IB
  have H_r := Lib.hid IR
  obtain ⟨b0, hb0⟩ : ∃ b, bl v = b := ⟨_, rfl⟩
  have hbl : b0 ≤ 64 * l := by rw [← hb0]; exact bl_le.2 (by have := he.lt; rwa [show (18446744073709551616 : Nat) = 2 ^ 64 from by decide, ← Nat.pow_mul] at this)
  have HB0 := Lib.hid hb0
  clear hw3 IA IB IR z0 hb0
  go_enter Try.func30, Try.ntmps30
  obtain ⟨a1, a2, a3, a4, a5⟩ := H_a.out
  obtain ⟨b1, b2, b3, b4, b5⟩ := H_b.out
  obtain ⟨r1, r2, r3, r4, r5⟩ := H_r.out
  go_wp2_with fail
  rw [HW.out]
  clear a1 a2 a3 a4 a5 b1 b2 b3 b4 b5 r1 r2 r3 r4 r5
  go_upto_region 1 with fail
  go_cut [7, 8] (VarTrue w3 (1 % y) m)
  case first =>
    obtain ⟨a1, a2, a3, a4, a5⟩ := H_a.out
    obtain ⟨b1, b2, b3, b4, b5⟩ := H_b.out
    obtain ⟨r1, r2, r3, r4, r5⟩ := H_r.out
    have an : ¬ (w3.heap.size = w.heap.size) := by omega
    have am : ¬ (w.heap.size = w3.heap.size) := by omega
    have bn : ¬ (w3.heap.size = (w.heap.size + 1)) := by omega
    have bm : ¬ ((w.heap.size + 1) = w3.heap.size) := by omega
    have rn : ¬ (w3.heap.size = (w.heap.size + 1 + 1)) := by omega
    have rm : ¬ ((w.heap.size + 1 + 1) = w3.heap.size) := by omega
    go_region_held3 (fun w' => w'.cell? ⟨w.heap.size, 0, none⟩ = some (.bool s) ∧ w'.cell? ⟨w.heap.size, 1, none⟩ = some (.slice A n c) ∧ w'.cell? ⟨(w.heap.size + 1), 0, none⟩ = some (.bool t) ∧ w'.cell? ⟨(w.heap.size + 1), 1, none⟩ = some (.slice B m d) ∧ w'.cell? ⟨(w.heap.size + 1 + 1), 0, none⟩ = some (.bool false) ∧ w'.cell? ⟨(w.heap.size + 1 + 1), 1, none⟩ = some (.slice none 0 0)) (go_keep) (first
      | (go_at_call 14; (with_reducible refine (zof_v 1 (by omega) (by omega) _).mono ?_); rintro e w21 ⟨s21, A21, n21, c21, rfl, p21, k21, B21⟩; have Q21 := zup (below_drew _) B21; obtain ⟨ax21, ay21, af21, ag21, az21⟩ := H_a.out.below Q21; have an21 : ¬ (w21.heap.size = w.heap.size) := (by omega); have am21 : ¬ (w.heap.size = w21.heap.size) := (by omega); obtain ⟨bx21, by21, bf21, bg21, bz21⟩ := H_b.out.below Q21; have bn21 : ¬ (w21.heap.size = (w.heap.size + 1)) := (by omega); have bm21 : ¬ ((w.heap.size + 1) = w21.heap.size) := (by omega); obtain ⟨rx21, ry21, rf21, rg21, rz21⟩ := H_r.out.below Q21; have rn21 : ¬ (w21.heap.size = (w.heap.size + 1 + 1)) := (by omega); have rm21 : ¬ ((w.heap.size + 1 + 1) = w21.heap.size) := (by omega))
      | (go_at_call 14; (with_reducible refine (zof_v 1 (by omega) (by omega) _).mono ?_); rintro e w21 ⟨s21, A21, n21, c21, rfl, p21, k21, B21⟩; have Q21 := zup (zbd _ _) B21; have J21 := (Ib.newd w3 false none 0 0 25).below B21; have g21 := Nat.le_refl w3.heap.size; obtain ⟨ax21, ay21, af21, ag21, az21⟩ := H_a.out.below Q21; have an21 : ¬ (w21.heap.size = w.heap.size) := (by omega); have am21 : ¬ (w.heap.size = w21.heap.size) := (by omega); obtain ⟨bx21, by21, bf21, bg21, bz21⟩ := H_b.out.below Q21; have bn21 : ¬ (w21.heap.size = (w.heap.size + 1)) := (by omega); have bm21 : ¬ ((w.heap.size + 1) = w21.heap.size) := (by omega); obtain ⟨rx21, ry21, rf21, rg21, rz21⟩ := H_r.out.below Q21; have rn21 : ¬ (w21.heap.size = (w.heap.size + 1 + 1)) := (by omega); have rm21 : ¬ ((w.heap.size + 1 + 1) = w21.heap.size) := (by omega); have Jc21 := J21; obtain ⟨jx21, jy21, jf21, jg21, jz21⟩ := Jc21)
      | (go_at_call 7; (with_reducible refine (mod_yes p21.zv (hy.below Q21) (by omega) (by omega) h0).mono ?_); rintro e w22 ⟨s22, A22, n22, c22, rfl, p22, k22, B22⟩; have Q22 := zup Q21 B22; have R22 := B22; have J22 := J21.below B22; have g22 := g21; obtain ⟨ax22, ay22, af22, ag22, az22⟩ := H_a.out.below Q22; have an22 : ¬ (w22.heap.size = w.heap.size) := (by omega); have am22 : ¬ (w.heap.size = w22.heap.size) := (by omega); obtain ⟨bx22, by22, bf22, bg22, bz22⟩ := H_b.out.below Q22; have bn22 : ¬ (w22.heap.size = (w.heap.size + 1)) := (by omega); have bm22 : ¬ ((w.heap.size + 1) = w22.heap.size) := (by omega); obtain ⟨rx22, ry22, rf22, rg22, rz22⟩ := H_r.out.below Q22; have rn22 : ¬ (w22.heap.size = (w.heap.size + 1 + 1)) := (by omega); have rm22 : ¬ ((w.heap.size + 1 + 1) = w22.heap.size) := (by omega); have Jc22 := J22; obtain ⟨jx22, jy22, jf22, jg22, jz22⟩ := Jc22)
      | (go_at_call 7; (with_reducible refine (mod_yes p21.zv (hy.below Q21) (by omega) (by omega) h0).mono ?_); rintro e w22 ⟨s22, A22, n22, c22, rfl, p22, k22, B22⟩; have Q22 := zup Q21 B22; have R22 := B22; obtain ⟨ax22, ay22, af22, ag22, az22⟩ := H_a.out.below Q22; have an22 : ¬ (w22.heap.size = w.heap.size) := (by omega); have am22 : ¬ (w.heap.size = w22.heap.size) := (by omega); obtain ⟨bx22, by22, bf22, bg22, bz22⟩ := H_b.out.below Q22; have bn22 : ¬ (w22.heap.size = (w.heap.size + 1)) := (by omega); have bm22 : ¬ ((w.heap.size + 1) = w22.heap.size) := (by omega); obtain ⟨rx22, ry22, rf22, rg22, rz22⟩ := H_r.out.below Q22; have rn22 : ¬ (w22.heap.size = (w.heap.size + 1 + 1)) := (by omega); have rm22 : ¬ ((w.heap.size + 1 + 1) = w22.heap.size) := (by omega))
      | (go_at_call 7; (with_reducible refine (mod_yes (p21.below (zba _ _)).zv (hy.below (zup Q21 (zba _ _))) (by omega) (by omega) h0).mono ?_); rintro e w22 ⟨s22, A22, n22, c22, rfl, p22, k22, B22⟩; have Q22 := zup (zup Q21 (zba _ _)) B22; have R22 := zup (zba w21 _) B22; have J22 := (Ib.new w21 false none 0 0 25).below B22; have g22 := Q21.size; obtain ⟨ax22, ay22, af22, ag22, az22⟩ := H_a.out.below Q22; have an22 : ¬ (w22.heap.size = w.heap.size) := (by omega); have am22 : ¬ (w.heap.size = w22.heap.size) := (by omega); obtain ⟨bx22, by22, bf22, bg22, bz22⟩ := H_b.out.below Q22; have bn22 : ¬ (w22.heap.size = (w.heap.size + 1)) := (by omega); have bm22 : ¬ ((w.heap.size + 1) = w22.heap.size) := (by omega); obtain ⟨rx22, ry22, rf22, rg22, rz22⟩ := H_r.out.below Q22; have rn22 : ¬ (w22.heap.size = (w.heap.size + 1 + 1)) := (by omega); have rm22 : ¬ ((w.heap.size + 1 + 1) = w22.heap.size) := (by omega); have Jc22 := J22; obtain ⟨jx22, jy22, jf22, jg22, jz22⟩ := Jc22)
      | fail)
    all_goals
      first
      | have P := Lib.hid (VarCut.put (w0 := w3) (z := (1 % y)) (k := m) J22 p22 Q22 g22 (by omega))
      | have P := Lib.hid (VarCut.new (w0 := w3) (z := (1 % y)) (k := m) (t := 25) p22 Q22 (by omega))
      go_wp2_with fail
      go_meet
      exact ⟨P.out, rfl⟩
  case rest =>
    obtain ⟨⟨g23, s23, A23, n23, c23, rfl, hg23, I23, p23, k23, B23⟩, rfl⟩ := hcut
    obtain ⟨w23, hw23⟩ : ∃ x, x = wc := ⟨_, rfl⟩
    subst hw23
    have lt_a_q : w.heap.size < g23 := Nat.lt_of_lt_of_le H_a.out.2.2.2.2 hg23
    have lt_b_q : (w.heap.size + 1) < g23 := Nat.lt_of_lt_of_le H_b.out.2.2.2.2 hg23
    have lt_r_q : (w.heap.size + 1 + 1) < g23 := Nat.lt_of_lt_of_le H_r.out.2.2.2.2 hg23
    have lw_q : w.heap.size ≤ g23 := Nat.le_trans hW.size hg23
    replace H_a := Lib.hid (H_a.out.below B23)
    replace H_b := Lib.hid (H_b.out.below B23)
    replace H_r := Lib.hid (H_r.out.below B23)
    replace hx := hx.below B23
    replace he := he.below B23
    replace hy := hy.below B23
    replace hW := hW.trans (B23.mono hW.size)
    have H_q := Lib.hid I23
    clear B23 I23 hg23
    have pq := p23
    clear p23
    have hgq : w.heap.size + 1 + 1 < g23 := by have := lt_r_q; omega
    obtain ⟨a1, a2, a3, a4, a5⟩ := H_a.out
    obtain ⟨b1, b2, b3, b4, b5⟩ := H_b.out
    obtain ⟨r1, r2, r3, r4, r5⟩ := H_r.out
    obtain ⟨q1, q2, q3, q4, q5⟩ := H_q.out
    go_wp2_with fail
    clear a1 a2 a3 a4 a5 b1 b2 b3 b4 b5 r1 r2 r3 r4 r5 q1 q2 q3 q4 q5
    refine (nbl_v he (by omega) HB0.out).mono ?_
    rintro e w40 ⟨rfl, rfl⟩
    have HS : Hid (PwAt w g23 s A n c z E l f v t B m d y b0 w23) := Lib.hid ⟨s23, A23, n23, c23, H_q.out, by rw [← HB0.out, bl_half, Int.pow_zero]; exact pq, by omega, hx, he, hy, H_a.out, H_b.out, H_r.out, hgq, hW⟩
    clear hx he hy pq hW H_a H_b H_r H_q lt_a_q lt_b_q lt_r_q lw_q HB0
    go_wp2_with fail
    go_loopw [9] (fun i wr => ∃ k : Nat, k ≤ b0 ∧ i = .int .i64 ((k : Int) - 1) ∧ PwAt w g23 s A n c z E l f v t B m d y k wr) (fun i _ => (intOf i + 1).toNat)
    case atStart => exact ⟨b0, Nat.le_refl _, rfl, HS.out⟩
    case round =>
    clear HS
    obtain ⟨k, hk, rfl, s6, A6, n6, c6, I6, p6, k6, hx, he, hy, IA, IB, IR, hgq', hW⟩ := hrel
    have H_q := Lib.hid I6
    have H_a := Lib.hid IA
    have H_b := Lib.hid IB
    have H_r := Lib.hid IR
    clear I6 IA IB IR
    have lt_a_q : w.heap.size < g23 := by omega
    have lt_b_q : (w.heap.size + 1) < g23 := by omega
    have lt_r_q : (w.heap.size + 1 + 1) < g23 := by omega
    have lw_q : w.heap.size ≤ g23 := by omega
    rcases Nat.eq_zero_or_pos k with rfl | hpos
    · have e0 : z ^ (v / 2 ^ 0) % y = z ^ v % y := by rw [Nat.pow_zero, Nat.div_one]
      rw [e0] at p6
      clear e0
      have P := Lib.hid (zfin p6 H_r.out (k := m) (by omega) (by omega) hW)
      obtain ⟨a1, a2, a3, a4, a5⟩ := H_a.out
      obtain ⟨b1, b2, b3, b4, b5⟩ := H_b.out
      obtain ⟨r1, r2, r3, r4, r5⟩ := H_r.out
      obtain ⟨q1, q2, q3, q4, q5⟩ := H_q.out
      go_wp2_with fail
      exact bodyPost_ret (v := .agg #[.bool s6, .slice A6 n6 c6]) (by simp [results, Try.results30, go_sem, r1, r2]) rfl P.out
    · obtain ⟨i, rfl⟩ : ∃ i, k = i + 1 := ⟨k - 1, by omega⟩
      rw [show (((i + 1 : Nat) : Int) - 1) = (i : Int) from by omega]
      obtain ⟨b, hb⟩ : ∃ b, v / 2 ^ i % 2 = b := ⟨_, rfl⟩
      have hb2 : b < 2 := by rw [← hb]; exact Nat.mod_lt _ (by omega)
      have HB := Lib.hid hb
      clear hb hpos
      obtain ⟨p, hp⟩ : ∃ p, z ^ (v / 2 ^ (i + 1)) % y = p := ⟨_, rfl⟩
      rw [hp] at p6
      have HP := Lib.hid hp
      clear hp
      have HI : Hid (PwIs w g23 s A n c z E l f v t B m d y p wr) := Lib.hid ⟨s6, A6, n6, c6, H_q.out, p6, k6, hx, he, hy, H_a.out, H_b.out, H_r.out, hgq', hW⟩
      go_upto_region 5 with fail
      go_cut [] (fun wx => PwIs w g23 s A n c z E l f v t B m d y (p * p % y) wx)
      case first =>
        obtain ⟨a1, a2, a3, a4, a5⟩ := H_a.out
        obtain ⟨b1, b2, b3, b4, b5⟩ := H_b.out
        obtain ⟨r1, r2, r3, r4, r5⟩ := H_r.out
        obtain ⟨q1, q2, q3, q4, q5⟩ := H_q.out
        have n_a : ¬ (g23 = w.heap.size) := by omega
        have m_a : ¬ (w.heap.size = g23) := by omega
        have n_b : ¬ (g23 = (w.heap.size + 1)) := by omega
        have m_b : ¬ ((w.heap.size + 1) = g23) := by omega
        have n_r : ¬ (g23 = (w.heap.size + 1 + 1)) := by omega
        have m_r : ¬ ((w.heap.size + 1 + 1) = g23) := by omega
        go_region_with (first
          | (go_at_call 13; (with_reducible refine (zmul_v (p6.below (below_drew _)).zv (p6.below (below_drew _)).zv (by omega) (by omega)).mono ?_); rintro e w61 ⟨s61, A61, n61, c61, rfl, p61, k61, B61⟩; have Q61 := zup (below_drew _) B61; obtain ⟨ax61, ay61, af61, ag61, az61⟩ := H_a.out.below Q61; obtain ⟨bx61, by61, bf61, bg61, bz61⟩ := H_b.out.below Q61; obtain ⟨rx61, ry61, rf61, rg61, rz61⟩ := H_r.out.below Q61; obtain ⟨qx61, qy61, qf61, qg61, qz61⟩ := H_q.out.below Q61)
          | (go_at_call 7; (with_reducible refine (mod_yes p61.zv (hy.below Q61) (by omega) (by omega) h0).mono ?_); rintro e w62 ⟨s62, A62, n62, c62, rfl, p62, k62, B62⟩; have Q62 := zup Q61 B62; obtain ⟨ax62, ay62, af62, ag62, az62⟩ := H_a.out.below Q62; obtain ⟨bx62, by62, bf62, bg62, bz62⟩ := H_b.out.below Q62; obtain ⟨rx62, ry62, rf62, rg62, rz62⟩ := H_r.out.below Q62; obtain ⟨qx62, qy62, qf62, qg62, qz62⟩ := H_q.out.below Q62)
          | fail)
        all_goals
          have P := Lib.hid (HI.out.put Q62 p62 k62)
          go_wp2_with fail
          go_meet
          exact P.out
      case rest =>
        clear HI H_q H_a H_b H_r p6 hx he hy hW
        obtain ⟨s7, A7, n7, c7, I7, p7, k7, hx, he, hy, IA, IB, IR, hgq'', hW⟩ := hcut
        have H_q := Lib.hid I7
        have H_a := Lib.hid IA
        have H_b := Lib.hid IB
        have H_r := Lib.hid IR
        clear I7 IA IB IR
        obtain ⟨a1, a2, a3, a4, a5⟩ := H_a.out
        obtain ⟨b1, b2, b3, b4, b5⟩ := H_b.out
        obtain ⟨r1, r2, r3, r4, r5⟩ := H_r.out
        obtain ⟨q1, q2, q3, q4, q5⟩ := H_q.out
        go_wp2_with fail
        clear a1 a2 a3 a4 a5 b1 b2 b3 b4 b5 r1 r2 r3 r4 r5 q1 q2 q3 q4 q5
        refine (nbit_v he (by omega) HB.out).mono ?_
        rintro e w90 ⟨rfl, rfl⟩
        rcases Nat.eq_zero_or_pos b with rfl | hb1
        · have e1 := pwr_even (z := z) (y := y) HB.out
          rw [HP.out] at e1
          rw [e1] at p7
          have HN : Hid (PwAt w g23 s A n c z E l f v t B m d y i wc) := Lib.hid ⟨s7, A7, n7, c7, H_q.out, p7, k7, hx, he, hy, H_a.out, H_b.out, H_r.out, hgq, hW⟩
          clear e1
          obtain ⟨a1, a2, a3, a4, a5⟩ := H_a.out
          obtain ⟨b1, b2, b3, b4, b5⟩ := H_b.out
          obtain ⟨r1, r2, r3, r4, r5⟩ := H_r.out
          obtain ⟨q1, q2, q3, q4, q5⟩ := H_q.out
          go_wp2_with fail
          go_roundw
          case rel => exact ⟨i, by omega, by go_num, HN.out⟩
          case measure => simp [intOf]
        · obtain rfl : b = 1 := by omega
          clear hb1
          have e1 := pwr_odd (z := z) (y := y) HB.out
          rw [HP.out] at e1
          have HE := Lib.hid e1
          clear e1
          have HI : Hid (PwIs w g23 s A n c z E l f v t B m d y (p * p % y) wc) := Lib.hid ⟨s7, A7, n7, c7, H_q.out, p7, k7, hx, he, hy, H_a.out, H_b.out, H_r.out, hgq, hW⟩
          obtain ⟨a1, a2, a3, a4, a5⟩ := H_a.out
          obtain ⟨b1, b2, b3, b4, b5⟩ := H_b.out
          obtain ⟨r1, r2, r3, r4, r5⟩ := H_r.out
          obtain ⟨q1, q2, q3, q4, q5⟩ := H_q.out
          go_upto_region 7 with fail
          have n_a : ¬ (g23 = w.heap.size) := by omega
          have m_a : ¬ (w.heap.size = g23) := by omega
          have n_b : ¬ (g23 = (w.heap.size + 1)) := by omega
          have m_b : ¬ ((w.heap.size + 1) = g23) := by omega
          have n_r : ¬ (g23 = (w.heap.size + 1 + 1)) := by omega
          have m_r : ¬ ((w.heap.size + 1 + 1) = g23) := by omega
          go_region_with (first
            | (go_at_call 13; (with_reducible refine (zmul_v (p7.below (below_drew _)).zv (hx.below (below_drew _)) (by omega) (by omega)).mono ?_); rintro e w101 ⟨s101, A101, n101, c101, rfl, p101, k101, B101⟩; have Q101 := zup (below_drew _) B101; obtain ⟨ax101, ay101, af101, ag101, az101⟩ := H_a.out.below Q101; obtain ⟨bx101, by101, bf101, bg101, bz101⟩ := H_b.out.below Q101; obtain ⟨rx101, ry101, rf101, rg101, rz101⟩ := H_r.out.below Q101; obtain ⟨qx101, qy101, qf101, qg101, qz101⟩ := H_q.out.below Q101)
            | (go_at_call 7; (with_reducible refine (mod_yes p101.zv (hy.below Q101) (by omega) (by omega) h0).mono ?_); rintro e w102 ⟨s102, A102, n102, c102, rfl, p102, k102, B102⟩; have Q102 := zup Q101 B102; obtain ⟨ax102, ay102, af102, ag102, az102⟩ := H_a.out.below Q102; obtain ⟨bx102, by102, bf102, bg102, bz102⟩ := H_b.out.below Q102; obtain ⟨rx102, ry102, rf102, rg102, rz102⟩ := H_r.out.below Q102; obtain ⟨qx102, qy102, qf102, qg102, qz102⟩ := H_q.out.below Q102)
            | fail)
          all_goals
            have P := Lib.hid (HI.out.put Q102 p102 k102)
            rw [HE.out] at P
            go_wp2_with fail
            go_roundw
            case rel => exact ⟨i, by omega, by go_num, P.out⟩
            case measure => simp [intOf]
end Go.Proofs.Ytofdbihohljmpaa
