/-
  Package modn: join.
-/
import Derived.Test.YtbcopicoldnahaaGreatModA
import Derived.Test.YtbcopicoldnahaaGreatModB
import Derived.Test.YtbcopicoldnahaaGreatCrtA
import Derived.Deep.RegionWith
/-! Contract: modn.join. -/
namespace Go.Proofs.YtbcopicoldnahaaGreat
open Go.RowKit
set_option linter.unusedVariables false
set_option linter.unusedSimpArgs false

/-- A whole number in a struct in memory, from the cell k on. -/
def Ic (w : World) (g k k' : Nat) (s : Bool) (A : Option Addr) (n c : Nat) : Prop :=
  w.cell? ⟨g, k, none⟩ = some (.bool s) ∧ w.cell? ⟨g, k', none⟩ = some (.slice A n c) ∧ w.frozen? ⟨g, k, none⟩ = false ∧ w.frozen? ⟨g, k', none⟩ = false ∧ g < w.heap.size
theorem Ic.below {w w' : World} {g k k' : Nat} {s : Bool} {A : Option Addr} {n c : Nat} (h : Ic w g k k' s A n c) (hb : Below w.heap.size w w') : Ic w' g k k' s A n c := by
  obtain ⟨h1, h2, h3, h4, h5⟩ := h
  exact ⟨(hb.cell (p := ⟨g, k, none⟩) h5).trans h1, (hb.cell (p := ⟨g, k', none⟩) h5).trans h2, (hb.frozen (p := ⟨g, k, none⟩) h5).trans h3, (hb.frozen (p := ⟨g, k', none⟩) h5).trans h4, Nat.lt_of_lt_of_le h5 hb.size⟩
/-- A whole number in a variable, and false. -/
def VarNo (w0 : World) (z : Int) (k : Nat) (v b : Value) (wx : World) : Prop := VarCut w0 z k v wx ∧ b = .bool false
/-- A class is answered. -/
def ClPost (R M : Int) (k : Nat) (w : World) (e : Ending) (w' : World) : Prop :=
  ∃ s A n c t B m d, e = .returned (.tuple #[.agg #[.bool s, .slice A n c, .bool t, .slice B m d], .bool true]) ∧ Zc w' s A n c R ∧ Zc w' t B m d M ∧ n ≤ k ∧ m ≤ k ∧ Below w.heap.size w w'
def ClNo (w : World) (e : Ending) (w' : World) : Prop := e = .returned (.tuple #[.agg #[.bool false, .slice none 0 0, .bool false, .slice none 0 0], .bool false]) ∧ Below w.heap.size w w'
theorem opencl (w : World) (s t u v : Bool) (A B C D : Option Addr) (n c m d l e f h : Nat) :
    ∃ w3, w3 = (((w.alloc (.cells #[.bool s, .slice A n c, .bool t, .slice B m d] 40)).alloc (.cells #[.bool u, .slice C l e, .bool v, .slice D f h] 40)).alloc (.cells #[.bool false, .slice none 0 0, .bool false, .slice none 0 0] 40)) ∧
      Ic w3 w.heap.size 0 1 s A n c ∧ Ic w3 w.heap.size 2 3 t B m d ∧ Ic w3 (w.heap.size + 1) 0 1 u C l e ∧ Ic w3 (w.heap.size + 1) 2 3 v D f h ∧ Ic w3 (w.heap.size + 1 + 1) 0 1 false none 0 0 ∧ Ic w3 (w.heap.size + 1 + 1) 2 3 false none 0 0 ∧ Below w.heap.size w w3 := by
  refine ⟨_, rfl, ?_, ?_, ?_, ?_, ?_, ?_, zba3 _ _ _ _⟩
  all_goals
    refine ⟨?_, ?_, ?_, ?_, ?_⟩ <;> simp [go_sem] <;> omega
/-- A class is written to g. -/
def clput (w : World) (g : Nat) (s : Bool) (A : Option Addr) (n c : Nat) (t : Bool) (B : Option Addr) (m d : Nat) : World := (((w.setCell ⟨g, 0, none⟩ (.bool s)).setCell ⟨g, 1, none⟩ (.slice A n c)).setCell ⟨g, 2, none⟩ (.bool t)).setCell ⟨g, 3, none⟩ (.slice B m d)
theorem below_clput {b : Nat} {w w2 : World} {A B : Option Addr} {n c m d g : Nat} {s t : Bool} (h : Below b w w2) (hg : b ≤ g) : Below b w (clput w2 g s A n c t B m d) := (((h.setCell hg _).setCell hg _).setCell hg _).setCell hg _
theorem Zc.clput {w : World} {A A' B' A0 B0 : Option Addr} {n c n' c' m' d' g n0 c0 m0 d0 : Nat} {s s' t' s0 t0 : Bool} {z : Int} (h : Zc w s A n c z) (h1 : Ic w g 0 1 s0 A0 n0 c0) (h2 : Ic w g 2 3 t0 B0 m0 d0) : Zc (clput w g s' A' n' c' t' B' m' d') s A n c z := by
  refine ⟨?_, h.2⟩
  obtain ⟨a1, a2, a3, a4, a5⟩ := h1
  obtain ⟨b1, b2, b3, b4, b5⟩ := h2
  refine (((h.1.other a1 (fun m e => by cases e)).other (u := .slice A0 n0 c0) ?_ (fun m e => by cases e)).other (u := .bool t0) ?_ (fun m e => by cases e)).other (u := .slice B0 m0 d0) ?_ (fun m e => by cases e)
  · rw [World.cell?_setCell_other (h := by simp)]; exact a2
  · rw [World.cell?_setCell_other (h := by simp), World.cell?_setCell_other (h := by simp)]; exact b1
  · rw [World.cell?_setCell_other (h := by simp), World.cell?_setCell_other (h := by simp), World.cell?_setCell_other (h := by simp)]; exact b2
/-- What join answers. -/
def JnPost (a p b q : Int) (k : Nat) (w : World) (e : Ending) (w' : World) : Prop := ∃ R M, JoinOk a p b q R M ∧ ClPost R M k w e w'
theorem jn_fin {a p b q R M : Int} {w w2 : World} {A B A0 B0 : Option Addr} {n c m d g k n0 c0 m0 d0 : Nat} {s t s0 t0 : Bool} (hj : JoinOk a p b q R M) (hr : Zc w2 s A n c R) (hm : Zc w2 t B m d M) (h1 : Ic w2 g 0 1 s0 A0 n0 c0) (h2 : Ic w2 g 2 3 t0 B0 m0 d0) (hk : n ≤ k) (hk' : m ≤ k) (hg : w.heap.size ≤ g) (hB : Below w.heap.size w w2) :
    JnPost a p b q k w (.returned (.tuple #[.agg #[.bool s, .slice A n c, .bool t, .slice B m d], .bool true])) (clput w2 g s A n c t B m d) :=
  ⟨R, M, hj, s, A, n, c, t, B, m, d, rfl, hr.clput h1 h2, hm.clput h1 h2, hk, hk', below_clput hB hg⟩
set_option maxRecDepth 100000 in
set_option maxHeartbeats 16000000 in
theorem join_no {A B C D : Option Addr} {n c m d l e' f' h' : Nat} {s t u v : Bool} {a p b q : Int} {w : World} (ha : Zc w s A n c a) (hp : Zc w t B m d p) (hb : Zc w u C l e' b) (hq : Zc w v D f' h' q) (hn : n ≤ 1048576) (hm : m ≤ 1048576) (hl : l ≤ 1048576) (hf : f' ≤ 1048576) (p0 : 0 < p) (q0 : 0 < q) (b0 : 0 ≤ b) (b1 : b < q) (hG : ¬ ((Nat.gcd q.natAbs p.natAbs : Nat) : Int) ∣ a - b) :
    Calls Tryz.prog 33 #[.agg #[.bool s, .slice A n c, .bool t, .slice B m d], .agg #[.bool u, .slice C l e', .bool v, .slice D f' h']] w (ClNo w) := by
  obtain ⟨w3, hw3, I1, I2, I3, I4, I5, I6, z0⟩ := opencl w s t u v A B C D n c m d l e' f' h'
  have HW := Lib.hid hw3.symm
  replace ha := ha.below z0
  replace hp := hp.below z0
  replace hb := hb.below z0
  replace hq := hq.below z0
  have hW := z0
  have H_ia := Lib.hid I1
  have H_ja := Lib.hid I2
  have H_ka := Lib.hid I3
  have H_la := Lib.hid I4
  have H_ra := Lib.hid I5
  have H_oa := Lib.hid I6
  clear hw3 I1 I2 I3 I4 I5 I6 z0
  have HGN := Lib.hid hG
  clear hG
  go_enter Tryz.func33, Tryz.ntmps33
  obtain ⟨ia1, ia2, ia3, ia4, ia5⟩ := H_ia.out
  obtain ⟨ja1, ja2, ja3, ja4, ja5⟩ := H_ja.out
  obtain ⟨ka1, ka2, ka3, ka4, ka5⟩ := H_ka.out
  obtain ⟨la1, la2, la3, la4, la5⟩ := H_la.out
  obtain ⟨ra1, ra2, ra3, ra4, ra5⟩ := H_ra.out
  obtain ⟨oa1, oa2, oa3, oa4, oa5⟩ := H_oa.out
  go_wp2_with fail
  rw [HW.out]
  clear ia1 ia2 ia3 ia4 ia5 ja1 ja2 ja3 ja4 ja5 ka1 ka2 ka3 ka4 ka5 la1 la2 la3 la4 la5 ra1 ra2 ra3 ra4 ra5 oa1 oa2 oa3 oa4 oa5
  refine (zxgcd_yes hq.zv hp.zv (by omega) (by omega) (by omega)).mono ?_
  rintro e w21 ⟨G, X, Y, ⟨s21, A21, n21, c21, t21, D21, m21, d21, bz21, E21, l21, f21, rfl, pg, px, py, kg, kx, ky, B21⟩, hG, hXY, hz⟩
  replace H_ia := Lib.hid (H_ia.out.below B21)
  replace H_ja := Lib.hid (H_ja.out.below B21)
  replace H_ka := Lib.hid (H_ka.out.below B21)
  replace H_la := Lib.hid (H_la.out.below B21)
  replace H_ra := Lib.hid (H_ra.out.below B21)
  replace H_oa := Lib.hid (H_oa.out.below B21)
  replace ha := ha.below B21
  replace hp := hp.below B21
  replace hb := hb.below B21
  replace hq := hq.below B21
  replace hW := hW.trans (B21.mono hW.size)
  clear B21
  have hGp : G ≠ 0 := by have := hG.out; have := Nat.gcd_pos_of_pos_right q.natAbs (show 0 < p.natAbs by omega); omega
  have HND : Hid (G = 0 ∨ (a - b).natAbs % G.natAbs ≠ 0) := Lib.hid (.inr fun k => HGN.out (by rw [← hG.out]; exact Int.natAbs_dvd_natAbs.1 (Nat.dvd_of_mod_eq_zero k)))
  clear hG hXY hz HGN
  obtain ⟨w22, hw22, I22, J22, K22, z22⟩ := opentr3 w21 s21 t21 bz21 A21 D21 E21 n21 c21 m21 d21 l21 f21
  have HW22 := Lib.hid hw22.symm
  have O_ia := H_ia
  have O_ja := H_ja
  have O_ka := H_ka
  have O_la := H_la
  have O_ra := H_ra
  have O_oa := H_oa
  replace H_ia := Lib.hid (H_ia.out.below z22)
  replace H_ja := Lib.hid (H_ja.out.below z22)
  replace H_ka := Lib.hid (H_ka.out.below z22)
  replace H_la := Lib.hid (H_la.out.below z22)
  replace H_ra := Lib.hid (H_ra.out.below z22)
  replace H_oa := Lib.hid (H_oa.out.below z22)
  replace ha := ha.below z22
  replace hp := hp.below z22
  replace hb := hb.below z22
  replace hq := hq.below z22
  replace pg := pg.below z22
  replace px := px.below z22
  replace py := py.below z22
  replace hW := hW.trans (z22.mono hW.size)
  have H_g := Lib.hid I22
  have H_x := Lib.hid J22
  have H_y := Lib.hid K22
  clear z22 hw22 I22 J22 K22
  clear py px hp hq
  obtain ⟨ia1, ia2, ia3, ia4, ia5⟩ := O_ia.out
  obtain ⟨ja1, ja2, ja3, ja4, ja5⟩ := O_ja.out
  obtain ⟨ka1, ka2, ka3, ka4, ka5⟩ := O_ka.out
  obtain ⟨la1, la2, la3, la4, la5⟩ := O_la.out
  obtain ⟨ra1, ra2, ra3, ra4, ra5⟩ := O_ra.out
  obtain ⟨oa1, oa2, oa3, oa4, oa5⟩ := O_oa.out
  go_wp2_with fail
  rw [HW22.out]
  clear ia1 ia2 ia3 ia4 ia5 ja1 ja2 ja3 ja4 ja5 ka1 ka2 ka3 ka4 ka5 la1 la2 la3 la4 la5 ra1 ra2 ra3 ra4 ra5 oa1 oa2 oa3 oa4 oa5 O_ia O_ja O_ka O_la O_ra O_oa
  go_upto_region 2 with fail
  go_cut [9, 10] (VarNo w22 0 0)
  case first =>
    obtain ⟨ia1, ia2, ia3, ia4, ia5⟩ := H_ia.out
    obtain ⟨ja1, ja2, ja3, ja4, ja5⟩ := H_ja.out
    obtain ⟨ka1, ka2, ka3, ka4, ka5⟩ := H_ka.out
    obtain ⟨la1, la2, la3, la4, la5⟩ := H_la.out
    obtain ⟨ra1, ra2, ra3, ra4, ra5⟩ := H_ra.out
    obtain ⟨oa1, oa2, oa3, oa4, oa5⟩ := H_oa.out
    obtain ⟨g1, g2, g3, g4, g5⟩ := H_g.out
    obtain ⟨x1, x2, x3, x4, x5⟩ := H_x.out
    obtain ⟨y1, y2, y3, y4, y5⟩ := H_y.out
    have ian : ¬ (w22.heap.size = w.heap.size) := by omega
    have iam : ¬ (w.heap.size = w22.heap.size) := by omega
    have jan : ¬ (w22.heap.size = w.heap.size) := by omega
    have jam : ¬ (w.heap.size = w22.heap.size) := by omega
    have kan : ¬ (w22.heap.size = (w.heap.size + 1)) := by omega
    have kam : ¬ ((w.heap.size + 1) = w22.heap.size) := by omega
    have lan : ¬ (w22.heap.size = (w.heap.size + 1)) := by omega
    have lam : ¬ ((w.heap.size + 1) = w22.heap.size) := by omega
    have ran : ¬ (w22.heap.size = (w.heap.size + 1 + 1)) := by omega
    have ram : ¬ ((w.heap.size + 1 + 1) = w22.heap.size) := by omega
    have oan : ¬ (w22.heap.size = (w.heap.size + 1 + 1)) := by omega
    have oam : ¬ ((w.heap.size + 1 + 1) = w22.heap.size) := by omega
    have gn : ¬ (w22.heap.size = w21.heap.size) := by omega
    have gm : ¬ (w21.heap.size = w22.heap.size) := by omega
    have xn : ¬ (w22.heap.size = (w21.heap.size + 1)) := by omega
    have xm : ¬ ((w21.heap.size + 1) = w22.heap.size) := by omega
    have yn : ¬ (w22.heap.size = (w21.heap.size + 1 + 1)) := by omega
    have ym : ¬ ((w21.heap.size + 1 + 1) = w22.heap.size) := by omega
    go_region_held3 (fun w' => w'.cell? ⟨w.heap.size, 0, none⟩ = some (.bool s) ∧ w'.cell? ⟨w.heap.size, 1, none⟩ = some (.slice A n c) ∧ w'.cell? ⟨w.heap.size, 2, none⟩ = some (.bool t) ∧ w'.cell? ⟨w.heap.size, 3, none⟩ = some (.slice B m d) ∧ w'.cell? ⟨(w.heap.size + 1), 0, none⟩ = some (.bool u) ∧ w'.cell? ⟨(w.heap.size + 1), 1, none⟩ = some (.slice C l e') ∧ w'.cell? ⟨(w.heap.size + 1), 2, none⟩ = some (.bool v) ∧ w'.cell? ⟨(w.heap.size + 1), 3, none⟩ = some (.slice D f' h') ∧ w'.cell? ⟨(w.heap.size + 1 + 1), 0, none⟩ = some (.bool false) ∧ w'.cell? ⟨(w.heap.size + 1 + 1), 1, none⟩ = some (.slice none 0 0) ∧ w'.cell? ⟨(w.heap.size + 1 + 1), 2, none⟩ = some (.bool false) ∧ w'.cell? ⟨(w.heap.size + 1 + 1), 3, none⟩ = some (.slice none 0 0) ∧ w'.cell? ⟨w21.heap.size, 0, none⟩ = some (.bool s21) ∧ w'.cell? ⟨w21.heap.size, 1, none⟩ = some (.slice A21 n21 c21) ∧ w'.cell? ⟨(w21.heap.size + 1), 0, none⟩ = some (.bool t21) ∧ w'.cell? ⟨(w21.heap.size + 1), 1, none⟩ = some (.slice D21 m21 d21) ∧ w'.cell? ⟨(w21.heap.size + 1 + 1), 0, none⟩ = some (.bool bz21) ∧ w'.cell? ⟨(w21.heap.size + 1 + 1), 1, none⟩ = some (.slice E21 l21 f21)) (go_keep) (first
      | (go_at_call 61; (with_reducible refine (zsub_v (ha.below (below_drew _)).zv (hb.below (below_drew _)).zv (by omega) (by omega)).mono ?_); rintro e w23 ⟨s23, A23, n23, c23, rfl, p23, k23, B23⟩; have Q23 := zup (below_drew _) B23; obtain ⟨iax23, iay23, iaf23, iag23, iaz23⟩ := H_ia.out.below Q23; have ian23 : ¬ (w23.heap.size = w.heap.size) := (by omega); have iam23 : ¬ (w.heap.size = w23.heap.size) := (by omega); obtain ⟨jax23, jay23, jaf23, jag23, jaz23⟩ := H_ja.out.below Q23; have jan23 : ¬ (w23.heap.size = w.heap.size) := (by omega); have jam23 : ¬ (w.heap.size = w23.heap.size) := (by omega); obtain ⟨kax23, kay23, kaf23, kag23, kaz23⟩ := H_ka.out.below Q23; have kan23 : ¬ (w23.heap.size = (w.heap.size + 1)) := (by omega); have kam23 : ¬ ((w.heap.size + 1) = w23.heap.size) := (by omega); obtain ⟨lax23, lay23, laf23, lag23, laz23⟩ := H_la.out.below Q23; have lan23 : ¬ (w23.heap.size = (w.heap.size + 1)) := (by omega); have lam23 : ¬ ((w.heap.size + 1) = w23.heap.size) := (by omega); obtain ⟨rax23, ray23, raf23, rag23, raz23⟩ := H_ra.out.below Q23; have ran23 : ¬ (w23.heap.size = (w.heap.size + 1 + 1)) := (by omega); have ram23 : ¬ ((w.heap.size + 1 + 1) = w23.heap.size) := (by omega); obtain ⟨oax23, oay23, oaf23, oag23, oaz23⟩ := H_oa.out.below Q23; have oan23 : ¬ (w23.heap.size = (w.heap.size + 1 + 1)) := (by omega); have oam23 : ¬ ((w.heap.size + 1 + 1) = w23.heap.size) := (by omega); obtain ⟨gx23, gy23, gf23, gg23, gz23⟩ := H_g.out.below Q23; have gn23 : ¬ (w23.heap.size = w21.heap.size) := (by omega); have gm23 : ¬ (w21.heap.size = w23.heap.size) := (by omega); obtain ⟨xx23, xy23, xf23, xg23, xz23⟩ := H_x.out.below Q23; have xn23 : ¬ (w23.heap.size = (w21.heap.size + 1)) := (by omega); have xm23 : ¬ ((w21.heap.size + 1) = w23.heap.size) := (by omega); obtain ⟨yx23, yy23, yf23, yg23, yz23⟩ := H_y.out.below Q23; have yn23 : ¬ (w23.heap.size = (w21.heap.size + 1 + 1)) := (by omega); have ym23 : ¬ ((w21.heap.size + 1 + 1) = w23.heap.size) := (by omega))
      | (go_at_call 61; (with_reducible refine (zsub_v (ha.below (zbd _ _)).zv (hb.below (zbd _ _)).zv (by omega) (by omega)).mono ?_); rintro e w23 ⟨s23, A23, n23, c23, rfl, p23, k23, B23⟩; have Q23 := zup (zbd _ _) B23; have J23 := (Ib.newd w22 false none 0 0 27).below B23; have g23 := Nat.le_refl w22.heap.size; obtain ⟨iax23, iay23, iaf23, iag23, iaz23⟩ := H_ia.out.below Q23; have ian23 : ¬ (w23.heap.size = w.heap.size) := (by omega); have iam23 : ¬ (w.heap.size = w23.heap.size) := (by omega); obtain ⟨jax23, jay23, jaf23, jag23, jaz23⟩ := H_ja.out.below Q23; have jan23 : ¬ (w23.heap.size = w.heap.size) := (by omega); have jam23 : ¬ (w.heap.size = w23.heap.size) := (by omega); obtain ⟨kax23, kay23, kaf23, kag23, kaz23⟩ := H_ka.out.below Q23; have kan23 : ¬ (w23.heap.size = (w.heap.size + 1)) := (by omega); have kam23 : ¬ ((w.heap.size + 1) = w23.heap.size) := (by omega); obtain ⟨lax23, lay23, laf23, lag23, laz23⟩ := H_la.out.below Q23; have lan23 : ¬ (w23.heap.size = (w.heap.size + 1)) := (by omega); have lam23 : ¬ ((w.heap.size + 1) = w23.heap.size) := (by omega); obtain ⟨rax23, ray23, raf23, rag23, raz23⟩ := H_ra.out.below Q23; have ran23 : ¬ (w23.heap.size = (w.heap.size + 1 + 1)) := (by omega); have ram23 : ¬ ((w.heap.size + 1 + 1) = w23.heap.size) := (by omega); obtain ⟨oax23, oay23, oaf23, oag23, oaz23⟩ := H_oa.out.below Q23; have oan23 : ¬ (w23.heap.size = (w.heap.size + 1 + 1)) := (by omega); have oam23 : ¬ ((w.heap.size + 1 + 1) = w23.heap.size) := (by omega); obtain ⟨gx23, gy23, gf23, gg23, gz23⟩ := H_g.out.below Q23; have gn23 : ¬ (w23.heap.size = w21.heap.size) := (by omega); have gm23 : ¬ (w21.heap.size = w23.heap.size) := (by omega); obtain ⟨xx23, xy23, xf23, xg23, xz23⟩ := H_x.out.below Q23; have xn23 : ¬ (w23.heap.size = (w21.heap.size + 1)) := (by omega); have xm23 : ¬ ((w21.heap.size + 1) = w23.heap.size) := (by omega); obtain ⟨yx23, yy23, yf23, yg23, yz23⟩ := H_y.out.below Q23; have yn23 : ¬ (w23.heap.size = (w21.heap.size + 1 + 1)) := (by omega); have ym23 : ¬ ((w21.heap.size + 1 + 1) = w23.heap.size) := (by omega); have Jc23 := J23; obtain ⟨jx23, jy23, jf23, jg23, jz23⟩ := Jc23)
      | (go_at_call 10; (with_reducible refine (zexact_false p23.zv (pg.below Q23).zv (by omega) (by omega) HND.out).mono ?_); rintro e w24 ⟨rfl, B24⟩; have p24 := Zc.none0 w24; have Q24 := zup Q23 B24; have R24 := B24; have J24 := J23.below B24; have g24 := g23; obtain ⟨iax24, iay24, iaf24, iag24, iaz24⟩ := H_ia.out.below Q24; have ian24 : ¬ (w24.heap.size = w.heap.size) := (by omega); have iam24 : ¬ (w.heap.size = w24.heap.size) := (by omega); obtain ⟨jax24, jay24, jaf24, jag24, jaz24⟩ := H_ja.out.below Q24; have jan24 : ¬ (w24.heap.size = w.heap.size) := (by omega); have jam24 : ¬ (w.heap.size = w24.heap.size) := (by omega); obtain ⟨kax24, kay24, kaf24, kag24, kaz24⟩ := H_ka.out.below Q24; have kan24 : ¬ (w24.heap.size = (w.heap.size + 1)) := (by omega); have kam24 : ¬ ((w.heap.size + 1) = w24.heap.size) := (by omega); obtain ⟨lax24, lay24, laf24, lag24, laz24⟩ := H_la.out.below Q24; have lan24 : ¬ (w24.heap.size = (w.heap.size + 1)) := (by omega); have lam24 : ¬ ((w.heap.size + 1) = w24.heap.size) := (by omega); obtain ⟨rax24, ray24, raf24, rag24, raz24⟩ := H_ra.out.below Q24; have ran24 : ¬ (w24.heap.size = (w.heap.size + 1 + 1)) := (by omega); have ram24 : ¬ ((w.heap.size + 1 + 1) = w24.heap.size) := (by omega); obtain ⟨oax24, oay24, oaf24, oag24, oaz24⟩ := H_oa.out.below Q24; have oan24 : ¬ (w24.heap.size = (w.heap.size + 1 + 1)) := (by omega); have oam24 : ¬ ((w.heap.size + 1 + 1) = w24.heap.size) := (by omega); obtain ⟨gx24, gy24, gf24, gg24, gz24⟩ := H_g.out.below Q24; have gn24 : ¬ (w24.heap.size = w21.heap.size) := (by omega); have gm24 : ¬ (w21.heap.size = w24.heap.size) := (by omega); obtain ⟨xx24, xy24, xf24, xg24, xz24⟩ := H_x.out.below Q24; have xn24 : ¬ (w24.heap.size = (w21.heap.size + 1)) := (by omega); have xm24 : ¬ ((w21.heap.size + 1) = w24.heap.size) := (by omega); obtain ⟨yx24, yy24, yf24, yg24, yz24⟩ := H_y.out.below Q24; have yn24 : ¬ (w24.heap.size = (w21.heap.size + 1 + 1)) := (by omega); have ym24 : ¬ ((w21.heap.size + 1 + 1) = w24.heap.size) := (by omega); have Jc24 := J24; obtain ⟨jx24, jy24, jf24, jg24, jz24⟩ := Jc24)
      | (go_at_call 10; (with_reducible refine (zexact_false p23.zv (pg.below Q23).zv (by omega) (by omega) HND.out).mono ?_); rintro e w24 ⟨rfl, B24⟩; have p24 := Zc.none0 w24; have Q24 := zup Q23 B24; have R24 := B24; obtain ⟨iax24, iay24, iaf24, iag24, iaz24⟩ := H_ia.out.below Q24; have ian24 : ¬ (w24.heap.size = w.heap.size) := (by omega); have iam24 : ¬ (w.heap.size = w24.heap.size) := (by omega); obtain ⟨jax24, jay24, jaf24, jag24, jaz24⟩ := H_ja.out.below Q24; have jan24 : ¬ (w24.heap.size = w.heap.size) := (by omega); have jam24 : ¬ (w.heap.size = w24.heap.size) := (by omega); obtain ⟨kax24, kay24, kaf24, kag24, kaz24⟩ := H_ka.out.below Q24; have kan24 : ¬ (w24.heap.size = (w.heap.size + 1)) := (by omega); have kam24 : ¬ ((w.heap.size + 1) = w24.heap.size) := (by omega); obtain ⟨lax24, lay24, laf24, lag24, laz24⟩ := H_la.out.below Q24; have lan24 : ¬ (w24.heap.size = (w.heap.size + 1)) := (by omega); have lam24 : ¬ ((w.heap.size + 1) = w24.heap.size) := (by omega); obtain ⟨rax24, ray24, raf24, rag24, raz24⟩ := H_ra.out.below Q24; have ran24 : ¬ (w24.heap.size = (w.heap.size + 1 + 1)) := (by omega); have ram24 : ¬ ((w.heap.size + 1 + 1) = w24.heap.size) := (by omega); obtain ⟨oax24, oay24, oaf24, oag24, oaz24⟩ := H_oa.out.below Q24; have oan24 : ¬ (w24.heap.size = (w.heap.size + 1 + 1)) := (by omega); have oam24 : ¬ ((w.heap.size + 1 + 1) = w24.heap.size) := (by omega); obtain ⟨gx24, gy24, gf24, gg24, gz24⟩ := H_g.out.below Q24; have gn24 : ¬ (w24.heap.size = w21.heap.size) := (by omega); have gm24 : ¬ (w21.heap.size = w24.heap.size) := (by omega); obtain ⟨xx24, xy24, xf24, xg24, xz24⟩ := H_x.out.below Q24; have xn24 : ¬ (w24.heap.size = (w21.heap.size + 1)) := (by omega); have xm24 : ¬ ((w21.heap.size + 1) = w24.heap.size) := (by omega); obtain ⟨yx24, yy24, yf24, yg24, yz24⟩ := H_y.out.below Q24; have yn24 : ¬ (w24.heap.size = (w21.heap.size + 1 + 1)) := (by omega); have ym24 : ¬ ((w21.heap.size + 1 + 1) = w24.heap.size) := (by omega))
      | (go_at_call 10; (with_reducible refine (zexact_false (p23.below (zba _ _)).zv (pg.below (zup Q23 (zba _ _))).zv (by omega) (by omega) HND.out).mono ?_); rintro e w24 ⟨rfl, B24⟩; have p24 := Zc.none0 w24; have Q24 := zup (zup Q23 (zba _ _)) B24; have R24 := zup (zba w23 _) B24; have J24 := (Ib.new w23 false none 0 0 27).below B24; have g24 := Q23.size; obtain ⟨iax24, iay24, iaf24, iag24, iaz24⟩ := H_ia.out.below Q24; have ian24 : ¬ (w24.heap.size = w.heap.size) := (by omega); have iam24 : ¬ (w.heap.size = w24.heap.size) := (by omega); obtain ⟨jax24, jay24, jaf24, jag24, jaz24⟩ := H_ja.out.below Q24; have jan24 : ¬ (w24.heap.size = w.heap.size) := (by omega); have jam24 : ¬ (w.heap.size = w24.heap.size) := (by omega); obtain ⟨kax24, kay24, kaf24, kag24, kaz24⟩ := H_ka.out.below Q24; have kan24 : ¬ (w24.heap.size = (w.heap.size + 1)) := (by omega); have kam24 : ¬ ((w.heap.size + 1) = w24.heap.size) := (by omega); obtain ⟨lax24, lay24, laf24, lag24, laz24⟩ := H_la.out.below Q24; have lan24 : ¬ (w24.heap.size = (w.heap.size + 1)) := (by omega); have lam24 : ¬ ((w.heap.size + 1) = w24.heap.size) := (by omega); obtain ⟨rax24, ray24, raf24, rag24, raz24⟩ := H_ra.out.below Q24; have ran24 : ¬ (w24.heap.size = (w.heap.size + 1 + 1)) := (by omega); have ram24 : ¬ ((w.heap.size + 1 + 1) = w24.heap.size) := (by omega); obtain ⟨oax24, oay24, oaf24, oag24, oaz24⟩ := H_oa.out.below Q24; have oan24 : ¬ (w24.heap.size = (w.heap.size + 1 + 1)) := (by omega); have oam24 : ¬ ((w.heap.size + 1 + 1) = w24.heap.size) := (by omega); obtain ⟨gx24, gy24, gf24, gg24, gz24⟩ := H_g.out.below Q24; have gn24 : ¬ (w24.heap.size = w21.heap.size) := (by omega); have gm24 : ¬ (w21.heap.size = w24.heap.size) := (by omega); obtain ⟨xx24, xy24, xf24, xg24, xz24⟩ := H_x.out.below Q24; have xn24 : ¬ (w24.heap.size = (w21.heap.size + 1)) := (by omega); have xm24 : ¬ ((w21.heap.size + 1) = w24.heap.size) := (by omega); obtain ⟨yx24, yy24, yf24, yg24, yz24⟩ := H_y.out.below Q24; have yn24 : ¬ (w24.heap.size = (w21.heap.size + 1 + 1)) := (by omega); have ym24 : ¬ ((w21.heap.size + 1 + 1) = w24.heap.size) := (by omega); have Jc24 := J24; obtain ⟨jx24, jy24, jf24, jg24, jz24⟩ := Jc24)
      | fail)
    all_goals
      first
      | have P := Lib.hid (VarCut.put (w0 := w22) (z := 0) (k := 0) J24 p24 Q24 g24 (by omega))
      | have P := Lib.hid (VarCut.new (w0 := w22) (z := 0) (k := 0) (t := 27) p24 Q24 (by omega))
      go_wp2_with fail
      go_meet
      exact ⟨P.out, rfl⟩
  case rest =>
    obtain ⟨⟨g25, s25, A25, n25, c25, rfl, hg25, I25, p25, k25, B25⟩, rfl⟩ := hcut
    obtain ⟨w25, hw25⟩ : ∃ x, x = wc := ⟨_, rfl⟩
    subst hw25
    have lt_ia_z : w.heap.size < g25 := Nat.lt_of_lt_of_le H_ia.out.2.2.2.2 hg25
    have lt_ja_z : w.heap.size < g25 := Nat.lt_of_lt_of_le H_ja.out.2.2.2.2 hg25
    have lt_ka_z : (w.heap.size + 1) < g25 := Nat.lt_of_lt_of_le H_ka.out.2.2.2.2 hg25
    have lt_la_z : (w.heap.size + 1) < g25 := Nat.lt_of_lt_of_le H_la.out.2.2.2.2 hg25
    have lt_ra_z : (w.heap.size + 1 + 1) < g25 := Nat.lt_of_lt_of_le H_ra.out.2.2.2.2 hg25
    have lt_oa_z : (w.heap.size + 1 + 1) < g25 := Nat.lt_of_lt_of_le H_oa.out.2.2.2.2 hg25
    have lt_g_z : w21.heap.size < g25 := Nat.lt_of_lt_of_le H_g.out.2.2.2.2 hg25
    have lt_x_z : (w21.heap.size + 1) < g25 := Nat.lt_of_lt_of_le H_x.out.2.2.2.2 hg25
    have lt_y_z : (w21.heap.size + 1 + 1) < g25 := Nat.lt_of_lt_of_le H_y.out.2.2.2.2 hg25
    have lw_z : w.heap.size ≤ g25 := Nat.le_trans hW.size hg25
    replace H_ia := Lib.hid (H_ia.out.below B25)
    replace H_ja := Lib.hid (H_ja.out.below B25)
    replace H_ka := Lib.hid (H_ka.out.below B25)
    replace H_la := Lib.hid (H_la.out.below B25)
    replace H_ra := Lib.hid (H_ra.out.below B25)
    replace H_oa := Lib.hid (H_oa.out.below B25)
    replace H_g := Lib.hid (H_g.out.below B25)
    replace H_x := Lib.hid (H_x.out.below B25)
    replace H_y := Lib.hid (H_y.out.below B25)
    replace ha := ha.below B25
    replace hb := hb.below B25
    replace pg := pg.below B25
    replace hW := hW.trans (B25.mono hW.size)
    have H_z := Lib.hid I25
    clear B25 I25 hg25
    clear p25
    obtain ⟨r1, r2, r3, r4, r5⟩ := H_ra.out
    obtain ⟨o1, o2, o3, o4, o5⟩ := H_oa.out
    have P := Lib.hid (below_clput (A := none) (B := none) (n := 0) (c := 0) (m := 0) (d := 0) (s := false) (t := false) (g := w.heap.size + 1 + 1) hW (by omega))
    unfold clput at P
    go_wp2_with fail
    exact bodyPost_ret (v := .tuple #[.agg #[.bool false, .slice none 0 0, .bool false, .slice none 0 0], .bool false]) (by simp [results, Tryz.results33, go_sem, r1, r2, o1, o2]) rfl ⟨rfl, P.out⟩
set_option maxRecDepth 100000 in
set_option maxHeartbeats 16000000 in
theorem join_yes {A B C D : Option Addr} {n c m d l e' f' h' : Nat} {s t u v : Bool} {a p b q : Int} {w : World} (ha : Zc w s A n c a) (hp : Zc w t B m d p) (hb : Zc w u C l e' b) (hq : Zc w v D f' h' q) (hn : n ≤ 1048576) (hm : m ≤ 1048576) (hl : l ≤ 1048576) (hf : f' ≤ 1048576) (p0 : 0 < p) (q0 : 0 < q) (b0 : 0 ≤ b) (b1 : b < q) (hG : ((Nat.gcd q.natAbs p.natAbs : Nat) : Int) ∣ a - b) :
    Calls Tryz.prog 33 #[.agg #[.bool s, .slice A n c, .bool t, .slice B m d], .agg #[.bool u, .slice C l e', .bool v, .slice D f' h']] w (JnPost a p b q 33554432 w) := by
  obtain ⟨w3, hw3, I1, I2, I3, I4, I5, I6, z0⟩ := opencl w s t u v A B C D n c m d l e' f' h'
  have HW := Lib.hid hw3.symm
  replace ha := ha.below z0
  replace hp := hp.below z0
  replace hb := hb.below z0
  replace hq := hq.below z0
  have hW := z0
  have H_ia := Lib.hid I1
  have H_ja := Lib.hid I2
  have H_ka := Lib.hid I3
  have H_la := Lib.hid I4
  have H_ra := Lib.hid I5
  have H_oa := Lib.hid I6
  clear hw3 I1 I2 I3 I4 I5 I6 z0
  have HGY := Lib.hid hG
  clear hG
  go_enter Tryz.func33, Tryz.ntmps33
  obtain ⟨ia1, ia2, ia3, ia4, ia5⟩ := H_ia.out
  obtain ⟨ja1, ja2, ja3, ja4, ja5⟩ := H_ja.out
  obtain ⟨ka1, ka2, ka3, ka4, ka5⟩ := H_ka.out
  obtain ⟨la1, la2, la3, la4, la5⟩ := H_la.out
  obtain ⟨ra1, ra2, ra3, ra4, ra5⟩ := H_ra.out
  obtain ⟨oa1, oa2, oa3, oa4, oa5⟩ := H_oa.out
  go_wp2_with fail
  rw [HW.out]
  clear ia1 ia2 ia3 ia4 ia5 ja1 ja2 ja3 ja4 ja5 ka1 ka2 ka3 ka4 ka5 la1 la2 la3 la4 la5 ra1 ra2 ra3 ra4 ra5 oa1 oa2 oa3 oa4 oa5
  refine (zxgcd_yes hq.zv hp.zv (by omega) (by omega) (by omega)).mono ?_
  rintro e w21 ⟨G, X, Y, ⟨s21, A21, n21, c21, t21, D21, m21, d21, bz21, E21, l21, f21, rfl, pg, px, py, kg, kx, ky, B21⟩, hG, hXY, hz⟩
  replace H_ia := Lib.hid (H_ia.out.below B21)
  replace H_ja := Lib.hid (H_ja.out.below B21)
  replace H_ka := Lib.hid (H_ka.out.below B21)
  replace H_la := Lib.hid (H_la.out.below B21)
  replace H_ra := Lib.hid (H_ra.out.below B21)
  replace H_oa := Lib.hid (H_oa.out.below B21)
  replace ha := ha.below B21
  replace hp := hp.below B21
  replace hb := hb.below B21
  replace hq := hq.below B21
  replace hW := hW.trans (B21.mono hW.size)
  clear B21
  have hGpos : 0 < G := by have := hG.out; have := Nat.gcd_pos_of_pos_right q.natAbs (show 0 < p.natAbs by omega); omega
  obtain ⟨dd, hdd⟩ := HGY.out
  rw [← hG.out] at hdd
  have HD : Hid (dd * G = a - b) := Lib.hid (by rw [hdd, Int.mul_comm])
  obtain ⟨PP, hPP⟩ : G ∣ p := by rw [hG.out]; exact Int.dvd_trans (Int.natCast_dvd_natCast.2 (Nat.gcd_dvd_right _ _)) Int.natAbs_dvd_self
  have HP : Hid (PP * G = p) := Lib.hid (by rw [hPP, Int.mul_comm])
  have HQ : Hid (G ∣ q) := Lib.hid (by rw [hG.out]; exact Int.dvd_trans (Int.natCast_dvd_natCast.2 (Nat.gcd_dvd_left _ _)) Int.natAbs_dvd_self)
  have hPpos : 0 < PP := by
    apply Classical.byContradiction
    intro h
    have := Int.mul_le_mul_of_nonneg_right (show PP ≤ 0 by omega) (show 0 ≤ G by omega)
    have := HP.out
    omega
  obtain ⟨TT, hTT⟩ : ∃ T, dd * X % PP = T := ⟨_, rfl⟩
  have HJ : Hid (JoinOk a p b q (b + q * TT) (q * PP)) := Lib.hid (join_ok p0 q0 hGpos b0 b1 hXY.out HP.out HD.out hTT HQ.out)
  have HTT := Lib.hid hTT
  clear hTT hdd hPP hG hXY hz HGY HQ
  obtain ⟨w22, hw22, I22, J22, K22, z22⟩ := opentr3 w21 s21 t21 bz21 A21 D21 E21 n21 c21 m21 d21 l21 f21
  have HW22 := Lib.hid hw22.symm
  have O_ia := H_ia
  have O_ja := H_ja
  have O_ka := H_ka
  have O_la := H_la
  have O_ra := H_ra
  have O_oa := H_oa
  replace H_ia := Lib.hid (H_ia.out.below z22)
  replace H_ja := Lib.hid (H_ja.out.below z22)
  replace H_ka := Lib.hid (H_ka.out.below z22)
  replace H_la := Lib.hid (H_la.out.below z22)
  replace H_ra := Lib.hid (H_ra.out.below z22)
  replace H_oa := Lib.hid (H_oa.out.below z22)
  replace ha := ha.below z22
  replace hp := hp.below z22
  replace hb := hb.below z22
  replace hq := hq.below z22
  replace pg := pg.below z22
  replace px := px.below z22
  replace py := py.below z22
  replace hW := hW.trans (z22.mono hW.size)
  have H_g := Lib.hid I22
  have H_x := Lib.hid J22
  have H_y := Lib.hid K22
  clear z22 hw22 I22 J22 K22
  clear py
  clear H_y
  obtain ⟨ia1, ia2, ia3, ia4, ia5⟩ := O_ia.out
  obtain ⟨ja1, ja2, ja3, ja4, ja5⟩ := O_ja.out
  obtain ⟨ka1, ka2, ka3, ka4, ka5⟩ := O_ka.out
  obtain ⟨la1, la2, la3, la4, la5⟩ := O_la.out
  obtain ⟨ra1, ra2, ra3, ra4, ra5⟩ := O_ra.out
  obtain ⟨oa1, oa2, oa3, oa4, oa5⟩ := O_oa.out
  go_wp2_with fail
  rw [HW22.out]
  clear ia1 ia2 ia3 ia4 ia5 ja1 ja2 ja3 ja4 ja5 ka1 ka2 ka3 ka4 ka5 la1 la2 la3 la4 la5 ra1 ra2 ra3 ra4 ra5 oa1 oa2 oa3 oa4 oa5 O_ia O_ja O_ka O_la O_ra O_oa
  go_upto_region 2 with fail
  go_cut [9, 10] (VarTrue w22 dd 8388608)
  case first =>
    obtain ⟨ia1, ia2, ia3, ia4, ia5⟩ := H_ia.out
    obtain ⟨ja1, ja2, ja3, ja4, ja5⟩ := H_ja.out
    obtain ⟨ka1, ka2, ka3, ka4, ka5⟩ := H_ka.out
    obtain ⟨la1, la2, la3, la4, la5⟩ := H_la.out
    obtain ⟨ra1, ra2, ra3, ra4, ra5⟩ := H_ra.out
    obtain ⟨oa1, oa2, oa3, oa4, oa5⟩ := H_oa.out
    obtain ⟨g1, g2, g3, g4, g5⟩ := H_g.out
    obtain ⟨x1, x2, x3, x4, x5⟩ := H_x.out
    have ian : ¬ (w22.heap.size = w.heap.size) := by omega
    have iam : ¬ (w.heap.size = w22.heap.size) := by omega
    have jan : ¬ (w22.heap.size = w.heap.size) := by omega
    have jam : ¬ (w.heap.size = w22.heap.size) := by omega
    have kan : ¬ (w22.heap.size = (w.heap.size + 1)) := by omega
    have kam : ¬ ((w.heap.size + 1) = w22.heap.size) := by omega
    have lan : ¬ (w22.heap.size = (w.heap.size + 1)) := by omega
    have lam : ¬ ((w.heap.size + 1) = w22.heap.size) := by omega
    have ran : ¬ (w22.heap.size = (w.heap.size + 1 + 1)) := by omega
    have ram : ¬ ((w.heap.size + 1 + 1) = w22.heap.size) := by omega
    have oan : ¬ (w22.heap.size = (w.heap.size + 1 + 1)) := by omega
    have oam : ¬ ((w.heap.size + 1 + 1) = w22.heap.size) := by omega
    have gn : ¬ (w22.heap.size = w21.heap.size) := by omega
    have gm : ¬ (w21.heap.size = w22.heap.size) := by omega
    have xn : ¬ (w22.heap.size = (w21.heap.size + 1)) := by omega
    have xm : ¬ ((w21.heap.size + 1) = w22.heap.size) := by omega
    go_region_held3 (fun w' => w'.cell? ⟨w.heap.size, 0, none⟩ = some (.bool s) ∧ w'.cell? ⟨w.heap.size, 1, none⟩ = some (.slice A n c) ∧ w'.cell? ⟨w.heap.size, 2, none⟩ = some (.bool t) ∧ w'.cell? ⟨w.heap.size, 3, none⟩ = some (.slice B m d) ∧ w'.cell? ⟨(w.heap.size + 1), 0, none⟩ = some (.bool u) ∧ w'.cell? ⟨(w.heap.size + 1), 1, none⟩ = some (.slice C l e') ∧ w'.cell? ⟨(w.heap.size + 1), 2, none⟩ = some (.bool v) ∧ w'.cell? ⟨(w.heap.size + 1), 3, none⟩ = some (.slice D f' h') ∧ w'.cell? ⟨(w.heap.size + 1 + 1), 0, none⟩ = some (.bool false) ∧ w'.cell? ⟨(w.heap.size + 1 + 1), 1, none⟩ = some (.slice none 0 0) ∧ w'.cell? ⟨(w.heap.size + 1 + 1), 2, none⟩ = some (.bool false) ∧ w'.cell? ⟨(w.heap.size + 1 + 1), 3, none⟩ = some (.slice none 0 0) ∧ w'.cell? ⟨w21.heap.size, 0, none⟩ = some (.bool s21) ∧ w'.cell? ⟨w21.heap.size, 1, none⟩ = some (.slice A21 n21 c21) ∧ w'.cell? ⟨(w21.heap.size + 1), 0, none⟩ = some (.bool t21) ∧ w'.cell? ⟨(w21.heap.size + 1), 1, none⟩ = some (.slice D21 m21 d21)) (go_keep) (first
      | (go_at_call 61; (with_reducible refine (zsub_v (ha.below (below_drew _)).zv (hb.below (below_drew _)).zv (by omega) (by omega)).mono ?_); rintro e w23 ⟨s23, A23, n23, c23, rfl, p23, k23, B23⟩; have Q23 := zup (below_drew _) B23; obtain ⟨iax23, iay23, iaf23, iag23, iaz23⟩ := H_ia.out.below Q23; have ian23 : ¬ (w23.heap.size = w.heap.size) := (by omega); have iam23 : ¬ (w.heap.size = w23.heap.size) := (by omega); obtain ⟨jax23, jay23, jaf23, jag23, jaz23⟩ := H_ja.out.below Q23; have jan23 : ¬ (w23.heap.size = w.heap.size) := (by omega); have jam23 : ¬ (w.heap.size = w23.heap.size) := (by omega); obtain ⟨kax23, kay23, kaf23, kag23, kaz23⟩ := H_ka.out.below Q23; have kan23 : ¬ (w23.heap.size = (w.heap.size + 1)) := (by omega); have kam23 : ¬ ((w.heap.size + 1) = w23.heap.size) := (by omega); obtain ⟨lax23, lay23, laf23, lag23, laz23⟩ := H_la.out.below Q23; have lan23 : ¬ (w23.heap.size = (w.heap.size + 1)) := (by omega); have lam23 : ¬ ((w.heap.size + 1) = w23.heap.size) := (by omega); obtain ⟨rax23, ray23, raf23, rag23, raz23⟩ := H_ra.out.below Q23; have ran23 : ¬ (w23.heap.size = (w.heap.size + 1 + 1)) := (by omega); have ram23 : ¬ ((w.heap.size + 1 + 1) = w23.heap.size) := (by omega); obtain ⟨oax23, oay23, oaf23, oag23, oaz23⟩ := H_oa.out.below Q23; have oan23 : ¬ (w23.heap.size = (w.heap.size + 1 + 1)) := (by omega); have oam23 : ¬ ((w.heap.size + 1 + 1) = w23.heap.size) := (by omega); obtain ⟨gx23, gy23, gf23, gg23, gz23⟩ := H_g.out.below Q23; have gn23 : ¬ (w23.heap.size = w21.heap.size) := (by omega); have gm23 : ¬ (w21.heap.size = w23.heap.size) := (by omega); obtain ⟨xx23, xy23, xf23, xg23, xz23⟩ := H_x.out.below Q23; have xn23 : ¬ (w23.heap.size = (w21.heap.size + 1)) := (by omega); have xm23 : ¬ ((w21.heap.size + 1) = w23.heap.size) := (by omega))
      | (go_at_call 61; (with_reducible refine (zsub_v (ha.below (zbd _ _)).zv (hb.below (zbd _ _)).zv (by omega) (by omega)).mono ?_); rintro e w23 ⟨s23, A23, n23, c23, rfl, p23, k23, B23⟩; have Q23 := zup (zbd _ _) B23; have J23 := (Ib.newd w22 false none 0 0 27).below B23; have g23 := Nat.le_refl w22.heap.size; obtain ⟨iax23, iay23, iaf23, iag23, iaz23⟩ := H_ia.out.below Q23; have ian23 : ¬ (w23.heap.size = w.heap.size) := (by omega); have iam23 : ¬ (w.heap.size = w23.heap.size) := (by omega); obtain ⟨jax23, jay23, jaf23, jag23, jaz23⟩ := H_ja.out.below Q23; have jan23 : ¬ (w23.heap.size = w.heap.size) := (by omega); have jam23 : ¬ (w.heap.size = w23.heap.size) := (by omega); obtain ⟨kax23, kay23, kaf23, kag23, kaz23⟩ := H_ka.out.below Q23; have kan23 : ¬ (w23.heap.size = (w.heap.size + 1)) := (by omega); have kam23 : ¬ ((w.heap.size + 1) = w23.heap.size) := (by omega); obtain ⟨lax23, lay23, laf23, lag23, laz23⟩ := H_la.out.below Q23; have lan23 : ¬ (w23.heap.size = (w.heap.size + 1)) := (by omega); have lam23 : ¬ ((w.heap.size + 1) = w23.heap.size) := (by omega); obtain ⟨rax23, ray23, raf23, rag23, raz23⟩ := H_ra.out.below Q23; have ran23 : ¬ (w23.heap.size = (w.heap.size + 1 + 1)) := (by omega); have ram23 : ¬ ((w.heap.size + 1 + 1) = w23.heap.size) := (by omega); obtain ⟨oax23, oay23, oaf23, oag23, oaz23⟩ := H_oa.out.below Q23; have oan23 : ¬ (w23.heap.size = (w.heap.size + 1 + 1)) := (by omega); have oam23 : ¬ ((w.heap.size + 1 + 1) = w23.heap.size) := (by omega); obtain ⟨gx23, gy23, gf23, gg23, gz23⟩ := H_g.out.below Q23; have gn23 : ¬ (w23.heap.size = w21.heap.size) := (by omega); have gm23 : ¬ (w21.heap.size = w23.heap.size) := (by omega); obtain ⟨xx23, xy23, xf23, xg23, xz23⟩ := H_x.out.below Q23; have xn23 : ¬ (w23.heap.size = (w21.heap.size + 1)) := (by omega); have xm23 : ¬ ((w21.heap.size + 1) = w23.heap.size) := (by omega); have Jc23 := J23; obtain ⟨jx23, jy23, jf23, jg23, jz23⟩ := Jc23)
      | (go_at_call 10; (with_reducible refine (zexact_yes p23.zv (pg.below Q23).zv (by omega) (by omega) (by omega) HD.out).mono ?_); rintro e w24 ⟨s24, A24, n24, c24, rfl, p24, k24, B24⟩; have Q24 := zup Q23 B24; have R24 := B24; have J24 := J23.below B24; have g24 := g23; obtain ⟨iax24, iay24, iaf24, iag24, iaz24⟩ := H_ia.out.below Q24; have ian24 : ¬ (w24.heap.size = w.heap.size) := (by omega); have iam24 : ¬ (w.heap.size = w24.heap.size) := (by omega); obtain ⟨jax24, jay24, jaf24, jag24, jaz24⟩ := H_ja.out.below Q24; have jan24 : ¬ (w24.heap.size = w.heap.size) := (by omega); have jam24 : ¬ (w.heap.size = w24.heap.size) := (by omega); obtain ⟨kax24, kay24, kaf24, kag24, kaz24⟩ := H_ka.out.below Q24; have kan24 : ¬ (w24.heap.size = (w.heap.size + 1)) := (by omega); have kam24 : ¬ ((w.heap.size + 1) = w24.heap.size) := (by omega); obtain ⟨lax24, lay24, laf24, lag24, laz24⟩ := H_la.out.below Q24; have lan24 : ¬ (w24.heap.size = (w.heap.size + 1)) := (by omega); have lam24 : ¬ ((w.heap.size + 1) = w24.heap.size) := (by omega); obtain ⟨rax24, ray24, raf24, rag24, raz24⟩ := H_ra.out.below Q24; have ran24 : ¬ (w24.heap.size = (w.heap.size + 1 + 1)) := (by omega); have ram24 : ¬ ((w.heap.size + 1 + 1) = w24.heap.size) := (by omega); obtain ⟨oax24, oay24, oaf24, oag24, oaz24⟩ := H_oa.out.below Q24; have oan24 : ¬ (w24.heap.size = (w.heap.size + 1 + 1)) := (by omega); have oam24 : ¬ ((w.heap.size + 1 + 1) = w24.heap.size) := (by omega); obtain ⟨gx24, gy24, gf24, gg24, gz24⟩ := H_g.out.below Q24; have gn24 : ¬ (w24.heap.size = w21.heap.size) := (by omega); have gm24 : ¬ (w21.heap.size = w24.heap.size) := (by omega); obtain ⟨xx24, xy24, xf24, xg24, xz24⟩ := H_x.out.below Q24; have xn24 : ¬ (w24.heap.size = (w21.heap.size + 1)) := (by omega); have xm24 : ¬ ((w21.heap.size + 1) = w24.heap.size) := (by omega); have Jc24 := J24; obtain ⟨jx24, jy24, jf24, jg24, jz24⟩ := Jc24)
      | (go_at_call 10; (with_reducible refine (zexact_yes p23.zv (pg.below Q23).zv (by omega) (by omega) (by omega) HD.out).mono ?_); rintro e w24 ⟨s24, A24, n24, c24, rfl, p24, k24, B24⟩; have Q24 := zup Q23 B24; have R24 := B24; obtain ⟨iax24, iay24, iaf24, iag24, iaz24⟩ := H_ia.out.below Q24; have ian24 : ¬ (w24.heap.size = w.heap.size) := (by omega); have iam24 : ¬ (w.heap.size = w24.heap.size) := (by omega); obtain ⟨jax24, jay24, jaf24, jag24, jaz24⟩ := H_ja.out.below Q24; have jan24 : ¬ (w24.heap.size = w.heap.size) := (by omega); have jam24 : ¬ (w.heap.size = w24.heap.size) := (by omega); obtain ⟨kax24, kay24, kaf24, kag24, kaz24⟩ := H_ka.out.below Q24; have kan24 : ¬ (w24.heap.size = (w.heap.size + 1)) := (by omega); have kam24 : ¬ ((w.heap.size + 1) = w24.heap.size) := (by omega); obtain ⟨lax24, lay24, laf24, lag24, laz24⟩ := H_la.out.below Q24; have lan24 : ¬ (w24.heap.size = (w.heap.size + 1)) := (by omega); have lam24 : ¬ ((w.heap.size + 1) = w24.heap.size) := (by omega); obtain ⟨rax24, ray24, raf24, rag24, raz24⟩ := H_ra.out.below Q24; have ran24 : ¬ (w24.heap.size = (w.heap.size + 1 + 1)) := (by omega); have ram24 : ¬ ((w.heap.size + 1 + 1) = w24.heap.size) := (by omega); obtain ⟨oax24, oay24, oaf24, oag24, oaz24⟩ := H_oa.out.below Q24; have oan24 : ¬ (w24.heap.size = (w.heap.size + 1 + 1)) := (by omega); have oam24 : ¬ ((w.heap.size + 1 + 1) = w24.heap.size) := (by omega); obtain ⟨gx24, gy24, gf24, gg24, gz24⟩ := H_g.out.below Q24; have gn24 : ¬ (w24.heap.size = w21.heap.size) := (by omega); have gm24 : ¬ (w21.heap.size = w24.heap.size) := (by omega); obtain ⟨xx24, xy24, xf24, xg24, xz24⟩ := H_x.out.below Q24; have xn24 : ¬ (w24.heap.size = (w21.heap.size + 1)) := (by omega); have xm24 : ¬ ((w21.heap.size + 1) = w24.heap.size) := (by omega))
      | (go_at_call 10; (with_reducible refine (zexact_yes (p23.below (zba _ _)).zv (pg.below (zup Q23 (zba _ _))).zv (by omega) (by omega) (by omega) HD.out).mono ?_); rintro e w24 ⟨s24, A24, n24, c24, rfl, p24, k24, B24⟩; have Q24 := zup (zup Q23 (zba _ _)) B24; have R24 := zup (zba w23 _) B24; have J24 := (Ib.new w23 false none 0 0 27).below B24; have g24 := Q23.size; obtain ⟨iax24, iay24, iaf24, iag24, iaz24⟩ := H_ia.out.below Q24; have ian24 : ¬ (w24.heap.size = w.heap.size) := (by omega); have iam24 : ¬ (w.heap.size = w24.heap.size) := (by omega); obtain ⟨jax24, jay24, jaf24, jag24, jaz24⟩ := H_ja.out.below Q24; have jan24 : ¬ (w24.heap.size = w.heap.size) := (by omega); have jam24 : ¬ (w.heap.size = w24.heap.size) := (by omega); obtain ⟨kax24, kay24, kaf24, kag24, kaz24⟩ := H_ka.out.below Q24; have kan24 : ¬ (w24.heap.size = (w.heap.size + 1)) := (by omega); have kam24 : ¬ ((w.heap.size + 1) = w24.heap.size) := (by omega); obtain ⟨lax24, lay24, laf24, lag24, laz24⟩ := H_la.out.below Q24; have lan24 : ¬ (w24.heap.size = (w.heap.size + 1)) := (by omega); have lam24 : ¬ ((w.heap.size + 1) = w24.heap.size) := (by omega); obtain ⟨rax24, ray24, raf24, rag24, raz24⟩ := H_ra.out.below Q24; have ran24 : ¬ (w24.heap.size = (w.heap.size + 1 + 1)) := (by omega); have ram24 : ¬ ((w.heap.size + 1 + 1) = w24.heap.size) := (by omega); obtain ⟨oax24, oay24, oaf24, oag24, oaz24⟩ := H_oa.out.below Q24; have oan24 : ¬ (w24.heap.size = (w.heap.size + 1 + 1)) := (by omega); have oam24 : ¬ ((w.heap.size + 1 + 1) = w24.heap.size) := (by omega); obtain ⟨gx24, gy24, gf24, gg24, gz24⟩ := H_g.out.below Q24; have gn24 : ¬ (w24.heap.size = w21.heap.size) := (by omega); have gm24 : ¬ (w21.heap.size = w24.heap.size) := (by omega); obtain ⟨xx24, xy24, xf24, xg24, xz24⟩ := H_x.out.below Q24; have xn24 : ¬ (w24.heap.size = (w21.heap.size + 1)) := (by omega); have xm24 : ¬ ((w21.heap.size + 1) = w24.heap.size) := (by omega); have Jc24 := J24; obtain ⟨jx24, jy24, jf24, jg24, jz24⟩ := Jc24)
      | fail)
    all_goals
      first
      | have P := Lib.hid (VarCut.put (w0 := w22) (z := dd) (k := 8388608) J24 p24 Q24 g24 (by omega))
      | have P := Lib.hid (VarCut.new (w0 := w22) (z := dd) (k := 8388608) (t := 27) p24 Q24 (by omega))
      go_wp2_with fail
      go_meet
      exact ⟨P.out, rfl⟩
  case rest =>
    obtain ⟨⟨g25, s25, A25, n25, c25, rfl, hg25, I25, p25, k25, B25⟩, rfl⟩ := hcut
    obtain ⟨w25, hw25⟩ : ∃ x, x = wc := ⟨_, rfl⟩
    subst hw25
    have lt_ia_z : w.heap.size < g25 := Nat.lt_of_lt_of_le H_ia.out.2.2.2.2 hg25
    have lt_ja_z : w.heap.size < g25 := Nat.lt_of_lt_of_le H_ja.out.2.2.2.2 hg25
    have lt_ka_z : (w.heap.size + 1) < g25 := Nat.lt_of_lt_of_le H_ka.out.2.2.2.2 hg25
    have lt_la_z : (w.heap.size + 1) < g25 := Nat.lt_of_lt_of_le H_la.out.2.2.2.2 hg25
    have lt_ra_z : (w.heap.size + 1 + 1) < g25 := Nat.lt_of_lt_of_le H_ra.out.2.2.2.2 hg25
    have lt_oa_z : (w.heap.size + 1 + 1) < g25 := Nat.lt_of_lt_of_le H_oa.out.2.2.2.2 hg25
    have lt_g_z : w21.heap.size < g25 := Nat.lt_of_lt_of_le H_g.out.2.2.2.2 hg25
    have lt_x_z : (w21.heap.size + 1) < g25 := Nat.lt_of_lt_of_le H_x.out.2.2.2.2 hg25
    have lw_z : w.heap.size ≤ g25 := Nat.le_trans hW.size hg25
    replace H_ia := Lib.hid (H_ia.out.below B25)
    replace H_ja := Lib.hid (H_ja.out.below B25)
    replace H_ka := Lib.hid (H_ka.out.below B25)
    replace H_la := Lib.hid (H_la.out.below B25)
    replace H_ra := Lib.hid (H_ra.out.below B25)
    replace H_oa := Lib.hid (H_oa.out.below B25)
    replace H_g := Lib.hid (H_g.out.below B25)
    replace H_x := Lib.hid (H_x.out.below B25)
    replace ha := ha.below B25
    replace hp := hp.below B25
    replace hb := hb.below B25
    replace hq := hq.below B25
    replace pg := pg.below B25
    replace px := px.below B25
    replace hW := hW.trans (B25.mono hW.size)
    have H_z := Lib.hid I25
    clear B25 I25 hg25
    have pz := p25
    clear p25
    clear ha
    clear H_ia
    obtain ⟨ja1, ja2, ja3, ja4, ja5⟩ := H_ja.out
    obtain ⟨ka1, ka2, ka3, ka4, ka5⟩ := H_ka.out
    obtain ⟨la1, la2, la3, la4, la5⟩ := H_la.out
    obtain ⟨ra1, ra2, ra3, ra4, ra5⟩ := H_ra.out
    obtain ⟨oa1, oa2, oa3, oa4, oa5⟩ := H_oa.out
    obtain ⟨g1, g2, g3, g4, g5⟩ := H_g.out
    obtain ⟨x1, x2, x3, x4, x5⟩ := H_x.out
    obtain ⟨z1, z2, z3, z4, z5⟩ := H_z.out
    go_wp2_with fail
    clear ja1 ja2 ja3 ja4 ja5 ka1 ka2 ka3 ka4 ka5 la1 la2 la3 la4 la5 ra1 ra2 ra3 ra4 ra5 oa1 oa2 oa3 oa4 oa5 g1 g2 g3 g4 g5 x1 x2 x3 x4 x5 z1 z2 z3 z4 z5
    refine (zexact_yes hp.zv pg.zv (by omega) (by omega) (by omega) HP.out).mono ?_
    rintro e w26 ⟨s26, A26, n26, c26, rfl, pt, k26, B26⟩
    replace H_ja := Lib.hid (H_ja.out.below B26)
    replace H_ka := Lib.hid (H_ka.out.below B26)
    replace H_la := Lib.hid (H_la.out.below B26)
    replace H_ra := Lib.hid (H_ra.out.below B26)
    replace H_oa := Lib.hid (H_oa.out.below B26)
    replace H_g := Lib.hid (H_g.out.below B26)
    replace H_x := Lib.hid (H_x.out.below B26)
    replace H_z := Lib.hid (H_z.out.below B26)
    replace hp := hp.below B26
    replace hb := hb.below B26
    replace hq := hq.below B26
    replace pg := pg.below B26
    replace px := px.below B26
    replace pz := pz.below B26
    replace hW := hW.trans (B26.mono hW.size)
    clear B26
    have z27 := zba w26 (.cells #[.bool s26, .slice A26 n26 c26] 27)
    obtain ⟨w27, hw27⟩ : ∃ w', w' = w26.alloc (.cells #[.bool s26, .slice A26 n26 c26] 27) := ⟨_, rfl⟩
    have I27 : Ib w27 w26.heap.size s26 A26 n26 c26 := by rw [hw27]; exact Ib.new _ _ _ _ _ _
    rw [← hw27] at z27
    have HW27 := Lib.hid hw27.symm
    have O_ja := H_ja
    have lt_ja_t : w.heap.size < w26.heap.size := H_ja.out.2.2.2.2
    have O_ka := H_ka
    have lt_ka_t : (w.heap.size + 1) < w26.heap.size := H_ka.out.2.2.2.2
    have O_la := H_la
    have lt_la_t : (w.heap.size + 1) < w26.heap.size := H_la.out.2.2.2.2
    have O_ra := H_ra
    have lt_ra_t : (w.heap.size + 1 + 1) < w26.heap.size := H_ra.out.2.2.2.2
    have O_oa := H_oa
    have lt_oa_t : (w.heap.size + 1 + 1) < w26.heap.size := H_oa.out.2.2.2.2
    have O_g := H_g
    have lt_g_t : w21.heap.size < w26.heap.size := H_g.out.2.2.2.2
    have O_x := H_x
    have lt_x_t : (w21.heap.size + 1) < w26.heap.size := H_x.out.2.2.2.2
    have O_z := H_z
    have lt_z_t : g25 < w26.heap.size := H_z.out.2.2.2.2
    have lw_t : w.heap.size ≤ w26.heap.size := hW.size
    replace H_ja := Lib.hid (H_ja.out.below z27)
    replace H_ka := Lib.hid (H_ka.out.below z27)
    replace H_la := Lib.hid (H_la.out.below z27)
    replace H_ra := Lib.hid (H_ra.out.below z27)
    replace H_oa := Lib.hid (H_oa.out.below z27)
    replace H_g := Lib.hid (H_g.out.below z27)
    replace H_x := Lib.hid (H_x.out.below z27)
    replace H_z := Lib.hid (H_z.out.below z27)
    replace hp := hp.below z27
    replace hb := hb.below z27
    replace hq := hq.below z27
    replace pg := pg.below z27
    replace px := px.below z27
    replace pz := pz.below z27
    replace pt := pt.below z27
    replace hW := hW.trans (z27.mono hW.size)
    have H_t := Lib.hid I27
    clear z27 hw27 I27
    clear hp pg
    clear H_ja H_g
    obtain ⟨ja1, ja2, ja3, ja4, ja5⟩ := O_ja.out
    obtain ⟨ka1, ka2, ka3, ka4, ka5⟩ := O_ka.out
    obtain ⟨la1, la2, la3, la4, la5⟩ := O_la.out
    obtain ⟨ra1, ra2, ra3, ra4, ra5⟩ := O_ra.out
    obtain ⟨oa1, oa2, oa3, oa4, oa5⟩ := O_oa.out
    obtain ⟨g1, g2, g3, g4, g5⟩ := O_g.out
    obtain ⟨x1, x2, x3, x4, x5⟩ := O_x.out
    obtain ⟨z1, z2, z3, z4, z5⟩ := O_z.out
    go_wp2_with fail
    rw [HW27.out]
    clear ja1 ja2 ja3 ja4 ja5 ka1 ka2 ka3 ka4 ka5 la1 la2 la3 la4 la5 ra1 ra2 ra3 ra4 ra5 oa1 oa2 oa3 oa4 oa5 g1 g2 g3 g4 g5 x1 x2 x3 x4 x5 z1 z2 z3 z4 z5 O_ja O_ka O_la O_ra O_oa O_g O_x O_z
    go_upto_region 6 with fail
    go_cut [13, 14] (VarTrue w27 (dd * X % PP) 8388608)
    case first =>
      obtain ⟨ka1, ka2, ka3, ka4, ka5⟩ := H_ka.out
      obtain ⟨la1, la2, la3, la4, la5⟩ := H_la.out
      obtain ⟨ra1, ra2, ra3, ra4, ra5⟩ := H_ra.out
      obtain ⟨oa1, oa2, oa3, oa4, oa5⟩ := H_oa.out
      obtain ⟨x1, x2, x3, x4, x5⟩ := H_x.out
      obtain ⟨z1, z2, z3, z4, z5⟩ := H_z.out
      obtain ⟨t1, t2, t3, t4, t5⟩ := H_t.out
      have kan : ¬ (w27.heap.size = (w.heap.size + 1)) := by omega
      have kam : ¬ ((w.heap.size + 1) = w27.heap.size) := by omega
      have lan : ¬ (w27.heap.size = (w.heap.size + 1)) := by omega
      have lam : ¬ ((w.heap.size + 1) = w27.heap.size) := by omega
      have ran : ¬ (w27.heap.size = (w.heap.size + 1 + 1)) := by omega
      have ram : ¬ ((w.heap.size + 1 + 1) = w27.heap.size) := by omega
      have oan : ¬ (w27.heap.size = (w.heap.size + 1 + 1)) := by omega
      have oam : ¬ ((w.heap.size + 1 + 1) = w27.heap.size) := by omega
      have xn : ¬ (w27.heap.size = (w21.heap.size + 1)) := by omega
      have xm : ¬ ((w21.heap.size + 1) = w27.heap.size) := by omega
      have zn : ¬ (w27.heap.size = g25) := by omega
      have zm : ¬ (g25 = w27.heap.size) := by omega
      have tn : ¬ (w27.heap.size = w26.heap.size) := by omega
      have tm : ¬ (w26.heap.size = w27.heap.size) := by omega
      go_region_held3 (fun w' => w'.cell? ⟨(w.heap.size + 1), 0, none⟩ = some (.bool u) ∧ w'.cell? ⟨(w.heap.size + 1), 1, none⟩ = some (.slice C l e') ∧ w'.cell? ⟨(w.heap.size + 1), 2, none⟩ = some (.bool v) ∧ w'.cell? ⟨(w.heap.size + 1), 3, none⟩ = some (.slice D f' h') ∧ w'.cell? ⟨(w.heap.size + 1 + 1), 0, none⟩ = some (.bool false) ∧ w'.cell? ⟨(w.heap.size + 1 + 1), 1, none⟩ = some (.slice none 0 0) ∧ w'.cell? ⟨(w.heap.size + 1 + 1), 2, none⟩ = some (.bool false) ∧ w'.cell? ⟨(w.heap.size + 1 + 1), 3, none⟩ = some (.slice none 0 0) ∧ w'.cell? ⟨(w21.heap.size + 1), 0, none⟩ = some (.bool t21) ∧ w'.cell? ⟨(w21.heap.size + 1), 1, none⟩ = some (.slice D21 m21 d21) ∧ w'.cell? ⟨g25, 0, none⟩ = some (.bool s25) ∧ w'.cell? ⟨g25, 1, none⟩ = some (.slice A25 n25 c25) ∧ w'.cell? ⟨w26.heap.size, 0, none⟩ = some (.bool s26) ∧ w'.cell? ⟨w26.heap.size, 1, none⟩ = some (.slice A26 n26 c26)) (go_keep) (first
        | (go_at_call 11; (with_reducible refine (zmul_v (pz.below (below_drew _)).zv (px.below (below_drew _)).zv (by omega) (by omega)).mono ?_); rintro e w28 ⟨s28, A28, n28, c28, rfl, p28, k28, B28⟩; have Q28 := zup (below_drew _) B28; obtain ⟨kax28, kay28, kaf28, kag28, kaz28⟩ := H_ka.out.below Q28; have kan28 : ¬ (w28.heap.size = (w.heap.size + 1)) := (by omega); have kam28 : ¬ ((w.heap.size + 1) = w28.heap.size) := (by omega); obtain ⟨lax28, lay28, laf28, lag28, laz28⟩ := H_la.out.below Q28; have lan28 : ¬ (w28.heap.size = (w.heap.size + 1)) := (by omega); have lam28 : ¬ ((w.heap.size + 1) = w28.heap.size) := (by omega); obtain ⟨rax28, ray28, raf28, rag28, raz28⟩ := H_ra.out.below Q28; have ran28 : ¬ (w28.heap.size = (w.heap.size + 1 + 1)) := (by omega); have ram28 : ¬ ((w.heap.size + 1 + 1) = w28.heap.size) := (by omega); obtain ⟨oax28, oay28, oaf28, oag28, oaz28⟩ := H_oa.out.below Q28; have oan28 : ¬ (w28.heap.size = (w.heap.size + 1 + 1)) := (by omega); have oam28 : ¬ ((w.heap.size + 1 + 1) = w28.heap.size) := (by omega); obtain ⟨xx28, xy28, xf28, xg28, xz28⟩ := H_x.out.below Q28; have xn28 : ¬ (w28.heap.size = (w21.heap.size + 1)) := (by omega); have xm28 : ¬ ((w21.heap.size + 1) = w28.heap.size) := (by omega); obtain ⟨zx28, zy28, zf28, zg28, zz28⟩ := H_z.out.below Q28; have zn28 : ¬ (w28.heap.size = g25) := (by omega); have zm28 : ¬ (g25 = w28.heap.size) := (by omega); obtain ⟨tx28, ty28, tf28, tg28, tz28⟩ := H_t.out.below Q28; have tn28 : ¬ (w28.heap.size = w26.heap.size) := (by omega); have tm28 : ¬ (w26.heap.size = w28.heap.size) := (by omega))
        | (go_at_call 11; (with_reducible refine (zmul_v (pz.below (zbd _ _)).zv (px.below (zbd _ _)).zv (by omega) (by omega)).mono ?_); rintro e w28 ⟨s28, A28, n28, c28, rfl, p28, k28, B28⟩; have Q28 := zup (zbd _ _) B28; have J28 := (Ib.newd w27 false none 0 0 27).below B28; have g28 := Nat.le_refl w27.heap.size; obtain ⟨kax28, kay28, kaf28, kag28, kaz28⟩ := H_ka.out.below Q28; have kan28 : ¬ (w28.heap.size = (w.heap.size + 1)) := (by omega); have kam28 : ¬ ((w.heap.size + 1) = w28.heap.size) := (by omega); obtain ⟨lax28, lay28, laf28, lag28, laz28⟩ := H_la.out.below Q28; have lan28 : ¬ (w28.heap.size = (w.heap.size + 1)) := (by omega); have lam28 : ¬ ((w.heap.size + 1) = w28.heap.size) := (by omega); obtain ⟨rax28, ray28, raf28, rag28, raz28⟩ := H_ra.out.below Q28; have ran28 : ¬ (w28.heap.size = (w.heap.size + 1 + 1)) := (by omega); have ram28 : ¬ ((w.heap.size + 1 + 1) = w28.heap.size) := (by omega); obtain ⟨oax28, oay28, oaf28, oag28, oaz28⟩ := H_oa.out.below Q28; have oan28 : ¬ (w28.heap.size = (w.heap.size + 1 + 1)) := (by omega); have oam28 : ¬ ((w.heap.size + 1 + 1) = w28.heap.size) := (by omega); obtain ⟨xx28, xy28, xf28, xg28, xz28⟩ := H_x.out.below Q28; have xn28 : ¬ (w28.heap.size = (w21.heap.size + 1)) := (by omega); have xm28 : ¬ ((w21.heap.size + 1) = w28.heap.size) := (by omega); obtain ⟨zx28, zy28, zf28, zg28, zz28⟩ := H_z.out.below Q28; have zn28 : ¬ (w28.heap.size = g25) := (by omega); have zm28 : ¬ (g25 = w28.heap.size) := (by omega); obtain ⟨tx28, ty28, tf28, tg28, tz28⟩ := H_t.out.below Q28; have tn28 : ¬ (w28.heap.size = w26.heap.size) := (by omega); have tm28 : ¬ (w26.heap.size = w28.heap.size) := (by omega); have Jc28 := J28; obtain ⟨jx28, jy28, jf28, jg28, jz28⟩ := Jc28)
        | (go_at_call 29; (with_reducible refine (mod_yes p28.zv (pt.below Q28).zv (by omega) (by omega) hPpos).mono ?_); rintro e w29 ⟨s29, A29, n29, c29, rfl, p29, k29, B29⟩; have Q29 := zup Q28 B29; have R29 := B29; have J29 := J28.below B29; have g29 := g28; obtain ⟨kax29, kay29, kaf29, kag29, kaz29⟩ := H_ka.out.below Q29; have kan29 : ¬ (w29.heap.size = (w.heap.size + 1)) := (by omega); have kam29 : ¬ ((w.heap.size + 1) = w29.heap.size) := (by omega); obtain ⟨lax29, lay29, laf29, lag29, laz29⟩ := H_la.out.below Q29; have lan29 : ¬ (w29.heap.size = (w.heap.size + 1)) := (by omega); have lam29 : ¬ ((w.heap.size + 1) = w29.heap.size) := (by omega); obtain ⟨rax29, ray29, raf29, rag29, raz29⟩ := H_ra.out.below Q29; have ran29 : ¬ (w29.heap.size = (w.heap.size + 1 + 1)) := (by omega); have ram29 : ¬ ((w.heap.size + 1 + 1) = w29.heap.size) := (by omega); obtain ⟨oax29, oay29, oaf29, oag29, oaz29⟩ := H_oa.out.below Q29; have oan29 : ¬ (w29.heap.size = (w.heap.size + 1 + 1)) := (by omega); have oam29 : ¬ ((w.heap.size + 1 + 1) = w29.heap.size) := (by omega); obtain ⟨xx29, xy29, xf29, xg29, xz29⟩ := H_x.out.below Q29; have xn29 : ¬ (w29.heap.size = (w21.heap.size + 1)) := (by omega); have xm29 : ¬ ((w21.heap.size + 1) = w29.heap.size) := (by omega); obtain ⟨zx29, zy29, zf29, zg29, zz29⟩ := H_z.out.below Q29; have zn29 : ¬ (w29.heap.size = g25) := (by omega); have zm29 : ¬ (g25 = w29.heap.size) := (by omega); obtain ⟨tx29, ty29, tf29, tg29, tz29⟩ := H_t.out.below Q29; have tn29 : ¬ (w29.heap.size = w26.heap.size) := (by omega); have tm29 : ¬ (w26.heap.size = w29.heap.size) := (by omega); have Jc29 := J29; obtain ⟨jx29, jy29, jf29, jg29, jz29⟩ := Jc29)
        | (go_at_call 29; (with_reducible refine (mod_yes p28.zv (pt.below Q28).zv (by omega) (by omega) hPpos).mono ?_); rintro e w29 ⟨s29, A29, n29, c29, rfl, p29, k29, B29⟩; have Q29 := zup Q28 B29; have R29 := B29; obtain ⟨kax29, kay29, kaf29, kag29, kaz29⟩ := H_ka.out.below Q29; have kan29 : ¬ (w29.heap.size = (w.heap.size + 1)) := (by omega); have kam29 : ¬ ((w.heap.size + 1) = w29.heap.size) := (by omega); obtain ⟨lax29, lay29, laf29, lag29, laz29⟩ := H_la.out.below Q29; have lan29 : ¬ (w29.heap.size = (w.heap.size + 1)) := (by omega); have lam29 : ¬ ((w.heap.size + 1) = w29.heap.size) := (by omega); obtain ⟨rax29, ray29, raf29, rag29, raz29⟩ := H_ra.out.below Q29; have ran29 : ¬ (w29.heap.size = (w.heap.size + 1 + 1)) := (by omega); have ram29 : ¬ ((w.heap.size + 1 + 1) = w29.heap.size) := (by omega); obtain ⟨oax29, oay29, oaf29, oag29, oaz29⟩ := H_oa.out.below Q29; have oan29 : ¬ (w29.heap.size = (w.heap.size + 1 + 1)) := (by omega); have oam29 : ¬ ((w.heap.size + 1 + 1) = w29.heap.size) := (by omega); obtain ⟨xx29, xy29, xf29, xg29, xz29⟩ := H_x.out.below Q29; have xn29 : ¬ (w29.heap.size = (w21.heap.size + 1)) := (by omega); have xm29 : ¬ ((w21.heap.size + 1) = w29.heap.size) := (by omega); obtain ⟨zx29, zy29, zf29, zg29, zz29⟩ := H_z.out.below Q29; have zn29 : ¬ (w29.heap.size = g25) := (by omega); have zm29 : ¬ (g25 = w29.heap.size) := (by omega); obtain ⟨tx29, ty29, tf29, tg29, tz29⟩ := H_t.out.below Q29; have tn29 : ¬ (w29.heap.size = w26.heap.size) := (by omega); have tm29 : ¬ (w26.heap.size = w29.heap.size) := (by omega))
        | (go_at_call 29; (with_reducible refine (mod_yes (p28.below (zba _ _)).zv (pt.below (zup Q28 (zba _ _))).zv (by omega) (by omega) hPpos).mono ?_); rintro e w29 ⟨s29, A29, n29, c29, rfl, p29, k29, B29⟩; have Q29 := zup (zup Q28 (zba _ _)) B29; have R29 := zup (zba w28 _) B29; have J29 := (Ib.new w28 false none 0 0 27).below B29; have g29 := Q28.size; obtain ⟨kax29, kay29, kaf29, kag29, kaz29⟩ := H_ka.out.below Q29; have kan29 : ¬ (w29.heap.size = (w.heap.size + 1)) := (by omega); have kam29 : ¬ ((w.heap.size + 1) = w29.heap.size) := (by omega); obtain ⟨lax29, lay29, laf29, lag29, laz29⟩ := H_la.out.below Q29; have lan29 : ¬ (w29.heap.size = (w.heap.size + 1)) := (by omega); have lam29 : ¬ ((w.heap.size + 1) = w29.heap.size) := (by omega); obtain ⟨rax29, ray29, raf29, rag29, raz29⟩ := H_ra.out.below Q29; have ran29 : ¬ (w29.heap.size = (w.heap.size + 1 + 1)) := (by omega); have ram29 : ¬ ((w.heap.size + 1 + 1) = w29.heap.size) := (by omega); obtain ⟨oax29, oay29, oaf29, oag29, oaz29⟩ := H_oa.out.below Q29; have oan29 : ¬ (w29.heap.size = (w.heap.size + 1 + 1)) := (by omega); have oam29 : ¬ ((w.heap.size + 1 + 1) = w29.heap.size) := (by omega); obtain ⟨xx29, xy29, xf29, xg29, xz29⟩ := H_x.out.below Q29; have xn29 : ¬ (w29.heap.size = (w21.heap.size + 1)) := (by omega); have xm29 : ¬ ((w21.heap.size + 1) = w29.heap.size) := (by omega); obtain ⟨zx29, zy29, zf29, zg29, zz29⟩ := H_z.out.below Q29; have zn29 : ¬ (w29.heap.size = g25) := (by omega); have zm29 : ¬ (g25 = w29.heap.size) := (by omega); obtain ⟨tx29, ty29, tf29, tg29, tz29⟩ := H_t.out.below Q29; have tn29 : ¬ (w29.heap.size = w26.heap.size) := (by omega); have tm29 : ¬ (w26.heap.size = w29.heap.size) := (by omega); have Jc29 := J29; obtain ⟨jx29, jy29, jf29, jg29, jz29⟩ := Jc29)
        | fail)
      all_goals
        first
        | have P := Lib.hid (VarCut.put (w0 := w27) (z := (dd * X % PP)) (k := 8388608) J29 p29 Q29 g29 (by omega))
        | have P := Lib.hid (VarCut.new (w0 := w27) (z := (dd * X % PP)) (k := 8388608) (t := 27) p29 Q29 (by omega))
        go_wp2_with fail
        go_meet
        exact ⟨P.out, rfl⟩
    case rest =>
      obtain ⟨⟨g30, s30, A30, n30, c30, rfl, hg30, I30, p30, k30, B30⟩, rfl⟩ := hcut
      obtain ⟨w30, hw30⟩ : ∃ x, x = wc := ⟨_, rfl⟩
      subst hw30
      have lt_ka_u : (w.heap.size + 1) < g30 := Nat.lt_of_lt_of_le H_ka.out.2.2.2.2 hg30
      have lt_la_u : (w.heap.size + 1) < g30 := Nat.lt_of_lt_of_le H_la.out.2.2.2.2 hg30
      have lt_ra_u : (w.heap.size + 1 + 1) < g30 := Nat.lt_of_lt_of_le H_ra.out.2.2.2.2 hg30
      have lt_oa_u : (w.heap.size + 1 + 1) < g30 := Nat.lt_of_lt_of_le H_oa.out.2.2.2.2 hg30
      have lt_x_u : (w21.heap.size + 1) < g30 := Nat.lt_of_lt_of_le H_x.out.2.2.2.2 hg30
      have lt_z_u : g25 < g30 := Nat.lt_of_lt_of_le H_z.out.2.2.2.2 hg30
      have lt_t_u : w26.heap.size < g30 := Nat.lt_of_lt_of_le H_t.out.2.2.2.2 hg30
      have lw_u : w.heap.size ≤ g30 := Nat.le_trans hW.size hg30
      replace H_ka := Lib.hid (H_ka.out.below B30)
      replace H_la := Lib.hid (H_la.out.below B30)
      replace H_ra := Lib.hid (H_ra.out.below B30)
      replace H_oa := Lib.hid (H_oa.out.below B30)
      replace H_x := Lib.hid (H_x.out.below B30)
      replace H_z := Lib.hid (H_z.out.below B30)
      replace H_t := Lib.hid (H_t.out.below B30)
      replace hb := hb.below B30
      replace hq := hq.below B30
      replace px := px.below B30
      replace pz := pz.below B30
      replace pt := pt.below B30
      replace hW := hW.trans (B30.mono hW.size)
      have H_u := Lib.hid I30
      clear B30 I30 hg30
      have pu := p30
      clear p30
      rw [HTT.out] at pu
      clear pz px
      clear H_z H_x
      obtain ⟨ka1, ka2, ka3, ka4, ka5⟩ := H_ka.out
      obtain ⟨la1, la2, la3, la4, la5⟩ := H_la.out
      obtain ⟨ra1, ra2, ra3, ra4, ra5⟩ := H_ra.out
      obtain ⟨oa1, oa2, oa3, oa4, oa5⟩ := H_oa.out
      obtain ⟨t1, t2, t3, t4, t5⟩ := H_t.out
      obtain ⟨u1, u2, u3, u4, u5⟩ := H_u.out
      go_wp2_with fail
      clear ka1 ka2 ka3 ka4 ka5 la1 la2 la3 la4 la5 ra1 ra2 ra3 ra4 ra5 oa1 oa2 oa3 oa4 oa5 t1 t2 t3 t4 t5 u1 u2 u3 u4 u5
      obtain ⟨ka1, ka2, ka3, ka4, ka5⟩ := H_ka.out
      obtain ⟨la1, la2, la3, la4, la5⟩ := H_la.out
      obtain ⟨ra1, ra2, ra3, ra4, ra5⟩ := H_ra.out
      obtain ⟨oa1, oa2, oa3, oa4, oa5⟩ := H_oa.out
      obtain ⟨t1, t2, t3, t4, t5⟩ := H_t.out
      obtain ⟨u1, u2, u3, u4, u5⟩ := H_u.out
      have rn_ka : ¬ ((w.heap.size + 1 + 1) = (w.heap.size + 1)) := by omega
      have rm_ka : ¬ ((w.heap.size + 1) = (w.heap.size + 1 + 1)) := by omega
      have rn_la : ¬ ((w.heap.size + 1 + 1) = (w.heap.size + 1)) := by omega
      have rm_la : ¬ ((w.heap.size + 1) = (w.heap.size + 1 + 1)) := by omega
      have rn_t : ¬ ((w.heap.size + 1 + 1) = w26.heap.size) := by omega
      have rm_t : ¬ (w26.heap.size = (w.heap.size + 1 + 1)) := by omega
      have rn_u : ¬ ((w.heap.size + 1 + 1) = g30) := by omega
      have rm_u : ¬ (g30 = (w.heap.size + 1 + 1)) := by omega
      go_region_held3 (fun w' => w'.cell? ⟨(w.heap.size + 1), 0, none⟩ = some (.bool u) ∧ w'.cell? ⟨(w.heap.size + 1), 1, none⟩ = some (.slice C l e') ∧ w'.cell? ⟨(w.heap.size + 1), 2, none⟩ = some (.bool v) ∧ w'.cell? ⟨(w.heap.size + 1), 3, none⟩ = some (.slice D f' h') ∧ w'.cell? ⟨w26.heap.size, 0, none⟩ = some (.bool s26) ∧ w'.cell? ⟨w26.heap.size, 1, none⟩ = some (.slice A26 n26 c26) ∧ w'.cell? ⟨g30, 0, none⟩ = some (.bool s30) ∧ w'.cell? ⟨g30, 1, none⟩ = some (.slice A30 n30 c30)) (go_keep) (first
        | (go_at_call 11; (with_reducible refine (zmul_v (hq.below (below_drew _)).zv (pu.below (below_drew _)).zv (by omega) (by omega)).mono ?_); rintro e w31 ⟨s31, A31, n31, c31, rfl, p31, k31, B31⟩; have Q31 := zup (below_drew _) B31; obtain ⟨kax31, kay31, kaf31, kag31, kaz31⟩ := H_ka.out.below Q31; obtain ⟨lax31, lay31, laf31, lag31, laz31⟩ := H_la.out.below Q31; obtain ⟨rax31, ray31, raf31, rag31, raz31⟩ := H_ra.out.below Q31; obtain ⟨oax31, oay31, oaf31, oag31, oaz31⟩ := H_oa.out.below Q31; obtain ⟨tx31, ty31, tf31, tg31, tz31⟩ := H_t.out.below Q31; obtain ⟨ux31, uy31, uf31, ug31, uz31⟩ := H_u.out.below Q31)
        | (go_at_call 63; (with_reducible refine (zadd_v (hb.below Q31).zv p31.zv (by omega) (by omega)).mono ?_); rintro e w32 ⟨s32, A32, n32, c32, rfl, p32, k32, B32⟩; have Q32 := zup Q31 B32; obtain ⟨kax32, kay32, kaf32, kag32, kaz32⟩ := H_ka.out.below Q32; obtain ⟨lax32, lay32, laf32, lag32, laz32⟩ := H_la.out.below Q32; obtain ⟨rax32, ray32, raf32, rag32, raz32⟩ := H_ra.out.below Q32; obtain ⟨oax32, oay32, oaf32, oag32, oaz32⟩ := H_oa.out.below Q32; obtain ⟨tx32, ty32, tf32, tg32, tz32⟩ := H_t.out.below Q32; obtain ⟨ux32, uy32, uf32, ug32, uz32⟩ := H_u.out.below Q32)
        | (go_at_call 11; (with_reducible refine (zmul_v (hq.below Q32).zv (pt.below Q32).zv (by omega) (by omega)).mono ?_); rintro e w33 ⟨s33, A33, n33, c33, rfl, p33, k33, B33⟩; have Q33 := zup Q32 B33; obtain ⟨kax33, kay33, kaf33, kag33, kaz33⟩ := H_ka.out.below Q33; obtain ⟨lax33, lay33, laf33, lag33, laz33⟩ := H_la.out.below Q33; obtain ⟨rax33, ray33, raf33, rag33, raz33⟩ := H_ra.out.below Q33; obtain ⟨oax33, oay33, oaf33, oag33, oaz33⟩ := H_oa.out.below Q33; obtain ⟨tx33, ty33, tf33, tg33, tz33⟩ := H_t.out.below Q33; obtain ⟨ux33, uy33, uf33, ug33, uz33⟩ := H_u.out.below Q33)
        | fail)
      clear ka1 ka2 ka3 ka4 ka5 la1 la2 la3 la4 la5 ra1 ra2 ra3 ra4 ra5 oa1 oa2 oa3 oa4 oa5 t1 t2 t3 t4 t5 u1 u2 u3 u4 u5 kax31 kay31 kaf31 kag31 kaz31 lax31 lay31 laf31 lag31 laz31 rax31 ray31 raf31 rag31 raz31 oax31 oay31 oaf31 oag31 oaz31 tx31 ty31 tf31 tg31 tz31 ux31 uy31 uf31 ug31 uz31 kax32 kay32 kaf32 kag32 kaz32 lax32 lay32 laf32 lag32 laz32 rax32 ray32 raf32 rag32 raz32 oax32 oay32 oaf32 oag32 oaz32 tx32 ty32 tf32 tg32 tz32 ux32 uy32 uf32 ug32 uz32 kax33 kay33 kaf33 kag33 kaz33 lax33 lay33 laf33 lag33 laz33 rax33 ray33 raf33 rag33 raz33 oax33 oay33 oaf33 oag33 oaz33 tx33 ty33 tf33 tg33 tz33 ux33 uy33 uf33 ug33 uz33
      replace H_ka := Lib.hid (H_ka.out.below Q33)
      replace H_la := Lib.hid (H_la.out.below Q33)
      replace H_ra := Lib.hid (H_ra.out.below Q33)
      replace H_oa := Lib.hid (H_oa.out.below Q33)
      replace H_t := Lib.hid (H_t.out.below Q33)
      replace H_u := Lib.hid (H_u.out.below Q33)
      replace hb := hb.below Q33
      replace hq := hq.below Q33
      replace pt := pt.below Q33
      replace pu := pu.below Q33
      replace hW := hW.trans (Q33.mono hW.size)
      have hR := p32.below B33
      have P := Lib.hid (jn_fin (w := w) HJ.out hR p33 H_ra.out H_oa.out (k := 33554432) (by omega) (by omega) (by omega) hW)
      unfold clput at P
      obtain ⟨r1, r2, r3, r4, r5⟩ := H_ra.out
      obtain ⟨o1, o2, o3, o4, o5⟩ := H_oa.out
      go_wp2_with fail
      exact bodyPost_ret (v := .tuple #[.agg #[.bool s32, .slice A32 n32 c32, .bool s33, .slice A33 n33 c33], .bool true]) (by simp [results, Tryz.results33, go_sem, r1, r2, o1, o2]) rfl P.out
end Go.Proofs.YtbcopicoldnahaaGreat
