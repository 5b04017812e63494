/-
  Package zint: the way's one step.
-/
import Derived.Test.YtbcopicoldnahaaGreatWayB
/-! Contract: zint.way.step. -/
namespace Go.Proofs.YtbcopicoldnahaaGreat
open Go.RowKit
set_option linter.unusedVariables false

/-- The way behind some steps, less of both numbers than g. -/
def WayMid (w : World) (base h u m G N g : Nat) : Prop :=
  ∃ (n ga gb gx gy a b x y : Nat) (La Lb Lx Ly : List Nat) (t : Bool), Wy w h (.slice (some ⟨ga, 0, none⟩) n N) (.slice (some ⟨gb, 0, none⟩) n N) (.slice (some ⟨gx, 0, none⟩) N N) (.slice (some ⟨gy, 0, none⟩) N N) t ∧ Wh base h ga gb gx gy ∧
    Four w base N n ga gb gx gy La Lb Lx Ly a b x y ∧ Wm u m G a b x y t ∧ a + b < g
theorem got_block {w w' : World} {t : TypeId} {K : IntKind} {A : Option Addr} {c : Nat} {zs : List Nat} (h : Got w w' t K A c zs) : ∀ ad, A = some ad → w.heap.size ≤ ad.block := by
  intro ad ha
  rcases h.1.2 with ⟨h1, _⟩ | ⟨g, cap, cur, hv, hg, _⟩
  · injection h1 with h2; rw [ha] at h2; cases h2
  · injection hv with h2; rw [ha] at h2; injection h2 with h3; rw [h3]; exact hg
theorem Cv.tch {S : Addr → Prop} {w w' : World} {A : Option Addr} {n c v : Nat} (h : Cv w A n c v) (ht : Tch S w w') (ho : Off S A (cn 18446744073709551616 v).length) : Cv w' A n c v := ⟨h.1.tch ht ho, h.2⟩
/-- What step leaves. -/
def WsPost (w : World) (base h u m G N g : Nat) (e : Ending) (w' : World) : Prop := e = .returned (.tuple #[]) ∧ WayMid w' base h u m G N g ∧ Below base w w'
theorem fi_a {w w1 w2 : World} {base N n ga gb gx gy a b x y v : Nat} {La Lb Lx Ly us : List Nat} (f : Four w base N n ga gb gx gy La Lb Lx Ly a b x y) (hB : Below w.heap.size w w1) (hP : FiPost w1 ga 0 n us (.returned (.tuple #[])) w2) (hu : us.length ≤ n) (hv : ev 18446744073709551616 us = v) :
    ∃ La', Four w2 base N n ga gb gx gy La' Lb Lx Ly v b x y ∧ Tch (Seg ga 0 n) w1 w2 := by
  obtain ⟨_, har, ht, _⟩ := hP
  have f1 := f.below hB
  have hla := f.la
  have hn := f.hn
  have W := f1.wa.part (n := n) ht har (by simp; omega) (by omega) fun j hj hs => by have := hs.2.2; simp at this; omega
  refine ⟨_, ⟨f.dab, f.dax, f.day, f.dbx, f.dby, f.dxy, f.ba, f.bb, f.bx, f.bY, by simp; omega, f.lb, f.lx, f.ly, f.hn, f.hN, W, f1.wb.tch ht fun j _ h => f.dab h.1.symm, f1.wx.tch ht fun j _ h => f.dax h.1.symm, f1.wy.tch ht fun j _ h => f.day h.1.symm, ?_, f.vb, f.vx, f.vy⟩, ht⟩
  rw [front_take (by simp; omega), ev_pad']; exact hv
theorem fi_x {w w1 w2 : World} {base N n ga gb gx gy a b x y v : Nat} {La Lb Lx Ly us : List Nat} (f : Four w base N n ga gb gx gy La Lb Lx Ly a b x y) (hB : Below w.heap.size w w1) (hP : FiPost w1 gx 0 N us (.returned (.tuple #[])) w2) (hu : us.length ≤ N) (hv : ev 18446744073709551616 us = v) :
    ∃ Lx', Four w2 base N n ga gb gx gy La Lb Lx' Ly a b v y ∧ Tch (Seg gx 0 N) w1 w2 := by
  obtain ⟨_, har, ht, _⟩ := hP
  have f1 := f.below hB
  have hlx := f.lx
  have W := f1.wx.part (n := N) ht har (by simp; omega) (by omega) fun j hj hs => by have := hs.2.2; simp at this; omega
  refine ⟨_, ⟨f.dab, f.dax, f.day, f.dbx, f.dby, f.dxy, f.ba, f.bb, f.bx, f.bY, f.la, f.lb, by simp; omega, f.ly, f.hn, f.hN, f1.wa.tch ht fun j _ h => f.dax h.1, f1.wb.tch ht fun j _ h => f.dbx h.1, W, f1.wy.tch ht fun j _ h => f.dxy h.1.symm, f.va, f.vb, ?_, f.vy⟩, ht⟩
  rw [List.drop_of_length_le (by omega), List.append_nil, ev_pad']; exact hv

set_option maxRecDepth 100000 in
set_option maxHeartbeats 2000000 in
theorem wstep_calls (w : World) (base h u m G N n ga gb gx gy a b x y : Nat) (La Lb Lx Ly : List Nat) (t : Bool) (hW : Wy w h (.slice (some ⟨ga, 0, none⟩) n N) (.slice (some ⟨gb, 0, none⟩) n N) (.slice (some ⟨gx, 0, none⟩) N N) (.slice (some ⟨gy, 0, none⟩) N N) t)
    (hH : Wh base h ga gb gx gy) (f : Four w base N n ga gb gx gy La Lb Lx Ly a b x y) (M : Wm u m G a b x y t) (hle : b ≤ a) (h0 : 0 < b) (hm : m < 18446744073709551616 ^ N) :
    Calls Tryz.prog 87 #[.pointer (some ⟨h, 0, none⟩)] w (WsPost w base h u m G N (a + b)) := by
  obtain ⟨j1, j2, j3, j4, j5⟩ := jok_step h0 hle
  have M2 := M.jump j1 j2 j3 j4
  have bnd := (M2.bound (.inr j5)).1
  have ex : x * 1 + y * (a / b) = x + a / b * y := by rw [Nat.mul_one, Nat.mul_comm y]
  have ey : y * 1 + x * 0 = y := by omega
  rw [ey, ex] at M2
  rw [ex] at bnd
  have hlt : a % b + b < a + b := by have := Nat.mod_lt a h0; omega
  have hxN : x + a / b * y < 18446744073709551616 ^ N := by omega
  have hN := f.hN
  have hn := f.hn
  have hbase : base ≤ w.heap.size := by have := f.wa.1.lt; have := f.ba; omega
  have hlr : a % b < 18446744073709551616 ^ n := Nat.lt_trans (Nat.mod_lt _ h0) f.nvb.lt
  have HM2 := Lib.hid M2
  have HW := Lib.hid hW
  have HF := Lib.hid f
  have HXN := Lib.hid hxN
  have HLT := Lib.hid hlt
  have HLR := Lib.hid hlr
  obtain ⟨c0, c1, c2, c3, c4, _⟩ := hW.cells
  clear M M2 j1 j2 j3 j4 j5 ex ey bnd hxN hlt hlr hW f hm
  go_enter Tryz.func87, Tryz.ntmps87
  go_wp2_with fail
  go_region_held3 (fun w' => w'.cell? ⟨h, 0, none⟩ = some (.slice (some ⟨ga, 0, none⟩) n N) ∧ w'.cell? ⟨h, 1, none⟩ = some (.slice (some ⟨gb, 0, none⟩) n N)) (go_keep) (first
    | (go_at_call 51; (with_reducible refine (dm_calls (x := a) (y := b) (HF.out.nva.below (below_drew _)) (HF.out.nvb.below (below_drew _)) (by omega) (by omega) h0).mono ?_); rintro e w1 ⟨A1, e1, A2, e2, rfl, G1, G2⟩; have Q1 := zup (below_drew _) G1.2; obtain ⟨d0, d1, d2, d3, d4, _⟩ := (HW.out.below Q1).cells)
    | fail)
  have hnew1 : ∀ ad, A1 = some ad → w.heap.size ≤ ad.block := fun ad ha => (got_block G1 ad ha : w.drew.heap.size ≤ ad.block)
  have p1 := G1.cv
  have p2 := G2.cv
  have hn2 : (cn 18446744073709551616 (a % b)).length ≤ n := cn_len_of_lt _ _ _ (by omega) HLR.out
  have hn1 : (cn 18446744073709551616 (a / b)).length ≤ n := cn_len_of_lt _ _ _ (by omega) (div_lt_pow HF.out.nva.lt)
  have low2 := cn_low 18446744073709551616 (a % b) (by omega)
  have HE2 := Lib.hid (ev_cn 18446744073709551616 (a % b) (by omega))
  obtain ⟨n1, hl1⟩ : ∃ k, (cn 18446744073709551616 (a / b)).length = k := ⟨_, rfl⟩
  obtain ⟨n2, hl2⟩ : ∃ k, (cn 18446744073709551616 (a % b)).length = k := ⟨_, rfl⟩
  rw [hl1] at p1 hn1 ⊢
  rw [hl2] at p2 hn2 ⊢
  have HL2 := Lib.hid hl2
  have HNEW := Lib.hid hnew1
  have HQ1 := Lib.hid Q1
  have HF1 := Lib.hid (HF.out.below Q1)
  have HW1 := Lib.hid (HW.out.below Q1)
  have ar1 : Ar w1 ga 0 57 (La.take n) := (Ar.of_wb HF1.out.wa).take n (by rw [HF1.out.la]; exact hn)
  have HLA : Hid ((La.take n).length = n) := Lib.hid (by have := HF1.out.la; simp; omega)
  clear G1 G2 hl1 hl2 hnew1 Q1 c0 c1 c2 c3 c4 d1 d2 d3 d4
  go_wp2_with fail
  refine (zfill_calls ga 0 N n2 e2 A2 (La.take n) (cn 18446744073709551616 (a % b)) n w1 ar1 HLA.out p2.1 p2.2.1 low2 hn2 hn (by omega)).mono ?_
  intro e w2 P2
  have he := P2.1
  subst he
  obtain ⟨La', f2, T2⟩ := fi_a HF1.out (Below.refl _ _) P2 (by rw [HL2.out]; exact hn2) HE2.out
  have W2 := HW1.out.tch T2 fun z hz hs => hH.ha (hz.symm.trans hs.1)
  have hga : ga < w.heap.size := HF.out.wa.1.lt
  have q1 := p1.tch T2 (off_new HNEW.out hga)
  have hs1 : w.heap.size ≤ w1.heap.size := HQ1.out.size
  have HQ2 : Hid (Below base w w2) := Lib.hid ((HQ1.out.mono hbase).trans (T2.below (B := base) (by omega) fun z hz => by rw [hz.1]; exact HF.out.ba))
  have hs2 : w1.heap.size ≤ w2.heap.size := T2.size
  have HF2 := Lib.hid f2
  have HW2 := Lib.hid W2
  have HP1 := Lib.hid q1
  have HE4 := Lib.hid (ev_cn 18446744073709551616 (x + a / b * y) (by omega))
  have hn4 : (cn 18446744073709551616 (x + a / b * y)).length ≤ N := cn_len_of_lt _ _ _ (by omega) HXN.out
  have low4 := cn_low 18446744073709551616 (x + a / b * y) (by omega)
  have hlx := f2.lx
  have HLX := Lib.hid hlx
  have hhx : ∀ z : Addr, z.block = h → ¬ Seg gx 0 N z := fun z hz hs => hH.hx (hz.symm.trans hs.1)
  have HHX := Lib.hid hhx
  obtain ⟨c0, c1, c2, c3, c4, _⟩ := W2.cells
  clear P2 ar1 low2 T2 W2 f2 q1 hlx hhx p1 p2 HF1 HW1
  go_wp2_with fail
  go_region_held3 (fun w' => w'.cell? ⟨h, 2, none⟩ = some (.slice (some ⟨gx, 0, none⟩) N N) ∧ w'.cell? ⟨h, 3, none⟩ = some (.slice (some ⟨gy, 0, none⟩) N N)) (go_keep) (first
    | (go_at_call 26; (with_reducible refine (mmulc_v (x := a / b) (y := y) (HP1.out.nv.below (below_drew _)) (HF2.out.nvy.below (below_drew _)) (by omega) (by omega)).mono ?_); rintro e w3 ⟨A3, n3, e3, rfl, p3, k3, B3⟩; have Q3 := zup (below_drew _) B3; obtain ⟨d0, d1, d2, d3, d4, _⟩ := (HW2.out.below Q3).cells)
    | (go_at_call 90; (with_reducible refine (addc_v (x := x) (y := a / b * y) (HF2.out.nvx.below Q3) p3.nv (by omega) (by omega)).mono ?_); rintro e w4 ⟨A4, n4, e4, rfl, p4, k4, B4⟩; have Q4 := zup Q3 B4; have r4 := p4.1; have l4 := p4.2.1; have m4 : n4 ≤ N := (by rw [← l4]; exact hn4); have ar4 := Ar.of_wb (HF2.out.below Q4).wx; obtain ⟨f0, f1, f2, f3, f4, _⟩ := (HW2.out.below Q4).cells)
    | (go_at_call 108; (with_reducible refine (zfill_calls gx 0 N n4 e4 A4 Lx (cn 18446744073709551616 (x + a / b * y)) N _ ar4 HLX.out r4 l4 low4 m4 (Nat.le_refl _) (by omega)).mono ?_); intro e w5 P5; obtain ⟨Lx', F5, T5⟩ := fi_x HF2.out Q4 ⟨rfl, P5.2⟩ hn4 HE4.out; have W5 := (HW2.out.below Q4).tch T5 HHX.out; obtain ⟨g0, g1, g2, g3, g4, _⟩ := W5.cells; obtain rfl := P5.1)
    | fail)
  have hs4 := Q4.size
  have P : Hid (WsPost w base h u m G N (a + b) (.returned (.tuple #[])) w5) := Lib.hid ⟨rfl, ⟨n, ga, gb, gx, gy, a % b, b, x + a / b * y, y, _, _, _, _, t, W5, hH, F5, HM2.out, HLT.out⟩, (HQ2.out.trans (Q4.mono (by omega))).trans (T5.below (B := base) (by omega) fun z hz => by rw [hz.1]; exact HF.out.bx)⟩
  go_wp2_with fail
  go_end0
  exact P.out
end Go.Proofs.YtbcopicoldnahaaGreat
