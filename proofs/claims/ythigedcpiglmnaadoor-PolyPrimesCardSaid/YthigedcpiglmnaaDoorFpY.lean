/-
  Package fpoly: raise; Irreducible.
-/
import Derived.Test.YthigedcpiglmnaaDoorFpX
/-! Contracts of polynomials over a field: raise, Irreducible. -/
namespace Go.Proofs.YthigedcpiglmnaaDoor
open Go.RowKit
set_option linter.unusedVariables false
set_option linter.unusedSimpArgs false

/-! ### raise -/
/-- What lay ahead of the struct stays, and lists of words but those of block q. -/
def Kx (g q : Nat) (w w' : World) : Prop := Below g w w' ∧ w.heap.size ≤ w'.heap.size ∧ (∀ {G n c xs}, G ≠ q → Lv w (some ⟨G, 0, none⟩) n c xs → Lv w' (some ⟨G, 0, none⟩) n c xs) ∧ ∀ {G L}, G ≠ q → Wr w G L → Wr w' G L
theorem Kx.trans {g q : Nat} {a b c : World} (h : Kx g q a b) (k : Kx g q b c) : Kx g q a c := ⟨h.1.trans k.1, Nat.le_trans h.2.1 k.2.1, fun n x => k.2.2.1 n (h.2.2.1 n x), fun n x => k.2.2.2 n (h.2.2.2 n x)⟩
theorem Kp.x {g : Nat} {a b : World} (h : Kp g a b) (q : Nat) : Kx g q a b := ⟨h.1, h.2.1, fun _ x => h.2.2.1 x, fun _ x => h.2.2.2 x⟩
theorem Kx.grown {g q : Nat} {a b : World} (h : a.grownBy b (some q)) (hg : g ≤ a.heap.size) (hq : g ≤ q) : Kx g q a b :=
  ⟨(Below.refl g a).grown h hg (fun k e => by cases e; exact hq), h.size, fun hn x => x.grown h (fun ad e => by cases e; exact hn), fun hn x => x.grown h hn⟩
theorem Kx.out {g q : Nat} {a b : World} (h : Kx g q a b) (hq : a.heap.size ≤ q) : Kp g a b := by
  refine ⟨h.1, h.2.1, fun {G n c xs} x => ?_, fun x => h.2.2.2 (by have := x.lt; omega) x⟩
  by_cases e : G = q
  · have h0 : n = 0 := by
      rcases Nat.eq_zero_or_pos n with h0 | h0
      · exact h0
      · obtain ⟨ad, e1, e2, _⟩ := x.at (k := 0) h0
        cases e1; simp only at e2; omega
    subst h0
    have e2 : xs = [] := List.length_eq_zero_iff.1 x.len
    subst e2
    exact ⟨Rd.nil _ _ _, rfl, x.le, x.cap, Low.nil _⟩
  · exact h.2.2.1 e x
theorem Ims.gather {w w' : World} {b p k q : Nat} {ms L : List Nat} {S : Value} (h : Ims w b p ms (fun ga => ga ≠ q) k S) (hg : w.grownBy w' (some q)) (hw : Wr w q L) : Ims w' b p ms (fun ga => ga ≠ q) k S := by
  obtain ⟨vals, h1, h0, h2⟩ := h
  refine ⟨vals, h1.kept hg (.inr fun e => ?_), h0, fun i hi => ?_⟩
  · rcases h1.2 with ⟨rfl, _⟩ | ⟨gr, cap, cur, rfl, hb, hgr, _⟩
    · cases e
    · have e4 : gr = q := by simpa [Value.ownBlock] using e
      exact wr_ne hw hgr (by decide) e4.symm
  · obtain ⟨ga, n, c, e, hl, hlt, hx⟩ := h2 i hi
    exact ⟨ga, n, c, e, hl.grown hg (fun ad e => by cases e; exact hx), Nat.lt_of_lt_of_le hlt hg.size, hx⟩
/-- What raise does. -/
def RzPost (p ab g : Nat) (D : Option Addr) (m d : Nat) (ms rs : List Nat) (w : World) (e : Ending) (w' : World) : Prop :=
  ∃ ga n c k S, e = .returned (.slice (some ⟨ga, 0, none⟩) n c) ∧ Lv w' (some ⟨ga, 0, none⟩) n c (rz p ms rs) ∧ Fr w' g ab D m d S ∧ Ims w' g p ms (fun _ => True) k S ∧ Kp g w w' ∧ k ≤ 1001
set_option maxRecDepth 100000 in
set_option maxHeartbeats 1000000 in
/-- raise: to the p, by the modulus. -/
theorem raise_v {ab p g gm m d k ga n c : Nat} {ms rs : List Nat} {S : Value} {w : World} (hp : ab + 2 = p) (h : p < 2147483648) (hpr : MR.Pr p) (hF : Fr w g ab (some ⟨gm, 0, none⟩) m d S) (hz : Lv w (some ⟨gm, 0, none⟩) m d ms) (hm : m ≤ 549755813888) (nm : Nm p ms) (m2 : 2 ≤ m) (hI : Ims w g p ms (fun _ => True) k S) (hk : k ≤ 1001)
    (hx : Lv w (some ⟨ga, 0, none⟩) n c rs) (nx : Nm p rs) (hn : n ≤ 1000) :
    Calls Tryd.prog 56 #[.pointer (some ⟨g, 0, none⟩), .slice (some ⟨ga, 0, none⟩) n c] w (RzPost p ab g (some ⟨gm, 0, none⟩) m d ms rs w) := by
  have HP := Lib.hid hp
  have HNM := Lib.hid nm
  have HZ := Lib.hid hz
  have HX0 := Lib.hid hx
  have HNX := Lib.hid nx
  have hlm := hz.len
  have hlr := hx.len
  have m0 : ms ≠ [] := fun e => by rw [e] at hlm; simp at hlm; omega
  have HM0 := Lib.hid m0
  have hp2 : 2 ≤ p := by omega
  obtain ⟨M, rfl⟩ : ∃ M, m = M + 1 := ⟨m - 1, by omega⟩
  have c0 := hF.c0
  have c1 := hF.c1
  have hgl := hF.lt
  have hMw : IntKind.i64.wrap (M : Int) = (M : Int) := by rw [IntKind.wrap_i64]; omega
  have hMw2 : ((M + 1 : Nat) : Int) - 1 = (M : Int) := by omega
  clear hp nm hz nx m0
  go_enter Tryd.func56, Tryd.ntmps56
  go_wp2_with (at_make; refine wpList_make_blk _ rfl _ _ 23 rfl 26 .u64 8 Tryd.underlying23 info_u64 _ _ _ _ M rfl rfl (by omega) (by omega) (by omega) (by omega) ?_)
  intro w1 hb1 hw1 hz1
  obtain ⟨q, hq⟩ : ∃ q, w.heap.size = q := ⟨_, rfl⟩
  have hqw : w.heap.size ≤ q := by omega
  rw [hq] at hb1 ⊢
  have hgq : g < q := by omega
  have hq1 : q < w1.heap.size := by have := hb1.lt; exact this
  have HB : Hid (∃ L kk S, Fr w1 g ab (some ⟨gm, 0, none⟩) (M + 1) d S ∧ Ims w1 g p ms (fun ga => ga ≠ q) kk S ∧ kk ≤ 1001 ∧ Wr w1 q L ∧ L.length = M ∧ (∀ j, nth L j < 2 * p * p) ∧ Eqm p (pe L) (pe (lacc p ms rs 0)) ∧ Kx g q w w1 ∧ q < w1.heap.size) :=
    Lib.hid ⟨_, k, S, hF.below hw1, (hI.mono (fun ga hl _ => show ga ≠ q by omega)).below hw1, hk, Wr.of_blk hb1, by simp, fun j => by rw [nth_replicate]; exact Nat.mul_pos (by omega) (by omega), .of fun x => by rw [pe_zeros]; rfl, (Kp.of hw1 (Nat.le_of_lt hgl)).x q, hq1⟩
  clear hF hI hx hb1 hw1 hz1 c0 c1 hq1
  go_wp2_with fail
  go_loopw [17] (fun s17 wr => ∃ i : Nat, s17 = .int .i64 (i : Int) ∧ i ≤ n ∧ Hid (∃ L kk S, Fr wr g ab (some ⟨gm, 0, none⟩) (M + 1) d S ∧ Ims wr g p ms (fun ga => ga ≠ q) kk S ∧ kk ≤ 1001 ∧ Wr wr q L ∧ L.length = M ∧ (∀ j, nth L j < 2 * p * p) ∧ Eqm p (pe L) (pe (lacc p ms rs i)) ∧ Kx g q w wr ∧ q < wr.heap.size)) (fun s17 _ => n - (intOf s17).toNat)
  case atStart => exact ⟨0, rfl, Nat.zero_le _, HB⟩
  case round =>
    clear HB
    obtain ⟨i, rfl, hi, HB⟩ := hrel
    obtain ⟨L, kk, S, hF, hI, hkk, hw, hl, h2L, hE, hK, hqs⟩ := HB.out
    have HF := Lib.hid hF
    have HI := Lib.hid hI
    have HW := Lib.hid hw
    have HL := Lib.hid h2L
    have HE := Lib.hid hE
    have HK := Lib.hid hK
    clear HB hF hI hw h2L hE hK
    by_cases hin : i < n
    · have hx := HK.out.2.2.1 (G := ga) (fun e => by obtain ⟨ad, e1, e2, _⟩ := HX0.out.at (k := i) hin; cases e1; simp only at e2; omega) HX0.out
      have hz := HK.out.2.2.1 (G := gm) (fun e => by obtain ⟨ad, e1, e2, _⟩ := HZ.out.at (k := 0) (by omega); cases e1; simp only at e2; omega) HZ.out
      have hxc := hx.rd.cell rfl (k := i) (by rw [hlr]; exact hin)
      obtain ⟨C, hC⟩ : ∃ C, nth rs i = C := ⟨_, rfl⟩
      rw [hC, add_lit0] at hxc
      have lC : C < p := by rw [← hC]; exact HNX.out.lt (by omega) i
      have hin2 : (i : Int) < (n : Int) := by omega
      have HC := Lib.hid hC
      have HZ2 := Lib.hid hz
      have hgl2 := HF.out.lt
      have Qd : Below wr.heap.size wr wr.drew := below_drew9 wr
      have hlow : Hid (Low p (imf p ms i)) := Lib.hid (imf_nm hpr HNM.out HM0.out i).1
      have hil : (imf p ms i).length ≤ M := by have := imf_len hpr HNM.out HM0.out i; omega
      have k0 := HF.out.c0
      clear hx hz hC
      go_upto_region 5 with fail
      go_region_law (first
        | (refine hop_call (wanted_none rfl) rfl (args := #[.pointer (some ⟨g, 0, none⟩), .int .i64 (i : Int)]) (by simp [Act.eval, Act.put]) (ent7 (by kernel_rfl) _ _) (image_v HP.out h hpr (HF.out.below Qd) (HZ2.out.below Qd) hm HNM.out m2 (HI.out.below Qd) (by omega) hkk (fun ga hga => show ga ≠ q by have e : wr.drew.heap.size = wr.heap.size := rfl; omega)) ?_; rintro e w2 ⟨g2, n2, d2, k2, S2, rfl, r2, hg2, F2, I2, K2, hk2⟩; refine ⟨_, rfl, ?_⟩; have q2 := F2.c0; have W2 := K2.2.2.2 (HW.out.below Qd))
        | (refine hop_call (wanted_none rfl) rfl (args := #[.agg #[.int .u64 (ab : Int)], .slice (some ⟨q, 0, none⟩) M M, .slice (some ⟨g2, 0, none⟩) n2 d2, .int .u64 (C : Int)]) (by simp [Act.eval, Act.put]) (ent7 (by kernel_rfl) _ _) (gather_v HP.out h W2 HL.out r2 (fun ad e => by cases e; exact hg2) hlow.out lC (by omega) (by rw [← r2.len]; exact hil) (Nat.le_refl _) (by omega)) ?_; rintro e w3 ⟨rfl, L3, G3, W3, N3⟩; refine ⟨_, rfl, ?_⟩))
      all_goals
        have hs0 : wr.drew.heap.size = wr.heap.size := rfl
        have hs2 := K2.2.1
        have hs3 := N3.size
        have F3 : Fr w3 g ab (some ⟨gm, 0, none⟩) (M + 1) d S2 := (N3.block g F2.lt (fun e => by have := Option.some.inj e; omega)).trans F2
        have hE3 : Eqm p (pe L3) (pe (lacc p ms rs (i + 1))) := ((grel_eqm G3).trans (HE.out.add (Eqm.refl p (fun x => (C : Int) * (x ^ 0 * pe (imf p ms i) x))))).to fun x => by rw [lacc_succ, pe_addl, pe_scl, HC.out]; simp
        have HN : Hid (∃ L kk S, Fr w3 g ab (some ⟨gm, 0, none⟩) (M + 1) d S ∧ Ims w3 g p ms (fun ga => ga ≠ q) kk S ∧ kk ≤ 1001 ∧ Wr w3 q L ∧ L.length = M ∧ (∀ j, nth L j < 2 * p * p) ∧ Eqm p (pe L) (pe (lacc p ms rs (i + 1))) ∧ Kx g q w w3 ∧ q < w3.heap.size) :=
          Lib.hid ⟨L3, k2, S2, F3, I2.gather N3 W2, hk2, W3, G3.1.trans hl, G3.2.1, hE3, HK.out.trans ((((Kp.of Qd (Nat.le_of_lt hgl2)).trans K2).x q).trans (Kx.grown N3 (by omega) (by omega))), by omega⟩
        clear hE3 F3 I2 W3 G3 K2 r2 W2 q2 F2 hg2
        go_wp2_with fail
        go_roundw
        case rel => exact ⟨i + 1, by go_num, by omega, HN.out⟩
        case measure => simp [intOf]; omega
    · obtain rfl : i = n := by omega
      have hlv : Lv wr (some ⟨q, 0, none⟩) M M L := by
        have := Lv.wr HW.out (Nat.le_refl _) (by rw [hl]; omega) (low2 h HL.out)
        rwa [hl] at this
      have HE2 : Hid (nrm p L = rz p ms rs) := Lib.hid (by unfold rz; rw [hlr]; exact nrm_eq HE.out)
      have k0 := HF.out.c0
      have hin2 : ¬ (i : Int) < (i : Int) := by omega
      clear hin
      go_wp2_with fail
      refine (norm_z HP.out h hlv (by omega)).mono ?_
      rintro e w5 ⟨A5, n5, c5, rfl, ⟨r5, g5, rfl, hg5, hg6⟩, B5⟩
      rw [HE2.out] at r5
      clear k0 hlv
      go_wp2_with fail
      exact bodyPost_ret (v := .slice (some ⟨g5, 0, none⟩) n5 c5) (by simp [results, Tryd.results56, go_sem]) rfl ⟨_, _, _, _, _, rfl, r5, HF.out.below B5, (HI.out.mono (fun _ _ _ => trivial)).below B5, (HK.out.out hqw).trans (Kp.of B5 (Nat.le_of_lt HF.out.lt)), hkk⟩
theorem found_k {p k : Nat} (hf : Few p) (hp : MR.Pr p) (hk : k = 1 ∨ k = 2) {a r : List Nat} (ha : Nm p a) (a0 : a ≠ []) (hr : Rs p a k r) (hno : ∀ j, 1 ≤ j → j < k → ¬ HasDv p a j) : 1 < (gcP p a (amul p r [0, 1] (p - 1))).length ↔ HasDv p a k := by
  rcases hk with rfl | rfl
  · exact found_one hf hp ha a0 hr
  · exact found_two hf hp ha a0 hr (hno 1 (by omega) (by omega))
theorem lacc_len {p : Nat} (hp : MR.Pr p) {m r : List Nat} (hm : Nm p m) (m0 : m ≠ []) : ∀ k, (lacc p m r k).length ≤ m.length
  | 0 => by simp [lacc]
  | k + 1 => by
    rw [lacc_succ, addl_length, scl_length]
    have := lacc_len hp (r := r) hm m0 k
    have := imf_len hp hm m0 k
    omega
theorem rz_len {p : Nat} (hp : MR.Pr p) {m r : List Nat} (hm : Nm p m) (m0 : m ≠ []) : (rz p m r).length ≤ m.length := Nat.le_trans (nrm_le _ _) (lacc_len hp hm m0 _)
set_option maxRecDepth 100000 in
set_option maxHeartbeats 1000000 in
/-- Irreducible. -/
theorem irr_v {ab p n c : Nat} {A : Option Addr} {xs : List Nat} {w : World} (hp : ab + 2 = p) (h : p < 2147483648) (hpr : MR.Pr p) (hf : Few p) (hx : Lv w A n c xs) (hn : n ≤ 6) {b : Bool} (hb : b = true ↔ 2 ≤ (nrm p xs).length ∧ ∀ k, 1 ≤ k → 2 * k + 1 ≤ (nrm p xs).length → ¬ HasDv p (nrm p xs) k) :
    Calls Tryd.prog 38 #[.agg #[.int .u64 (ab : Int)], .slice A n c] w (BlPost b w) := by
  have hW := Below.refl w.heap.size w
  obtain ⟨wp0, hwp0⟩ : ∃ xw, xw = w.alloc (.cells #[.int .u64 (ab : Int)] 28) := ⟨_, rfl⟩
  have zp0 : Below w.heap.size w wp0 := by rw [hwp0]; exact zba _ _
  have sp0 : wp0.heap.size = w.heap.size + 1 := by rw [hwp0, World.size_alloc]
  have If : Fb wp0 w.heap.size ab := by rw [hwp0]; exact Fb.new _ _ _
  replace hx := hx.below zp0
  replace hW := hW.trans (zp0.mono hW.size)
  have H_f := Lib.hid If
  clear If zp0
  have HW : Hid ((w.alloc (.cells #[.int .u64 (ab : Int)] 28)) = wp0) := Lib.hid (by rw [hwp0])
  have lw_f : w.heap.size ≤ w.heap.size := by omega
  clear hwp0 sp0
  have h2 : 2 ≤ p := by omega
  have HP := Lib.hid hp
  have HB := Lib.hid hb
  have lx := hx.len
  have lx2 := nrm_le p xs
  clear hp hb
  go_enter Tryd.func38, Tryd.ntmps38
  obtain ⟨f1, f2, f3⟩ := H_f.out
  obtain ⟨f1, f2, f3⟩ := H_f.out
  go_wp2_with fail
  rw [HW.out]
  clear f1 f2 f3
  refine (norm_z HP.out h hx (by omega)).mono ?_
  rintro e w1 ⟨A1, m, d, rfl, ⟨hz, gm, rfl, hgm, hgm2⟩, B1⟩
  replace H_f := Lib.hid (H_f.out.below B1)
  replace hx := hx.below B1
  replace hW := hW.trans (B1.mono hW.size)
  clear B1 f1 f2 f3 hx
  have hlm := hz.len
  rcases Nat.lt_or_ge m 2 with hm2 | hm2
  · skip
    have hbe : b = false := by
      cases b with
      | false => rfl
      | true => exact absurd (HB.out.1 rfl).1 (by omega)
    subst hbe
    have hml : (m : Int) - 1 < 1 := by omega
    clear hz
    obtain ⟨f1, f2, f3⟩ := H_f.out
    go_wp2_with fail
    clear f1 f2 f3
    exact bodyPost_ret (v := (.bool false)) (by simp [results, Tryd.results38, go_sem]) rfl ⟨rfl, hW⟩
  · skip
    obtain ⟨M, rfl⟩ : ∃ M, m = M + 1 := ⟨m - 1, by omega⟩
    have hml : ¬ (((M + 1 : Nat) : Int) - 1 < 1) := by omega
    have hmi : ((M + 1 : Nat) : Int) - 1 = (M : Int) := by omega
    have hml2 : ¬ ((M : Int) < 1) := by omega
    have hMw : IntKind.i64.wrap (M : Int) = (M : Int) := by rw [IntKind.wrap_i64]; omega
    obtain ⟨Q, hQ⟩ : ∃ Q, M / 2 = Q := ⟨_, rfl⟩
    have hQi : (M : Int) / 2 = (Q : Int) := by omega
    have hQt : (M : Int).tdiv 2 = (Q : Int) := by rw [Int.tdiv_eq_ediv_of_nonneg (by omega)]; exact hQi
    have hQ2 : Q ≤ 2 := by omega
    obtain ⟨ms, hms⟩ : ∃ l, nrm p xs = l := ⟨_, rfl⟩
    have nm : Nm p ms := hms ▸ nm_nrm (by omega) xs
    rw [hms] at hz hlm HB lx2
    have m0 : ms ≠ [] := fun e => by rw [e] at hlm; simp at hlm
    have HNM := Lib.hid nm
    have HM0 := Lib.hid m0
    clear nm m0 hms
    obtain ⟨f1, f2, f3⟩ := H_f.out
    go_upto_region 6 with fail
    go_region
    all_goals
      obtain ⟨W1, hW1⟩ : ∃ W, W = w1.alloc (.cells #[.int .u64 0, .int .u64 1] 26) := ⟨_, rfl⟩
      obtain ⟨W2, hW2⟩ : ∃ W, W = (W1.alloc (.cells #[.int .u64 (ab : Int), .slice (some ⟨gm, 0, none⟩) (M + 1) d, .slice none 0 0] 78)).drew := ⟨_, rfl⟩
      rw [← hW1, ← hW2]
      have Z1 : Below w1.heap.size w1 W1 := by rw [hW1]; exact zba _ _
      have Z2 : Below W1.heap.size W1 W2 := by rw [hW2]; exact zup (zba _ _) (below_drew9 _)
      obtain ⟨gX, hgX⟩ : ∃ q, w1.heap.size = q := ⟨_, rfl⟩
      obtain ⟨gS, hgS⟩ : ∃ q, W1.heap.size = q := ⟨_, rfl⟩
      have hs1 : W1.heap.size = w1.heap.size + 1 := by rw [hW1, World.size_alloc]
      have hX : Lv W2 (some ⟨gX, 0, none⟩) 2 2 [0, 1] := Lv.below (by rw [hW1, ← hgX]; exact lv_x) Z2
      have hF : Fr W2 gS ab (some ⟨gm, 0, none⟩) (M + 1) d (.slice none 0 0) := by
        rw [hW2, ← hgS]; exact (Fr.new W1 _ _ _ _ _).below (below_drew9 _)
      replace hz := (hz.below Z1).below Z2
      have HF2 := Lib.hid ((H_f.out.below Z1).below Z2)
      replace hW := (hW.trans (Z1.mono hW.size)).trans (Z2.mono (by have := hW.size; omega))
      have hgw : w.heap.size < gS := by have := f3; omega
      rw [show w1.heap.size + 1 = gS by omega, hgX]
      have HZ := Lib.hid hz
      have HX := Lib.hid hX
      have HW2 := Lib.hid hW
      have HB0 : Hid (∃ r kk S, Lv W2 (some ⟨gX, 0, none⟩) 2 2 r ∧ Rs p ms 0 r ∧ r.length ≤ 1000 ∧ Fr W2 gS ab (some ⟨gm, 0, none⟩) (M + 1) d S ∧ Ims W2 gS p ms (fun _ => True) kk S ∧ kk ≤ 1001 ∧ Kp gS W2 W2 ∧ ∀ j, 1 ≤ j → j ≤ 0 → ¬ HasDv p ms j) := Lib.hid ⟨[0, 1], 0, _, hX, rs_zero hpr ms, by decide, hF, Ims.nil _ _ _ _ _, by omega, Kp.refl _ _, fun j h1 h2 => by omega⟩
      clear hX hF hz hW Z1 Z2 hW1 hW2 f1 f2 f3 H_f hs1 hgS hgX HW
      obtain ⟨f1, f2, f3⟩ := HF2.out
      go_wp2_with fail
      clear f1 f2 f3
      go_loopw [7, 24] (fun s7 s24 wr => ∃ i : Nat, s24 = .int .i64 (i : Int) ∧ i ≤ Q ∧ ∃ g2 n2 c2, s7 = .slice (some ⟨g2, 0, none⟩) n2 c2 ∧ Hid (∃ r kk S, Lv wr (some ⟨g2, 0, none⟩) n2 c2 r ∧ Rs p ms i r ∧ r.length ≤ 1000 ∧ Fr wr gS ab (some ⟨gm, 0, none⟩) (M + 1) d S ∧ Ims wr gS p ms (fun _ => True) kk S ∧ kk ≤ 1001 ∧ Kp gS W2 wr ∧ ∀ j, 1 ≤ j → j ≤ i → ¬ HasDv p ms j)) (fun _ s24 _ => Q - (intOf s24).toNat)
      case atStart => exact ⟨0, rfl, Nat.zero_le _, _, _, _, rfl, HB0⟩
      case round =>
        clear HB0
        obtain ⟨i, rfl, hi, g2, n2, c2, rfl, HB1⟩ := hrel
        obtain ⟨r, kk, S, hr, hrs, hrl, hF, hI, hkk, hK, hno⟩ := HB1.out
        have hlr := hr.len
        have HK := Lib.hid hK
        have HNO := Lib.hid hno
        have HRS := Lib.hid hrs
        have hrs2 := hrs.1
        have hWr : Below w.heap.size w wr := HW2.out.trans (hK.1.mono (by omega))
        have hFb : Fb wr w.heap.size ab := ⟨(hK.1.cell (p := ⟨w.heap.size, 0, none⟩) hgw).trans HF2.out.1, (hK.1.frozen (p := ⟨w.heap.size, 0, none⟩) hgw).trans HF2.out.2.1, Nat.lt_of_lt_of_le HF2.out.2.2 hK.2.1⟩
        have H_f := Lib.hid hFb
        have hz := hK.2.2.1 HZ.out
        have hX := hK.2.2.1 HX.out
        clear HB1 hK hno hrs hFb
        by_cases hlt : i < Q
        · have hlti : (i : Int) < (Q : Int) := by omega
          obtain ⟨f1, f2, f3⟩ := H_f.out
          go_wp2_with fail
          clear f1 f2 f3
          refine (raise_v HP.out h hpr hF hz (by omega) HNM.out hm2 hI hkk hr hrs2 (by omega)).mono ?_
          rintro e w3 ⟨g3, n3, c3, k3, S3, rfl, r3, F3, I3, K3, hk3⟩
          have hz3 := K3.2.2.1 hz
          have hX3 := K3.2.2.1 hX
          have H_f3 : Fb w3 w.heap.size ab := ⟨(K3.1.cell (p := ⟨w.heap.size, 0, none⟩) hgw).trans H_f.out.1, (K3.1.frozen (p := ⟨w.heap.size, 0, none⟩) hgw).trans H_f.out.2.1, Nat.lt_of_lt_of_le H_f.out.2.2 K3.2.1⟩
          replace H_f := Lib.hid H_f3
          have hW : Below w.heap.size w w3 := hWr.trans (K3.1.mono (by omega))
          have hl3 := r3.len
          have hlz := rz_len hpr (r := r) HNM.out HM0.out
          obtain ⟨LG, hLG⟩ : ∃ L, (gcP p ms (amul p (rz p ms r) [0, 1] (p - 1))).length = L := ⟨_, rfl⟩
          have hrn := rs_step hf hpr HNM.out HM0.out HRS.out
          have hfk := found_k hf hpr (k := i + 1) (by omega) HNM.out HM0.out hrn (fun j h1 h2 => HNO.out j h1 (by omega))
          rw [hLG] at hfk
          have HFK := Lib.hid hfk
          have HLG := Lib.hid hLG
          have HRN := Lib.hid hrn
          have HK3 := Lib.hid K3
          have hgs3 := F3.lt
          have hla := amul_len p (rz p ms r) [0, 1] (p - 1)
          have hlx : ([0, 1] : List Nat).length = 2 := rfl
          clear hz hX hr hF hI hrs2 hfk hLG hrn H_f3 hWr K3
          by_cases h9 : 1 < LG
          · skip
            have hd : decide ((1 : Int) < (LG : Int)) = true := decide_eq_true (by omega)
            obtain ⟨f1, f2, f3⟩ := H_f.out
            go_wp2_with fail
            clear f1 f2 f3
            refine region8 [] 9 [IsK (.agg #[.int .u64 (ab : Int)]), IsK (.slice (some ⟨gm, 0, none⟩) (M + 1) d), IsK (.agg #[.int .u64 (ab : Int)]), IsK (.slice (some ⟨g3, 0, none⟩) n3 c3), IsK (.slice (some ⟨gX, 0, none⟩) 2 2), IsP (amul p (rz p ms r) [0, 1] (p - 1)), IsP (gcP p ms (amul p (rz p ms r) [0, 1] (p - 1))), IsK (.int .i64 (LG : Int)), IsK (.bool true)] (fun _ _ d _ _ h => by cases d <;> exact h) (by kernel_rfl) (by kernel_rfl) (by kernel_rfl) ⟨stay_k _, stay_k _, stay_k _, stay_k _, stay_k _, stay_p _, stay_p _, stay_k _, stay_k _, trivial⟩ ?_ ?_
            · refine HopAll.cons rfl ?_ (HopAll.cons rfl ?_ (HopAll.cons rfl ?_ (HopAll.cons rfl ?_ (HopAll.cons rfl ?_ (HopAll.cons rfl ?_ (HopAll.cons rfl ?_ (HopAll.cons rfl ?_ (HopAll.cons rfl ?_ HopAll.nil))))))))
              · intro a w1 hB ho hp K hK
                have e2 : a.eval (.tmp 2) = (.pointer (some ⟨w.heap.size, 0, none⟩)) := ho 2 (by kernel_rfl)
                obtain ⟨u1, u2, u3⟩ := H_f.out.below hB
                exact hop_load (wanted_none rfl) rfl e2 (run_ldf u1) (hK _ _ rfl (Below.refl _ _))
              · intro a w1 hB ho hp K hK
                have e1 : a.eval (.tmp 1) = (.slice (some ⟨gm, 0, none⟩) (M + 1) d) := ho 1 (by kernel_rfl)
                refine hop_val (wanted_none rfl) ?_ (hK (.slice (some ⟨gm, 0, none⟩) (M + 1) d) _ rfl (Below.refl _ _))
                unfold execOp; simp only [eval_const, e1]; simp [go_sem]
              · intro a w1 hB ho hp K hK
                have e2 : a.eval (.tmp 2) = (.pointer (some ⟨w.heap.size, 0, none⟩)) := ho 2 (by kernel_rfl)
                obtain ⟨u1, u2, u3⟩ := H_f.out.below hB
                exact hop_load (wanted_none rfl) rfl e2 (run_ldf u1) (hK _ _ rfl (Below.refl _ _))
              · intro a w1 hB ho hp K hK
                have e7 : a.eval (.tmp 7) = (.slice (some ⟨g3, 0, none⟩) n3 c3) := ho 7 (by kernel_rfl)
                refine hop_val (wanted_none rfl) ?_ (hK (.slice (some ⟨g3, 0, none⟩) n3 c3) _ rfl (Below.refl _ _))
                unfold execOp; simp only [eval_const, e7]; simp [go_sem]
              · intro a w1 hB ho hp K hK
                have e6 : a.eval (.tmp 6) = (.slice (some ⟨gX, 0, none⟩) 2 2) := ho 6 (by kernel_rfl)
                refine hop_val (wanted_none rfl) ?_ (hK (.slice (some ⟨gX, 0, none⟩) 2 2) _ rfl (Below.refl _ _))
                unfold execOp; simp only [eval_const, e6]; simp [go_sem]
              · intro a w1 hB ho hp K hK
                have e30 : a.eval (.tmp 30) = (.agg #[.int .u64 (ab : Int)]) := hp 2 30 (by kernel_rfl)
                have e31 : a.eval (.tmp 31) = (.slice (some ⟨g3, 0, none⟩) n3 c3) := hp 3 31 (by kernel_rfl)
                have e32 : a.eval (.tmp 32) = (.slice (some ⟨gX, 0, none⟩) 2 2) := hp 4 32 (by kernel_rfl)
                refine hop_call (wanted_none rfl) rfl (args := #[(.agg #[.int .u64 (ab : Int)]), (.slice (some ⟨g3, 0, none⟩) n3 c3), (.slice (some ⟨gX, 0, none⟩) 2 2)]) (by simp only [List.map_toArray, List.map_cons, List.map_nil, eval_const, e30, e31, e32]) (ent7 (by kernel_rfl) _ _) (psub_v HP.out h (r3.below hB) (by omega) (hX3.below hB) (by omega)) ?_
                rintro e w2 ⟨A, n, c, rfl, p, B⟩
                exact ⟨_, rfl, hK _ _ ⟨A, n, c, rfl, p⟩ B⟩
              · intro a w1 hB ho hp K hK
                have e28 : a.eval (.tmp 28) = (.agg #[.int .u64 (ab : Int)]) := hp 0 28 (by kernel_rfl)
                have e29 : a.eval (.tmp 29) = (.slice (some ⟨gm, 0, none⟩) (M + 1) d) := hp 1 29 (by kernel_rfl)
                obtain ⟨A_33, n_33, c_33, e33, p33⟩ : IsP (amul p (rz p ms r) [0, 1] (p - 1)) (a.eval (.tmp 33)) w1 := hp 5 33 (by kernel_rfl)
                refine hop_call (wanted_none rfl) rfl (args := #[(.agg #[.int .u64 (ab : Int)]), (.slice (some ⟨gm, 0, none⟩) (M + 1) d), (.slice A_33 n_33 c_33)]) (by simp only [List.map_toArray, List.map_cons, List.map_nil, eval_const, e28, e29, e33]) (ent7 (by kernel_rfl) _ _) (gcd9_v HP.out h hpr (hz3.below hB) (by omega) p33 (by rw [← p33.len]; omega)) ?_
                rintro e w2 ⟨A, n, c, rfl, p, B⟩
                exact ⟨_, rfl, hK _ _ ⟨A, n, c, rfl, p⟩ B⟩
              · intro a w1 hB ho hp K hK
                obtain ⟨A_34, n_34, c_34, e34, p34⟩ : IsP (gcP p ms (amul p (rz p ms r) [0, 1] (p - 1))) (a.eval (.tmp 34)) w1 := hp 6 34 (by kernel_rfl)
                refine hop_val (wanted_none rfl) ?_ (hK (.int .i64 (LG : Int)) _ rfl (Below.refl _ _))
                unfold execOp; simp only [eval_const, resolve, Option.map_some, Option.map_none, List.map_toArray, List.map_cons, List.map_nil, e34]; simp [go_sem, ← HLG.out, p34.len]
              · intro a w1 hB ho hp K hK
                have e35 : a.eval (.tmp 35) = (.int .i64 (LG : Int)) := hp 7 35 (by kernel_rfl)
                refine hop_val (wanted_none rfl) ?_ (hK (.bool true) _ rfl (Below.refl _ _))
                unfold execOp; simp only [eval_const, e35]; simp [go_sem, hd]
            intro w21 B21
            refine EndAll.one rfl fun vv hv => ?_
            obtain rfl : vv = (.agg #[.int .u64 (ab : Int)]) := hv
            refine EndAll.one rfl fun vv hv => ?_
            obtain rfl : vv = (.slice (some ⟨gm, 0, none⟩) (M + 1) d) := hv
            refine EndAll.one rfl fun vv hv => ?_
            obtain rfl : vv = (.agg #[.int .u64 (ab : Int)]) := hv
            refine EndAll.one rfl fun vv hv => ?_
            obtain rfl : vv = (.slice (some ⟨g3, 0, none⟩) n3 c3) := hv
            refine EndAll.one rfl fun vv hv => ?_
            obtain rfl : vv = (.slice (some ⟨gX, 0, none⟩) 2 2) := hv
            refine EndAll.one rfl fun vv hv => ?_
            obtain ⟨A22, n22, c22, rfl, p22⟩ : IsP (amul p (rz p ms r) [0, 1] (p - 1)) vv w21 := hv
            refine EndAll.one rfl fun vv hv => ?_
            obtain ⟨A23, n23, c23, rfl, p23⟩ : IsP (gcP p ms (amul p (rz p ms r) [0, 1] (p - 1))) vv w21 := hv
            refine EndAll.one rfl fun vv hv => ?_
            obtain rfl : vv = (.int .i64 (LG : Int)) := hv
            refine EndAll.one rfl fun vv hv => ?_
            obtain rfl : vv = (.bool true) := hv
            refine EndAll.nil (l := []) rfl ?_
            simp only [Act.put, List.setIfInBounds_toArray, List.set_cons_zero, List.set_cons_succ]
            replace H_f := Lib.hid (H_f.out.below B21)
            replace r3 := r3.below B21
            replace F3 := F3.below B21
            replace I3 := I3.below B21
            replace hz3 := hz3.below B21
            replace hX3 := hX3.below B21
            replace hW := hW.trans (B21.mono hW.size)
            clear p22 p23
            have hbe : b = false := by
              cases b with
              | false => rfl
              | true => exact absurd (HFK.out.1 h9) ((HB.out.1 rfl).2 (i + 1) (by omega) (by omega))
            subst hbe
            clear HFK HB
            obtain ⟨f1, f2, f3⟩ := H_f.out
            go_wp2_with fail
            clear f1 f2 f3
            exact bodyPost_ret (v := (.bool false)) (by simp [results, Tryd.results38, go_sem]) rfl ⟨rfl, hW⟩
          · skip
            have hd : decide ((1 : Int) < (LG : Int)) = false := decide_eq_false (by omega)
            obtain ⟨f1, f2, f3⟩ := H_f.out
            go_wp2_with fail
            clear f1 f2 f3
            refine region8 [] 9 [IsK (.agg #[.int .u64 (ab : Int)]), IsK (.slice (some ⟨gm, 0, none⟩) (M + 1) d), IsK (.agg #[.int .u64 (ab : Int)]), IsK (.slice (some ⟨g3, 0, none⟩) n3 c3), IsK (.slice (some ⟨gX, 0, none⟩) 2 2), IsP (amul p (rz p ms r) [0, 1] (p - 1)), IsP (gcP p ms (amul p (rz p ms r) [0, 1] (p - 1))), IsK (.int .i64 (LG : Int)), IsK (.bool false)] (fun _ _ d _ _ h => by cases d <;> exact h) (by kernel_rfl) (by kernel_rfl) (by kernel_rfl) ⟨stay_k _, stay_k _, stay_k _, stay_k _, stay_k _, stay_p _, stay_p _, stay_k _, stay_k _, trivial⟩ ?_ ?_
            · refine HopAll.cons rfl ?_ (HopAll.cons rfl ?_ (HopAll.cons rfl ?_ (HopAll.cons rfl ?_ (HopAll.cons rfl ?_ (HopAll.cons rfl ?_ (HopAll.cons rfl ?_ (HopAll.cons rfl ?_ (HopAll.cons rfl ?_ HopAll.nil))))))))
              · intro a w1 hB ho hp K hK
                have e2 : a.eval (.tmp 2) = (.pointer (some ⟨w.heap.size, 0, none⟩)) := ho 2 (by kernel_rfl)
                obtain ⟨u1, u2, u3⟩ := H_f.out.below hB
                exact hop_load (wanted_none rfl) rfl e2 (run_ldf u1) (hK _ _ rfl (Below.refl _ _))
              · intro a w1 hB ho hp K hK
                have e1 : a.eval (.tmp 1) = (.slice (some ⟨gm, 0, none⟩) (M + 1) d) := ho 1 (by kernel_rfl)
                refine hop_val (wanted_none rfl) ?_ (hK (.slice (some ⟨gm, 0, none⟩) (M + 1) d) _ rfl (Below.refl _ _))
                unfold execOp; simp only [eval_const, e1]; simp [go_sem]
              · intro a w1 hB ho hp K hK
                have e2 : a.eval (.tmp 2) = (.pointer (some ⟨w.heap.size, 0, none⟩)) := ho 2 (by kernel_rfl)
                obtain ⟨u1, u2, u3⟩ := H_f.out.below hB
                exact hop_load (wanted_none rfl) rfl e2 (run_ldf u1) (hK _ _ rfl (Below.refl _ _))
              · intro a w1 hB ho hp K hK
                have e7 : a.eval (.tmp 7) = (.slice (some ⟨g3, 0, none⟩) n3 c3) := ho 7 (by kernel_rfl)
                refine hop_val (wanted_none rfl) ?_ (hK (.slice (some ⟨g3, 0, none⟩) n3 c3) _ rfl (Below.refl _ _))
                unfold execOp; simp only [eval_const, e7]; simp [go_sem]
              · intro a w1 hB ho hp K hK
                have e6 : a.eval (.tmp 6) = (.slice (some ⟨gX, 0, none⟩) 2 2) := ho 6 (by kernel_rfl)
                refine hop_val (wanted_none rfl) ?_ (hK (.slice (some ⟨gX, 0, none⟩) 2 2) _ rfl (Below.refl _ _))
                unfold execOp; simp only [eval_const, e6]; simp [go_sem]
              · intro a w1 hB ho hp K hK
                have e30 : a.eval (.tmp 30) = (.agg #[.int .u64 (ab : Int)]) := hp 2 30 (by kernel_rfl)
                have e31 : a.eval (.tmp 31) = (.slice (some ⟨g3, 0, none⟩) n3 c3) := hp 3 31 (by kernel_rfl)
                have e32 : a.eval (.tmp 32) = (.slice (some ⟨gX, 0, none⟩) 2 2) := hp 4 32 (by kernel_rfl)
                refine hop_call (wanted_none rfl) rfl (args := #[(.agg #[.int .u64 (ab : Int)]), (.slice (some ⟨g3, 0, none⟩) n3 c3), (.slice (some ⟨gX, 0, none⟩) 2 2)]) (by simp only [List.map_toArray, List.map_cons, List.map_nil, eval_const, e30, e31, e32]) (ent7 (by kernel_rfl) _ _) (psub_v HP.out h (r3.below hB) (by omega) (hX3.below hB) (by omega)) ?_
                rintro e w2 ⟨A, n, c, rfl, p, B⟩
                exact ⟨_, rfl, hK _ _ ⟨A, n, c, rfl, p⟩ B⟩
              · intro a w1 hB ho hp K hK
                have e28 : a.eval (.tmp 28) = (.agg #[.int .u64 (ab : Int)]) := hp 0 28 (by kernel_rfl)
                have e29 : a.eval (.tmp 29) = (.slice (some ⟨gm, 0, none⟩) (M + 1) d) := hp 1 29 (by kernel_rfl)
                obtain ⟨A_33, n_33, c_33, e33, p33⟩ : IsP (amul p (rz p ms r) [0, 1] (p - 1)) (a.eval (.tmp 33)) w1 := hp 5 33 (by kernel_rfl)
                refine hop_call (wanted_none rfl) rfl (args := #[(.agg #[.int .u64 (ab : Int)]), (.slice (some ⟨gm, 0, none⟩) (M + 1) d), (.slice A_33 n_33 c_33)]) (by simp only [List.map_toArray, List.map_cons, List.map_nil, eval_const, e28, e29, e33]) (ent7 (by kernel_rfl) _ _) (gcd9_v HP.out h hpr (hz3.below hB) (by omega) p33 (by rw [← p33.len]; omega)) ?_
                rintro e w2 ⟨A, n, c, rfl, p, B⟩
                exact ⟨_, rfl, hK _ _ ⟨A, n, c, rfl, p⟩ B⟩
              · intro a w1 hB ho hp K hK
                obtain ⟨A_34, n_34, c_34, e34, p34⟩ : IsP (gcP p ms (amul p (rz p ms r) [0, 1] (p - 1))) (a.eval (.tmp 34)) w1 := hp 6 34 (by kernel_rfl)
                refine hop_val (wanted_none rfl) ?_ (hK (.int .i64 (LG : Int)) _ rfl (Below.refl _ _))
                unfold execOp; simp only [eval_const, resolve, Option.map_some, Option.map_none, List.map_toArray, List.map_cons, List.map_nil, e34]; simp [go_sem, ← HLG.out, p34.len]
              · intro a w1 hB ho hp K hK
                have e35 : a.eval (.tmp 35) = (.int .i64 (LG : Int)) := hp 7 35 (by kernel_rfl)
                refine hop_val (wanted_none rfl) ?_ (hK (.bool false) _ rfl (Below.refl _ _))
                unfold execOp; simp only [eval_const, e35]; simp [go_sem, hd]
            intro w21 B21
            refine EndAll.one rfl fun vv hv => ?_
            obtain rfl : vv = (.agg #[.int .u64 (ab : Int)]) := hv
            refine EndAll.one rfl fun vv hv => ?_
            obtain rfl : vv = (.slice (some ⟨gm, 0, none⟩) (M + 1) d) := hv
            refine EndAll.one rfl fun vv hv => ?_
            obtain rfl : vv = (.agg #[.int .u64 (ab : Int)]) := hv
            refine EndAll.one rfl fun vv hv => ?_
            obtain rfl : vv = (.slice (some ⟨g3, 0, none⟩) n3 c3) := hv
            refine EndAll.one rfl fun vv hv => ?_
            obtain rfl : vv = (.slice (some ⟨gX, 0, none⟩) 2 2) := hv
            refine EndAll.one rfl fun vv hv => ?_
            obtain ⟨A22, n22, c22, rfl, p22⟩ : IsP (amul p (rz p ms r) [0, 1] (p - 1)) vv w21 := hv
            refine EndAll.one rfl fun vv hv => ?_
            obtain ⟨A23, n23, c23, rfl, p23⟩ : IsP (gcP p ms (amul p (rz p ms r) [0, 1] (p - 1))) vv w21 := hv
            refine EndAll.one rfl fun vv hv => ?_
            obtain rfl : vv = (.int .i64 (LG : Int)) := hv
            refine EndAll.one rfl fun vv hv => ?_
            obtain rfl : vv = (.bool false) := hv
            refine EndAll.nil (l := []) rfl ?_
            simp only [Act.put, List.setIfInBounds_toArray, List.set_cons_zero, List.set_cons_succ]
            replace H_f := Lib.hid (H_f.out.below B21)
            replace r3 := r3.below B21
            replace F3 := F3.below B21
            replace I3 := I3.below B21
            replace hz3 := hz3.below B21
            replace hX3 := hX3.below B21
            replace hW := hW.trans (B21.mono hW.size)
            clear p22 p23
            have hKn : Kp gS W2 w21 := HK.out.trans (HK3.out.trans (Kp.of B21 (Nat.le_of_lt hgs3)))
            have HN : Hid (∃ r kk S, Lv w21 (some ⟨g3, 0, none⟩) n3 c3 r ∧ Rs p ms (i + 1) r ∧ r.length ≤ 1000 ∧ Fr w21 gS ab (some ⟨gm, 0, none⟩) (M + 1) d S ∧ Ims w21 gS p ms (fun _ => True) kk S ∧ kk ≤ 1001 ∧ Kp gS W2 w21 ∧ ∀ j, 1 ≤ j → j ≤ i + 1 → ¬ HasDv p ms j) := Lib.hid ⟨_, k3, S3, r3, HRN.out, by omega, F3, I3, hk3, hKn, fun j h1 h2 hdv => by
              rcases Nat.lt_or_ge i j with h3 | h3
              · obtain rfl : j = i + 1 := by omega
                exact h9 (HFK.out.2 hdv)
              · exact HNO.out j h1 h3 hdv⟩
            clear hKn r3 F3 I3
            go_wp2_with fail
            go_roundw
            case rel => exact ⟨i + 1, by go_num, by omega, _, _, _, rfl, HN.out⟩
            case measure => simp [intOf]; omega
        · obtain rfl : i = Q := by omega
          have hbe : b = true := HB.out.2 ⟨by omega, fun k h1 h2 => HNO.out k h1 (by omega)⟩
          subst hbe
          have hlti : ¬ (i : Int) < (i : Int) := by omega
          clear hz hX hr hF hI HB
          go_wp2_with fail
          exact bodyPost_ret (v := .bool true) (by simp [results, Tryd.results38, go_sem]) rfl ⟨rfl, hWr⟩
end Go.Proofs.YthigedcpiglmnaaDoor
