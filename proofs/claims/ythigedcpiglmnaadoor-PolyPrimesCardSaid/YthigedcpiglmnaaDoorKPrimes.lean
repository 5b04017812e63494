/-
  The walk of PolyPrimes.
-/
import Derived.Test.YthigedcpiglmnaaDoorFpT
import Derived.Test.YthigedcpiglmnaaDoorFpY
import Derived.Test.YthigedcpiglmnaaDoorFpZ
/-! The walk of PolyPrimes. -/
namespace Go.Proofs.YthigedcpiglmnaaDoor
open Go.RowKit
set_option linter.unusedVariables false
set_option linter.unusedSimpArgs false

theorem pn_few {r : Nat} (h : r < 3) : Few (pn (r % 12)) := by
  have : r = 0 ∨ r = 1 ∨ r = 2 := by omega
  rcases this with rfl | rfl | rfl
  · exact .inl rfl
  · exact .inr (.inl rfl)
  · exact .inr (.inr rfl)
theorem pre_inj9 {p : Nat} (hp : 0 < p) {a b : List Nat} (ha : Low p a) (hb : Low p b) : ∀ k, pre p a k = pre p b k → ∀ j, j < k → nth a j = nth b j
  | 0, _, j, h => by omega
  | k + 1, h, j, hj => by
    rw [pre_succ, pre_succ] at h
    have h1 := pre_lt ha hp k
    have h2 := pre_lt hb hp k
    have e : nth a k = nth b k := by
      have e1 : (pre p a k + p ^ k * nth a k) / p ^ k = nth a k := by rw [Nat.add_mul_div_left _ _ (Nat.pow_pos hp), Nat.div_eq_of_lt h1]; simp
      have e2 : (pre p b k + p ^ k * nth b k) / p ^ k = nth b k := by rw [Nat.add_mul_div_left _ _ (Nat.pow_pos hp), Nat.div_eq_of_lt h2]; simp
      rw [← e1, ← e2, h]
    rw [e] at h
    rcases Nat.lt_or_ge j k with h3 | h3
    · exact pre_inj9 hp ha hb k (by omega) j h3
    · obtain rfl : j = k := by omega
      exact e
/-- One of those that are counted below v divides. -/
def Vis (p : Nat) (ms : List Nat) (k v : Nat) : Prop := ∃ c : List Nat, c.length = k + 1 ∧ Low p c ∧ nth c k = 1 ∧ pre p c k < v ∧ Pdv p (pe c) (pe ms)
theorem vis_zero {p k : Nat} {ms : List Nat} : ¬ Vis p ms k 0 := fun ⟨c, _, _, _, h, _⟩ => by omega
theorem vis_succ {p k v : Nat} (hp : 0 < p) {ms b : List Nat} (hl : b.length = k + 1) (hb : Low p b) (ht : nth b k = 1) (hv : pre p b k = v) : Vis p ms k (v + 1) ↔ Vis p ms k v ∨ Pdv p (pe b) (pe ms) := by
  constructor
  · rintro ⟨c, c1, c2, c3, c4, c5⟩
    rcases Nat.lt_or_ge (pre p c k) v with h | h
    · exact .inl ⟨c, c1, c2, c3, h, c5⟩
    · have e : c = b := ext_nth (by omega) fun j hj => by
        rcases Nat.lt_or_ge j k with h3 | h3
        · exact pre_inj9 hp c2 hb k (by omega) j h3
        · obtain rfl : j = k := by omega
          rw [c3, ht]
      exact .inr (e ▸ c5)
  · rintro (⟨c, c1, c2, c3, c4, c5⟩ | h)
    · exact ⟨c, c1, c2, c3, by omega, c5⟩
    · exact ⟨b, hl, hb, ht, by omega, h⟩
theorem vis_all {p k : Nat} (hp : 0 < p) {ms : List Nat} : Vis p ms k (p ^ k) ↔ HasDv p ms k :=
  ⟨fun ⟨c, c1, c2, c3, _, c5⟩ => ⟨c, c1, c2, c3, c5⟩, fun ⟨c, c1, c2, c3, c5⟩ => ⟨c, c1, c2, c3, pre_lt c2 hp k, c5⟩⟩
theorem Vis.dv {p k v : Nat} {ms : List Nat} (h : Vis p ms k v) : HasDv p ms k := let ⟨c, c1, c2, c3, _, c5⟩ := h; ⟨c, c1, c2, c3, c5⟩
/-- What has been found ahead of k. -/
def Fnd (p : Nat) (ms : List Nat) (k : Nat) (F : Bool) : Prop := F = true ↔ ∃ j, 1 ≤ j ∧ j < k ∧ HasDv p ms j
theorem fnd_next {p k : Nat} {ms : List Nat} {F0 F : Bool} (h0 : Fnd p ms k F0) (hk : 1 ≤ k) (h : F = true ↔ F0 = true ∨ HasDv p ms k) : Fnd p ms (k + 1) F := by
  unfold Fnd at *
  rw [h, h0]
  constructor
  · rintro (⟨j, h1, h2, h3⟩ | h3)
    · exact ⟨j, h1, by omega, h3⟩
    · exact ⟨k, hk, by omega, h3⟩
  · rintro ⟨j, h1, h2, h3⟩
    rcases Nat.lt_or_ge j k with h4 | h4
    · exact .inl ⟨j, h1, h4, h3⟩
    · obtain rfl : j = k := by omega
      exact .inr h3
/-- The counting under way: t: there is one more, b, which has the number v; gh rounds are to come. -/
def Cnt (p : Nat) (ms : List Nat) (k gh : Nat) (F0 F t : Bool) (b : List Nat) : Prop :=
  ∃ v, (t = true → b.length = k + 1 ∧ Low p b ∧ nth b k = 1 ∧ pre p b k = v ∧ v < p ^ k ∧ gh = p ^ k - v) ∧ (t = false → v = p ^ k ∧ gh = 0) ∧ (F = true ↔ F0 = true ∨ Vis p ms k v)
theorem cnt_start {p k : Nat} (hp : 2 ≤ p) {ms : List Nat} {F0 : Bool} {b : List Nat} (hl : b.length = k + 1) (h0 : ∀ j, j < k → nth b j = 0) (h1 : nth b k = 1) : Cnt p ms k (p ^ k) F0 F0 true b :=
  ⟨0, fun _ => ⟨hl, fun j hj => by
    rcases Nat.lt_or_ge j k with h3 | h3
    · rw [h0 j h3]; omega
    · obtain rfl : j = k := by omega
      rw [h1]; omega, h1, pre_zeros9 k h0, Nat.pow_pos (by omega), by omega⟩, (fun e => nomatch e), ⟨.inl, fun h => h.resolve_right vis_zero⟩⟩
theorem cnt_end {p k gh : Nat} (hp : 0 < p) (hk : 1 ≤ k) {ms : List Nat} {F0 F t : Bool} {b : List Nat} (h0 : Fnd p ms k F0) (h : Cnt p ms k gh F0 F t b) (he : t = false ∨ F = true) : Fnd p ms (k + 1) F := by
  obtain ⟨v, h1, h2, h3⟩ := h
  refine fnd_next h0 hk ?_
  rw [h3]
  constructor
  · exact fun x => x.imp id Vis.dv
  · intro x
    rcases he with rfl | e
    · rw [(h2 rfl).1, vis_all hp]; exact x
    · exact h3.1 e
theorem cnt_step {p k gh : Nat} (hp : 0 < p) {ms : List Nat} {F0 F1 t1 : Bool} {b b1 : List Nat} (h : Cnt p ms k gh F0 false true b) (hF : F1 = true ↔ Pdv p (pe b) (pe ms)) (hn : NxR p k b b1 t1) : ∃ g1, g1 < gh ∧ Cnt p ms k g1 F0 F1 t1 b1 := by
  obtain ⟨v, h1, h2, h3⟩ := h
  obtain ⟨a1, a2, a3, a4, a5, a6⟩ := h1 rfl
  have hno : ¬ (F0 = true ∨ Vis p ms k v) := fun x => by cases h3.2 x
  have hF1 : F1 = true ↔ F0 = true ∨ Vis p ms k (v + 1) := by
    rw [hF, vis_succ hp a1 a2 a3 a4]
    constructor
    · exact fun x => .inr (.inr x)
    · rintro (x | x | x)
      · exact absurd (.inl x) hno
      · exact absurd (.inr x) hno
      · exact x
  cases t1 with
  | true =>
    obtain ⟨c1, c2, c3, c4⟩ := hn.1 rfl
    refine ⟨p ^ k - (v + 1), by omega, v + 1, fun _ => ⟨c1, c2, c3, by rw [c4, a4], ?_, rfl⟩, (fun e => nomatch e), hF1⟩
    rw [← a4, ← c4]; exact pre_lt c2 hp k
  | false =>
    have := hn.2 rfl
    exact ⟨0, by omega, v + 1, (fun e => nomatch e), fun _ => ⟨by omega, rfl⟩, hF1⟩
set_option maxRecDepth 100000 in
set_option maxHeartbeats 1000000 in
/-- PolyPrimes. -/
theorem primes9_calls {n k1 c1 : Nat} {A1 : Option Addr} {xs : List Nat} {w : World} (hn : n < 256) (hx : Lv w A1 k1 c1 xs) (hT : TabHas w) :
    Calls Tryd.prog 8 #[.int .u8 (n : Int), .slice A1 k1 c1] w (BlPost true w) := by
  obtain ⟨r, hr⟩ : ∃ r, n % 3 = r := ⟨_, rfl⟩
  have hr3 : r < 3 := by omega
  have hri : (n : Int) % 3 = (r : Int) := by omega
  have hrt : (n : Int).tmod 3 = (r : Int) := by rw [Int.tmod_eq_emod_of_nonneg (by omega)]; exact hri
  obtain ⟨p, hp0⟩ : ∃ p, pn (r % 12) = p := ⟨_, rfl⟩
  have hp := pn_pr (r % 12) (by omega)
  have hfw := pn_few hr3
  rw [hp0] at hp hfw
  obtain ⟨ab, hab⟩ : ∃ ab, ab + 2 = p := ⟨p - 2, by have := hp.2.2; omega⟩
  have hpr := hp.1
  have h := hp.2.1
  have h2 : 2 ≤ p := hp.2.2
  have HP := Lib.hid hab
  have HP0 := Lib.hid hp0
  clear hab hp hp0 hr
  have hW := Below.refl w.heap.size w
  go_enter Tryd.func8, Tryd.ntmps8
  go_wp2_with fail
  refine (awake9_v hT).mono ?_
  rintro e w21 ⟨rfl, B21⟩
  replace hx := hx.below B21
  replace hT := hT.below B21
  replace hW := hW.trans (B21.mono hW.size)
  clear B21
  by_cases hf : 6 < k1
  · have hfi : (6 : Int) < (k1 : Int) := by omega
    go_wp2_with fail
    refine (awake9_v hT).mono ?_
    rintro e w22 ⟨rfl, B22⟩
    replace hx := hx.below B22
    replace hT := hT.below B22
    replace hW := hW.trans (B22.mono hW.size)
    clear B22
    go_wp2_with fail
    exact bodyPost_ret (v := (.bool true)) (by simp [results, Tryd.results8, go_sem]) rfl ⟨rfl, hW⟩
  · have hfi : ¬ (6 : Int) < (k1 : Int) := by omega
    have lx := hx.len
    go_wp2_with fail
    refine (fof9_v (ab := ab) (n := r) (by omega) hT HP0.out HP.out).mono ?_
    rintro e w22 ⟨rfl, B22⟩
    replace hx := hx.below B22
    replace hT := hT.below B22
    replace hW := hW.trans (B22.mono hW.size)
    clear B22
    go_wp2_with fail
    refine (rp_calls (p := p) (n := r) (by omega) HP0.out _).mono ?_
    rintro e w23 ⟨rfl, B23⟩
    replace hx := hx.below B23
    replace hT := hT.below B23
    replace hW := hW.trans (B23.mono hW.size)
    clear B23
    obtain ⟨w24, hw24⟩ : ∃ xw, xw = w23.alloc (.cells #[.int .u64 (ab : Int)] 28) := ⟨_, rfl⟩
    have z24 : Below w23.heap.size w23 w24 := by rw [hw24]; exact zba _ _
    have HW24 : Hid (w23.alloc (.cells #[.int .u64 (ab : Int)] 28) = w24) := Lib.hid hw24.symm
    have lw_f : w.heap.size ≤ w23.heap.size := by have := hW.size; omega
    replace hx := hx.below z24
    replace hT := hT.below z24
    replace hW := hW.trans (z24.mono hW.size)
    have H_f : Hid (Fb w24 w23.heap.size ab) := Lib.hid (by rw [hw24]; exact Fb.new _ _ _)
    clear z24 hw24
    obtain ⟨D, hD⟩ : ∃ D, (nrm p xs).length = D := ⟨_, rfl⟩
    have hD6 : D ≤ 6 := by have := nrm_le p xs; omega
    have HD := Lib.hid hD
    go_wp2_with fail
    rw [HW24.out]
    refine (deg_v HP.out h hx).mono ?_
    rintro e w25 ⟨rfl, B25⟩
    replace H_f := Lib.hid (H_f.out.below B25)
    replace hx := hx.below B25
    replace hT := hT.below B25
    replace hW := hW.trans (B25.mono hW.size)
    clear B25
    rw [HD.out]
    clear hD
    have HB0 : Hid (Fnd p (nrm p xs) 1 false ∧ Fb w25 w23.heap.size ab ∧ Lv w25 A1 k1 c1 xs ∧ Below w.heap.size w w25) := Lib.hid ⟨⟨fun e => (nomatch e), fun ⟨j, h1, h2, _⟩ => by omega⟩, H_f.out, hx, hW⟩
    clear H_f hx hT hW
    go_wp2_with fail
    go_loopw [8, 9] (fun s8 s9 wr => ∃ (k : Nat) (F : Bool), s8 = .bool F ∧ s9 = .int .i64 (k : Int) ∧ 1 ≤ k ∧ k ≤ 3 ∧ (k = 1 ∨ 2 * k ≤ D + 1) ∧ Hid (Fnd p (nrm p xs) k F ∧ Fb wr w23.heap.size ab ∧ Lv wr A1 k1 c1 xs ∧ Below w.heap.size w wr)) (fun _ s9 _ => 10 - (intOf s9).toNat)
    case atStart => exact ⟨1, false, rfl, rfl, Nat.le_refl _, by omega, .inl rfl, HB0⟩
    case round =>
      clear HB0
      obtain ⟨k, F0, rfl, rfl, hk1, hk3, hkD, HB⟩ := hrel
      obtain ⟨hfd, I1, hx, hW⟩ := HB.out
      have H_f := Lib.hid I1
      have HFD := Lib.hid hfd
      clear HB hfd I1
      have hw2k : IntKind.i64.wrap (2 * (k : Int)) = 2 * (k : Int) := by rw [IntKind.wrap_i64]; omega
      obtain ⟨K1, hK1⟩ : ∃ q, k + 1 = q := ⟨_, rfl⟩
      have hwk1 : IntKind.i64.wrap ((k : Int) + 1) = (K1 : Int) := by rw [IntKind.wrap_i64]; omega
      by_cases hkd : 2 * k + 1 ≤ D
      · have hkd2 : 2 * (k : Int) ≤ (D : Int) - 1 := by omega
        obtain ⟨f1, f2, f3⟩ := H_f.out
        go_wp2_with (at_make; refine wpList_make_blk _ rfl _ _ 22 rfl 26 .u64 8 Tryd.underlying22 info_u64 _ _ _ _ K1 rfl rfl (by omega) (by omega) (by omega) (by omega) ?_)
        intro w3 hb3 hw3 hz3
        clear f1 f2 f3
        obtain ⟨gB, hgB⟩ : ∃ q, wr.heap.size = q := ⟨_, rfl⟩
        rw [hgB] at hb3
        have hgw : w.heap.size ≤ gB := by have := hW.size; omega
        have hwB := Wr.of_blk hb3
        have hrl : (List.replicate K1 0).length = K1 := by simp
        have cB := hwB.cell (j := k) (by rw [hrl]; omega)
        have fB := hwB.free k
        have lB := hwB.lt
        have n0 : nth (List.replicate K1 0) k = 0 := nth_replicate _ _
        rw [n0] at cB
        have hki : (k : Int) < (K1 : Int) := by omega
        have hsB : Wr (w3.setCell ⟨gB, k, none⟩ (.int .u64 1)) gB ((List.replicate K1 0).set k 1) := hwB.set k 1
        have hl2 : ((List.replicate K1 0).set k 1).length = k + 1 := by rw [List.length_set, hrl]; omega
        have h0s : ∀ j, j < k → nth ((List.replicate K1 0).set k 1) j = 0 := fun j hj => by rw [nth_set_ne (by omega), nth_replicate]
        have h1s : nth ((List.replicate K1 0).set k 1) k = 1 := nth_set_eq (by rw [hrl]; omega)
        have hcs := cnt_start (ms := (nrm p xs)) (F0 := F0) h2 hl2 h0s h1s
        have hBz : Below wr.heap.size wr (w3.setCell ⟨gB, k, none⟩ (.int .u64 1)) := hw3.setCell (p := ⟨gB, k, none⟩) (by show wr.heap.size ≤ gB; omega) _
        have hlB : Lv (w3.setCell ⟨gB, k, none⟩ (.int .u64 1)) (some ⟨gB, 0, none⟩) K1 K1 ((List.replicate K1 0).set k 1) := by
          have := Lv.wr hsB (c := K1) (by omega) (by omega) (Low.of_any fun j => by
            rcases Nat.lt_trichotomy j k with h5 | h5 | h5
            · rw [h0s j h5]; omega
            · rw [h5, h1s]; omega
            · rw [nth_ge (by omega)]; omega)
          rwa [hl2, hK1] at this
        have HB4 : Hid (Cnt p (nrm p xs) k (p ^ k) F0 F0 true ((List.replicate K1 0).set k 1) ∧ Lv (w3.setCell ⟨gB, k, none⟩ (.int .u64 1)) (some ⟨gB, 0, none⟩) K1 K1 ((List.replicate K1 0).set k 1) ∧ Fb (w3.setCell ⟨gB, k, none⟩ (.int .u64 1)) w23.heap.size ab ∧ Lv (w3.setCell ⟨gB, k, none⟩ (.int .u64 1)) A1 k1 c1 xs ∧ Below w.heap.size w (w3.setCell ⟨gB, k, none⟩ (.int .u64 1))) := Lib.hid ⟨hcs, hlB, H_f.out.below hBz, hx.below hBz, hW.trans (hBz.mono hW.size)⟩
        rw [hgB]
        clear hb3 hw3 hz3 hgB hwB n0 hsB hl2 h0s h1s hcs hBz hlB hx hW H_f hrl
        go_wp2_with fail
        go_loopg [8, 10, 11] (p ^ k) (fun gh s8 s10 s11 wx => ∃ F t A n c bl, s8 = .bool F ∧ s10 = .slice A n c ∧ s11 = .bool t ∧ Hid (Cnt p (nrm p xs) k gh F0 F t bl ∧ Lv wx A n c bl ∧ Fb wx w23.heap.size ab ∧ Lv wx A1 k1 c1 xs ∧ Below w.heap.size w wx))
        case atStart => exact ⟨F0, true, _, _, _, _, rfl, rfl, rfl, HB4⟩
        case round =>
          clear HB4 cB fB lB
          obtain ⟨F, t, A5, n5, c5, bl, rfl, rfl, rfl, HB5⟩ := hrel
          obtain ⟨hcn, hbl, I1, hx, hW⟩ := HB5.out
          have H_f := Lib.hid I1
          have HCN := Lib.hid hcn
          clear HB5 hcn I1
          by_cases hex : t = false ∨ F = true
          · have HNX : Hid (Fnd p (nrm p xs) (k + 1) F ∧ Fb wr w23.heap.size ab ∧ Lv wr A1 k1 c1 xs ∧ Below w.heap.size w wr) := Lib.hid ⟨cnt_end (by omega) hk1 HFD.out HCN.out hex, H_f.out, hx, hW⟩
            have hk3' : k + 1 ≤ 3 := by omega
            have hkD' : k + 1 = 1 ∨ 2 * (k + 1) ≤ D + 1 := by omega
            clear hbl hx hW H_f HCN HFD
            have hq : t = false ∨ (t = true ∧ F = true) := by
              rcases hex with e | e
              · exact .inl e
              · cases t
                · exact .inl rfl
                · exact .inr ⟨rfl, e⟩
            clear hex
            rcases hq with rfl | ⟨rfl, rfl⟩
            · go_wp2_with fail
              go_roundw
              case rel => exact ⟨k + 1, F, rfl, by go_num, by omega, hk3', hkD', HNX.out⟩
              case measure => simp [intOf]; omega
            · go_wp2_with fail
              go_roundw
              case rel => exact ⟨k + 1, true, rfl, by go_num, by omega, hk3', hkD', HNX.out⟩
              case measure => simp [intOf]; omega
          · obtain rfl : t = true := by
              cases t
              · exact absurd (.inl rfl) hex
              · rfl
            obtain rfl : F = false := by
              cases F
              · rfl
              · exact absurd (.inr rfl) hex
            obtain ⟨v, hv1, hv2, hv3⟩ := HCN.out
            obtain ⟨a1, a2, a3, a4, a5, a6⟩ := hv1 rfl
            have hnb := nm_top a1 a2 a3
            have hb0 : bl ≠ [] := fun e => by rw [e] at a1; simp at a1
            have hnn : nrm p bl = bl := nrm_of (by omega) hnb
            obtain ⟨F1, hF1⟩ : ∃ F1 : Bool, (F1 = true ↔ Pdv p (pe bl) (pe (nrm p xs))) := by
              classical
              exact ⟨decide _, decide_eq_true_iff⟩
            have hdv : F1 = true ↔ (nrm p bl ≠ [] ∧ remP p (nrm p xs) (nrm p bl) = []) ∨ (nrm p bl = [] ∧ (nrm p xs) = []) := by
              rw [hF1, hnn, rem_nil_iff hpr hnb hb0]
              exact ⟨fun x => .inl ⟨hb0, x⟩, fun x => x.elim (·.2) (fun y => absurd y.1 hb0)⟩
            have HDV := Lib.hid hdv
            have HF1 := Lib.hid hF1
            have HA2 := Lib.hid a2
            obtain rfl : n5 = k + 1 := by rw [← hbl.len]; exact a1
            clear hv1 hv2 hv3 a2 a4 a5 a6 hnb hb0 hnn hF1 hdv hex hK1 hwk1 hki
            obtain ⟨f1, f2, f3⟩ := H_f.out
            go_wp2_with fail
            clear f1 f2 f3
            refine (divides_v HP.out h hpr hbl (by omega) hx (by omega) HDV.out).mono ?_
            rintro e w6 ⟨rfl, B6⟩
            replace H_f := Lib.hid (H_f.out.below B6)
            replace hbl := hbl.below B6
            replace hx := hx.below B6
            replace hW := hW.trans (B6.mono hW.size)
            clear B6
            go_wp2_with fail
            refine (next_v h2 h hbl (by omega) HA2.out a3).mono ?_
            rintro e w7 ⟨A7, n7, c7, t1, b1, rfl, ⟨r7, hnx⟩, B7⟩
            obtain ⟨g1, hg1, hc1⟩ := cnt_step (by omega) HCN.out HF1.out hnx
            have HN : Hid (Cnt p (nrm p xs) k g1 F0 F1 t1 b1 ∧ Lv w7 A7 n7 c7 b1 ∧ Fb w7 w23.heap.size ab ∧ Lv w7 A1 k1 c1 xs ∧ Below w.heap.size w w7) := Lib.hid ⟨hc1, r7, H_f.out.below B7, hx.below B7, hW.trans (B7.mono hW.size)⟩
            clear hc1 r7 hnx B7 hx hW H_f hbl HCN
            go_wp2_with fail
            go_roundg g1
            case rel => exact ⟨F1, t1, _, _, _, b1, rfl, rfl, rfl, HN.out⟩
            case measure => exact hg1
      · have hkd2 : ¬ 2 * (k : Int) ≤ (D : Int) - 1 := by omega
        clear hK1 hwk1 K1
        rcases Nat.lt_or_ge D 2 with hD2 | hD2
        · have hb9 : false = true ↔ 2 ≤ (nrm p xs).length ∧ ∀ j, 1 ≤ j → 2 * j + 1 ≤ (nrm p xs).length → ¬ HasDv p (nrm p xs) j := ⟨fun e => (nomatch e), fun x => by have := x.1; rw [HD.out] at this; omega⟩
          have H9 := Lib.hid hb9
          have hd1 : ¬ (1 : Int) ≤ (D : Int) - 1 := by omega
          clear hb9
          obtain ⟨f1, f2, f3⟩ := H_f.out
          go_wp2_with fail
          clear f1 f2 f3
          refine (irr_v HP.out h hpr hfw hx (by omega) H9.out).mono ?_
          rintro e w9 ⟨rfl, B9⟩
          replace hW := hW.trans (B9.mono hW.size)
          clear B9 hx
          go_wp2_with fail
          exact bodyPost_ret (v := .bool true) (by simp [results, Tryd.results8, go_sem]) rfl ⟨rfl, hW⟩
        · have hd1 : (1 : Int) ≤ (D : Int) - 1 := by omega
          have hb9 : (!F0) = true ↔ 2 ≤ (nrm p xs).length ∧ ∀ j, 1 ≤ j → 2 * j + 1 ≤ (nrm p xs).length → ¬ HasDv p (nrm p xs) j := by
            have hfd : F0 = true ↔ ∃ j, 1 ≤ j ∧ j < k ∧ HasDv p (nrm p xs) j := HFD.out
            rw [HD.out]
            cases F0 with
            | true =>
              obtain ⟨j, j1, j2, j3⟩ := hfd.1 rfl
              exact ⟨fun e => (nomatch e), fun x => by
                rcases Nat.lt_or_ge D (2 * j + 1) with h5 | h5
                · omega
                · exact absurd j3 (x.2 j j1 h5)⟩
            | false => exact ⟨fun _ => ⟨hD2, fun j j1 j2 j3 => (nomatch hfd.2 ⟨j, j1, by omega, j3⟩)⟩, fun _ => rfl⟩
          have H9 := Lib.hid hb9
          clear hb9
          obtain ⟨f1, f2, f3⟩ := H_f.out
          go_wp2_with fail
          clear f1 f2 f3
          refine (irr_v HP.out h hpr hfw hx (by omega) H9.out).mono ?_
          rintro e w9 ⟨rfl, B9⟩
          replace hW := hW.trans (B9.mono hW.size)
          clear B9 hx H9 HFD
          cases F0
          · skip
            go_wp2_with fail
            exact bodyPost_ret (v := .bool true) (by simp [results, Tryd.results8, go_sem]) rfl ⟨rfl, hW⟩
          · skip
            go_wp2_with fail
            exact bodyPost_ret (v := .bool true) (by simp [results, Tryd.results8, go_sem]) rfl ⟨rfl, hW⟩
end Go.Proofs.YthigedcpiglmnaaDoor
