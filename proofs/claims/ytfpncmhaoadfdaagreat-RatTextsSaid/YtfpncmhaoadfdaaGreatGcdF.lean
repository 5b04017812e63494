/-
  Package div: Gcd, Lcm.
-/
import Derived.Test.YtfpncmhaoadfdaaGreatGcdE
/-! Contracts: div.Gcd, Lcm. -/
namespace Go.Proofs.YtfpncmhaoadfdaaGreat
open Go.RowKit
set_option linter.unusedVariables false

theorem gword_v {A : Option Addr} {n c x : Nat} {w : World} (hx : Nv w A n c x) :
    Calls Tryz.prog 52 #[.slice A n c] w (WordPost x w) := by
  obtain ⟨xs, h1, h2, h3, h4, h5, rfl⟩ := hx
  exact word_calls A n c xs w h1 h2 h3 h4 h5
theorem norm_nb {A : Option Addr} {n c x : Nat} {w : World} (hx : Nv w A n c x) (hn : n ≤ 1099511627776) :
    Calls Tryz.prog 55 #[.slice A n c] w (NbPost x w) := by
  obtain ⟨xs, h1, h2, h3, h4, h5, rfl⟩ := hx
  exact norm_blk A n c xs w h1 h2 h3 h4 h5 hn
theorem norm_nat {A : Option Addr} {n c x : Nat} {w : World} (hx : Nv w A n c x) (hn : n ≤ 1099511627776) :
    Calls Tryz.prog 55 #[.slice A n c] w (NatPost x w) := by
  obtain ⟨xs, h1, h2, h3, h4, h5, rfl⟩ := hx
  exact norm_calls A n c xs w h1 h2 h3 h4 h5 hn
theorem NatPost.up {v : Nat} {w w1 w' : World} {e : Ending} (h : NatPost v w1 e w') (hb : Below w.heap.size w w1) : NatPost v w e w' := by
  obtain ⟨A, c, he, hg⟩ := h
  exact ⟨A, c, he, hg.up hb⟩
theorem of_nat (x : Nat) (hx : x < 18446744073709551616) (w : World) : Calls Tryz.prog 30 #[.int .u64 x] w (NatPost x w) := of_calls x hx w
theorem gcd_le_left' (x y : Nat) (hx : 0 < x) : Nat.gcd x y ≤ x := Nat.le_of_dvd hx (Nat.gcd_dvd_left x y)
theorem gcd_word {x y : Nat} (hx : x < 18446744073709551616) (hy : y < 18446744073709551616) : Nat.gcd x y < 18446744073709551616 := by
  rcases Nat.eq_zero_or_pos x with h | h
  · rw [h, Nat.gcd_zero_left]; exact hy
  · exact Nat.lt_of_le_of_lt (gcd_le_left' x y h) hx
/-- The greatest number left, in its own block: normal, and the call's own. -/
theorem more_end {w w' : World} {ga n ca v : Nat} {La : List Nat} (W : Wb w' ga 55 La) (hl : La.length = ca) (hn : n ≤ ca) (hm : ca ≤ 137438953472) (ht : n = 0 ∨ nth La (n - 1) ≠ 0) (hg : w.heap.size ≤ ga) (hB : Below w.heap.size w w') (hv : ev 18446744073709551616 (La.take n) = v) :
    NatPost v w (.returned (.slice (some ⟨ga, 0, none⟩) n ca)) w' := by
  have hlen : (La.take n).length = n := by simp; omega
  have hs : sl (La.take n) = n := by
    refine sl_eq (fun j hj => nth_ge (by omega)) ?_
    rcases ht with h | h
    · exact .inl h
    · rcases Nat.eq_zero_or_pos n with h0 | h0
      · exact .inl h0
      · rw [nth_take (by omega)]; exact .inr h
  have e := cn_ev 18446744073709551616 (by omega) (La.take n) (W.2.take n)
  rw [hs, List.take_take, Nat.min_self, hv] at e
  have ho := W.1.owns (base := w.heap.size) (n := n) hg (by omega) (by rw [hl]; unfold maxLen; omega)
  rw [hl] at ho
  refine ⟨_, ca, by rw [e, hlen], ?_, hB⟩
  rw [e, hlen]
  exact ho

/-- nat.Word, whatever it answers. -/
theorem gword_any {A : Option Addr} {n c x : Nat} {w : World} (hx : Nv w A n c x) :
    Calls Tryz.prog 52 #[.slice A n c] w fun e w' => ∃ (v : Nat) (b : Bool), e = .returned (.tuple #[.int .u64 (v : Int), .bool b]) ∧ (b = true → x < 18446744073709551616) ∧ w = w' := by
  refine (gword_v hx).mono ?_
  rintro e w' ⟨⟨h, rfl⟩ | ⟨h, rfl⟩, rfl⟩
  · exact ⟨x, true, rfl, fun _ => h, rfl⟩
  · exact ⟨0, false, rfl, (fun h => by cases h), rfl⟩
/-- Behind the shortening: the greater number, in a block of the call's own, and a word at most. -/
def GcCut (w : World) (G : Nat) (s9 s11 : Value) (wx : World) : Prop :=
  ∃ (n ga ca y k : Nat) (La : List Nat) (B : Option Addr) (cb : Nat), s11 = .slice (some ⟨ga, 0, none⟩) n ca ∧ s9 = .slice B k cb ∧ w.heap.size ≤ ga ∧ La.length = ca ∧ n ≤ ca ∧ ca ≤ 137438953472 ∧ Wb wx ga 55 La ∧ (n = 0 ∨ nth La (n - 1) ≠ 0) ∧
    k ≤ 1 ∧ (k = 0 ∨ 0 < y) ∧ Nv wx B k cb y ∧ Hid (Nat.gcd (ev 18446744073709551616 (La.take n)) y = G) ∧ Below w.heap.size w wx
theorem top_cn (v : Nat) : (cn 18446744073709551616 v).length = 0 ∨ nth (cn 18446744073709551616 v) ((cn 18446744073709551616 v).length - 1) ≠ 0 := by
  rcases Nat.eq_zero_or_pos (cn 18446744073709551616 v).length with h | h
  · exact .inl h
  · have := sl_top (xs := cn 18446744073709551616 v) (by rw [sl_cn _ _ (by omega)]; exact h)
    rw [sl_cn _ _ (by omega)] at this
    exact .inr this

set_option maxRecDepth 100000 in
set_option maxHeartbeats 2000000 in
theorem gcd_calls {A B : Option Addr} {n m c d x y : Nat} {w : World} (hx : Nv w A n c x) (hy : Nv w B m d y) (hn : n ≤ 137438953472) (hm : m ≤ 137438953472) :
    Calls Tryz.prog 37 #[.slice A n c, .slice B m d] w (NatPost (Nat.gcd x y) w) := by
  obtain ⟨G, hG⟩ : ∃ G, Nat.gcd x y = G := ⟨_, rfl⟩
  rw [hG]
  have HG := Lib.hid hG
  clear hG
  by_cases hw : x < 18446744073709551616 ∧ y < 18446744073709551616
  · obtain ⟨h1, h2⟩ := hw
    go_enter Tryz.func37, Tryz.ntmps37
    go_wp2_with fail
    refine (gword_v hx).mono ?_
    rintro e w' ⟨⟨_, rfl⟩ | ⟨h, rfl⟩, rfl⟩
    · go_wp2_with fail
      refine (gword_v hy).mono ?_
      rintro e w' ⟨⟨_, rfl⟩ | ⟨h, rfl⟩, rfl⟩
      · go_wp2_with fail
        refine (gw_calls x y h1 h2 _).mono ?_
        rw [HG.out]
        rintro e w1 ⟨rfl, S1⟩
        have hgB : G < 18446744073709551616 := by rw [← HG.out]; exact gcd_word h1 h2
        go_wp2_with fail
        refine (of_nat G hgB _).mono ?_
        intro e w2 h
        have P := h.up (S1.below w.heap.size)
        obtain ⟨A2, c2, rfl, g2⟩ := P
        have HP := Lib.hid g2
        clear h g2
        go_wp2_with fail
        go_ret
        exact ⟨_, _, rfl, HP.out⟩
      · exfalso; omega
    · exfalso; omega
  · have HW := Lib.hid hw
    clear hw
    go_enter Tryz.func37, Tryz.ntmps37
    go_wp2_with fail
    refine (gword_any hx).mono ?_
    rintro e w' ⟨v1, b1, rfl, hb1, rfl⟩
    go_wp2_with fail
    refine (gword_any hy).mono ?_
    rintro e w' ⟨v2, b2, rfl, hb2, rfl⟩
    have hbb : b1 = false ∨ b1 = true ∧ b2 = false := by
      cases b1
      · exact .inl rfl
      · cases b2
        · exact .inr ⟨rfl, rfl⟩
        · exact absurd ⟨hb1 rfl, hb2 rfl⟩ HW.out
    clear hb1 hb2
    rcases hbb with rfl | ⟨rfl, rfl⟩
    all_goals
      rcases Nat.eq_zero_or_pos y with rfl | hy0
      · have hGx : Hid (x = G) := Lib.hid (by rw [← HG.out, Nat.gcd_zero_right])
        go_wp2_with fail
        refine (mod_none hx hy (by omega) (by omega)).mono ?_
        rintro e w1 ⟨rfl, B1⟩
        have hx1 := hx.below B1
        go_wp2_with fail
        refine (norm_nat hx1 (by omega)).mono ?_
        intro e w2 h
        obtain ⟨A2, c2, rfl, g2⟩ := h.up B1
        rw [hGx.out] at g2 ⊢
        have HP := Lib.hid g2
        clear h g2
        go_wp2_with fail
        go_ret
        exact ⟨_, _, rfl, HP.out⟩
      · have hmod := Nat.mod_lt x hy0
        have ly := hy.lt
        have hlen1 : (cn 18446744073709551616 (x % y)).length ≤ (cn 18446744073709551616 y).length := cn_len_mono _ _ _ (by omega) (by omega)
        have hlen2 : (cn 18446744073709551616 y).length ≤ m := cn_len_of_lt _ _ _ (by omega) ly
        have hGG : Hid (Nat.gcd y (x % y) = G) := Lib.hid (by rw [← HG.out, Nat.gcd_comm y, ← Nat.gcd_rec, Nat.gcd_comm])
        have hk0 : (cn 18446744073709551616 (x % y)).length = 0 ∨ 0 < x % y := by
          rcases Nat.eq_zero_or_pos (x % y) with h | h
          · rw [h]; exact .inl rfl
          · exact .inr h
        have hevr := ev_cn 18446744073709551616 (x % y) (by omega)
        have hevy := ev_cn 18446744073709551616 y (by omega)
        have lowr := cn_low 18446744073709551616 (x % y) (by omega)
        have htopy := top_cn y
        clear ly
        go_wp2_with fail
        refine (mod_calls hx hy (by omega) (by omega) hy0).mono ?_
        rintro e w1 ⟨A1, c1, rfl, G1⟩
        have hy1 := hy.below G1.2
        have HB1 := Lib.hid G1.2
        have r1 := G1.rd
        have cap1 := G1.cap
        clear G1 hx hy
        generalize cn 18446744073709551616 (x % y) = us at *
        go_wp2_with fail
        refine (norm_nb hy1 (by omega)).mono ?_
        rintro e w2 ⟨g, rfl, hg, hblk, B2⟩
        have r2 := r1.below B2
        have hsz1 := HB1.out.size
        have HB2 := Lib.hid (HB1.out.trans (B2.mono hsz1))
        have W2 : Wb w2 g 55 (cn 18446744073709551616 y) := ⟨hblk, cn_low _ _ (by omega)⟩
        clear r1 hy1 hblk B2
        generalize cn 18446744073709551616 y = La at *
        obtain ⟨k, hk⟩ : ∃ k, k = us.length := ⟨_, rfl⟩
        rw [← hk] at hlen1 hk0 cap1 ⊢
        obtain ⟨n0, hn0⟩ : ∃ n, n = La.length := ⟨_, rfl⟩
        rw [← hn0] at hlen1 hlen2 htopy ⊢
        have HK := Lib.hid hk
        have HN := Lib.hid hn0
        have HEV := Lib.hid hevy
        have HEVR := Lib.hid hevr
        have HK0 := Lib.hid hk0
        have HTO := Lib.hid htopy
        have hgw : w.heap.size ≤ g := by omega
        clear hk hn0 hevy hevr hk0 htopy
        go_upto_if 44 with fail
        go_cut [9, 11] (GcCut w G)
        case first =>
          by_cases hk1 : 1 < k
          · have hle : x % y ≤ y := by omega
            go_wp2_with fail
            refine (shorten_calls g n0 k c1 y (x % y) G w.heap.size A1 La us w2 W2 HN.out.symm HEV.out HTO.out (by omega) r2 HK.out.symm hlen1 lowr HEVR.out hle hgw hGG.out).mono ?_
            rintro e w3 ⟨n1, ga, ca, y1, k1, La1, B1, cb1, rfl, s1, s2, s3, s4, s5, s6, s7, s8, s9, s10, s11⟩
            have P : Hid (GcCut w G (.slice B1 k1 cb1) (.slice (some ⟨ga, 0, none⟩) n1 ca) w3) := Lib.hid ⟨n1, ga, ca, y1, k1, La1, B1, cb1, rfl, rfl, s1, s2, s3, s4, s5, s6, s7, s8, s9, s10, HB2.out.trans s11⟩
            clear s1 s2 s3 s4 s5 s6 s7 s8 s9 s10 s11
            go_wp2_with fail
            go_meet
            exact P.out
          · have P : Hid (GcCut w G (.slice A1 k c1) (.slice (some ⟨g, 0, none⟩) n0 n0) w2) := Lib.hid ⟨n0, g, n0, x % y, k, La, A1, c1, rfl, rfl, hgw, HN.out.symm, Nat.le_refl _, by omega, W2, HTO.out, by omega, HK0.out,
              ⟨us, r2, HK.out.symm, cap1.1, by have := cap1.2; unfold maxLen at this; omega, lowr, HEVR.out⟩, Lib.hid (by rw [List.take_of_length_le (by rw [← HN.out]; exact Nat.le_refl _), HEV.out]; exact hGG.out), HB2.out⟩
            clear r2 W2
            go_wp2_with fail
            go_meet
            exact P.out
        case rest =>
          clear r2 W2 HB2 HB1 HK HN HEV HEVR HK0 HTO hgw hGG lowr
          obtain ⟨n1, ga, ca, y1, k1, La1, B1, cb1, rfl, rfl, s1, s2, s3, s4, s5, s6, s7, s8, s9, s10, s11⟩ := hcut
          rcases Nat.eq_zero_or_pos k1 with rfl | hk1
          · have hy1 : y1 = 0 := by have := s9.lt; omega
            have P : Hid (NatPost G w (.returned (.slice (some ⟨ga, 0, none⟩) n1 ca)) wc) := Lib.hid (more_end s5 s2 s3 s4 s6 s1 s11 (by rw [← s10.out, hy1, Nat.gcd_zero_right]))
            clear s1 s2 s3 s4 s5 s6 s7 s8 s9 s10 s11 hy1
            go_wp2_with fail
            go_ret
            exact P.out
          · obtain rfl : k1 = 1 := by omega
            have hy1 : 0 < y1 := by rcases s8 with h | h
                                    · omega
                                    · exact h
            have hyB : y1 < 18446744073709551616 := by have := s9.lt; omega
            obtain ⟨xs9, r9, l9, _, _, low9, ev9⟩ := s9
            have hx9 : xs9 = [y1] := by
              match xs9, l9, ev9 with
              | [z], _, h => simp [ev] at h; rw [h]
            subst hx9
            obtain ⟨ae, rfl, _, c9⟩ := r9.at (k := 0) (by simp)
            rw [show ae.add 0 = ae by unfold Addr.add; simp, show nth [y1] 0 = y1 from rfl] at c9
            have nvm : Nv wc (some ⟨ga, 0, none⟩) n1 ca (ev 18446744073709551616 (La1.take n1)) := ⟨_, s5.1.rd0.take n1, by simp; omega, s3, by omega, s5.2.take n1, rfl⟩
            have hn1 : n1 ≤ 137438953472 := by omega
            have HS11 := Lib.hid s11
            have HS10 := Lib.hid s10
            clear s1 s2 s4 s5 s6 s7 s8 s10 s11 low9 ev9 l9
            go_wp2_with fail
            refine (small_calls nvm (by omega) hy1 hyB).mono ?_
            rintro e w4 ⟨A4, c4, rfl, G4⟩
            have r9' := r9.below G4.2
            have c9' := r9'.cell rfl (k := 0) (by simp)
            rw [show ae.add 0 = ae by unfold Addr.add; simp, show nth [y1] 0 = y1 from rfl] at c9'
            have B4 := Lib.hid (HS11.out.trans (G4.2.mono HS11.out.size))
            have hr2 := Nat.mod_lt (ev 18446744073709551616 (La1.take n1)) hy1
            obtain ⟨z, hz⟩ : ∃ z, z = ev 18446744073709551616 (La1.take n1) % y1 := ⟨_, rfl⟩
            rw [← hz] at hr2
            rw [← hz]
            have hgz : Hid (Nat.gcd y1 z = G) := Lib.hid (by rw [← HS10.out.out, hz, Nat.gcd_comm y1, ← Nat.gcd_rec, Nat.gcd_comm])
            clear hz r9 r9' c9 G4 nvm
            go_wp2_with fail
            refine (gw_calls y1 z hyB (by omega) _).mono ?_
            rw [hgz.out]
            rintro e w5 ⟨rfl, S5⟩
            have hgB : G < 18446744073709551616 := by rw [← hgz.out]; exact gcd_word hyB (by omega)
            have B5 := Lib.hid (B4.out.trans (S5.below w.heap.size))
            clear S5 c9'
            go_wp2_with fail
            refine (of_nat G hgB _).mono ?_
            intro e w6 h
            obtain ⟨A6, c6, rfl, g6⟩ := h.up B5.out
            have HP := Lib.hid g6
            clear h g6
            go_wp2_with fail
            go_ret
            exact ⟨_, _, rfl, HP.out⟩

theorem gcd_lt {x y n m : Nat} (hx : x < 18446744073709551616 ^ n) (hy : y < 18446744073709551616 ^ m) : Nat.gcd x y < 18446744073709551616 ^ max n m := by
  have p1 := pow_big (Nat.le_max_left n m)
  have p2 := pow_big (Nat.le_max_right n m)
  rcases Nat.eq_zero_or_pos x with h | h
  · rw [h, Nat.gcd_zero_left]; omega
  · have := gcd_le_left' x y h
    omega
theorem gcd_v {A B : Option Addr} {n m c d x y : Nat} {w : World} (hx : Nv w A n c x) (hy : Nv w B m d y) (hn : n ≤ 137438953472) (hm : m ≤ 137438953472) :
    Calls Tryz.prog 37 #[.slice A n c, .slice B m d] w (CvPost (Nat.gcd x y) (max n m) w) :=
  (gcd_calls hx hy hn hm).mono fun _ _ h => h.cv (gcd_lt hx.lt hy.lt)
/-- What Lcm reckons. -/
def lcmV (x y : Nat) : Nat := x / Nat.gcd x y * y
theorem lcmV_mul (x y : Nat) : Nat.gcd x y * lcmV x y = x * y := by
  unfold lcmV
  rw [← Nat.mul_assoc, Nat.mul_div_cancel' (Nat.gcd_dvd_left x y)]
end Go.Proofs.YtfpncmhaoadfdaaGreat
