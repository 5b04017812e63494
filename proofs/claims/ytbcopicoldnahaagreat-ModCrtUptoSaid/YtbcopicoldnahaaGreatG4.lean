/-
  quincunxlaw06.ModCrt: its walk.
-/
import Derived.Test.YtbcopicoldnahaaGreatG4a
import Derived.RegionTactic
import Derived.BigRegion
import Derived.Deep.RegionHeld3
import Derived.Deep.RegionWith
import Derived.Deep.RegionLaw
import Derived.Deep.LoopGhost
/-! quincunxlaw06.ModCrt: its walk. -/
namespace Go.Proofs.YtbcopicoldnahaaGreat
open Go.RowKit
set_option linter.unusedVariables false
set_option linter.unusedSimpArgs false

set_option maxRecDepth 100000 in
set_option maxHeartbeats 16000000 in
theorem glaw_same {A B : Option Addr} {n c c' N : Nat} {R M : List Zin} {w : World} (hr : ZRow w A R) (hm : ZRow w B M) (or : ZinOk w R) (om : ZinOk w M) (hn : R.length = n) (hn' : M.length = n) (h6 : n ≤ 6) (hN : Hid (lcmL (zprs R M) < 18446744073709551616 ^ N)) (hN2 : N ≤ 1048576) :
    Calls Tryz.prog 3 #[.slice A n c, .slice B n c'] w (TruePost w) := by
  have HNR := Lib.hid hn
  have HNM := Lib.hid hn'
  clear hn hn'
  have h6d : decide ((6 : Int) < (n : Int)) = false := by rw [decide_eq_false_iff_not]; omega
  go_enter Tryz.func3, Tryz.ntmps3
  go_wp2_with fail
  refine (mawake_calls w).mono ?_
  rintro e w1 ⟨rfl, B1⟩
  go_wp2_with fail
  refine (ccrt_calls (hr.below B1) (hm.below B1) (or.below B1) (om.below B1) HNR.out HNM.out (by omega) hN hN2).mono ?_
  rintro e w2 hc
  obtain ⟨x, ek, rfl, ox, HO, B2⟩ := hc.out HNR.out HNM.out
  have HOU := Lib.hid HO
  clear hc HO
  obtain ⟨w3, hw3, I1, I2, z3⟩ := opent2 w2 x.s x.t x.A x.B x.n x.c x.m x.d 27 27
  have HW3 := Lib.hid hw3.symm
  have B123 := zup B1 (zup B2 z3)
  replace hr := hr.below B123
  replace hm := hm.below B123
  replace or := or.below B123
  replace om := om.below B123
  obtain ⟨px, pm, kx, km⟩ := ox.below z3
  clear hw3 B1 B2 z3 ox hN
  go_upto_block 3 with fail
  rw [HW3.out]
  clear HW3
  go_loopg [8, 9, 10] n (fun g s8 s9 s10 wr => ∃ (i : Nat) (bad ap : Bool), i + g = n ∧ s8 = .bool bad ∧ s9 = .bool ap ∧ s10 = .int .i64 i ∧ LRel R M i bad ap ∧ Ib wr w2.heap.size x.s x.A x.n x.c ∧ Ib wr (w2.heap.size + 1) x.t x.B x.m x.d ∧ Below w3.heap.size w3 wr)
  case atStart => exact ⟨0, false, false, by omega, rfl, rfl, rfl, LRel.start R M, I1, I2, Below.refl _ _⟩
  case round =>
    clear I1 I2
    obtain ⟨i, bad, ap, hi, rfl, rfl, rfl, hl, I1, I2, z4⟩ := hrel
    obtain ⟨wo, hwo⟩ : ∃ x, x = wr := ⟨_, rfl⟩
    subst hwo
    by_cases hlt : i < n
    · have hiM : i < M.length := by have := HNM.out; omega
      have hiR : i < R.length := by have := HNR.out; omega
      obtain ⟨ad, rfl, had, hcell⟩ := (hr.below z4) (by omega)
      obtain ⟨am, rfl, ham, hmell⟩ := (hm.below z4) (by omega)
      obtain ⟨c1, c2⟩ := hcell i hiR
      obtain ⟨d1, d2⟩ := hmell i hiM
      obtain ⟨zy, ky⟩ := ((or _ (List.getElem_mem hiR)).below z4)
      obtain ⟨zm, km'⟩ := ((om _ (List.getElem_mem hiM)).below z4)
      obtain ⟨m, hm2⟩ : ∃ m, M[i] = m := ⟨_, rfl⟩
      obtain ⟨y, hy2⟩ : ∃ y, R[i] = y := ⟨_, rfl⟩
      have HM2 : Hid (M.getD i nz = m) := Lib.hid (by rw [List.getD_eq_getElem?_getD, List.getElem?_eq_getElem hiM, ← hm2]; rfl)
      have HY2 : Hid (R.getD i nz = y) := Lib.hid (by rw [List.getD_eq_getElem?_getD, List.getElem?_eq_getElem hiR, ← hy2]; rfl)
      have HMI := Lib.hid hm2
      have HYI := Lib.hid hy2
      rw [hm2] at d1 d2 zm km'
      rw [hy2] at c1 c2 zy ky
      have u1 : (0 : Int) ≤ (i : Int) := by omega
      have u2 : (i : Int) < (n : Int) := by omega
      have HL := Lib.hid hl
      clear hl hm2 hy2 hmell hcell
      by_cases s1 : m.n ≤ 1
      · by_cases s2 : y.n ≤ 2
        · cases bad
          · obtain ⟨r, hr0⟩ : ∃ r, m.z.sign = r := ⟨_, rfl⟩
            have HR0 := Lib.hid hr0
            by_cases hp : 0 < m.z
            · have hr1 : r = 1 := by rw [← hr0]; exact Int.sign_eq_one_of_pos hp
              subst hr1
              clear hr0
              go_wp2_with fail
              refine (zsign_v zm (by omega) HR0.out).mono ?_
              rintro e w5 ⟨rfl, B5⟩
              clear zm zy c1 c2 d1 d2
              go_wp2
              go_loopg [9, 11] i (fun g s9 s11 wx => ∃ (k : Nat) (ak : Bool), k + g = i ∧ s9 = .bool ak ∧ s11 = .int .i64 k ∧ KRel R M i k ak ∧ Below wo.heap.size wo wx)
              case atStart => exact ⟨0, ap, by omega, rfl, rfl, HL.out.inner, B5⟩
              case round =>
                clear B5
                obtain ⟨k, ak, hk, rfl, rfl, hkr, zx⟩ := hrel
                have HK := Lib.hid hkr
                clear hkr
                by_cases hlk : k < i
                · have zz := zup z4 zx
                  have hkM : k < M.length := by omega
                  have hkR : k < R.length := by omega
                  obtain ⟨ad', he, had2, hcell⟩ := (hr.below zz) (by omega)
                  cases he
                  obtain ⟨am', he, ham2, hmell⟩ := (hm.below zz) (by omega)
                  cases he
                  obtain ⟨e0a, e0b⟩ := hcell i hiR
                  obtain ⟨e1a, e1b⟩ := hcell k hkR
                  obtain ⟨e2a, e2b⟩ := hmell i hiM
                  obtain ⟨e3a, e3b⟩ := hmell k hkM
                  obtain ⟨t0, _⟩ := ((or _ (List.getElem_mem hiR)).below zz)
                  obtain ⟨t1, _⟩ := ((or _ (List.getElem_mem hkR)).below zz)
                  obtain ⟨t2, _⟩ := ((om _ (List.getElem_mem hiM)).below zz)
                  obtain ⟨t3, _⟩ := ((om _ (List.getElem_mem hkM)).below zz)
                  have hs := HL.out.2.2 k hlk
                  obtain ⟨mk, hmk⟩ : ∃ mk, M[k] = mk := ⟨_, rfl⟩
                  obtain ⟨yk, hyk⟩ : ∃ yk, R[k] = yk := ⟨_, rfl⟩
                  have HMK : Hid (M.getD k nz = mk) := Lib.hid (by rw [List.getD_eq_getElem?_getD, List.getElem?_eq_getElem hkM, ← hmk]; rfl)
                  have HYK : Hid (R.getD k nz = yk) := Lib.hid (by rw [List.getD_eq_getElem?_getD, List.getElem?_eq_getElem hkR, ← hyk]; rfl)
                  have hmi := HMI.out
                  have hyi := HYI.out
                  rw [hmi] at e2a e2b t2
                  rw [hyi] at e0a e0b t0
                  rw [hmk] at e3a e3b t3
                  rw [hyk] at e1a e1b t1
                  rw [HMK.out, HYK.out] at hs
                  obtain ⟨s3, s4⟩ := hs
                  have v1 : (0 : Int) ≤ (k : Int) := by omega
                  have v2 : (k : Int) < (n : Int) := by omega
                  have v3 : (k : Int) < (i : Int) := by omega
                  clear hmk hyk hmi hyi hcell hmell
                  cases ak
                  · obtain ⟨G, hG⟩ : ∃ G : Int, ((Nat.gcd m.z.natAbs mk.z.natAbs : Nat) : Int) = G := ⟨_, rfl⟩
                    obtain ⟨b, hb⟩ : ∃ b, decide (G ∣ y.z - yk.z) = b := ⟨_, rfl⟩
                    have hG0 : G ≠ 0 := by have := Nat.gcd_pos_of_pos_left mk.z.natAbs (show 0 < m.z.natAbs by omega); omega
                    have HG := Lib.hid hG
                    have HB := Lib.hid hb
                    have HK2 : Hid (KRel R M i (k + 1) (!b)) := Lib.hid (HK.out.step (by unfold zat; rw [HM2.out, HMK.out, HY2.out, HYK.out, hG]; exact hb))
                    clear hG hb
                    go_wp2_with fail
                    go_region_held3 (fun w' => w'.cell? (ad.add (i * 2)) = some (.bool y.s) ∧ w'.cell? ⟨(ad.add (i * 2)).block, (ad.add (i * 2)).off + 1, none⟩ = some (.slice y.A y.n y.c) ∧ w'.cell? (ad.add (k * 2)) = some (.bool yk.s) ∧ w'.cell? ⟨(ad.add (k * 2)).block, (ad.add (k * 2)).off + 1, none⟩ = some (.slice yk.A yk.n yk.c) ∧ w'.cell? (am.add (i * 2)) = some (.bool m.s) ∧ w'.cell? ⟨(am.add (i * 2)).block, (am.add (i * 2)).off + 1, none⟩ = some (.slice m.A m.n m.c) ∧ w'.cell? (am.add (k * 2)) = some (.bool mk.s) ∧ w'.cell? ⟨(am.add (k * 2)).block, (am.add (k * 2)).off + 1, none⟩ = some (.slice mk.A mk.n mk.c)) (go_keep) (first
                      | (go_at_call 8; (with_reducible refine (zgcd_v (t2.below (below_drew _)) (t3.below (below_drew _)) (by omega) (by omega) HG.out).mono ?_); rintro e w6 ⟨s6, A6, n6, c6, rfl, p6, k6, B6⟩; have Q6 := zup (below_drew _) B6; have e0a6 := (Q6.cell (p := ad.add (i * 2)) (by rw [add_block]; exact had2)).trans e0a; have e0b6 := (Q6.cell (p := ⟨(ad.add (i * 2)).block, (ad.add (i * 2)).off + 1, none⟩) (by show (ad.add (i * 2)).block < _; rw [add_block]; exact had2)).trans e0b; have e1a6 := (Q6.cell (p := ad.add (k * 2)) (by rw [add_block]; exact had2)).trans e1a; have e1b6 := (Q6.cell (p := ⟨(ad.add (k * 2)).block, (ad.add (k * 2)).off + 1, none⟩) (by show (ad.add (k * 2)).block < _; rw [add_block]; exact had2)).trans e1b; have e2a6 := (Q6.cell (p := am.add (i * 2)) (by rw [add_block]; exact ham2)).trans e2a; have e2b6 := (Q6.cell (p := ⟨(am.add (i * 2)).block, (am.add (i * 2)).off + 1, none⟩) (by show (am.add (i * 2)).block < _; rw [add_block]; exact ham2)).trans e2b; have e3a6 := (Q6.cell (p := am.add (k * 2)) (by rw [add_block]; exact ham2)).trans e3a; have e3b6 := (Q6.cell (p := ⟨(am.add (k * 2)).block, (am.add (k * 2)).off + 1, none⟩) (by show (am.add (k * 2)).block < _; rw [add_block]; exact ham2)).trans e3b)
                      | (go_at_call 7; (with_reducible refine (rcong_v (t0.below Q6) (t1.below Q6) p6.zv (by omega) (by omega) (by omega) hG0 HB.out).mono ?_); rintro e w7 ⟨rfl, B7⟩; have Q7 := zup Q6 B7; have e0a7 := (Q7.cell (p := ad.add (i * 2)) (by rw [add_block]; exact had2)).trans e0a; have e0b7 := (Q7.cell (p := ⟨(ad.add (i * 2)).block, (ad.add (i * 2)).off + 1, none⟩) (by show (ad.add (i * 2)).block < _; rw [add_block]; exact had2)).trans e0b; have e1a7 := (Q7.cell (p := ad.add (k * 2)) (by rw [add_block]; exact had2)).trans e1a; have e1b7 := (Q7.cell (p := ⟨(ad.add (k * 2)).block, (ad.add (k * 2)).off + 1, none⟩) (by show (ad.add (k * 2)).block < _; rw [add_block]; exact had2)).trans e1b; have e2a7 := (Q7.cell (p := am.add (i * 2)) (by rw [add_block]; exact ham2)).trans e2a; have e2b7 := (Q7.cell (p := ⟨(am.add (i * 2)).block, (am.add (i * 2)).off + 1, none⟩) (by show (am.add (i * 2)).block < _; rw [add_block]; exact ham2)).trans e2b; have e3a7 := (Q7.cell (p := am.add (k * 2)) (by rw [add_block]; exact ham2)).trans e3a; have e3b7 := (Q7.cell (p := ⟨(am.add (k * 2)).block, (am.add (k * 2)).off + 1, none⟩) (by show (am.add (k * 2)).block < _; rw [add_block]; exact ham2)).trans e3b)
                      | fail)
                    have zz7 := zup zx Q7
                    clear e0a e0a6 e0a7 e0b e0b6 e0b7 e1a e1a6 e1a7 e1b e1b6 e1b7 e2a e2a6 e2a7 e2b e2b6 e2b7 e3a e3a6 e3a7 e3b e3b6 e3b7 t0 t1 t2 t3 p6 B6 Q6 B7 Q7
                    go_wp2
                    go_roundg (i - (k + 1))
                    case measure => omega
                    case rel => exact ⟨k + 1, !b, by omega, rfl, by go_num, HK2.out, zz7⟩
                  · have HK2 : Hid (KRel R M i (k + 1) true) := Lib.hid HK.out.yes
                    clear e0a e0b e1a e1b e2a e2b e3a e3b t0 t1 t2 t3
                    go_wp2_with fail
                    go_region
                    go_wp2
                    go_roundg (i - (k + 1))
                    case measure => omega
                    case rel => exact ⟨k + 1, true, by omega, rfl, by go_num, HK2.out, zx.trans ((below_drew _).mono zx.size)⟩
                · obtain rfl : k = i := by omega
                  have HG : Hid (LRel R M (k + 1) false ak) := Lib.hid (LRel.good HL.out (by rw [HM2.out]; exact s1) (by rw [HY2.out]; exact s2) (by unfold zat; rw [HM2.out]; exact hp) HK.out)
                  go_wp2
                  go_roundg (n - (k + 1))
                  case measure => omega
                  case rel => exact ⟨k + 1, false, ak, by omega, rfl, rfl, by go_num, HG.out, I1.below zx, I2.below zx, z4.trans (zx.mono z4.size)⟩
            · have hr1 : r ≤ 0 := by rw [← hr0]; exact Int.sign_nonpos_iff.2 (by omega)
              clear hr0
              go_wp2_with fail
              refine (zsign_v zm (by omega) HR0.out).mono ?_
              rintro e w5 ⟨rfl, B5⟩
              have hz := Nat.eq_zero_or_pos i
              have HBAD : Hid (LRel R M (i + 1) true ap) := Lib.hid (LRel.bad HL.out (by rw [HM2.out]; exact s1) (by rw [HY2.out]; exact s2) (.inr (by unfold zat; rw [HM2.out]; omega)))
              clear zm zy c1 c2 d1 d2
              go_wp2
              go_loopg [9, 11] 0 (fun g s9 s11 wx => s9 = .bool ap ∧ s11 = .int .i64 0 ∧ wx = w5)
              case atStart => exact ⟨rfl, rfl, rfl⟩
              case round =>
                obtain ⟨rfl, rfl, rfl⟩ := hrel
                rcases hz with h0 | h0
                · go_wp2
                  go_roundg (n - (i + 1))
                  case measure => omega
                  case rel => exact ⟨i + 1, true, ap, by omega, rfl, rfl, by go_num, HBAD.out, I1.below B5, I2.below B5, z4.trans (B5.mono z4.size)⟩
                · go_wp2
                  go_roundg (n - (i + 1))
                  case measure => omega
                  case rel => exact ⟨i + 1, true, ap, by omega, rfl, rfl, by go_num, HBAD.out, I1.below B5, I2.below B5, z4.trans (B5.mono z4.size)⟩
          · have hz := Nat.eq_zero_or_pos i
            have HBAD : Hid (LRel R M (i + 1) true ap) := Lib.hid (LRel.bad HL.out (by rw [HM2.out]; exact s1) (by rw [HY2.out]; exact s2) (.inl rfl))
            go_wp2
            clear zm zy c1 c2 d1 d2
            go_loopg [9, 11] 0 (fun g s9 s11 wx => s9 = .bool ap ∧ s11 = .int .i64 0 ∧ wx = wo)
            case atStart => exact ⟨rfl, rfl, rfl⟩
            case round =>
              obtain ⟨rfl, rfl, rfl⟩ := hrel
              rcases hz with h0 | h0
              · go_wp2
                go_roundg (n - (i + 1))
                case measure => omega
                case rel => exact ⟨i + 1, true, ap, by omega, rfl, rfl, by go_num, HBAD.out, I1, I2, z4⟩
              · go_wp2
                go_roundg (n - (i + 1))
                case measure => omega
                case rel => exact ⟨i + 1, true, ap, by omega, rfl, rfl, by go_num, HBAD.out, I1, I2, z4⟩
        · have s2' : 2 < y.n := by omega
          have P : Hid (TruePost w (.returned (.bool true)) wo) := Lib.hid ⟨rfl, (B123.trans (z4.mono B123.size))⟩
          go_wp2
          go_ret
          exact P.out
      · have s1' : 1 < m.n := by omega
        have P : Hid (TruePost w (.returned (.bool true)) wo) := Lib.hid ⟨rfl, (B123.trans (z4.mono B123.size))⟩
        go_wp2
        go_ret
        exact P.out
    · obtain rfl : i = n := by omega
      have hlo := HOU.out
      have hlb := hl.1
      have hla := hl.2.1
      have hls := hl.2.2
      replace px := px.below z4
      replace pm := pm.below z4
      have B4 := B123.trans (z4.mono B123.size)
      rcases hlo with ⟨hbad, rfl, e1, e2⟩ | ⟨hbad, ⟨rfl, o1, o2, o3, o4, o5⟩ | ⟨rfl, hap, e1, e2⟩⟩
      · obtain rfl : bad = true := hlb.2 hbad
        rw [e1] at px
        rw [e2] at pm
        clear hlb hla hls hl hbad HOU or om hr hm
        obtain ⟨i1, i2, i3, i4, i5⟩ := I1
        obtain ⟨j1, j2, j3, j4, j5⟩ := I2
        go_wp2_with fail
        refine (zsign_v px.zv (by omega) (r := 0) rfl).mono ?_
        rintro e w5 ⟨rfl, B5⟩
        obtain ⟨i1, i2, i3, i4, i5⟩ := Ib.below (n := x.n) (c := x.c) ⟨i1, i2, i3, i4, i5⟩ B5
        obtain ⟨j1, j2, j3, j4, j5⟩ := Ib.below (n := x.m) (c := x.d) ⟨j1, j2, j3, j4, j5⟩ B5
        replace pm := pm.below B5
        replace B4 := B4.trans (B5.mono B4.size)
        clear B5
        go_wp2_with fail
        refine (zsign_v pm.zv (by omega) (r := 0) rfl).mono ?_
        rintro e w6 ⟨rfl, B6⟩
        have P : Hid (TruePost w (.returned (.bool true)) w6) := Lib.hid ⟨rfl, B4.trans (B6.mono B4.size)⟩
        go_wp2
        go_ret
        exact P.out
      · have hb2 : bad = false := by
          cases bad
          · rfl
          · exact absurd (hlb.1 rfl) hbad
        subst hb2
        have ha2 : ap = false := by
          cases ap
          · rfl
          · exact absurd ((hla rfl).1 rfl) o5
        subst ha2
        have HB7 := last_bound HNR.out HNM.out h6 om hbad (fun j hj => (hls j hj).1)
        rw [← o3] at HB7
        have kx7 : x.n ≤ 7 := px.le (Nat.lt_of_le_of_lt (by omega) HB7)
        have km7 : x.m ≤ 7 := pm.le HB7
        have HS := Lib.hid o4
        have HQ := Lib.hid o3
        have HLS := Lib.hid hls
        have HPOS : Hid (∀ j, j < i → 0 < zat M j) := Lib.hid fun j hj => Int.not_le.1 fun k => hbad ⟨j, hj, k⟩
        replace hr := hr.below z4
        replace hm := hm.below z4
        replace or := or.below z4
        replace om := om.below z4
        clear HB7 hlb hla hls hl hbad HOU o3 o4 o5 z4
        go_wp2_with fail
        refine (zof_v 1 (by omega) (by omega) _).mono ?_
        rintro e w5 ⟨s5, A5, n5, c5, rfl, p5, k5, B5⟩
        replace hr := hr.below B5
        replace hm := hm.below B5
        replace or := or.below B5
        replace om := om.below B5
        replace px := px.below B5
        replace pm := pm.below B5
        replace I1 := I1.below B5
        replace I2 := I2.below B5
        replace B4 := B4.trans (B5.mono B4.size)
        clear B5
        obtain ⟨w6, hw6⟩ : ∃ w6, w6 = w5.alloc (.cells #[.bool s5, .slice A5 n5 c5] 27) := ⟨_, rfl⟩
        have z6 : Below w5.heap.size w5 w6 := by rw [hw6]; exact zba _ _
        have IL : Ib w6 w5.heap.size s5 A5 n5 c5 := by rw [hw6]; exact Ib.new _ _ _ _ _ _
        have HW6 := Lib.hid hw6.symm
        replace p5 := p5.below z6
        clear hw6
        go_wp2_with fail
        rw [HW6.out]
        clear HW6
        go_loopg [13] i (fun g s13 wx => ∃ (k : Nat) (acc : Int) (ls : Bool) (lA : Option Addr) (ln lc : Nat), k + g = i ∧ s13 = .int .i64 k ∧ AccRel M k acc ∧ Ib wx w5.heap.size ls lA ln lc ∧ Zc wx ls lA ln lc acc ∧ Below w5.heap.size w5 wx)
        case atStart => exact ⟨0, 1, s5, A5, n5, c5, by omega, rfl, AccRel.start M, IL, p5, z6⟩
        case round =>
          clear IL p5 z6
          obtain ⟨k, acc, ls, lA, ln, lc, hk, rfl, ha, IL, pl, zx⟩ := hrel
          have HA := Lib.hid ha
          have hln := pl.le ha.2.2
          have ha0 := ha.1
          clear ha
          by_cases hlk : k < i
          · have hkM : k < M.length := by have := HNM.out; omega
            have hkR : k < R.length := by have := HNR.out; omega
            obtain ⟨ad', he, had2, hcell⟩ := (hr.below zx) (by omega)
            subst he
            obtain ⟨am', he, ham2, hmell⟩ := (hm.below zx) (by omega)
            subst he
            obtain ⟨e1a, e1b⟩ := hcell k hkR
            obtain ⟨e3a, e3b⟩ := hmell k hkM
            obtain ⟨t1, _⟩ := ((or _ (List.getElem_mem hkR)).below zx)
            obtain ⟨t3, _⟩ := ((om _ (List.getElem_mem hkM)).below zx)
            have hs := HLS.out k hlk
            have hp0 := HPOS.out k hlk
            have hsat := HS.out _ (zprs_mem hkR hkM)
            simp only at hsat
            obtain ⟨mk, hmk⟩ : ∃ mk, M[k] = mk := ⟨_, rfl⟩
            obtain ⟨yk, hyk⟩ : ∃ yk, R[k] = yk := ⟨_, rfl⟩
            have HMK : M.getD k nz = mk := by rw [List.getD_eq_getElem?_getD, List.getElem?_eq_getElem hkM, ← hmk]; rfl
            have HYK : R.getD k nz = yk := by rw [List.getD_eq_getElem?_getD, List.getElem?_eq_getElem hkR, ← hyk]; rfl
            rw [HMK, HYK] at hs
            have hzm : zat M k = mk.z := by unfold zat; rw [HMK]
            have hzy : zat R k = yk.z := by unfold zat; rw [HYK]
            rw [hzm] at hp0 hsat
            rw [hzy] at hsat
            rw [hmk] at e3a e3b t3
            rw [hyk] at e1a e1b t1
            obtain ⟨s3, s4⟩ := hs
            obtain ⟨G, hG⟩ : ∃ G : Int, ((Nat.gcd acc.natAbs mk.z.natAbs : Nat) : Int) = G := ⟨_, rfl⟩
            obtain ⟨Q, hQ, hAQ⟩ := HA.out.next hzm hp0 (t3.small s3) hG
            have HG := Lib.hid hG
            have HQG := Lib.hid hQ
            have HAQ := Lib.hid hAQ
            have hG0 : G ≠ 0 := by have := Nat.gcd_pos_of_pos_left mk.z.natAbs (show 0 < acc.natAbs by omega); omega
            have HD : Hid (decide (mk.z ∣ x.r - yk.z) = true) := Lib.hid (decide_eq_true hsat)
            have v1 : (0 : Int) ≤ (k : Int) := by omega
            have v2 : (k : Int) < (i : Int) := by omega
            have J1 := Lib.hid (I1.below zx)
            have J2 := Lib.hid (I2.below zx)
            have JL := Lib.hid IL
            have qx := px.below zx
            have hgt : w2.heap.size < w5.heap.size := I1.2.2.2.2
            clear hmk hyk hcell hmell hG hQ hAQ hsat HMK HYK hzm hzy HA IL
            obtain ⟨x1, x2, x3, x4, x5⟩ := J1.out
            go_wp2_with fail
            go_region_held3 (fun w' => w'.cell? ⟨w2.heap.size, 0, none⟩ = some (.bool x.s) ∧ w'.cell? ⟨w2.heap.size, 1, none⟩ = some (.slice x.A x.n x.c) ∧ w'.cell? (ad'.add (k * 2)) = some (.bool yk.s) ∧ w'.cell? ⟨(ad'.add (k * 2)).block, (ad'.add (k * 2)).off + 1, none⟩ = some (.slice yk.A yk.n yk.c) ∧ w'.cell? (am'.add (k * 2)) = some (.bool mk.s) ∧ w'.cell? ⟨(am'.add (k * 2)).block, (am'.add (k * 2)).off + 1, none⟩ = some (.slice mk.A mk.n mk.c)) (go_keep) (first
              | (go_at_call 7; (with_reducible refine (rcong_v (qx.below (below_drew _)).zv (t1.below (below_drew _)) (t3.below (below_drew _)) (by omega) (by omega) (by omega) (by omega) HD.out).mono ?_); rintro e w7 ⟨rfl, B7⟩; have Q7 := zup (below_drew _) B7; obtain ⟨x17, x27, x37, x47, x57⟩ := J1.out.below Q7; have e1a7 := (Q7.cell (p := ad'.add (k * 2)) (by rw [add_block]; exact had2)).trans e1a; have e1b7 := (Q7.cell (p := ⟨(ad'.add (k * 2)).block, (ad'.add (k * 2)).off + 1, none⟩) (by show (ad'.add (k * 2)).block < _; rw [add_block]; exact had2)).trans e1b; have e3a7 := (Q7.cell (p := am'.add (k * 2)) (by rw [add_block]; exact ham2)).trans e3a; have e3b7 := (Q7.cell (p := ⟨(am'.add (k * 2)).block, (am'.add (k * 2)).off + 1, none⟩) (by show (am'.add (k * 2)).block < _; rw [add_block]; exact ham2)).trans e3b)
              | fail)
            clear x1 x2 x3 x4 x5 x17 x27 x37 x47 x57 e1a e1b e1a7 e1b7 e3a e3b t1 qx
            replace JL := Lib.hid (JL.out.below Q7)
            replace t3 := t3.below Q7
            replace pl := pl.below Q7
            replace had2 := Nat.lt_of_lt_of_le had2 Q7.size
            replace ham2 := Nat.lt_of_lt_of_le ham2 Q7.size
            have hwl : w5.heap.size < w7.heap.size := JL.out.2.2.2.2
            replace zx := zx.trans (Q7.mono zx.size)
            clear Q7 B7
            have e3a := e3a7
            have e3b := e3b7
            clear e3a7 e3b7
            go_wp2_with fail
            go_cut [14, 15] (VarTrue w7 Q 40)
            case first =>
              obtain ⟨l1, l2, l3, l4, l5⟩ := JL.out
              have n1 : ¬ (w7.heap.size = w5.heap.size) := by omega
              have n2 : ¬ (w5.heap.size = w7.heap.size) := by omega
              have n3 : ¬ (w7.heap.size = (am'.add (k * 2)).block) := by rw [add_block]; omega
              have n4 : ¬ ((am'.add (k * 2)).block = w7.heap.size) := by rw [add_block]; omega
              go_region_held3 (fun w' => w'.cell? ⟨w5.heap.size, 0, none⟩ = some (.bool ls) ∧ w'.cell? ⟨w5.heap.size, 1, none⟩ = some (.slice lA ln lc) ∧ w'.cell? (am'.add (k * 2)) = some (.bool mk.s) ∧ w'.cell? ⟨(am'.add (k * 2)).block, (am'.add (k * 2)).off + 1, none⟩ = some (.slice mk.A mk.n mk.c)) (go_keep) (first
                | (go_at_call 11; (with_reducible refine (zmul_v (pl.below (below_drew _)).zv (t3.below (below_drew _)) (by omega) (by omega)).mono ?_); rintro e w8 ⟨s8, A8, n8', c8, rfl, p8, k8, B8⟩; have Q8 := zup (below_drew _) B8; obtain ⟨lx8, ly8, lf8, lg8, lz8⟩ := JL.out.below Q8; have an8 : ¬ (w8.heap.size = w5.heap.size) := (by omega); have bn8 : ¬ (w5.heap.size = w8.heap.size) := (by omega); have cn8 : ¬ (w8.heap.size = (am'.add (k * 2)).block) := (by have := Q8.size; rw [add_block]; omega); have dn8 : ¬ ((am'.add (k * 2)).block = w8.heap.size) := (by have := Q8.size; rw [add_block]; omega); have e3a8 := (Q8.cell (p := am'.add (k * 2)) (by rw [add_block]; exact ham2)).trans e3a; have e3b8 := (Q8.cell (p := ⟨(am'.add (k * 2)).block, (am'.add (k * 2)).off + 1, none⟩) (by show (am'.add (k * 2)).block < _; rw [add_block]; exact ham2)).trans e3b)
                | (go_at_call 11; (with_reducible refine (zmul_v (pl.below (zbd _ _)).zv (t3.below (zbd _ _)) (by omega) (by omega)).mono ?_); rintro e w8 ⟨s8, A8, n8', c8, rfl, p8, k8, B8⟩; have Q8 := zup (zbd _ _) B8; have J8 := (Ib.newd w7 false none 0 0 27).below B8; have g8 := Nat.le_refl w7.heap.size; obtain ⟨lx8, ly8, lf8, lg8, lz8⟩ := JL.out.below Q8; have an8 : ¬ (w8.heap.size = w5.heap.size) := (by omega); have bn8 : ¬ (w5.heap.size = w8.heap.size) := (by omega); have cn8 : ¬ (w8.heap.size = (am'.add (k * 2)).block) := (by have := Q8.size; rw [add_block]; omega); have dn8 : ¬ ((am'.add (k * 2)).block = w8.heap.size) := (by have := Q8.size; rw [add_block]; omega); have e3a8 := (Q8.cell (p := am'.add (k * 2)) (by rw [add_block]; exact ham2)).trans e3a; have e3b8 := (Q8.cell (p := ⟨(am'.add (k * 2)).block, (am'.add (k * 2)).off + 1, none⟩) (by show (am'.add (k * 2)).block < _; rw [add_block]; exact ham2)).trans e3b; have Jc8 := J8; obtain ⟨jx8, jy8, jf8, jg8, jz8⟩ := Jc8)
                | (go_at_call 8; (with_reducible refine (zgcd_v (pl.below Q8).zv (t3.below Q8) (by omega) (by omega) HG.out).mono ?_); rintro e w9 ⟨s9, A9, n9', c9, rfl, p9, k9, B9⟩; have Q9 := zup Q8 B9; have R9 := B9; have J9 := J8.below B9; have g9 := g8; obtain ⟨lx9, ly9, lf9, lg9, lz9⟩ := JL.out.below Q9; have an9 : ¬ (w9.heap.size = w5.heap.size) := (by omega); have bn9 : ¬ (w5.heap.size = w9.heap.size) := (by omega); have cn9 : ¬ (w9.heap.size = (am'.add (k * 2)).block) := (by have := Q9.size; rw [add_block]; omega); have dn9 : ¬ ((am'.add (k * 2)).block = w9.heap.size) := (by have := Q9.size; rw [add_block]; omega); have e3a9 := (Q9.cell (p := am'.add (k * 2)) (by rw [add_block]; exact ham2)).trans e3a; have e3b9 := (Q9.cell (p := ⟨(am'.add (k * 2)).block, (am'.add (k * 2)).off + 1, none⟩) (by show (am'.add (k * 2)).block < _; rw [add_block]; exact ham2)).trans e3b; have Jc9 := J9; obtain ⟨jx9, jy9, jf9, jg9, jz9⟩ := Jc9)
                | (go_at_call 8; (with_reducible refine (zgcd_v (pl.below Q8).zv (t3.below Q8) (by omega) (by omega) HG.out).mono ?_); rintro e w9 ⟨s9, A9, n9', c9, rfl, p9, k9, B9⟩; have Q9 := zup Q8 B9; have R9 := B9; obtain ⟨lx9, ly9, lf9, lg9, lz9⟩ := JL.out.below Q9; have an9 : ¬ (w9.heap.size = w5.heap.size) := (by omega); have bn9 : ¬ (w5.heap.size = w9.heap.size) := (by omega); have cn9 : ¬ (w9.heap.size = (am'.add (k * 2)).block) := (by have := Q9.size; rw [add_block]; omega); have dn9 : ¬ ((am'.add (k * 2)).block = w9.heap.size) := (by have := Q9.size; rw [add_block]; omega); have e3a9 := (Q9.cell (p := am'.add (k * 2)) (by rw [add_block]; exact ham2)).trans e3a; have e3b9 := (Q9.cell (p := ⟨(am'.add (k * 2)).block, (am'.add (k * 2)).off + 1, none⟩) (by show (am'.add (k * 2)).block < _; rw [add_block]; exact ham2)).trans e3b)
                | (go_at_call 8; (with_reducible refine (zgcd_v (pl.below (zup Q8 (zba _ _))).zv (t3.below (zup Q8 (zba _ _))) (by omega) (by omega) HG.out).mono ?_); rintro e w9 ⟨s9, A9, n9', c9, rfl, p9, k9, B9⟩; have Q9 := zup (zup Q8 (zba _ _)) B9; have R9 := zup (zba w8 _) B9; have J9 := (Ib.new w8 false none 0 0 27).below B9; have g9 := Q8.size; obtain ⟨lx9, ly9, lf9, lg9, lz9⟩ := JL.out.below Q9; have an9 : ¬ (w9.heap.size = w5.heap.size) := (by omega); have bn9 : ¬ (w5.heap.size = w9.heap.size) := (by omega); have cn9 : ¬ (w9.heap.size = (am'.add (k * 2)).block) := (by have := Q9.size; rw [add_block]; omega); have dn9 : ¬ ((am'.add (k * 2)).block = w9.heap.size) := (by have := Q9.size; rw [add_block]; omega); have e3a9 := (Q9.cell (p := am'.add (k * 2)) (by rw [add_block]; exact ham2)).trans e3a; have e3b9 := (Q9.cell (p := ⟨(am'.add (k * 2)).block, (am'.add (k * 2)).off + 1, none⟩) (by show (am'.add (k * 2)).block < _; rw [add_block]; exact ham2)).trans e3b; have Jc9 := J9; obtain ⟨jx9, jy9, jf9, jg9, jz9⟩ := Jc9)
                | (go_at_call 10; (with_reducible refine (zexact_yes (p8.below R9).zv p9.zv (by omega) (by omega) hG0 HQG.out).mono ?_); rintro e w10 ⟨s10, A10, n10', c10, rfl, p10, k10, B10⟩; have Q10 := zup Q9 B10; have R10 := B10; have J10 := J9.below B10; have g10 := g9; obtain ⟨lx10, ly10, lf10, lg10, lz10⟩ := JL.out.below Q10; have an10 : ¬ (w10.heap.size = w5.heap.size) := (by omega); have bn10 : ¬ (w5.heap.size = w10.heap.size) := (by omega); have cn10 : ¬ (w10.heap.size = (am'.add (k * 2)).block) := (by have := Q10.size; rw [add_block]; omega); have dn10 : ¬ ((am'.add (k * 2)).block = w10.heap.size) := (by have := Q10.size; rw [add_block]; omega); have e3a10 := (Q10.cell (p := am'.add (k * 2)) (by rw [add_block]; exact ham2)).trans e3a; have e3b10 := (Q10.cell (p := ⟨(am'.add (k * 2)).block, (am'.add (k * 2)).off + 1, none⟩) (by show (am'.add (k * 2)).block < _; rw [add_block]; exact ham2)).trans e3b; have Jc10 := J10; obtain ⟨jx10, jy10, jf10, jg10, jz10⟩ := Jc10)
                | (go_at_call 10; (with_reducible refine (zexact_yes (p8.below R9).zv p9.zv (by omega) (by omega) hG0 HQG.out).mono ?_); rintro e w10 ⟨s10, A10, n10', c10, rfl, p10, k10, B10⟩; have Q10 := zup Q9 B10; have R10 := B10; obtain ⟨lx10, ly10, lf10, lg10, lz10⟩ := JL.out.below Q10; have an10 : ¬ (w10.heap.size = w5.heap.size) := (by omega); have bn10 : ¬ (w5.heap.size = w10.heap.size) := (by omega); have cn10 : ¬ (w10.heap.size = (am'.add (k * 2)).block) := (by have := Q10.size; rw [add_block]; omega); have dn10 : ¬ ((am'.add (k * 2)).block = w10.heap.size) := (by have := Q10.size; rw [add_block]; omega); have e3a10 := (Q10.cell (p := am'.add (k * 2)) (by rw [add_block]; exact ham2)).trans e3a; have e3b10 := (Q10.cell (p := ⟨(am'.add (k * 2)).block, (am'.add (k * 2)).off + 1, none⟩) (by show (am'.add (k * 2)).block < _; rw [add_block]; exact ham2)).trans e3b)
                | (go_at_call 10; (with_reducible refine (zexact_yes ((p8.below R9).below (zba _ _)).zv (p9.below (zba _ _)).zv (by omega) (by omega) hG0 HQG.out).mono ?_); rintro e w10 ⟨s10, A10, n10', c10, rfl, p10, k10, B10⟩; have Q10 := zup (zup Q9 (zba _ _)) B10; have R10 := zup (zba w9 _) B10; have J10 := (Ib.new w9 false none 0 0 27).below B10; have g10 := Q9.size; obtain ⟨lx10, ly10, lf10, lg10, lz10⟩ := JL.out.below Q10; have an10 : ¬ (w10.heap.size = w5.heap.size) := (by omega); have bn10 : ¬ (w5.heap.size = w10.heap.size) := (by omega); have cn10 : ¬ (w10.heap.size = (am'.add (k * 2)).block) := (by have := Q10.size; rw [add_block]; omega); have dn10 : ¬ ((am'.add (k * 2)).block = w10.heap.size) := (by have := Q10.size; rw [add_block]; omega); have e3a10 := (Q10.cell (p := am'.add (k * 2)) (by rw [add_block]; exact ham2)).trans e3a; have e3b10 := (Q10.cell (p := ⟨(am'.add (k * 2)).block, (am'.add (k * 2)).off + 1, none⟩) (by show (am'.add (k * 2)).block < _; rw [add_block]; exact ham2)).trans e3b; have Jc10 := J10; obtain ⟨jx10, jy10, jf10, jg10, jz10⟩ := Jc10)
                | fail)
              all_goals
                first
                | have P := Lib.hid (VarCut.put (w0 := w7) (z := Q) (k := 40) J10 p10 Q10 g10 (by omega))
                | have P := Lib.hid (VarCut.new (w0 := w7) (z := Q) (k := 40) (t := 27) p10 Q10 (by omega))
                go_wp2_with fail
                go_meet
                exact ⟨P.out, rfl⟩
            case rest =>
              obtain ⟨⟨g11, s11, A11, n11, c11, rfl, hg11, I11, p11, k11, B11⟩, rfl⟩ := hcut
              obtain ⟨w11, hw11⟩ : ∃ x, x = wc := ⟨_, rfl⟩
              subst hw11
              have JL2 := JL.out.below B11
              have q1 : ¬ (w5.heap.size = g11) := by omega
              have q2 : ¬ (g11 = w5.heap.size) := by omega
              have P : Hid (AccRel M (k + 1) Q ∧ Ib (zput w11 w5.heap.size s11 A11 n11 c11) w5.heap.size s11 A11 n11 c11 ∧ Zc (zput w11 w5.heap.size s11 A11 n11 c11) s11 A11 n11 c11 Q ∧ Below w5.heap.size w5 (zput w11 w5.heap.size s11 A11 n11 c11)) := Lib.hid ⟨HAQ.out, JL2.own, p11.put JL2, below_put (zx.trans (B11.mono zx.size)) (Nat.le_refl _)⟩
              unfold zput at P
              obtain ⟨l1, l2, l3, l4, l5⟩ := JL2
              obtain ⟨j1, j2, j3, j4, j5⟩ := I11
              clear p11 B11 JL J1 J2 e3a e3b t3 pl
              go_wp2
              go_roundg (i - (k + 1))
              case measure => omega
              case rel => exact ⟨k + 1, Q, s11, A11, n11, c11, by omega, by go_num, P.out.1, P.out.2.1, P.out.2.2.1, P.out.2.2.2⟩
          · obtain rfl : k = i := by omega
            have hacc : acc = x.q := by
              have h1 := HA.out.last HNR.out HNM.out
              have h2 := HQ.out
              omega
            subst hacc
            obtain ⟨l1, l2, l3, l4, l5⟩ := IL
            obtain ⟨y1, y2, y3, y4, y5⟩ := I1.below zx
            obtain ⟨z1, z2, z3, z4, z5⟩ := I2.below zx
            have qm := pm.below zx
            have qx := px.below zx
            have B9 := B4.trans (zx.mono B4.size)
            go_wp2_with fail
            refine (zsame_v qm.zv pl.zv (by omega) (by omega) (b := true) (decide_eq_true rfl)).mono ?_
            rintro e w12 ⟨rfl, B12⟩
            obtain ⟨l1, l2, l3, l4, l5⟩ := Ib.below (n := ln) (c := lc) ⟨l1, l2, l3, l4, l5⟩ B12
            obtain ⟨y1, y2, y3, y4, y5⟩ := Ib.below (n := x.n) (c := x.c) ⟨y1, y2, y3, y4, y5⟩ B12
            obtain ⟨z1, z2, z3, z4, z5⟩ := Ib.below (n := x.m) (c := x.d) ⟨z1, z2, z3, z4, z5⟩ B12
            replace qm := qm.below B12
            replace qx := qx.below B12
            replace B9 := B9.trans (B12.mono B9.size)
            clear B12 pl
            go_wp2_with fail
            refine (rwithin_v qx.zv qm.zv (by omega) (by omega) o1 o2).mono ?_
            rintro e w13 ⟨rfl, B13⟩
            have P : Hid (TruePost w (.returned (.bool true)) w13) := Lib.hid ⟨rfl, B9.trans (B13.mono B9.size)⟩
            go_wp2
            go_ret
            exact P.out
      · have hb2 : bad = false := by
          cases bad
          · rfl
          · exact absurd (hlb.1 rfl) hbad
        subst hb2
        obtain rfl : ap = true := (hla rfl).2 hap
        rw [e1] at px
        rw [e2] at pm
        clear hlb hla hls hl hbad HOU or om hr hm
        obtain ⟨i1, i2, i3, i4, i5⟩ := I1
        obtain ⟨j1, j2, j3, j4, j5⟩ := I2
        go_wp2_with fail
        refine (zsign_v px.zv (by omega) (r := 0) rfl).mono ?_
        rintro e w5 ⟨rfl, B5⟩
        obtain ⟨i1, i2, i3, i4, i5⟩ := Ib.below (n := x.n) (c := x.c) ⟨i1, i2, i3, i4, i5⟩ B5
        obtain ⟨j1, j2, j3, j4, j5⟩ := Ib.below (n := x.m) (c := x.d) ⟨j1, j2, j3, j4, j5⟩ B5
        replace pm := pm.below B5
        replace B4 := B4.trans (B5.mono B4.size)
        clear B5
        go_wp2_with fail
        refine (zsign_v pm.zv (by omega) (r := 0) rfl).mono ?_
        rintro e w6 ⟨rfl, B6⟩
        have P : Hid (TruePost w (.returned (.bool true)) w6) := Lib.hid ⟨rfl, B4.trans (B6.mono B4.size)⟩
        go_wp2
        go_ret
        exact P.out
end Go.Proofs.YtbcopicoldnahaaGreat
