/-
  ZlL ZlU
-/
import Derived.Test.YtddbhhedjipjkaaGreatDoorPr29
import Derived.Test.YtddbhhedjipjkaaGreatDoorPr39
import Derived.Test.YtddbhhedjipjkaaGreatDoorPr38
import Derived.Test.YtddbhhedjipjkaaGreatDoorPr17

section
namespace Go.Proofs.YtddbhhedjipjkaaGreatDoor
open Go.RowKit
set_option linter.unusedVariables false
set_option linter.unusedSimpArgs false
def phi (K r x : Nat) : Nat := if x < r then (K + 1) * 8 ^ r else 6 * (K + 1) * 8 ^ x
theorem eight_pos (r : Nat) : 0 < 8 ^ r := Nat.pow_pos (by omega)
theorem phi_le (K r x : Nat) : K + 1 ≤ phi K r x := by
  unfold phi
  split
  · have := Nat.mul_le_mul_left (K + 1) (eight_pos r); omega
  · have := Nat.mul_le_mul_left (6 * (K + 1)) (eight_pos x); omega
theorem eight_big (d : Nat) : 2 * (d + 1) + 6 ≤ 8 ^ (d + 1) := by
  induction d with
  | zero => decide
  | succ d ih => rw [Nat.pow_succ]; omega
theorem phi_step {K r x x' : Nat} (h : x' < x) : phi (K + 2 + (r + 1 - x) * (2 * K + 1)) x x' ≤ phi K r x := by
  have e : phi (K + 2 + (r + 1 - x) * (2 * K + 1)) x x' = (K + 2 + (r + 1 - x) * (2 * K + 1) + 1) * 8 ^ x := by unfold phi; rw [if_pos h]
  rw [e]
  obtain ⟨m, hm⟩ : ∃ m, r + 1 - x = m := ⟨_, rfl⟩
  rw [hm]
  have h1 : K + 2 + m * (2 * K + 1) + 1 ≤ (2 * m + 4) * (K + 1) := by
    have : (2 * m + 4) * (K + 1) = m * (2 * K + 1) + (m + 4 * (K + 1)) := by
      rw [Nat.add_mul, Nat.mul_comm 2 m, Nat.mul_assoc, show 2 * (K + 1) = (2 * K + 1) + 1 by omega, Nat.mul_add]; omega
    omega
  refine Nat.le_trans (Nat.mul_le_mul_right _ h1) ?_
  unfold phi
  split
  · obtain ⟨d, hd⟩ : ∃ d, r = x + (d + 1) := ⟨r - x - 1, by omega⟩
    have h2 := eight_big d
    rw [hd, Nat.pow_add]
    have h3 : 2 * m + 4 ≤ 8 ^ (d + 1) := by omega
    calc (2 * m + 4) * (K + 1) * 8 ^ x ≤ 8 ^ (d + 1) * (K + 1) * 8 ^ x := Nat.mul_le_mul_right _ (Nat.mul_le_mul_right _ h3)
      _ = (K + 1) * (8 ^ x * 8 ^ (d + 1)) := by rw [Nat.mul_comm (8 ^ (d + 1)) (K + 1), Nat.mul_assoc, Nat.mul_comm (8 ^ (d + 1)) (8 ^ x)]
  · exact Nat.mul_le_mul_right _ (Nat.mul_le_mul_right _ (by omega))
theorem pm_sl {l : List Int} (h : Pm l) : slZ l = l.length := h.nz
theorem cmn_nil {a b : List Int} (h : Cmn a b []) : (∀ i, ith a i = 0) ∧ ∀ i, ith b i = 0 := by
  have key : ∀ l : List Int, (∀ d : List Int, cont d = 1 → Zdv (pv d) (pv l)) → ∀ i, ith l i = 0 := fun l hl => by
    refine nrz_nil_iff.1 (Decidable.byContradiction fun hne => ?_)
    have e3 : (shI l.length [1]).length = l.length + 1 := by simp [shI]
    have hc : cont (shI l.length [1]) = 1 := by
      have := cont_dvd (shI l.length [1]) l.length
      rw [ith_shI, if_neg (by omega), Nat.sub_self] at this
      exact Nat.dvd_one.1 this
    have hn : Nz' (shI l.length [1]) := nz_of (.inr (by
      rw [e3, ith_shI, if_neg (by omega), show l.length + 1 - 1 - l.length = 0 by omega]
      decide))
    have h1 := zdv_le hn (nz_nrz l) hne ((hl _ hc).congr fun x => pv_nrz l x)
    rw [e3, nrz_length] at h1
    have := slZ_le l
    omega
  have hz : ∀ d : List Int, Zdv (pv d) (pv []) := fun d => (Zdv.zero _).congr fun x => rfl
  exact ⟨key a fun d hd => ((h d hd).2 (hz d)).1, key b fun d hd => ((h d hd).2 (hz d)).2⟩
theorem il_small {xs : List Int} (h : ∀ x, x ∈ xs → -9223372036854775808 ≤ x ∧ x ≤ 9223372036854775807) (j : Nat) : -9223372036854775808 ≤ ith xs j ∧ ith xs j ≤ 9223372036854775807 := by
  by_cases hj : j < xs.length
  · have e : ith xs j = xs[j] := by simp [ith, List.getD, hj]
    rw [e]; exact h _ (List.getElem_mem hj)
  · rw [ith_ge (by omega)]; omega
theorem IL.new (w : World) (xs : List Int) (T : TypeId) (hs : ∀ j, -9223372036854775808 ≤ ith xs j ∧ ith xs j ≤ 9223372036854775807) (hl : xs.length ≤ 9223372036854775807) : IL (w.alloc (.cells (xs.map fun x => Value.int .i64 x).toArray T)) (some ⟨w.heap.size, 0, none⟩) xs.length xs.length xs :=
  ⟨rfl, Nat.le_refl _, hl, fun _ => ⟨_, rfl, by simp, fun j hj => by
    rw [add_lit0, cell_of_row _ _ j _ _ _ (heap_alloc_new w _), List.getElem?_toArray, List.getElem?_map]
    simp [ith, List.getD, hj]⟩, hs⟩
def CpPost (a b : List Int) (k : Nat) (w : World) (e : Ending) (w' : World) : Prop := ∃ G A n c, e = .returned (.slice A n c) ∧ ZL true w' A n c k G ∧ Pm G ∧ Cmn a b G ∧ n ≤ 549755813888 ∧ Below w.heap.size w w'
set_option maxRecDepth 100000 in
set_option maxHeartbeats 1000000 in
theorem zcommon_v {A A' : Option Addr} {n c n' c' k C : Nat} {zs zs' : List Int} {w : World} (hx : ZL true w A n c k zs) (hy : ZL true w A' n' c' k zs') (px : Pm zs) (py : Pm zs') (hC : phi k n n' ≤ C) (hCb : C ≤ 137438953472) (hn : n ≤ 549755813888) (hn' : n' ≤ 549755813888) (hT : TabHas w) :
    Calls Tryz.prog 64 #[.slice A n c, .slice A' n' c'] w (CpPost zs zs' C w) := by
  have HX0 := Lib.hid hx
  have HY0 := Lib.hid hy
  have PX := Lib.hid px
  have PY := Lib.hid py
  have hC1 : 1 ≤ C := by have := phi_le k n n'; omega
  have HC := Lib.hid hC
  have HH := Lib.hid (zhave_v hx hy px.nz hn hn' hT)
  clear hx hy px py hC hT
  go_enter Tryz.func64, Tryz.ntmps64
  go_wp2_with fail
  refine HH.out.mono ?_
  rintro e w1 ⟨t, rfl, ht, B1⟩
  have hW : Below w.heap.size w w1 := B1
  clear HH B1
  cases t
  · clear ht
    have HB : Hid (Below w.heap.size w w1 ∧ ∃ (R X : List Int) (K : Nat), ZL true w1 A n c K R ∧ ZL true w1 A' n' c' K X ∧ Pm R ∧ Pm X ∧ phi K n n' ≤ C ∧ n ≤ 549755813888 ∧ n' ≤ 549755813888 ∧ ∀ G, Cmn R X G → Cmn zs zs' G) := Lib.hid ⟨hW, zs, zs', k, HX0.out.below hW, HY0.out.below hW, PX.out, PY.out, HC.out, hn, hn', fun G h => h⟩
    clear hW HX0 HY0 PX PY HC
    go_wp2_with fail
    go_loopg [0, 1] n' (fun g s0 s1 wr => ∃ (A1 : Option Addr) (n1 c1 : Nat) (A2 : Option Addr) (n2 c2 : Nat), s0 = .slice A1 n1 c1 ∧ s1 = .slice A2 n2 c2 ∧ n2 = g ∧ Hid (Below w.heap.size w wr ∧ ∃ (R X : List Int) (K : Nat), ZL true wr A1 n1 c1 K R ∧ ZL true wr A2 n2 c2 K X ∧ Pm R ∧ Pm X ∧ phi K n1 n2 ≤ C ∧ n1 ≤ 549755813888 ∧ n2 ≤ 549755813888 ∧ ∀ G, Cmn R X G → Cmn zs zs' G))
    case atStart => exact ⟨_, _, _, _, _, _, rfl, rfl, rfl, HB⟩
    case round =>
      clear HB
      obtain ⟨A1, n1, c1, A2, n2, c2, rfl, rfl, rfl, HB⟩ := hrel
      obtain ⟨hW, R, X, K, hR, hX, pR, pX, hphi, hb1, hb2, hG⟩ := HB.out
      clear HB
      rcases Nat.eq_zero_or_pos n2 with h0 | h0
      · have hXn : X = [] := List.length_eq_zero_iff.1 (hX.len.trans h0)
        have hK : K ≤ C := by have := phi_le K n1 n2; omega
        have P : Hid (CpPost zs zs' C w (.returned (.slice A1 n1 c1)) wr) := Lib.hid ⟨R, A1, n1, c1, rfl, hR.mono hK, pR, hG R (by rw [hXn]; exact cmn_last R), hb1, hW⟩
        subst h0
        clear hXn hR hX pR pX hphi hG hW
        go_wp2_with fail
        exact bodyPost_ret (v := (.slice A1 n1 c1)) (by simp [results, Tryz.results64, go_sem]) rfl P.out
      · have hpos : (0 : Int) < (n2 : Int) := by omega
        have sR : slZ R = n1 := by rw [pm_sl pR, hR.len]
        have sX : slZ X = n2 := by rw [pm_sl pX, hX.len]
        obtain ⟨K', hK'⟩ : ∃ K', K + 2 + (n1 + 1 - n2) * (2 * K + 1) = K' := ⟨_, rfl⟩
        have hphi2 : ∀ x', x' < n2 → phi K' n2 x' ≤ C := fun x' hx' => by rw [← hK']; exact Nat.le_trans (phi_step hx') hphi
        have hK'C : K' + 1 ≤ C := by have h1 := phi_le K' n2 0; have h2 := hphi2 0 h0; omega
        have hKK' : K ≤ K' := by omega
        have hXne : nrz X ≠ [] := fun e => by have h1 := nrz_length X; rw [e, sX] at h1; simp at h1; omega
        have HG := Lib.hid hG
        have HXp := Lib.hid hX
        have HPX := Lib.hid pX
        have HNE := Lib.hid hXne
        have HPhi := Lib.hid hphi2
        have HPS := Lib.hid (zpseudo_v (KK := K') hR hX (by rw [sR, sX, hK']; exact Nat.le_refl _) (by omega) (by omega) (by omega) (by omega))
        have HSX := Lib.hid sX
        clear hR hX pR pX hG sR sX hK' hphi hphi2 hXne
        go_wp2_with fail
        refine HPS.out.mono ?_
        clear HPS
        rintro e w3 (⟨Q, R', A3, n3, c3, D3, m3, d3, rfl, hQ, hR', h9, -, hps, B3⟩ | ⟨rfl, h9, B3⟩)
        · replace hW := hW.trans (B3.mono hW.size)
          replace HXp := Lib.hid (HXp.out.below B3)
          have HPS := Lib.hid hps
          have hm3 : m3 < n2 := by have h1 := hps.short; rw [hR'.len, HSX.out] at h1; exact h1
          clear hQ B3 hps h9
          go_wp2_with fail
          refine (zprim_v hR' (by omega) (by omega)).mono ?_
          rintro e w4 ⟨A4, n4, c4, rfl, hp4, B4⟩
          replace hW := hW.trans (B4.mono hW.size)
          have h4 : n4 < n2 := by have h1 := hp4.len; rw [prim_length] at h1; have h2 := slZ_le R'; rw [hR'.len] at h2; omega
          have HRel : Hid (Below w.heap.size w w4 ∧ ∃ (R X : List Int) (K : Nat), ZL true w4 A2 n2 c2 K R ∧ ZL true w4 A4 n4 c4 K X ∧ Pm R ∧ Pm X ∧ phi K n2 n4 ≤ C ∧ n2 ≤ 549755813888 ∧ n4 ≤ 549755813888 ∧ ∀ G, Cmn R X G → Cmn zs zs' G) := Lib.hid ⟨hW, X, prim R', K', (HXp.out.below B4).mono hKK', hp4, HPX.out, pm_prim R', HPhi.out n4 h4, hb2, by omega, fun G h => HG.out G (cmn_step HNE.out HPS.out h)⟩
          clear hR' hp4 B4 hW HXp
          go_wp2_with fail
          go_roundg n4
          case measure => exact h4
          case rel => exact ⟨_, _, _, _, _, _, rfl, rfl, rfl, HRel⟩
        · exact absurd h9 (by rw [HSX.out]; omega)
  · have hcm := ht rfl
    have HCM := Lib.hid hcm
    clear ht hcm HX0 HY0 PX PY HC
    have H1 := Lib.hid (IL.new w1 [1] 2 (il_small (by intro x hx; simp at hx; omega)) (by decide))
    have HZ := Lib.hid (zba w1 (.cells #[.int .i64 1] 2))
    go_wp2_with fail
    refine (zpof_v H1.out (by decide)).mono ?_
    rintro e w3 ⟨A3, n3, c3, rfl, p3, B3⟩
    have hr : nrz [1] = [1] := nrz_of (nz_of (.inr (by decide)))
    rw [hr] at p3
    have hl3 : n3 = 1 := p3.len.symm
    have P : Hid (CpPost zs zs' C w (.returned (.slice A3 n3 c3)) w3) := Lib.hid ⟨[1], A3, n3, c3, rfl, p3.mono hC1, pm_one, HCM.out, by omega, hW.trans ((zup HZ.out B3).mono hW.size)⟩
    clear p3 hr B3 hW HZ H1 hl3
    go_wp2_with fail
    exact bodyPost_ret (v := (.slice A3 n3 c3)) (by simp [results, Tryz.results64, go_sem]) rfl P.out
def ZgPostG (a b : List Int) (k : Nat) (w : World) (e : Ending) (w' : World) : Prop := ∃ G A n c, e = .returned (.slice A n c) ∧ ZL true w' A n c k G ∧ GcZ a b G ∧ Below w.heap.size w w'
set_option maxRecDepth 100000 in
set_option maxHeartbeats 1000000 in
theorem zgcdp_v {q : Bool} {A : Option Addr} {n c k : Nat} {zs : List Int} {q' : Bool} {A' : Option Addr} {n' c' k' : Nat} {zs' : List Int} {C : Nat} {w : World} (hx : ZL q w A n c k zs) (hy : ZL q' w A' n' c' k' zs') (hC : ∀ x y, x ≤ n → y ≤ n' → phi (max k k') x y ≤ C) (hCb : C ≤ 137438953472) (hn : n ≤ 549755813888) (hn' : n' ≤ 549755813888) (hT : TabHas w) :
    Calls Tryz.prog 35 #[.slice A n c, .slice A' n' c'] w (ZgPostG zs zs' (max k k' + C) w) := by
  have HX0 := Lib.hid hx
  have HY0 := Lib.hid hy
  have hkC : max k k' + 1 ≤ C := by have := hC 0 0 (Nat.zero_le _) (Nat.zero_le _); have := phi_le (max k k') 0 0; omega
  have HC := Lib.hid hC
  have HT := Lib.hid hT
  have hk1 : k ≤ 137438953472 := by omega
  have hk2 : k' ≤ 137438953472 := by omega
  have L1 := slZ_le zs
  rw [hx.len] at L1
  have L2 := slZ_le zs'
  rw [hy.len] at L2
  have HP := Lib.hid (zprim_v hx hk1 (by omega))
  clear hx hy hC hT
  go_enter Tryz.func35, Tryz.ntmps35
  go_wp2_with fail
  refine HP.out.mono ?_
  clear HP
  rintro e w1 ⟨A1, n1, c1, rfl, p1, B1⟩
  have hW : Below w.heap.size w w1 := B1
  have hl1 : n1 ≤ n := by have := p1.len; rw [prim_length] at this; omega
  have HP1 := Lib.hid p1
  clear p1 B1
  go_wp2_with fail
  refine (zprim_v (HY0.out.below hW) hk2 (by omega)).mono ?_
  rintro e w2 ⟨A2, n2, c2, rfl, p2, B2⟩
  replace hW := hW.trans (B2.mono hW.size)
  have hl2 : n2 ≤ n' := by have := p2.len; rw [prim_length] at this; omega
  replace HP1 := Lib.hid (HP1.out.below B2)
  have HP2 := Lib.hid p2
  clear p2 B2
  go_wp2_with fail
  refine (zcommon_v (HP1.out.mono (k' := max k k') (by omega)) (HP2.out.mono (k' := max k k') (by omega)) (pm_prim _) (pm_prim _) (HC.out n1 n2 hl1 hl2) hCb (by omega) (by omega) (HT.out.below hW)).mono ?_
  rintro e w3 ⟨G, A3, n3, c3, rfl, p3, pG, hcm, h3, B3⟩
  replace hW := hW.trans (B3.mono hW.size)
  have HP3 := Lib.hid p3
  have HG := Lib.hid (gcz_cmn pG (cmn_prim hcm) (fun e => by rw [e] at hcm; exact cmn_nil (cmn_prim hcm)))
  clear HP1 HP2 p3 B3 pG hcm HC
  go_wp2_with fail
  refine (zcontent_v (HX0.out.below hW) hk1 (by omega)).mono ?_
  rintro e w4 ⟨s4, A4, n4, c4, rfl, p4, k4, B4⟩
  replace hW := hW.trans (B4.mono hW.size)
  replace HP3 := Lib.hid (HP3.out.below B4)
  have HP4 := Lib.hid p4
  clear p4 B4
  go_wp2_with fail
  refine (zcontent_v (HY0.out.below hW) hk2 (by omega)).mono ?_
  rintro e w5 ⟨s5, A5, n5, c5, rfl, p5, k5, B5⟩
  replace hW := hW.trans (B5.mono hW.size)
  replace HP3 := Lib.hid (HP3.out.below B5)
  replace HP4 := Lib.hid (HP4.out.below B5)
  have HP5 := Lib.hid p5
  clear p5 B5
  go_wp2_with fail
  refine (zgcd_v HP4.out.zv HP5.out.zv (by omega) (by omega) (G := (((cont zs).gcd (cont zs') : Nat) : Int)) (by rw [Int.natAbs_natCast, Int.natAbs_natCast])).mono ?_
  rintro e w6 ⟨s6, A6, n6, c6, rfl, p6, k6, B6⟩
  replace hW := hW.trans (B6.mono hW.size)
  replace HP3 := Lib.hid (HP3.out.below B6)
  have HP6 := Lib.hid p6
  clear p6 B6 HP4 HP5
  go_wp2_with fail
  refine (zscale_v HP3.out HP6.out.zv (by omega) (by omega) (by omega)).mono ?_
  rintro e w7 ⟨A7, n7, c7, rfl, p7, B7⟩
  replace hW := hW.trans (B7.mono hW.size)
  have P : Hid (ZgPostG zs zs' (max k k' + C) w (.returned (.slice A7 n7 c7)) w7) := Lib.hid ⟨_, A7, n7, c7, rfl, p7.mono (by omega), HG.out, hW⟩
  clear p7 B7 HP3 HP6
  go_wp2_with fail
  exact bodyPost_ret (v := .slice A7 n7 c7) (by simp [results, Tryz.results35, go_sem]) rfl P.out
end Go.Proofs.YtddbhhedjipjkaaGreatDoor
end

section
namespace Go.Proofs.YtddbhhedjipjkaaGreatDoor
open Go.RowKit
set_option linter.unusedVariables false
set_option linter.unusedSimpArgs false
theorem run_ixc0 {w : World} {ad : Addr} {n c : Nat} (h : 0 < n) : (Instr.indexAt 23 (.slice (some ad) n c) (.int .i64 0)).run Tryz.prog w = .ok (.pointer (some ad)) w := by
  have := run_ixP (w := w) (ad := ad) (c := c) (k := 0) h
  rw [Nat.zero_mul, addr_add0] at this
  exact this
theorem run_ixc1 {w : World} {ad : Addr} {n c : Nat} (h : 1 < n) : (Instr.indexAt 23 (.slice (some ad) n c) (.int .i64 1)).run Tryz.prog w = .ok (.pointer (some (ad.add 2))) w := by
  have := run_ixP (w := w) (ad := ad) (c := c) (k := 1) h
  rw [Nat.one_mul] at this
  exact this
theorem awake_gcz : GcZ (nrz [-6, 0, 6]) (nrz [4, 4]) [2, 2] := by
  have e1 : nrz [-6, 0, 6] = [-6, 0, 6] := nrz_of (nz_of (.inr (by decide)))
  have e2 : nrz [4, 4] = [4, 4] := nrz_of (nz_of (.inr (by decide)))
  rw [e1, e2]
  have hc : Cmn [-6, 0, 6] [4, 4] [1, 1] := fun d hd => by
    constructor
    · rintro ⟨-, h⟩
      exact zdv_of_mul hd (m := 4) (by decide) (h.congr fun x => by simp only [pv]; grind)
    · intro h
      exact ⟨(h.mul (k := fun x => -6 + 6 * x) ((ply_c _).add (ply_x.scale 6))).congr fun x => by simp only [pv]; grind, (h.mul (ply_c 4)).congr fun x => by simp only [pv]; grind⟩
  have h := gcz_cmn (.inr ⟨by decide, nz_of (.inr (by decide)), by decide⟩) hc (fun e => nomatch e)
  have e3 : nrz (mulC (((cont [-6, 0, 6]).gcd (cont [4, 4]) : Nat) : Int) [1, 1]) = [2, 2] := by
    have : (cont [-6, 0, 6]).gcd (cont [4, 4]) = 2 := by decide
    rw [this]
    exact nrz_of (l := [2, 2]) (nz_of (.inr (by decide)))
  rwa [e3] at h
set_option maxRecDepth 100000 in
set_option maxHeartbeats 1000000 in
theorem awake10_v {w : World} (hT : TabHas w) : Calls Tryz.prog 9 #[] w (TruePost w) := by
  have H1 := Lib.hid (IL.new w [-6, 0, 6] 2 (il_small (by intro x hx; simp at hx; omega)) (by decide))
  have hza : Below w.heap.size w (w.alloc (.cells #[.int .i64 (-6), .int .i64 0, .int .i64 6] 2)) := zba _ _
  have HZA := Lib.hid hza
  have HT := Lib.hid hT
  have hph : ∀ x y, x ≤ 3 → y ≤ 2 → phi (max 1 1) x y ≤ 100000 := fun x y hx hy => by
    have h8 : ∀ a, a ≤ 3 → 8 ^ a ≤ 512 := fun a ha => by
      have : a = 0 ∨ a = 1 ∨ a = 2 ∨ a = 3 := by omega
      rcases this with rfl | rfl | rfl | rfl <;> decide
    have h1 := h8 x hx
    have h2 := h8 y (by omega)
    unfold phi
    split <;> (rw [show max 1 1 = 1 from rfl]; omega)
  have HPh := Lib.hid hph
  clear hT hza hph
  go_enter Tryz.func9, Tryz.ntmps9
  go_wp2_with fail
  refine (zpof_v H1.out (by decide)).mono ?_
  rintro e w1 ⟨A1, n1, c1, rfl, p1, B1⟩
  have hW : Below w.heap.size w w1 := HZA.out.trans (B1.mono HZA.out.size)
  have HP1 := Lib.hid p1
  have H2 := Lib.hid (IL.new w1 [4, 4] 2 (il_small (by intro x hx; simp at hx; omega)) (by decide))
  have hzb : Below w1.heap.size w1 (w1.alloc (.cells #[.int .i64 4, .int .i64 4] 2)) := zba _ _
  have HZB := Lib.hid hzb
  clear p1 B1 H1 HZA hzb
  go_wp2_with fail
  refine (zpof_v H2.out (by decide)).mono ?_
  rintro e w2 ⟨A2, n2, c2, rfl, p2, B2⟩
  replace HP1 := Lib.hid ((HP1.out.below HZB.out).below B2)
  replace hW := hW.trans ((zup HZB.out B2).mono hW.size)
  have HP2 := Lib.hid p2
  clear p2 B2 H2 HZB
  have s1 : n1 ≤ 3 := by have h1 := HP1.out.len; rw [nrz_length] at h1; have := slZ_le [-6, 0, 6]; simp at this; omega
  have s2 : n2 ≤ 2 := by have h1 := HP2.out.len; rw [nrz_length] at h1; have := slZ_le [4, 4]; simp at this; omega
  go_wp2_with fail
  refine (zgcdp_v (C := 100000) HP1.out HP2.out (fun x y hx hy => HPh.out x y (by omega) (by omega)) (by omega) (by omega) (by omega) (HT.out.below hW)).mono ?_
  rintro e wa ⟨G, A3, n3, c3, rfl, p3, hG, B3⟩
  replace hW := hW.trans (B3.mono hW.size)
  have hG2 : G = [2, 2] := hG.uniq awake_gcz
  rw [hG2] at p3
  have h3 : 2 = n3 := p3.len
  have hlt0 : 0 < n3 := by omega
  have hlt1 : 1 < n3 := by omega
  obtain ⟨ad, rfl, hab, s, A', m, d, x1, x2, ze, hm⟩ := p3.at (j := 0) hlt0
  obtain ⟨ad2, e2, -, s', A'', m', d', y1, y2, ze', hm'⟩ := p3.at (j := 1) hlt1
  cases e2
  rw [show ith [2, 2] 0 = 2 from rfl] at ze
  rw [show ith [2, 2] 1 = 2 from rfl] at ze'
  rw [Nat.zero_mul, addr_add0] at x1 x2
  rw [Nat.one_mul] at y1 y2
  have hv := ze.1
  have hv' := ze'.1
  have h3i : Hid (n3 = 2) := Lib.hid h3.symm
  clear p3 hG B3 HP1 HP2 ze ze' h3
  go_wp2_with fail
  refine region8 [] 25 [IsK (.slice (some ad) n3 c3), IsK (.int .i64 (n3 : Int)), IsK (.bool true), IsK (.bool true), IsK (.slice (some ad) n3 c3), IsK (.pointer (some ad)), IsK (.agg #[.bool s, .slice A' m d]), IsC 2 1, IsK (.bool true), IsK (.bool true), IsK (.bool true), IsK (.slice (some ad) n3 c3), IsK (.pointer (some (ad.add 2))), IsK (.agg #[.bool s', .slice A'' m' d']), IsC 2 1, IsK (.bool true), IsK (.bool true), IsK (.bool true), IsK (.slice (some ad) n3 c3), IsK (.pointer (some ad)), IsK (.agg #[.bool s, .slice A' m d]), IsK (.int .i64 1), IsK (.bool true), IsK (.bool true), IsK (.bool true)] (fun _ _ d _ _ h => by cases d <;> exact h) (by kernel_rfl) (by kernel_rfl) (by kernel_rfl) ⟨stay_k _, stay_k _, stay_k _, stay_k _, stay_k _, stay_k _, stay_k _, stay_c _ _, stay_k _, stay_k _, stay_k _, stay_k _, stay_k _, stay_k _, stay_c _ _, stay_k _, stay_k _, stay_k _, stay_k _, stay_k _, stay_k _, stay_k _, stay_k _, stay_k _, stay_k _, trivial⟩ ?_ ?_
  · refine HopAll.cons rfl ?_ (HopAll.cons rfl ?_ (HopAll.cons rfl ?_ (HopAll.cons rfl ?_ (HopAll.cons rfl ?_ (HopAll.cons rfl ?_ (HopAll.cons rfl ?_ (HopAll.cons rfl ?_ (HopAll.cons rfl ?_ (HopAll.cons rfl ?_ (HopAll.cons rfl ?_ (HopAll.cons rfl ?_ (HopAll.cons rfl ?_ (HopAll.cons rfl ?_ (HopAll.cons rfl ?_ (HopAll.cons rfl ?_ (HopAll.cons rfl ?_ (HopAll.cons rfl ?_ (HopAll.cons rfl ?_ (HopAll.cons rfl ?_ (HopAll.cons rfl ?_ (HopAll.cons rfl ?_ (HopAll.cons rfl ?_ (HopAll.cons rfl ?_ (HopAll.cons rfl ?_ HopAll.nil))))))))))))))))))))))))
    · intro a w1 hB ho hp Kq hKq
      have e1 : a.eval (.tmp 1) = (.slice (some ad) n3 c3) := ho 1 (by kernel_rfl)
      refine hop_val (wanted_none rfl) ?_ (hKq (.slice (some ad) n3 c3) _ rfl (Below.refl _ _))
      unfold execOp; simp only [eval_const, e1]; simp [go_sem]
    · intro a w1 hB ho hp Kq hKq
      have e7 : a.eval (.tmp 7) = (.slice (some ad) n3 c3) := hp 0 7 (by kernel_rfl)
      refine hop_val (wanted_none rfl) ?_ (hKq (.int .i64 (n3 : Int)) _ rfl (Below.refl _ _))
      unfold execOp; simp only [eval_const, resolve, Option.map_some, Option.map_none, List.map_toArray, List.map_cons, List.map_nil, e7]; simp [go_sem]
    · intro a w1 hB ho hp Kq hKq
      have e8 : a.eval (.tmp 8) = (.int .i64 (n3 : Int)) := hp 1 8 (by kernel_rfl)
      refine hop_val (wanted_none rfl) ?_ (hKq (.bool true) _ rfl (Below.refl _ _))
      unfold execOp; simp only [eval_const, e8]; simp [go_sem, h3i.out]
    · intro a w1 hB ho hp Kq hKq
      have e9 : a.eval (.tmp 9) = (.bool true) := hp 2 9 (by kernel_rfl)
      refine hop_val (wanted_none rfl) ?_ (hKq (.bool true) _ rfl (Below.refl _ _))
      unfold execOp; simp only [eval_const, e9]; simp [go_sem]
    · intro a w1 hB ho hp Kq hKq
      have e1 : a.eval (.tmp 1) = (.slice (some ad) n3 c3) := ho 1 (by kernel_rfl)
      refine hop_val (wanted_at rfl (j := 3) (d := 10) (b := true) (by kernel_rfl) (hp 3 10 (by kernel_rfl))) ?_ (hKq (.slice (some ad) n3 c3) _ rfl (Below.refl _ _))
      unfold execOp; simp only [eval_const, e1]; simp [go_sem]
    · intro a w1 hB ho hp Kq hKq
      have e11 : a.eval (.tmp 11) = (.slice (some ad) n3 c3) := hp 4 11 (by kernel_rfl)
      refine hop_val (wanted_at rfl (j := 3) (d := 10) (b := true) (by kernel_rfl) (hp 3 10 (by kernel_rfl))) ?_ (hKq (.pointer (some ad)) _ rfl (Below.refl _ _))
      unfold execOp; simp only [eval_const, Option.map_some, Option.map_none, e11]; simp [run_ixc0 hlt0]
    · intro a w1 hB ho hp Kq hKq
      have e12 : a.eval (.tmp 12) = (.pointer (some ad)) := hp 5 12 (by kernel_rfl)
      exact hop_load (wanted_at rfl (j := 3) (d := 10) (b := true) (by kernel_rfl) (hp 3 10 (by kernel_rfl))) rfl e12 (run_ldzA ((hB.cell (p := ad) hab).trans x1) ((hB.cell (p := ⟨ad.block, ad.off + 1, none⟩) hab).trans x2)) (hKq _ _ rfl (Below.refl _ _))
    · intro a w1 hB ho hp Kq hKq
      refine hop_call (wanted_at rfl (j := 3) (d := 10) (b := true) (by kernel_rfl) (hp 3 10 (by kernel_rfl))) rfl (args := #[.int .i64 (2)]) (by simp only [List.map_toArray, List.map_cons, List.map_nil, eval_const]) (ent7 (by kernel_rfl) _ _) (zof_v 2 (by omega) (by omega) _) ?_
      rintro e w2 ⟨sq, Aq, nq, cq, rfl, pq, kq, Bq⟩
      exact ⟨_, rfl, hKq _ _ ⟨sq, Aq, nq, cq, rfl, pq, by omega⟩ Bq⟩
    · intro a w1 hB ho hp Kq hKq
      have e13 : a.eval (.tmp 13) = (.agg #[.bool s, .slice A' m d]) := hp 6 13 (by kernel_rfl)
      obtain ⟨s_14, A_14, n_14, c_14, e14, ⟨p14, k14⟩⟩ : IsC 2 1 (a.eval (.tmp 14)) w1 := hp 7 14 (by kernel_rfl)
      refine hop_call (wanted_at rfl (j := 3) (d := 10) (b := true) (by kernel_rfl) (hp 3 10 (by kernel_rfl))) rfl (args := #[(.agg #[.bool s, .slice A' m d]), (.agg #[.bool s_14, .slice A_14 n_14 c_14])]) (by simp only [List.map_toArray, List.map_cons, List.map_nil, eval_const, e13, e14]) (ent7 (by kernel_rfl) _ _) (zsame_yes (hv.below hB) p14.zv (by omega) (by omega) rfl) ?_
      rintro e w2 ⟨rfl, Bq⟩
      exact ⟨_, rfl, hKq _ _ rfl Bq⟩
    · intro a w1 hB ho hp Kq hKq
      have e10 : a.eval (.tmp 10) = (.bool true) := hp 3 10 (by kernel_rfl)
      have e15 : a.eval (.tmp 15) = (.bool true) := hp 8 15 (by kernel_rfl)
      refine hop_val (wanted_none rfl) ?_ (hKq (.bool true) _ rfl (Below.refl _ _))
      unfold execOp; simp only [eval_const, e10, e15]; simp [go_sem]
    · intro a w1 hB ho hp Kq hKq
      have e16 : a.eval (.tmp 16) = (.bool true) := hp 9 16 (by kernel_rfl)
      refine hop_val (wanted_none rfl) ?_ (hKq (.bool true) _ rfl (Below.refl _ _))
      unfold execOp; simp only [eval_const, e16]; simp [go_sem]
    · intro a w1 hB ho hp Kq hKq
      have e1 : a.eval (.tmp 1) = (.slice (some ad) n3 c3) := ho 1 (by kernel_rfl)
      refine hop_val (wanted_at rfl (j := 10) (d := 17) (b := true) (by kernel_rfl) (hp 10 17 (by kernel_rfl))) ?_ (hKq (.slice (some ad) n3 c3) _ rfl (Below.refl _ _))
      unfold execOp; simp only [eval_const, e1]; simp [go_sem]
    · intro a w1 hB ho hp Kq hKq
      have e18 : a.eval (.tmp 18) = (.slice (some ad) n3 c3) := hp 11 18 (by kernel_rfl)
      refine hop_val (wanted_at rfl (j := 10) (d := 17) (b := true) (by kernel_rfl) (hp 10 17 (by kernel_rfl))) ?_ (hKq (.pointer (some (ad.add 2))) _ rfl (Below.refl _ _))
      unfold execOp; simp only [eval_const, Option.map_some, Option.map_none, e18]; simp [run_ixc1 hlt1]
    · intro a w1 hB ho hp Kq hKq
      have e19 : a.eval (.tmp 19) = (.pointer (some (ad.add 2))) := hp 12 19 (by kernel_rfl)
      exact hop_load (wanted_at rfl (j := 10) (d := 17) (b := true) (by kernel_rfl) (hp 10 17 (by kernel_rfl))) rfl e19 (run_ldzA ((hB.cell (p := ad.add 2) (by rw [add_block]; exact hab)).trans y1) ((hB.cell (p := ⟨(ad.add 2).block, (ad.add 2).off + 1, none⟩) (by show (ad.add 2).block < _; rw [add_block]; exact hab)).trans y2)) (hKq _ _ rfl (Below.refl _ _))
    · intro a w1 hB ho hp Kq hKq
      refine hop_call (wanted_at rfl (j := 10) (d := 17) (b := true) (by kernel_rfl) (hp 10 17 (by kernel_rfl))) rfl (args := #[.int .i64 (2)]) (by simp only [List.map_toArray, List.map_cons, List.map_nil, eval_const]) (ent7 (by kernel_rfl) _ _) (zof_v 2 (by omega) (by omega) _) ?_
      rintro e w2 ⟨sq, Aq, nq, cq, rfl, pq, kq, Bq⟩
      exact ⟨_, rfl, hKq _ _ ⟨sq, Aq, nq, cq, rfl, pq, by omega⟩ Bq⟩
    · intro a w1 hB ho hp Kq hKq
      have e20 : a.eval (.tmp 20) = (.agg #[.bool s', .slice A'' m' d']) := hp 13 20 (by kernel_rfl)
      obtain ⟨s_21, A_21, n_21, c_21, e21, ⟨p21, k21⟩⟩ : IsC 2 1 (a.eval (.tmp 21)) w1 := hp 14 21 (by kernel_rfl)
      refine hop_call (wanted_at rfl (j := 10) (d := 17) (b := true) (by kernel_rfl) (hp 10 17 (by kernel_rfl))) rfl (args := #[(.agg #[.bool s', .slice A'' m' d']), (.agg #[.bool s_21, .slice A_21 n_21 c_21])]) (by simp only [List.map_toArray, List.map_cons, List.map_nil, eval_const, e20, e21]) (ent7 (by kernel_rfl) _ _) (zsame_yes (hv'.below hB) p21.zv (by omega) (by omega) rfl) ?_
      rintro e w2 ⟨rfl, Bq⟩
      exact ⟨_, rfl, hKq _ _ rfl Bq⟩
    · intro a w1 hB ho hp Kq hKq
      have e17 : a.eval (.tmp 17) = (.bool true) := hp 10 17 (by kernel_rfl)
      have e22 : a.eval (.tmp 22) = (.bool true) := hp 15 22 (by kernel_rfl)
      refine hop_val (wanted_none rfl) ?_ (hKq (.bool true) _ rfl (Below.refl _ _))
      unfold execOp; simp only [eval_const, e17, e22]; simp [go_sem]
    · intro a w1 hB ho hp Kq hKq
      have e23 : a.eval (.tmp 23) = (.bool true) := hp 16 23 (by kernel_rfl)
      refine hop_val (wanted_none rfl) ?_ (hKq (.bool true) _ rfl (Below.refl _ _))
      unfold execOp; simp only [eval_const, e23]; simp [go_sem]
    · intro a w1 hB ho hp Kq hKq
      have e1 : a.eval (.tmp 1) = (.slice (some ad) n3 c3) := ho 1 (by kernel_rfl)
      refine hop_val (wanted_at rfl (j := 17) (d := 24) (b := true) (by kernel_rfl) (hp 17 24 (by kernel_rfl))) ?_ (hKq (.slice (some ad) n3 c3) _ rfl (Below.refl _ _))
      unfold execOp; simp only [eval_const, e1]; simp [go_sem]
    · intro a w1 hB ho hp Kq hKq
      have e25 : a.eval (.tmp 25) = (.slice (some ad) n3 c3) := hp 18 25 (by kernel_rfl)
      refine hop_val (wanted_at rfl (j := 17) (d := 24) (b := true) (by kernel_rfl) (hp 17 24 (by kernel_rfl))) ?_ (hKq (.pointer (some ad)) _ rfl (Below.refl _ _))
      unfold execOp; simp only [eval_const, Option.map_some, Option.map_none, e25]; simp [run_ixc0 hlt0]
    · intro a w1 hB ho hp Kq hKq
      have e26 : a.eval (.tmp 26) = (.pointer (some ad)) := hp 19 26 (by kernel_rfl)
      exact hop_load (wanted_at rfl (j := 17) (d := 24) (b := true) (by kernel_rfl) (hp 17 24 (by kernel_rfl))) rfl e26 (run_ldzA ((hB.cell (p := ad) hab).trans x1) ((hB.cell (p := ⟨ad.block, ad.off + 1, none⟩) hab).trans x2)) (hKq _ _ rfl (Below.refl _ _))
    · intro a w1 hB ho hp Kq hKq
      have e27 : a.eval (.tmp 27) = (.agg #[.bool s, .slice A' m d]) := hp 20 27 (by kernel_rfl)
      refine hop_call (wanted_at rfl (j := 17) (d := 24) (b := true) (by kernel_rfl) (hp 17 24 (by kernel_rfl))) rfl (args := #[(.agg #[.bool s, .slice A' m d])]) (by simp only [List.map_toArray, List.map_cons, List.map_nil, eval_const, e27]) (ent7 (by kernel_rfl) _ _) (zsign_v (hv.below hB) (by omega) (show (2 : Int).sign = 1 by rfl)) ?_
      rintro e w2 ⟨rfl, Bq⟩
      exact ⟨_, rfl, hKq _ _ rfl Bq⟩
    · intro a w1 hB ho hp Kq hKq
      have e28 : a.eval (.tmp 28) = (.int .i64 1) := hp 21 28 (by kernel_rfl)
      refine hop_val (wanted_at rfl (j := 17) (d := 24) (b := true) (by kernel_rfl) (hp 17 24 (by kernel_rfl))) ?_ (hKq (.bool true) _ rfl (Below.refl _ _))
      unfold execOp; simp only [eval_const, e28]; simp [go_sem]
    · intro a w1 hB ho hp Kq hKq
      have e24 : a.eval (.tmp 24) = (.bool true) := hp 17 24 (by kernel_rfl)
      have e29 : a.eval (.tmp 29) = (.bool true) := hp 22 29 (by kernel_rfl)
      refine hop_val (wanted_none rfl) ?_ (hKq (.bool true) _ rfl (Below.refl _ _))
      unfold execOp; simp only [eval_const, e24, e29]; simp [go_sem]
    · intro a w1 hB ho hp Kq hKq
      have e30 : a.eval (.tmp 30) = (.bool true) := hp 23 30 (by kernel_rfl)
      refine hop_val (wanted_none rfl) ?_ (hKq (.bool true) _ rfl (Below.refl _ _))
      unfold execOp; simp only [eval_const, e30]; simp [go_sem]
  intro w21 B21
  refine EndAll.one rfl fun vv hv => ?_
  obtain rfl : vv = (.slice (some ad) n3 c3) := hv
  refine EndAll.one rfl fun vv hv => ?_
  obtain rfl : vv = (.int .i64 (n3 : Int)) := hv
  refine EndAll.one rfl fun vv hv => ?_
  obtain rfl : vv = (.bool true) := hv
  refine EndAll.one rfl fun vv hv => ?_
  obtain rfl : vv = (.bool true) := hv
  refine EndAll.one rfl fun vv hv => ?_
  obtain rfl : vv = (.slice (some ad) n3 c3) := hv
  refine EndAll.one rfl fun vv hv => ?_
  obtain rfl : vv = (.pointer (some ad)) := hv
  refine EndAll.one rfl fun vv hv => ?_
  obtain rfl : vv = (.agg #[.bool s, .slice A' m d]) := hv
  refine EndAll.one rfl fun vv hv => ?_
  obtain ⟨s22, A22, n22, c22, rfl, ⟨p22, k22⟩⟩ : IsC 2 1 vv w21 := hv
  refine EndAll.one rfl fun vv hv => ?_
  obtain rfl : vv = (.bool true) := hv
  refine EndAll.one rfl fun vv hv => ?_
  obtain rfl : vv = (.bool true) := hv
  refine EndAll.one rfl fun vv hv => ?_
  obtain rfl : vv = (.bool true) := hv
  refine EndAll.one rfl fun vv hv => ?_
  obtain rfl : vv = (.slice (some ad) n3 c3) := hv
  refine EndAll.one rfl fun vv hv => ?_
  obtain rfl : vv = (.pointer (some (ad.add 2))) := hv
  refine EndAll.one rfl fun vv hv => ?_
  obtain rfl : vv = (.agg #[.bool s', .slice A'' m' d']) := hv
  refine EndAll.one rfl fun vv hv => ?_
  obtain ⟨s23, A23, n23, c23, rfl, ⟨p23, k23⟩⟩ : IsC 2 1 vv w21 := hv
  refine EndAll.one rfl fun vv hv => ?_
  obtain rfl : vv = (.bool true) := hv
  refine EndAll.one rfl fun vv hv => ?_
  obtain rfl : vv = (.bool true) := hv
  refine EndAll.one rfl fun vv hv => ?_
  obtain rfl : vv = (.bool true) := hv
  refine EndAll.one rfl fun vv hv => ?_
  obtain rfl : vv = (.slice (some ad) n3 c3) := hv
  refine EndAll.one rfl fun vv hv => ?_
  obtain rfl : vv = (.pointer (some ad)) := hv
  refine EndAll.one rfl fun vv hv => ?_
  obtain rfl : vv = (.agg #[.bool s, .slice A' m d]) := hv
  refine EndAll.one rfl fun vv hv => ?_
  obtain rfl : vv = (.int .i64 1) := hv
  refine EndAll.one rfl fun vv hv => ?_
  obtain rfl : vv = (.bool true) := hv
  refine EndAll.one rfl fun vv hv => ?_
  obtain rfl : vv = (.bool true) := hv
  refine EndAll.one rfl fun vv hv => ?_
  obtain rfl : vv = (.bool true) := hv
  refine EndAll.nil (l := []) rfl ?_
  simp only [Act.put, List.setIfInBounds_toArray, List.set_cons_zero, List.set_cons_succ]
  replace hv := hv.below B21
  replace hv' := hv'.below B21
  replace hW := hW.trans (B21.mono hW.size)
  clear p22 p23
  clear B21
  go_wp2_with fail
  exact bodyPost_ret (v := .bool true) (by simp [results, Tryz.results9, go_sem]) rfl ⟨rfl, hW⟩
end Go.Proofs.YtddbhhedjipjkaaGreatDoor
end
