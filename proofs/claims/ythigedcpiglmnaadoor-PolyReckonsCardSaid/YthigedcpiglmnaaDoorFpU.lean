/-
  The reference of layer 9: Neg, Eval; what PolyReckons asks.
-/
import Derived.Test.YthigedcpiglmnaaDoorFpT
import Derived.Test.YthigedcpiglmnaaDoorFpV
/-! The reference's negative and value. -/
namespace Go.Proofs.YthigedcpiglmnaaDoor
open Go.RowKit
set_option linter.unusedVariables false
set_option linter.unusedSimpArgs false

/-- The negatives of the first k places. -/
def ngl (p : Nat) (xs : List Nat) (k : Nat) : List Nat := (List.range k).map fun j => (p - nth xs j % p) % p
theorem ngl_succ (p : Nat) (xs : List Nat) (k : Nat) : ngl p xs (k + 1) = ngl p xs k ++ [(p - nth xs k % p) % p] := by simp [ngl, List.range_succ]
theorem ngl_len (p : Nat) (xs : List Nat) (k : Nat) : (ngl p xs k).length = k := by simp [ngl]
theorem nth_ngl {p : Nat} {xs : List Nat} {k j : Nat} (h : j < k) : nth (ngl p xs k) j = (p - nth xs j % p) % p := by
  simp [ngl, nth, List.getD, h]
theorem ngl_low {p : Nat} (hp : 0 < p) (h : p < 2147483648) (xs : List Nat) (k : Nat) : Low 18446744073709551616 (ngl p xs k) := Low.of_any fun j => by
  by_cases hj : j < k
  · rw [nth_ngl hj]; have := Nat.mod_lt (p - nth xs j % p) hp; omega
  · rw [nth_ge (by rw [ngl_len]; omega)]; omega
theorem ngl_eqm {p : Nat} (hp : 0 < p) (xs : List Nat) : Eqm p (pe (nrm p (ngl p xs xs.length))) (fun x => - pe xs x) := by
  have e : Eqm p (pe (addl (ngl p xs xs.length) xs)) (pe []) := eqm_iff.2 fun i => by
    rw [nth_addl, nth_nil]
    by_cases h : i < xs.length
    · rw [nth_ngl h, Nat.mod_add_mod]
      have h1 := Nat.mod_lt (nth xs i) hp
      rw [Nat.add_mod, Nat.mod_eq_zero_of_dvd (show p ∣ 0 from ⟨0, rfl⟩)]
      rcases Nat.eq_zero_or_pos (nth xs i % p) with h2 | h2
      · rw [h2, Nat.sub_zero, Nat.mod_self]; simp
      · rw [Nat.mod_eq_of_lt (show p - nth xs i % p < p by omega), show p - nth xs i % p + nth xs i % p = p by omega, Nat.mod_self]
    · rw [nth_ge (by rw [ngl_len]; omega), nth_ge (by omega)]
  refine (eqm_nrm p _).trans ?_
  exact ((e.sub (Eqm.refl p (pe xs))).by fun x => by rw [pe_addl]; grind).to fun x => by rw [pe_nil]; grind
theorem mod_tail9 (a X q p : Nat) : (a + q * X) % p = (a + X * (q % p) % p) % p := by
  rw [Nat.add_mod_mod, Nat.add_mod, Nat.add_mod a (X * (q % p)), Nat.mul_mod_mod, Nat.mul_comm]
theorem pe_ev (c : Nat) (xs : List Nat) : pe xs (c : Int) = (ev c xs : Int) := by
  induction xs with
  | nil => rfl
  | cons a t ih => rw [pe_cons, ih, show ev c (a :: t) = a + c * ev c t from rfl]; simp
theorem ev_nrm9 (p c : Nat) (xs : List Nat) : ev c (nrm p xs) % p = ev c xs % p := by
  obtain ⟨k, hk, e⟩ := eqm_nrm p xs
  have := e (c : Int)
  rw [pe_ev, pe_ev] at this
  exact dvd_sub_nat.1 ⟨k c, by omega⟩
theorem sub_eq9 {p : Nat} (hp : 0 < p) (xs ys : List Nat) : amul p xs ys (p - 1) = nrm p (addl (nrm p xs) (nrm p (ngl p (nrm p ys) (nrm p ys).length))) := by
  refine uniq hp (nm_amul hp _ _ _) (nm_nrm hp _) ((eqm_amul_sub hp xs ys).trans (Eqm.symm ?_))
  have e2 := (ngl_eqm hp (nrm p ys)).trans (eqm_nrm p ys).neg
  exact (eqm_nrm p _).trans ((((eqm_nrm p xs).add e2).by fun x => pe_addl _ _ x).to fun x => by grind)
theorem scale_eq9 {p : Nat} (hp : 0 < p) (xs : List Nat) (c : Nat) : amul p [] xs c = mulp p (nrm p xs) [c % p] := by
  refine uniq hp (nm_amul hp _ _ _) (nm_mulp hp _ _) ((eqm_scale p xs c).trans (Eqm.symm ?_))
  have e1 : Eqm p (pe [c % p]) (fun _ => (c : Int)) := (Eqm.of fun x => by rw [pe_cons, pe_nil]; simp).trans (eqm_const (m := c % p) (n := c) (Nat.mod_mod _ _))
  exact (eqm_mulp p _ _).trans (((eqm_nrm p xs).mul e1 (ply_pe xs) (ply_pe _)).to fun x => by grind)
theorem add_eq9 {p : Nat} (hp : 0 < p) (xs ys : List Nat) : amul p xs ys 1 = nrm p (addl (nrm p xs) (nrm p ys)) := by
  refine uniq hp (nm_amul hp _ _ _) (nm_nrm hp _) ((eqm_amul p xs ys 1).trans (Eqm.symm ?_))
  exact (eqm_nrm p _).trans ((((eqm_nrm p xs).add (eqm_nrm p ys)).by fun x => pe_addl _ _ x).to fun x => by grind)
set_option maxRecDepth 100000 in
set_option maxHeartbeats 1000000 in
/-- The reference's Neg. -/
theorem rneg9_v {n c p : Nat} {A : Option Addr} {xs : List Nat} {w : World} (h2 : 2 ≤ p) (h : p < 2147483648) (hx : Lv w A n c xs) (hn : n ≤ 1099511627776) :
    Calls Tryd.prog 23 #[.slice A n c, .int .u64 (p : Int)] w (LPost (nrm p (ngl p xs xs.length)) w) := by
  have HN := Lib.hid hx.len
  have HX0 := Lib.hid hx
  clear hx
  go_enter Tryd.func23, Tryd.ntmps23
  go_wp2_with fail
  go_loopw [5, 6] (fun v i wr => ∃ k : Nat, k ≤ n ∧ i = .int .i64 (k : Int) ∧ OwnV w wr 26 .u64 v (ngl p xs k)) (fun _ i _ => n - (intOf i).toNat)
  case atStart => exact ⟨0, Nat.zero_le _, rfl, OwnV.nil _ _ _⟩
  case round =>
    obtain ⟨k, hk, rfl, ho⟩ := hrel
    by_cases hlt : k < n
    · obtain ⟨ad, rfl, _, hcell⟩ := (HX0.out.below ho.2).at (k := k) hlt
      obtain ⟨X, hX⟩ : ∃ X, nth xs k = X := ⟨_, rfl⟩
      rw [hX] at hcell
      obtain ⟨R, hR⟩ : ∃ R, X % p = R := ⟨_, rfl⟩
      have lR : R < p := hR ▸ Nat.mod_lt _ (by omega)
      obtain ⟨T, hT⟩ : ∃ T, p - R = T := ⟨_, rfl⟩
      obtain ⟨V, hV⟩ : ∃ V, T % p = V := ⟨_, rfl⟩
      have lV : V < p := hV ▸ Nat.mod_lt _ (by omega)
      have hz : (X : Int) % (p : Int) = (R : Int) := by rw [← hR, Int.natCast_emod]
      have hs : IntKind.u64.wrap ((p : Int) - (R : Int)) = (T : Int) := by rw [IntKind.wrap_u64]; omega
      have hz2 : (T : Int) % (p : Int) = (V : Int) := by rw [← hV, Int.natCast_emod]
      have hd0 : ((p : Int) == 0) = false := by rw [beq_eq_false_iff_ne]; omega
      have hl : (ngl p xs k).length ≤ 4398046511104 := by rw [ngl_len]; omega
      have HT : Hid (ngl p xs k ++ [V] = ngl p xs (k + 1)) := Lib.hid (by rw [ngl_succ, hX, hR, hT, hV])
      clear hX hR hT hV
      go_wp2_with (at_builtin; refine wpList_app1 w wr rfl _ _ _ rfl 26 .u64 Tryd.underlying22 info_u64 _ _ (by rfl) ho _ V (by omega) (by rfl) hl ?_)
      intro v1 w1 ho1
      rw [HT.out] at ho1
      clear ho
      go_wp2_with fail
      go_roundw
      case rel => exact ⟨k + 1, by omega, by go_num, ho1⟩
      case measure => simp [intOf]; omega
    · obtain rfl : k = n := by omega
      obtain ⟨A5, c5, rfl, hg⟩ := ho.form
      have hlv := Lv.own ho (ngl_low (by omega) h xs k)
      have hB : Below w.heap.size w wr := ho.2
      have HE : Hid (ngl p xs k = ngl p xs xs.length) := Lib.hid (by rw [HN.out])
      rw [ngl_len] at hlv ⊢
      clear ho hg hlt
      go_wp2_with fail
      refine (rnorm9_v h2 h hlv (by omega)).mono ?_
      rintro e w6 ⟨A6, n6, c6, rfl, r6, B6⟩
      rw [HE.out] at r6
      go_wp2_with fail
      exact bodyPost_ret (v := .slice A6 n6 c6) (by simp [results, Tryd.results23, go_sem]) rfl ⟨_, _, _, rfl, r6, hB.trans (B6.mono hB.size)⟩
set_option maxRecDepth 100000 in
set_option maxHeartbeats 1000000 in
/-- The reference's Eval. -/
theorem reval9_v {n c p x r : Nat} {A : Option Addr} {xs : List Nat} {w : World} (h2 : 2 ≤ p) (h : p < 2147483648) (hx : Lv w A n c xs) (hxx : x < 18446744073709551616) (hr : ev x xs % p = r) :
    Calls Tryd.prog 28 #[.slice A n c, .int .u64 (x : Int), .int .u64 (p : Int)] w (UPost r w) := by
  have HN := Lib.hid hx.len
  have HX0 := Lib.hid hx
  have HR := Lib.hid hr
  have h1p : (1 : Int) % (p : Int) = 1 := Int.emod_eq_of_lt (by omega) (by omega)
  have h1t : (1 : Int).tmod (p : Int) = 1 := by rw [Int.tmod_eq_emod_of_nonneg (by omega)]; exact h1p
  have hd0 : ((p : Int) == 0) = false := by rw [beq_eq_false_iff_ne]; omega
  have hp0 : ¬ (p = 0) := by omega
  have hnc := hx.le
  have hcm := hx.cap
  clear hx hr
  go_enter Tryd.func28, Tryd.ntmps28
  go_wp2_with (go_region)
  have hB0 : Below w.heap.size w w.drew := below_drew9 w
  have HB0 : Hid (pre x xs 0 % p = 0 ∧ x ^ 0 % p = 1 ∧ Below w.heap.size w w.drew) := Lib.hid ⟨by rw [pre_zero, Nat.zero_mod], by rw [Nat.pow_zero, Nat.mod_eq_of_lt h2], hB0⟩
  clear hB0
  go_loopw [7, 8, 9] (fun s7 s8 s9 wr => ∃ (k s q : Nat), k ≤ n ∧ s9 = .int .i64 (k : Int) ∧ s7 = .int .u64 (s : Int) ∧ s8 = .int .u64 (q : Int) ∧ Hid (pre x xs k % p = s ∧ x ^ k % p = q ∧ Below w.heap.size w wr)) (fun _ _ s9 _ => n - (intOf s9).toNat)
  case atStart => exact ⟨0, 0, 1, Nat.zero_le _, rfl, rfl, rfl, HB0⟩
  case round =>
    clear HB0
    obtain ⟨k, s, q, hk, rfl, rfl, rfl, HB⟩ := hrel
    obtain ⟨hs, hq, hB⟩ := HB.out
    have ls : s < p := by rw [← hs]; exact Nat.mod_lt _ (by omega)
    have lq : q < p := by rw [← hq]; exact Nat.mod_lt _ (by omega)
    have HS := Lib.hid hs
    have HQ := Lib.hid hq
    clear HB hs hq
    by_cases hlt : k < n
    · obtain ⟨ad, rfl, _, hcell⟩ := (HX0.out.below hB).at (k := k) hlt
      obtain ⟨X, hX⟩ : ∃ X, nth xs k = X := ⟨_, rfl⟩
      rw [hX] at hcell
      have lX : X < 18446744073709551616 := hX ▸ HX0.out.lt k
      obtain ⟨M, hM⟩ : ∃ M, X * q % p = M := ⟨_, rfl⟩
      have lM : M < p := hM ▸ Nat.mod_lt _ (by omega)
      obtain ⟨T, hT⟩ : ∃ T, s + M = T := ⟨_, rfl⟩
      obtain ⟨R, hR⟩ : ∃ R, T % p = R := ⟨_, rfl⟩
      obtain ⟨q2, hq2⟩ : ∃ q2, q * x % p = q2 := ⟨_, rfl⟩
      have hw1 : IntKind.u64.wrap ((s : Int) + (M : Int)) = (T : Int) := by rw [← Int.natCast_add, hT]; exact wrap_small (by omega)
      have hw2 : (T : Int) % (p : Int) = (R : Int) := by rw [← hR, Int.natCast_emod]
      have HN2 : Hid (pre x xs (k + 1) % p = R) := Lib.hid (by
        rw [pre_succ, hX, ← hR, ← hT, ← hM, ← HS.out, ← HQ.out, Nat.mod_add_mod, mod_tail9])
      have HQ2 : Hid (x ^ (k + 1) % p = q2) := Lib.hid (by rw [← hq2, ← HQ.out, Nat.pow_succ, Nat.mod_mul_mod])
      have HMM := Lib.hid hM
      have HQQ := Lib.hid hq2
      clear hX hM hT hR hq2 HS HQ
      go_wp2_with fail
      refine (rmul8_calls lX (show q < 18446744073709551616 by omega) h2 h HMM.out wr).mono ?_
      rintro e w4 ⟨rfl, B4⟩
      replace hB := hB.trans (B4.mono hB.size)
      clear B4 hcell
      go_wp2_with fail
      refine (rmul8_calls (show q < 18446744073709551616 by omega) hxx h2 h HQQ.out w4).mono ?_
      rintro e w5 ⟨rfl, B5⟩
      replace hB := hB.trans (B5.mono hB.size)
      clear B5
      go_wp2_with fail
      go_roundw
      case rel => exact ⟨k + 1, R, q2, by omega, by go_num, by go_num, by go_num, Lib.hid ⟨HN2.out, HQ2.out, hB⟩⟩
      case measure => simp [intOf]; omega
    · obtain rfl : k = n := by omega
      obtain rfl : s = r := by rw [← HS.out, ← HR.out, ← HN.out, pre_len]
      clear hlt
      go_wp2_with fail
      exact bodyPost_ret (v := .int .u64 (s : Int)) (by simp [results, Tryd.results28, go_sem]) rfl ⟨rfl, hB⟩
end Go.Proofs.YthigedcpiglmnaaDoor
