/-
  Package modn: Crt.
-/
import Derived.Test.YtbcopicoldnahaaGreatCrtI
import Derived.RegionTactic
import Derived.BigRegion
import Derived.Deep.RegionHeld3
import Derived.Deep.RegionLaw
import Derived.Deep.LoopGhost
/-! Contract: modn.Crt. -/
namespace Go.Proofs.YtbcopicoldnahaaGreat
open Go.RowKit
set_option linter.unusedVariables false
set_option linter.unusedSimpArgs false

/-- The rests and moduli that came in. -/
def zprs (R M : List Zin) : List (Int × Int) := List.zipWith (fun x y => (x.z, y.z)) R M
theorem zprs_same (R M : List Zin) : SameL (List.zipWith (fun x y => (x.z % y.z, y.z)) R M) (zprs R M) := by
  have e : List.zipWith (fun (x y : Zin) => (x.z % y.z, y.z)) R M = (zprs R M).map fun x => (x.1 % x.2, x.2) := by
    unfold zprs
    rw [List.map_zipWith]
  rw [e]
  have m : ∀ (a q z : Int), q ∣ z - a % q ↔ q ∣ z - a := fun a q z => by
    have h : q ∣ a - a % q := ⟨a / q, by have := Int.emod_add_mul_ediv a q; omega⟩
    exact ⟨fun k => by have := Int.dvd_sub k h; rwa [show z - a % q - (a - a % q) = z - a by omega] at this, fun k => by have := Int.dvd_add k h; rwa [show z - a + (a - a % q) = z - a % q by omega] at this⟩
  constructor
  · intro z
    constructor
    · intro h x hx
      exact (m _ _ _).1 (h (x.1 % x.2, x.2) (List.mem_map.2 ⟨x, hx, rfl⟩))
    · intro h x hx
      obtain ⟨y, hy, rfl⟩ := List.mem_map.1 hx
      exact (m _ _ _).2 (h y hy)
  · intro z
    constructor
    · intro h x hx
      exact h (x.1 % x.2, x.2) (List.mem_map.2 ⟨x, hx, rfl⟩)
    · intro h x hx
      obtain ⟨y, hy, rfl⟩ := List.mem_map.1 hx
      exact h y hy
/-- Crt's answer: none, and which error. -/
def CrtNo (k : Int) (w : World) (e : Ending) (w' : World) : Prop := e = .returned (.tuple #[.agg #[.bool false, .slice none 0 0], .agg #[.bool false, .slice none 0 0], .int .i64 k]) ∧ Below w.heap.size w w'
def CrtYes (L : List (Int × Int)) (w : World) (e : Ending) (w' : World) : Prop :=
  ∃ x : Cls, e = .returned (.tuple #[.agg #[.bool x.s, .slice x.A x.n x.c], .agg #[.bool x.t, .slice x.B x.m x.d], .int .i64 0]) ∧ x.ok w' ∧ (0 ≤ x.r ∧ x.r < x.q ∧ x.q.natAbs = lcmL L ∧ Sat L x.r) ∧ Below w.heap.size w w'
/-- Crt's answer for as many rests as moduli. -/
def CrtPost (R M : List Zin) (w : World) (e : Ending) (w' : World) : Prop :=
  ((∃ x, x ∈ M ∧ x.z ≤ 0) ∧ CrtNo 1 w e w') ∨ ((∀ x, x ∈ M → 0 < x.z) ∧ (CrtYes (zprs R M) w e w' ∨ (¬ Agree (zprs R M) ∧ CrtNo 10 w e w')))
theorem zprs_pos {R M : List Zin} (h : ∀ x, x ∈ M → 0 < x.z) : PosL (zprs R M) := fun x hx => by
  obtain ⟨i, hi, rfl⟩ := List.getElem_of_mem hx
  simp only [zprs, List.length_zipWith] at hi
  simp only [zprs, List.getElem_zipWith]
  exact h _ (List.getElem_mem (by omega))
/-- Two results, of noughts, are laid into memory. -/
theorem crt_zero {k : Int} {g : Nat} {w w2 : World} (hg : w.heap.size ≤ g) (hB : Below w.heap.size w w2) :
    CrtNo k w (.returned (.tuple #[.agg #[.bool false, .slice none 0 0], .agg #[.bool false, .slice none 0 0], .int .i64 k])) (zput (zput w2 g false none 0 0) (g + 1) false none 0 0) :=
  ⟨rfl, below_put (below_put hB hg) (by omega)⟩
theorem crt_yes {g : Nat} {L : List (Int × Int)} {w w2 : World} {x : Cls} {A B : Option Addr} {n c m d : Nat} {s t : Bool} (h1 : Ib w2 g s A n c) (h2 : Ib w2 (g + 1) t B m d) (hx : x.ok w2) (hp : 0 ≤ x.r ∧ x.r < x.q ∧ x.q.natAbs = lcmL L ∧ Sat L x.r) (hg : w.heap.size ≤ g) (hB : Below w.heap.size w w2) :
    CrtYes L w (.returned (.tuple #[.agg #[.bool x.s, .slice x.A x.n x.c], .agg #[.bool x.t, .slice x.B x.m x.d], .int .i64 0])) (zput (zput w2 g x.s x.A x.n x.c) (g + 1) x.t x.B x.m x.d).drew := by
  have h3 : Ib (zput w2 g x.s x.A x.n x.c) (g + 1) t B m d := h2.put (l := 0) (e := 0) (u := true) (C := none) (by omega)
  exact ⟨x, rfl, ⟨((hx.1.put h1).put h3).below (below_drew _), ((hx.2.1.put h1).put h3).below (below_drew _), hx.2.2⟩, hp, (below_put (below_put hB hg) (by omega)).trans ((below_drew _).mono (Nat.le_trans (below_put (below_put hB hg) (by omega)).size (Nat.le_refl _)))⟩
set_option maxRecDepth 100000 in
set_option maxHeartbeats 4000000 in
theorem ccrt_shape {A B : Option Addr} {n n' c c' : Nat} {w : World} (hn : n ≠ n') :
    Calls Tryz.prog 5 #[.slice A n c, .slice B n' c'] w (CrtNo 2 w) := by
  have hne : (((n : Nat) : Int) == ((n' : Nat) : Int)) = false := by rw [beq_eq_false_iff_ne]; omega
  go_enter Tryz.func5, Tryz.ntmps5
  go_wp2_with fail
  exact bodyPost_ret (v := .tuple #[.agg #[.bool false, .slice none 0 0], .agg #[.bool false, .slice none 0 0], .int .i64 2]) (by simp [results, Tryz.results5, go_sem]) rfl ⟨rfl, zba2 _ _ _⟩
set_option maxRecDepth 100000 in
set_option maxHeartbeats 16000000 in
theorem ccrt_calls {A B : Option Addr} {n c c' N : Nat} {R M : List Zin} {w : World} (hr : ZRow w A R) (hm : ZRow w B M) (or : ZinOk w R) (om : ZinOk w M) (hn : R.length = n) (hn' : M.length = n) (hR : n ≤ 1000) (hN : Hid (lcmL (zprs R M) < 18446744073709551616 ^ N)) (hN2 : N ≤ 1048576) :
    Calls Tryz.prog 5 #[.slice A n c, .slice B n c'] w (CrtPost R M w) := by
  obtain ⟨w3, hw3, I1, I2, z0⟩ := opent2 w false false none none 0 0 0 0 27 27
  have HW := Lib.hid hw3.symm
  clear hw3
  have HNR := Lib.hid hn
  have HNM := Lib.hid hn'
  clear hn hn'
  go_enter Tryz.func5, Tryz.ntmps5
  go_upto_block 1 with fail
  rw [HW.out]
  go_loopg [20] n (fun g i wr => ∃ k : Nat, k + g = n ∧ i = .int .i64 k ∧ (∀ j (h : j < M.length), j < k → 0 < M[j].z) ∧ Ib wr w.heap.size false none 0 0 ∧ Ib wr (w.heap.size + 1) false none 0 0 ∧ Below w.heap.size w wr)
  case atStart => exact ⟨0, by omega, rfl, fun j h h0 => by omega, I1, I2, z0⟩
  case round =>
    clear I1 I2 z0 HW
    obtain ⟨k, hk, rfl, hpos, I1, I2, z0⟩ := hrel
    by_cases hlt : k < n
    · have hkM : k < M.length := by have := HNM.out; omega
      obtain ⟨am, rfl, ham, hmell⟩ := (hm.below z0) (by omega)
      obtain ⟨d1, d2⟩ := hmell k hkM
      obtain ⟨zm, km⟩ := ((om _ (List.getElem_mem hkM)).below z0)
      have hmem := List.getElem_mem hkM
      obtain ⟨m, hm2⟩ : ∃ m, M[k] = m := ⟨_, rfl⟩
      have HM2 := Lib.hid hm2
      rw [hm2] at d1 d2 zm km hmem
      have u1 : (0 : Int) ≤ (k : Int) := by omega
      have u2 : (k : Int) < (n : Int) := by omega
      clear hmell hm2
      obtain ⟨w2, hw2⟩ : ∃ w2, w2 = wr.alloc (.cells #[.bool m.s, .slice m.A m.n m.c] 27) := ⟨_, rfl⟩
      have z2 : Below wr.heap.size wr w2 := by rw [hw2]; exact zba _ _
      have HW2 := Lib.hid hw2.symm
      clear hw2
      obtain ⟨r, hr0⟩ : ∃ r, m.z.sign = r := ⟨_, rfl⟩
      have HR0 := Lib.hid hr0
      by_cases hp : 0 < m.z
      · have hr1 : r = 1 := by rw [← hr0]; exact Int.sign_eq_one_of_pos hp
        subst hr1
        clear hr0
        go_wp2_with fail
        rw [HW2.out]
        refine (zsign_v (zm.below z2) (by omega) HR0.out).mono ?_
        rintro e w5 ⟨rfl, B5⟩
        have z5 := zup z2 B5
        have P : Hid ((∀ j (h : j < M.length), j < k + 1 → 0 < M[j].z) ∧ Ib w5 w.heap.size false none 0 0 ∧ Ib w5 (w.heap.size + 1) false none 0 0 ∧ Below w.heap.size w w5) := by
          refine Lib.hid ⟨fun j h hj => ?_, I1.below z5, I2.below z5, z0.trans (z5.mono z0.size)⟩
          by_cases e : j = k
          · subst e
            rw [HM2.out]
            exact hp
          · exact hpos j h (by omega)
        clear I1 I2 z0 hpos z5 B5 z2 d1 d2 zm
        go_wp2
        go_roundg (n - (k + 1))
        case measure => omega
        case rel => exact ⟨k + 1, by omega, by go_num, P.out⟩
      · have hr1 : r ≤ 0 := by rw [← hr0]; have := Int.sign_nonpos_iff.2 (show m.z ≤ 0 by omega); exact this
        clear hr0
        go_wp2_with fail
        rw [HW2.out]
        refine (zsign_v (zm.below z2) (by omega) HR0.out).mono ?_
        rintro e w5 ⟨rfl, B5⟩
        have z5 := zup z2 B5
        have P : Hid (CrtPost R M w _ _) := Lib.hid (.inl ⟨⟨m, hmem, by omega⟩, crt_zero (k := 1) (Nat.le_refl _) (z0.trans (z5.mono z0.size))⟩)
        unfold zput at P
        obtain ⟨i1, i2, i3, i4, i5⟩ := I1.below z5
        obtain ⟨j1, j2, j3, j4, j5⟩ := I2.below z5
        clear I1 I2 z0 hpos z5 B5 z2 d1 d2 zm
        go_wp2_with fail
        exact bodyPost_ret (v := .tuple #[.agg #[.bool false, .slice none 0 0], .agg #[.bool false, .slice none 0 0], .int .i64 1]) (by simp [results, Tryz.results5, go_sem, i1, i2, j1, j2]) rfl P.out
    · obtain rfl : k = n := by omega
      have hpos2 : ∀ x, x ∈ M → 0 < x.z := fun x hx => by
        obtain ⟨i, hi, rfl⟩ := List.getElem_of_mem hx
        exact hpos i hi (by have := HNM.out; omega)
      clear hpos
      go_wp2_with fail
      refine (cpileof_calls (hr.below z0) (hm.below z0) (or.below z0) (om.below z0) HNR.out HNM.out hR hpos2).mono ?_
      rintro e w4 ⟨p, g, T, rfl, h4, o4, ci4, t4, k4⟩
      have hL : SameL (prs T) (zprs R M) := (SameL.perm t4).trans (zprs_same R M)
      have hT : T.length ≤ 1000 := by
        have e := t4.length_eq
        simp only [prs, List.length_map, List.length_zipWith] at e
        have e1 := HNR.out
        have e2 := HNM.out
        omega
      clear t4
      go_wp2_with fail
      refine (joinall_calls (b := wr.heap.size) h4 o4 ci4 hL (zprs_pos hpos2) hN hN2 hT k4.1.size).mono ?_
      rintro e w5 (⟨x, rfl, ox, px, B5⟩ | ⟨rfl, nx, B5⟩)
      · have z5 : Below wr.heap.size wr w5 := k4.1.trans B5
        obtain ⟨w6, hw6⟩ : ∃ w6, w6 = w5.alloc (.cells #[.bool x.s, .slice x.A x.n x.c, .bool x.t, .slice x.B x.m x.d] 40) := ⟨_, rfl⟩
        have z6 : Below w5.heap.size w5 w6 := by rw [hw6]; exact zba _ _
        have c0 : w6.cell? ⟨w5.heap.size, 0, none⟩ = some (.bool x.s) := by rw [hw6]; simp [go_sem]
        have c1 : w6.cell? ⟨w5.heap.size, 1, none⟩ = some (.slice x.A x.n x.c) := by rw [hw6]; simp [go_sem]
        have c2 : w6.cell? ⟨w5.heap.size, 2, none⟩ = some (.bool x.t) := by rw [hw6]; simp [go_sem]
        have c3 : w6.cell? ⟨w5.heap.size, 3, none⟩ = some (.slice x.B x.m x.d) := by rw [hw6]; simp [go_sem]
        have HW6 := Lib.hid hw6.symm
        have z56 := zup z5 z6
        have J1 := I1.below z56
        have J2 := I2.below z56
        have P : Hid (CrtPost R M w _ _) := Lib.hid (.inr ⟨hpos2, .inl (crt_yes J1 J2 (ox.below z6) px (Nat.le_refl _) (z0.trans (z56.mono z0.size)))⟩)
        unfold zput at P
        obtain ⟨i1, i2, i3, i4, i5⟩ := J1
        obtain ⟨j1, j2, j3, j4, j5⟩ := J2
        have n1 : ¬ (w.heap.size = w5.heap.size) := by have := I2.2.2.2.2; have := z5.size; omega
        have n2 : ¬ (w5.heap.size = w.heap.size) := by omega
        have n3 : ¬ (w.heap.size + 1 = w5.heap.size) := by have := I2.2.2.2.2; have := z5.size; omega
        have n4 : ¬ (w5.heap.size = w.heap.size + 1) := by omega
        have n5 : ¬ (w.heap.size = w.heap.size + 1) := by omega
        have n6 : ¬ (w.heap.size + 1 = w.heap.size) := by omega
        clear I1 I2 z0 hw6 z6 z56 z5 B5 ox px h4 o4 ci4 k4 hL
        go_wp2_with fail
        rw [HW6.out]
        go_region
        try go_wp2_with fail
        exact bodyPost_ret (v := .tuple #[.agg #[.bool x.s, .slice x.A x.n x.c], .agg #[.bool x.t, .slice x.B x.m x.d], .int .i64 0]) (by simp [results, Tryz.results5, go_sem, i1, i2, j1, j2]) rfl P.out
      · have z5 : Below wr.heap.size wr w5 := k4.1.trans B5
        have z6 := zba w5 (.cells #[.bool false, .slice none 0 0, .bool false, .slice none 0 0] 40)
        have z56 := zup z5 z6
        have J1 := I1.below z56
        have J2 := I2.below z56
        have P : Hid (CrtPost R M w _ _) := Lib.hid (.inr ⟨hpos2, .inr ⟨nx, crt_zero (k := 10) (Nat.le_refl _) (z0.trans (z56.mono z0.size))⟩⟩)
        unfold zput at P
        obtain ⟨i1, i2, i3, i4, i5⟩ := J1
        obtain ⟨j1, j2, j3, j4, j5⟩ := J2
        clear I1 I2 z0 z6 z56 z5 B5 nx h4 o4 ci4 k4 hL
        go_wp2_with fail
        exact bodyPost_ret (v := .tuple #[.agg #[.bool false, .slice none 0 0], .agg #[.bool false, .slice none 0 0], .int .i64 10]) (by simp [results, Tryz.results5, go_sem, i1, i2, j1, j2]) rfl P.out
end Go.Proofs.YtbcopicoldnahaaGreat
