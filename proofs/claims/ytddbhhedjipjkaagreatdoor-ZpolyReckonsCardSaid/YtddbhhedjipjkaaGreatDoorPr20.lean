/-
  ZpB Iter0 DivA IterA
-/
import Derived.Test.YtddbhhedjipjkaaGreatDoorPr14
import Derived.Test.YtddbhhedjipjkaaGreatDoorPr19
import Derived.RangeFuncNested
import Derived.RangeFuncBound
import Derived.RangeFuncCalls
import Derived.RangeFuncLeaves
import Derived.RangeFuncBox
import Derived.Shelf.Abstract
import Derived.Shelf.RegionOpen
import Derived.OwnWalkIn
import Derived.TacticsInMore
import Derived.LoopNIn
import Derived.LoopIn
import Derived.Test.YtddbhhedjipjkaaGreatDoorPr10
import Derived.Test.YtddbhhedjipjkaaGreatDoorPr01
import Derived.Test.YtddbhhedjipjkaaGreatDoorPr05
import Derived.Test.YtddbhhedjipjkaaGreatDoorPr02
import Derived.Deep.CutBlock
import Derived.Deep.DeepCutAuto
import Derived.Deep.LoopGhost

section
namespace Go.Proofs.YtddbhhedjipjkaaGreatDoor
set_option linter.unusedVariables false
set_option linter.unusedSimpArgs false
def rdz (p : Nat) (zs : List Int) : List Nat := zs.map fun z => (z % (p : Int)).toNat
theorem rdz_length (p : Nat) (zs : List Int) : (rdz p zs).length = zs.length := by simp [rdz]
theorem nth_rdz (p : Nat) (zs : List Int) (i : Nat) : nth (rdz p zs) i = (ith zs i % (p : Int)).toNat := by
  by_cases h : i < zs.length
  · simp [nth, rdz, ith, List.getD, h]
  · rw [nth_ge (by rw [rdz_length]; omega), ith_ge (by omega)]; simp
theorem rdz_int {p : Nat} (hp : 0 < p) (zs : List Int) (i : Nat) : ((nth (rdz p zs) i : Nat) : Int) = ith zs i % (p : Int) := by
  rw [nth_rdz]
  exact Int.toNat_of_nonneg (Int.emod_nonneg _ (by omega))
theorem rdz_lt {p : Nat} (hp : 0 < p) (zs : List Int) (i : Nat) : nth (rdz p zs) i < p := by
  have h1 := rdz_int hp zs i
  have h2 := Int.emod_lt_of_pos (ith zs i) (show (0 : Int) < (p : Int) by omega)
  omega
theorem rdz_mod {p : Nat} (hp : 0 < p) (zs : List Int) (i : Nat) : nth (rdz p zs) i % p = nth (rdz p zs) i := Nat.mod_eq_of_lt (rdz_lt hp zs i)
theorem eqm_rdz {p : Nat} (hp : 0 < p) (zs : List Int) : Eqm p (pe (rdz p zs)) (pv zs) := Eqm.of_ith (a := toI (rdz p zs)) fun i => by
  rw [ith_toI, rdz_int hp]
  have := Int.emod_add_mul_ediv (ith zs i) p
  exact ⟨-(ith zs i / p), by grind⟩
theorem top_lives {p : Nat} (hp : 0 < p) {a : List Int} (ha : a ≠ []) (hl : (nrm p (rdz p a)).length = a.length) : ¬ (p : Int) ∣ ith a (a.length - 1) := fun hd => by
  have h0 : 0 < a.length := List.length_pos_iff.2 ha
  have h1 : (nrm p (rdz p a)).length ≤ a.length - 1 := nrm_short fun i hi => by
    rw [rdz_mod hp]
    have h2 := rdz_int hp a i
    rcases Nat.eq_or_lt_of_le hi with e | e
    · rw [← e] at h2 ⊢
      rw [Int.emod_eq_zero_of_dvd hd] at h2
      omega
    · rw [ith_ge (by omega)] at h2
      simp at h2; omega
  omega
theorem full_of {p : Nat} (hp : 0 < p) {d : List Int} (hd : ¬ (p : Int) ∣ ith d (d.length - 1)) : (nrm p (rdz p d)).length = d.length := by
  refine nrm_full (fun i hi => ?_) ?_
  · rw [rdz_mod hp, nth_rdz, ith_ge hi]; simp
  · by_cases h0 : d.length = 0
    · exact .inl h0
    · refine .inr fun e => hd ?_
      rw [rdz_mod hp] at e
      have h2 := rdz_int hp d (d.length - 1)
      rw [e] at h2
      exact Int.dvd_of_emod_eq_zero h2.symm
theorem none_of {p : Nat} (hp : MR.Pr p) {a b : List Int} (ha : a ≠ []) (na : Nz' a) (hl : (nrm p (rdz p a)).length = a.length) (hg : (gcP p (nrm p (rdz p a)) (nrm p (rdz p b))).length = 1) : Cmn a b [1] := fun d hd => by
  have hp0 : 0 < p := by have := hp.1; omega
  constructor
  · rintro ⟨h1, h2⟩
    obtain ⟨ng, mg, g1, g2, gall⟩ := gcP_is hp (nrm p (rdz p a)) (nrm p (rdz p b))
    have h1' : Zdv (pv (nrz d)) (pv a) := h1.by fun x => pv_nrz d x
    obtain ⟨d0, l, nl, l0, ea, el, elead⟩ := zdv_len (nz_nrz d) na ha h1'
    have htop : ¬ (p : Int) ∣ ith (nrz d) ((nrz d).length - 1) := fun hdv => top_lives hp0 ha hl (by
      have : ith a (a.length - 1) = ldz l * ldz (nrz d) := elead
      rw [this]
      exact Int.dvd_trans hdv ⟨ldz l, Int.mul_comm _ _⟩)
    have hlen := full_of hp0 htop
    have key : ∀ f : List Int, Zdv (pv d) (pv f) → Pdv p (pe (nrm p (rdz p (nrz d)))) (pe (nrm p (rdz p f))) := fun f hf => by
      obtain ⟨h, hh, e⟩ := hf
      refine ⟨h, hh, ?_⟩
      have e1 : Eqm p (pe (nrm p (rdz p f))) (pv f) := (eqm_nrm p _).trans (eqm_rdz hp0 f)
      have e2 : Eqm p (pe (nrm p (rdz p (nrz d)))) (pv d) := ((eqm_nrm p _).trans (eqm_rdz hp0 _)).to fun x => pv_nrz d x
      exact (e1.to e).trans (Eqm.right e2.symm hh)
    have hle := dv_le hp (nm_nrm hp0 _) ng (fun e => by rw [e] at hg; simp at hg) (gall _ (key a h1) (key b h2))
    rw [hlen, hg] at hle
    obtain ⟨c, hc⟩ : ∃ c, nrz d = [c] := by
      match hn : nrz d with
      | [] => exact absurd hn d0
      | [c] => exact ⟨c, rfl⟩
      | _ :: _ :: _ => rw [hn] at hle; simp at hle
    have hc1 : cont (nrz d) = 1 := by rw [cont_nrz]; exact hd
    rw [hc] at hc1
    have hcu : c.natAbs = 1 := by simpa [cont] using hc1
    refine ⟨fun _ => c, ply_c c, fun x => ?_⟩
    rw [← pv_nrz d, hc]
    simp only [pv]
    rcases (by omega : c = 1 ∨ c = -1) with rfl | rfl <;> simp
  · intro h
    have hall : ∀ f : List Int, Zdv (pv d) (pv f) := fun f => (h.mul (ply_pv f)).congr fun x => by simp [pv]
    exact ⟨hall a, hall b⟩
theorem pm_one : Pm [1] := .inr ⟨rfl, nz_of (.inr (by decide)), by decide⟩
end Go.Proofs.YtddbhhedjipjkaaGreatDoor
end

section
namespace Go.Proofs.YtddbhhedjipjkaaGreatDoor
open Go.RowKit Go.Shelf
set_option linter.unusedVariables false
set_option linter.unusedSimpArgs false
attribute [local go_sem] Oper.semAt_some
def upto {α : Type} (f : Nat → α) (k : Nat) : List α := (List.range k).map f
theorem upto_succ {α : Type} (f : Nat → α) (k : Nat) : upto f (k + 1) = upto f k ++ [f k] := by simp [upto, List.range_succ]
theorem upto_length {α : Type} (f : Nat → α) (k : Nat) : (upto f k).length = k := by simp [upto]
def KeepB (n₀ b : Nat) (W W' : World) : Prop := Below n₀ W W' ∧ W'.heap[b]? = W.heap[b]?
theorem keepB_t {n₀ b : Nat} {A B C : World} (h : KeepB n₀ b A B) (k : KeepB n₀ b B C) : KeepB n₀ b A C := ⟨h.1.trans k.1, k.2.trans h.2⟩
theorem keepB_b {n₀ b : Nat} {w : World} (hn : n₀ ≤ w.heap.size) (hb : b < w.heap.size) (W : World) (l : Nat) (o o' : Obj) (hl : w.heap.size ≤ l) (h : W.heap[l]? = some o) (h1 : o.isCells = false) (h2 : o.isWalk = false) : KeepB n₀ b W (W.putObj l o') :=
  ⟨belowK_b hn W l o o' hl h h1 h2, World.putObj_heap_other (fun e => by omega)⟩
abbrev Wd := { x : Nat × Nat // x.2 < 18446744073709551616 }
def fromEnd (xs : List Nat) (h : Low 18446744073709551616 xs) (k : Nat) : Wd := ⟨(xs.length - 1 - k, nth xs (xs.length - 1 - k)), h.any (by omega) _⟩
end Go.Proofs.YtddbhhedjipjkaaGreatDoor
end

section
namespace Go.Proofs.YtddbhhedjipjkaaGreatDoor
open Go.RowKit
set_option linter.unusedVariables false
theorem lz64_calls (x : Nat) (hx : x < 18446744073709551616) (w : World) :
    Calls Tryz.prog 131 #[.int .u64 x] w fun e w' => e = .returned (.int .i64 ((64 - bl x : Nat) : Int)) ∧ w = w' := by
  have hb : bl x ≤ 64 := bl_le.2 (by omega)
  have e : (((64 - bl x : Nat) : Int)) = 64 - (bl x : Int) := by omega
  have E := Lib.hid e
  clear e
  go_enter Tryz.func131, Tryz.ntmps131
  go_wp2_with fail
  refine (len64_calls _ hx _).mono ?_
  rintro e w' ⟨rfl, rfl⟩
  go_wp2
  go_ret
  exact ⟨by rw [E.out]; rfl, rfl⟩
theorem dv_start {H a b c Y : Nat} (hY : Y = a * 4294967296 + b) (ha : 0 < a) (hc : c < 4294967296) : (H * 4294967296 + c) / Y ≤ H / a := by
  have h1 := Nat.div_mul_le_self (H * 4294967296 + c) Y
  generalize (H * 4294967296 + c) / Y = q at *
  refine (Nat.le_div_iff_mul_le ha).2 ?_
  have h2 : q * Y = q * a * 4294967296 + q * b := by rw [hY, Nat.mul_add, Nat.mul_assoc]
  generalize q * a = p at *
  generalize q * b = r at *
  omega
theorem dv_more {H a b c Y q rh : Nat} (hY : Y = a * 4294967296 + b) (hH : H < Y) (hc : c < 4294967296) (h : q * a + rh = H) (hq : (H * 4294967296 + c) / Y ≤ q)
    (hm : 4294967296 ≤ q ∨ 4294967296 * rh + c < q * b) : (H * 4294967296 + c) / Y + 1 ≤ q := by
  rcases hm with hm | hm
  · have h2 : (H * 4294967296 + c) / Y < 4294967296 := (Nat.div_lt_iff_lt_mul (by omega)).2 (by omega)
    omega
  · rcases Nat.lt_or_ge ((H * 4294967296 + c) / Y) q with h3 | h3
    · exact h3
    · have e : (H * 4294967296 + c) / Y = q := by omega
      have h1 := Nat.div_mul_le_self (H * 4294967296 + c) Y
      rw [e] at h1
      have h2 : q * Y = q * a * 4294967296 + q * b := by rw [hY, Nat.mul_add, Nat.mul_assoc]
      generalize q * a = p at *
      generalize q * b = r at *
      omega
theorem dv_stop {H a b c Y q rh : Nat} (hY : Y = a * 4294967296 + b) (hH : H < Y) (h : q * a + rh = H) (hq : (H * 4294967296 + c) / Y ≤ q)
    (hm : q * b ≤ 4294967296 * rh + c) : q = (H * 4294967296 + c) / Y := by
  refine Nat.le_antisymm ?_ hq
  refine (Nat.le_div_iff_mul_le (by omega)).2 ?_
  have h2 : q * Y = q * a * 4294967296 + q * b := by rw [hY, Nat.mul_add, Nat.mul_assoc]
  generalize q * a = p at *
  generalize q * b = r at *
  omega
theorem dv_break {H a b c Y q rh : Nat} (hY : Y = a * 4294967296 + b) (hb : b < 4294967296) (hH : H < Y) (h : q * a + rh = H) (hr : 4294967296 ≤ rh) : q * b ≤ 4294967296 * rh + c := by
  have h1 : q < 4294967296 := by
    rcases Nat.lt_or_ge q 4294967296 with h1 | h1
    · exact h1
    · have := Nat.mul_le_mul_right a h1
      generalize q * a = p at *
      omega
  have h2 : q * b ≤ 4294967296 * b := Nat.mul_le_mul_right _ (by omega)
  omega
theorem dv_rest (H c Y : Nat) (hY : 0 < Y) (hB : Y < 18446744073709551616) :
    IntKind.u64.wrap (IntKind.u64.wrap (IntKind.u64.wrap ((H : Int) * 4294967296) + (c : Int)) - IntKind.u64.wrap ((((H * 4294967296 + c) / Y : Nat) : Int) * (Y : Int))) = (((H * 4294967296 + c) % Y : Nat) : Int) := by
  have h1 := Nat.div_add_mod (H * 4294967296 + c) Y
  have h2 := Nat.mod_lt (H * 4294967296 + c) hY
  rw [Nat.mul_comm] at h1
  rw [← Int.natCast_mul]
  generalize (H * 4294967296 + c) / Y * Y = t at *
  generalize (H * 4294967296 + c) % Y = r at *
  simp only [IntKind.wrap_u64]
  omega
theorem dv_set {hi lo y : Nat} (h1 : hi < y) (hlo : lo < 18446744073709551616) (hy : y < 18446744073709551616) :
    ∃ s Y H L : Nat, s = 64 - bl y ∧ s < 64 ∧ Y = y * 2 ^ s ∧ 9223372036854775808 ≤ Y ∧ Y < 18446744073709551616 ∧ H < Y ∧ L < 18446744073709551616 ∧ H * 18446744073709551616 + L = (hi * 18446744073709551616 + lo) * 2 ^ s ∧
      IntKind.u64.wrap ((y : Int) * 2 ^ s) = (Y : Int) ∧ IntKind.u64.wrap ((lo : Int) * 2 ^ s) = (L : Int) ∧
      bits .or .u64 (IntKind.u64.wrap ((hi : Int) * 2 ^ s)) ((lo : Int) / 2 ^ (64 - s)) = (H : Int) := by
  have hb : bl y ≤ 64 := bl_le.2 (by omega)
  have hb0 : 0 < bl y := bl_lt.2 (by simp; omega)
  have hlow := bl_lt.1 (show bl y - 1 < bl y by omega)
  have hhigh := bl_le.1 (Nat.le_refl (bl y))
  have hlow' : 2 ^ (bl y - 1) ≤ y := by
    rcases Nat.lt_or_ge y (2 ^ (bl y - 1)) with h | h
    · rw [Nat.div_eq_of_lt h] at hlow; omega
    · exact h
  obtain ⟨s, hs⟩ : ∃ s, s = 64 - bl y := ⟨_, rfl⟩
  have hs64 : s < 64 := by omega
  have hp : 0 < 2 ^ s := Nat.pow_pos (by omega)
  have hY1 : y * 2 ^ s < 18446744073709551616 := by
    have e : (18446744073709551616 : Nat) = 2 ^ bl y * 2 ^ s := by rw [← Nat.pow_add, show bl y + s = 64 from by omega]
    rw [e]; exact Nat.mul_lt_mul_of_pos_right hhigh hp
  have hY2 : 9223372036854775808 ≤ y * 2 ^ s := by
    have e : (9223372036854775808 : Nat) = 2 ^ (bl y - 1) * 2 ^ s := by rw [← Nat.pow_add, show bl y - 1 + s = 63 from by omega]
    rw [e]; exact Nat.mul_le_mul_right _ hlow'
  obtain ⟨_, _, g3, g4⟩ := up_word (x := lo) (u := s) (c := 0) hlo hs64 hp
  obtain ⟨_, k2, k3, k4⟩ := up_word (x := hi) (u := s) (c := lo / 2 ^ (64 - s)) (by omega) hs64 g3
  have hv := up_value (x := hi) (u := s) (c := lo / 2 ^ (64 - s)) (by omega) hs64 g3
  have hhi : hi * 2 ^ s + 2 ^ s ≤ y * 2 ^ s := by
    have := Nat.mul_le_mul_right (2 ^ s) (show hi + 1 ≤ y from h1)
    rw [Nat.add_mul, Nat.one_mul] at this; exact this
  have hmod : hi * 2 ^ s % 18446744073709551616 = hi * 2 ^ s := Nat.mod_eq_of_lt (by omega)
  have w1 : ∀ z : Nat, IntKind.u64.wrap ((z : Int) * 2 ^ s) = (((z * 2 ^ s) % 18446744073709551616 : Nat) : Int) := fun z => by
    rw [IntKind.wrap_u64, Int.natCast_emod, Int.natCast_mul, Int.natCast_pow]; rfl
  have hd : ((lo : Int) / 2 ^ (64 - s)) = ((lo / 2 ^ (64 - s) : Nat) : Int) := down_value lo s
  refine ⟨s, y * 2 ^ s, hi * 2 ^ s + lo / 2 ^ (64 - s), lo * 2 ^ s % 18446744073709551616, hs, hs64, rfl, hY2, hY1, by omega, Nat.mod_lt _ (by omega), ?_, ?_, w1 lo, ?_⟩
  · rw [Nat.add_mul, Nat.add_mul]
    have e1 : hi * 18446744073709551616 * 2 ^ s = hi * 2 ^ s * 18446744073709551616 := by rw [Nat.mul_assoc, Nat.mul_comm 18446744073709551616, ← Nat.mul_assoc]
    rw [e1]
    omega
  · rw [w1, Nat.mod_eq_of_lt hY1]
  · rw [hd, hv, hmod]
theorem and_mask (x : Nat) (hx : x < 18446744073709551616) : bits .and .u64 (x : Int) 4294967295 = ((x % 4294967296 : Nat) : Int) := by
  have h5 := (bits_nat .u64 64 (by decide) (fun n h0 h1 => by rw [IntKind.wrap_u64]; omega) x 4294967295 (by omega) (by omega)).1
  refine Eq.trans h5 ?_
  rw [show (4294967295 : Nat) = 2 ^ 32 - 1 from rfl, Nat.and_two_pow_sub_one_eq_mod]
theorem dv_first {H a : Nat} (hH : H < 18446744073709551616) (ha : 0 < a) :
    ∃ q r : Nat, q = H / a ∧ q < 18446744073709551616 ∧ r < a ∧ q * a + r = H ∧ (H : Int) / (a : Int) = (q : Int) ∧ IntKind.u64.wrap ((H : Int) - IntKind.u64.wrap ((q : Int) * (a : Int))) = (r : Int) := by
  have h1 := Nat.div_add_mod H a
  have h2 := Nat.mod_lt H ha
  have h3 : H / a ≤ H := Nat.div_le_self _ _
  refine ⟨H / a, H % a, rfl, by omega, h2, by rw [Nat.mul_comm]; exact h1, rfl, ?_⟩
  rw [← Int.natCast_mul]
  rw [Nat.mul_comm] at h1
  simp only [IntKind.wrap_u64]
  generalize H / a * a = t at *
  generalize H % a = r at *
  omega
theorem dv_final {hi lo y s Y H L c d q1 r1 : Nat} (hY : Y = y * 2 ^ s) (hy : 0 < Y) (hHL : H * 18446744073709551616 + L = (hi * 18446744073709551616 + lo) * 2 ^ s) (hL : L = c * 4294967296 + d)
    (hq : q1 = (H * 4294967296 + c) / Y) (hr : r1 = (H * 4294967296 + c) % Y) :
    q1 * 4294967296 + (r1 * 4294967296 + d) / Y = (hi * 18446744073709551616 + lo) / y ∧ (r1 * 4294967296 + d) % Y / 2 ^ s = (hi * 18446744073709551616 + lo) % y := by
  have hp : 0 < 2 ^ s := Nat.pow_pos (by omega)
  have h1 := Nat.div_add_mod (H * 4294967296 + c) Y
  rw [← hq, ← hr] at h1
  have h2 : H * 18446744073709551616 + L = (r1 * 4294967296 + d) + Y * (q1 * 4294967296) := by
    rw [hL, ← Nat.mul_assoc]
    generalize Y * q1 = t at *
    omega
  have h3 : (hi * 18446744073709551616 + lo) / y = ((hi * 18446744073709551616 + lo) * 2 ^ s) / Y := by rw [hY, Nat.mul_div_mul_right _ _ hp]
  have h4 : (hi * 18446744073709551616 + lo) % y * 2 ^ s = ((hi * 18446744073709551616 + lo) * 2 ^ s) % Y := by rw [hY, Nat.mul_mod_mul_right]
  rw [← hHL, h2] at h3 h4
  rw [Nat.add_mul_div_left _ _ hy] at h3
  rw [Nat.add_mul_mod_self_left] at h4
  refine ⟨by rw [h3, Nat.add_comm], ?_⟩
  rw [← h4, Nat.mul_div_cancel _ hp]
theorem ret_two {k l : IntKind} {a b c d : Int} (h : a = b) (h' : c = d) : Ending.returned (.tuple #[.int k a, .int l c]) = .returned (.tuple #[.int k b, .int l d]) := by rw [h, h']
def DvRel (H a c Y g : Nat) (s15 s16 : Value) : Prop :=
  ∃ rh : Nat, s15 = .int .u64 (g : Int) ∧ s16 = .int .u64 (rh : Int) ∧ (H * 4294967296 + c) / Y ≤ g ∧ g * a + rh = H ∧ rh < 4294967296
set_option maxRecDepth 100000 in
set_option maxHeartbeats 2000000 in
theorem div64_pos (hi lo y : Nat) (h1 : hi < y) (hlo : lo < 18446744073709551616) (hy : y < 18446744073709551616) (h0 : 0 < hi) (w : World) :
    Calls Tryz.prog 116 #[.int .u64 hi, .int .u64 lo, .int .u64 y] w fun e w' => e = .returned (.tuple #[.int .u64 (((hi * 18446744073709551616 + lo) / y : Nat) : Int), .int .u64 (((hi * 18446744073709551616 + lo) % y : Nat) : Int)]) ∧ Sees w w' := by
  have t1 : ((y : Int) == 0) = false := by rw [beq_eq_false_iff_ne]; omega
  have t2 : ((hi : Int) == 0) = false := by rw [beq_eq_false_iff_ne]; omega
  have t3 : ¬ (y ≤ hi) := by omega
  obtain ⟨s, Y, H, L, hs, hs64, hYd, hY1, hY2, hHY, hL, hHL, e1, e5, e4⟩ := dv_set h1 hlo hy
  have HS := Lib.hid hs
  have HYd := Lib.hid hYd
  have HHL := Lib.hid hHL
  have hl1 : s ≤ 64 := by omega
  clear hYd hHL
  go_enter Tryz.func116, Tryz.ntmps116
  go_wp2_with fail
  refine (lz64_calls _ hy _).mono ?_
  rintro e w' ⟨rfl, rfl⟩
  rw [← hs]
  clear hs t1 t2 t3
  obtain ⟨a, ha⟩ : ∃ a, a = Y / 4294967296 := ⟨_, rfl⟩
  obtain ⟨b, hb⟩ : ∃ b, b = Y % 4294967296 := ⟨_, rfl⟩
  obtain ⟨c, hc⟩ : ∃ c, c = L / 4294967296 := ⟨_, rfl⟩
  obtain ⟨d, hd⟩ : ∃ d, d = L % 4294967296 := ⟨_, rfl⟩
  have hYab := Lib.hid (show Y = a * 4294967296 + b by omega)
  have hLcd := Lib.hid (show L = c * 4294967296 + d by omega)
  have ha1 : 2147483648 ≤ a := by omega
  have ha2 : a < 4294967296 := by omega
  have hb2 : b < 4294967296 := by omega
  have hc2 : c < 4294967296 := by omega
  have hd2 : d < 4294967296 := by omega
  have e2 : (Y : Int) / 4294967296 = (a : Int) := by omega
  have e3 : bits .and .u64 (Y : Int) 4294967295 = (b : Int) := by rw [and_mask Y hY2, hb]
  have e6 : (L : Int) / 4294967296 = (c : Int) := by omega
  have e7 : bits .and .u64 (L : Int) 4294967295 = (d : Int) := by rw [and_mask L hL, hd]
  clear ha hb hc hd
  have hq0 := dv_start (H := H) hYab.out (by omega) hc2
  obtain ⟨qa, ra, hqa, hqa2, hra, hqr, e8, e9⟩ := dv_first (H := H) (a := a) (by omega) (by omega)
  rw [← hqa] at hq0
  have HQ0 := Lib.hid hq0
  have HQR := Lib.hid hqr
  clear hqa hq0 hqr
  have ea : ((a : Int) == 0) = false := by rw [beq_eq_false_iff_ne]; omega
  have ea' : ¬ (a = 0) := by omega
  have eh : 0 ≤ (H : Int) := by omega
  go_upto_block 0 with fail
  clear e1 e2 e3 e4 e5 e6 e7 e8 e9 ea eh
  go_cut [15] (fun v wx => v = .int .u64 (((H * 4294967296 + c) / Y : Nat) : Int) ∧ wx = w)
  case first =>
    go_wp2_with fail
    go_loopg [15, 16] qa (fun g s15 s16 wx => wx = w ∧ DvRel H a c Y g s15 s16)
    case atStart => exact ⟨rfl, ra, rfl, rfl, HQ0.out, HQR.out, by omega⟩
    case round =>
      obtain ⟨rfl, rh, rfl, rfl, hq, hr, hw⟩ := hrel
      have hgb : gk < 18446744073709551616 := by
        have := Nat.le_mul_of_pos_right gk (show 0 < a by omega)
        omega
      have HQ := Lib.hid hq
      have HR := Lib.hid hr
      clear hq hr
      by_cases hgo : 4294967296 ≤ gk ∨ 4294967296 * rh + c < gk * b
      · have hg1 := dv_more hYab.out hHY hc2 HR.out HQ.out hgo
        obtain ⟨g', hg'⟩ : ∃ g', gk = g' + 1 := ⟨gk - 1, (Nat.succ_pred_eq_of_pos (Nat.lt_of_lt_of_le (Nat.succ_pos _) hg1)).symm⟩
        have hr2 : g' * a + (rh + a) = H := by have := HR.out; rw [hg', Nat.add_mul, Nat.one_mul] at this; omega
        have HG := Lib.hid (show (H * 4294967296 + c) / Y ≤ g' from Nat.le_of_succ_le_succ (Nat.le_trans hg1 (Nat.le_of_eq hg')))
        have HR2 := Lib.hid hr2
        have HL := Lib.hid (show g' < gk by omega)
        have e1 : IntKind.u64.wrap ((gk : Int) - 1) = (g' : Int) := by rw [IntKind.wrap_u64]; omega
        have e0 : (g' : Int) < 18446744073709551616 := by omega
        clear hg1 hr2 hg'
        by_cases hA : 4294967296 ≤ gk
        · have z1 : (4294967296 : Int) ≤ (gk : Int) := by omega
          clear hgo hA
          by_cases hB : 4294967296 ≤ rh + a
          · have z2 : (4294967296 : Int) ≤ (rh : Int) + (a : Int) := by omega
            clear hB
            go_wp2_with fail
            go_meet
            exact ⟨by rw [dv_stop hYab.out hHY HR2.out HG.out (dv_break hYab.out hb2 hHY HR2.out (by omega))], rfl⟩
          · have z2 : ¬ ((4294967296 : Int) ≤ (rh : Int) + (a : Int)) := by omega
            clear hB
            go_wp2_with fail
            go_roundg g'
            case rel => exact ⟨rfl, rh + a, rfl, by go_num, HG.out, HR2.out, by omega⟩
            case measure => exact HL.out
        · have z1 : ¬ ((4294967296 : Int) ≤ (gk : Int)) := by omega
          have hgo' : 4294967296 * rh + c < gk * b := by omega
          have hm : gk * b < 18446744073709551616 := by
            have : gk * b ≤ 4294967296 * b := Nat.mul_le_mul_right _ (by omega)
            omega
          obtain ⟨p, hp⟩ : ∃ p, p = gk * b := ⟨_, rfl⟩
          rw [← hp] at hgo' hm
          have e3 : IntKind.u64.wrap ((gk : Int) * (b : Int)) = (p : Int) := by rw [← Int.natCast_mul, ← hp, IntKind.wrap_u64]; omega
          have z3 : 4294967296 * (rh : Int) + (c : Int) < (p : Int) := by omega
          clear hgo hgo' hA hp
          by_cases hB : 4294967296 ≤ rh + a
          · have z2 : (4294967296 : Int) ≤ (rh : Int) + (a : Int) := by omega
            clear hB
            go_wp2_with fail
            go_meet
            exact ⟨by rw [dv_stop hYab.out hHY HR2.out HG.out (dv_break hYab.out hb2 hHY HR2.out (by omega))], rfl⟩
          · have z2 : ¬ ((4294967296 : Int) ≤ (rh : Int) + (a : Int)) := by omega
            clear hB
            go_wp2_with fail
            go_roundg g'
            case rel => exact ⟨rfl, rh + a, rfl, by go_num, HG.out, HR2.out, by omega⟩
            case measure => exact HL.out
      · have z1 : ¬ ((4294967296 : Int) ≤ (gk : Int)) := by omega
        have hgo' : ¬ (4294967296 * rh + c < gk * b) := by omega
        have hm : gk * b < 18446744073709551616 := by
          have : gk * b ≤ 4294967296 * b := Nat.mul_le_mul_right _ (by omega)
          omega
        obtain ⟨p, hp⟩ : ∃ p, p = gk * b := ⟨_, rfl⟩
        have HF := Lib.hid (dv_stop hYab.out hHY HR.out HQ.out (show gk * b ≤ 4294967296 * rh + c by omega))
        rw [← hp] at hgo' hm
        have e3 : IntKind.u64.wrap ((gk : Int) * (b : Int)) = (p : Int) := by rw [← Int.natCast_mul, ← hp, IntKind.wrap_u64]; omega
        have z3 : ¬ (4294967296 * (rh : Int) + (c : Int) < (p : Int)) := by omega
        clear hgo hgo' hp
        go_wp2_with fail
        go_meet
        exact ⟨by rw [← HF.out], rfl⟩
  case rest =>
    obtain ⟨rfl, rfl⟩ := hcut
    have hR := dv_rest H c Y (by omega) hY2
    have hq1 : (H * 4294967296 + c) / Y < 4294967296 := (Nat.div_lt_iff_lt_mul (by omega)).2 (by omega)
    obtain ⟨q1, hq1d⟩ : ∃ q1, q1 = (H * 4294967296 + c) / Y := ⟨_, rfl⟩
    obtain ⟨r1, hr1d⟩ : ∃ r1, r1 = (H * 4294967296 + c) % Y := ⟨_, rfl⟩
    have hr1 : r1 < Y := by rw [hr1d]; exact Nat.mod_lt _ (by omega)
    rw [← hq1d, ← hr1d] at hR
    rw [← hq1d] at hq1
    rw [← hq1d]
    have HQ1 := Lib.hid hq1d
    have HR1 := Lib.hid hr1d
    clear hq1d hr1d
    have hr1w := dv_start (H := r1) hYab.out (by omega) hd2
    obtain ⟨qb, rb, hqb, hqb2, hrb, hqr, e8, e9⟩ := dv_first (H := r1) (a := a) (by omega) (by omega)
    rw [← hqb] at hr1w
    have HQ1' := Lib.hid hr1w
    have HQR1 := Lib.hid hqr
    clear hqb hr1w hqr
    have ea : ((a : Int) == 0) = false := by rw [beq_eq_false_iff_ne]; omega
    go_upto_block 2 with fail
    clear e8 e9 hR ea
    go_cut [18] (fun v wx => v = .int .u64 (((r1 * 4294967296 + d) / Y : Nat) : Int) ∧ wx = wc)
    case first =>
      go_wp2_with fail
      go_loopg [18, 16] qb (fun g s15 s16 wx => wx = wc ∧ DvRel r1 a d Y g s15 s16)
      case atStart => exact ⟨rfl, rb, rfl, rfl, HQ1'.out, HQR1.out, by omega⟩
      case round =>
        obtain ⟨rfl, rh, rfl, rfl, hq, hr, hw⟩ := hrel
        have hgb : gk < 18446744073709551616 := by
          have := Nat.le_mul_of_pos_right gk (show 0 < a by omega)
          omega
        have HQ := Lib.hid hq
        have HR := Lib.hid hr
        clear hq hr
        by_cases hgo : 4294967296 ≤ gk ∨ 4294967296 * rh + d < gk * b
        · have hg1 := dv_more hYab.out hr1 hd2 HR.out HQ.out hgo
          obtain ⟨g', hg'⟩ : ∃ g', gk = g' + 1 := ⟨gk - 1, (Nat.succ_pred_eq_of_pos (Nat.lt_of_lt_of_le (Nat.succ_pos _) hg1)).symm⟩
          have hr2 : g' * a + (rh + a) = r1 := by have := HR.out; rw [hg', Nat.add_mul, Nat.one_mul] at this; omega
          have HG := Lib.hid (show (r1 * 4294967296 + d) / Y ≤ g' from Nat.le_of_succ_le_succ (Nat.le_trans hg1 (Nat.le_of_eq hg')))
          have HR2 := Lib.hid hr2
          have HL := Lib.hid (show g' < gk by omega)
          have e1 : IntKind.u64.wrap ((gk : Int) - 1) = (g' : Int) := by rw [IntKind.wrap_u64]; omega
          have e0 : (g' : Int) < 18446744073709551616 := by omega
          clear hg1 hr2 hg'
          by_cases hA : 4294967296 ≤ gk
          · have z1 : (4294967296 : Int) ≤ (gk : Int) := by omega
            clear hgo hA
            by_cases hB : 4294967296 ≤ rh + a
            · have z2 : (4294967296 : Int) ≤ (rh : Int) + (a : Int) := by omega
              clear hB
              go_wp2_with fail
              go_meet
              exact ⟨by rw [dv_stop hYab.out hr1 HR2.out HG.out (dv_break hYab.out hb2 hr1 HR2.out (by omega))], rfl⟩
            · have z2 : ¬ ((4294967296 : Int) ≤ (rh : Int) + (a : Int)) := by omega
              clear hB
              go_wp2_with fail
              go_roundg g'
              case rel => exact ⟨rfl, rh + a, rfl, by go_num, HG.out, HR2.out, by omega⟩
              case measure => exact HL.out
          · have z1 : ¬ ((4294967296 : Int) ≤ (gk : Int)) := by omega
            have hgo' : 4294967296 * rh + d < gk * b := by omega
            have hm : gk * b < 18446744073709551616 := by
              have : gk * b ≤ 4294967296 * b := Nat.mul_le_mul_right _ (by omega)
              omega
            obtain ⟨p, hp⟩ : ∃ p, p = gk * b := ⟨_, rfl⟩
            rw [← hp] at hgo' hm
            have e3 : IntKind.u64.wrap ((gk : Int) * (b : Int)) = (p : Int) := by rw [← Int.natCast_mul, ← hp, IntKind.wrap_u64]; omega
            have z3 : 4294967296 * (rh : Int) + (d : Int) < (p : Int) := by omega
            clear hgo hgo' hA hp
            by_cases hB : 4294967296 ≤ rh + a
            · have z2 : (4294967296 : Int) ≤ (rh : Int) + (a : Int) := by omega
              clear hB
              go_wp2_with fail
              go_meet
              exact ⟨by rw [dv_stop hYab.out hr1 HR2.out HG.out (dv_break hYab.out hb2 hr1 HR2.out (by omega))], rfl⟩
            · have z2 : ¬ ((4294967296 : Int) ≤ (rh : Int) + (a : Int)) := by omega
              clear hB
              go_wp2_with fail
              go_roundg g'
              case rel => exact ⟨rfl, rh + a, rfl, by go_num, HG.out, HR2.out, by omega⟩
              case measure => exact HL.out
        · have z1 : ¬ ((4294967296 : Int) ≤ (gk : Int)) := by omega
          have hgo' : ¬ (4294967296 * rh + d < gk * b) := by omega
          have hm : gk * b < 18446744073709551616 := by
            have : gk * b ≤ 4294967296 * b := Nat.mul_le_mul_right _ (by omega)
            omega
          obtain ⟨p, hp⟩ : ∃ p, p = gk * b := ⟨_, rfl⟩
          have HF := Lib.hid (dv_stop hYab.out hr1 HR.out HQ.out (show gk * b ≤ 4294967296 * rh + d by omega))
          rw [← hp] at hgo' hm
          have e3 : IntKind.u64.wrap ((gk : Int) * (b : Int)) = (p : Int) := by rw [← Int.natCast_mul, ← hp, IntKind.wrap_u64]; omega
          have z3 : ¬ (4294967296 * (rh : Int) + (d : Int) < (p : Int)) := by omega
          clear hgo hgo' hp
          go_wp2_with fail
          go_meet
          exact ⟨by rw [← HF.out], rfl⟩
    case rest =>
      obtain ⟨rfl, rfl⟩ := hcut
      have hR0 := dv_rest r1 d Y (by omega) hY2
      have hq0 : (r1 * 4294967296 + d) / Y < 4294967296 := (Nat.div_lt_iff_lt_mul (by omega)).2 (by omega)
      have hr0 : (r1 * 4294967296 + d) % Y < Y := Nat.mod_lt _ (by omega)
      have hfin := dv_final (hi := hi) (lo := lo) (y := y) HYd.out (by omega) HHL.out hLcd.out HQ1.out HR1.out
      obtain ⟨q0, hq0d⟩ : ∃ q0, q0 = (r1 * 4294967296 + d) / Y := ⟨_, rfl⟩
      obtain ⟨r0, hr0d⟩ : ∃ r0, r0 = (r1 * 4294967296 + d) % Y := ⟨_, rfl⟩
      rw [← hq0d, ← hr0d] at hR0 hfin
      rw [← hq0d] at hq0
      rw [← hr0d] at hr0
      rw [← hq0d]
      have HFIN := Lib.hid hfin
      have e9 : (r0 : Int) / 2 ^ s = ((r0 / 2 ^ s : Nat) : Int) := by rw [Int.natCast_ediv, Int.natCast_pow]; rfl
      clear hq0d hr0d hfin
      have E9 := Lib.hid e9
      clear e9
      go_wp2_with fail
      go_ret2
      exact ⟨ret_two (by have := HFIN.out.1; omega) (by rw [E9.out, HFIN.out.2]), Sees.refl _⟩
theorem div64_zero (lo y : Nat) (h1 : 0 < y) (hlo : lo < 18446744073709551616) (hy : y < 18446744073709551616) (w : World) :
    Calls Tryz.prog 116 #[.int .u64 0, .int .u64 lo, .int .u64 y] w fun e w' => e = .returned (.tuple #[.int .u64 ((lo / y : Nat) : Int), .int .u64 ((lo % y : Nat) : Int)]) ∧ Sees w w' := by
  have t1 : ((y : Int) == 0) = false := by rw [beq_eq_false_iff_ne]; omega
  have t3 : ¬ (y = 0) := by omega
  have t4 : ¬ (y ≤ 0) := by omega
  have h2 : lo / y ≤ lo := Nat.div_le_self _ _
  have h3 := Nat.mod_lt lo h1
  have e1 : (lo : Int) / (y : Int) = ((lo / y : Nat) : Int) := rfl
  have e2 : (lo : Int) % (y : Int) = ((lo % y : Nat) : Int) := rfl
  obtain ⟨q, hq⟩ : ∃ q, q = lo / y := ⟨_, rfl⟩
  obtain ⟨r, hr⟩ : ∃ r, r = lo % y := ⟨_, rfl⟩
  rw [← hq] at e1 h2
  rw [← hr] at e2 h3
  rw [← hq, ← hr]
  have e3 : IntKind.u64.wrap (q : Int) = (q : Int) := by rw [IntKind.wrap_u64]; omega
  have e4 : IntKind.u64.wrap (r : Int) = (r : Int) := by rw [IntKind.wrap_u64]; omega
  have e5 : (lo : Int).tdiv (y : Int) = (q : Int) := by rw [← e1]; rfl
  have e6 : (lo : Int).tmod (y : Int) = (r : Int) := by rw [← e2]; rfl
  clear hq hr h2 h3
  go_enter Tryz.func116, Tryz.ntmps116
  go_wp2_with fail
  go_quiet (fail)
  go_wp2
  go_ret2
  exact ⟨ret_two rfl rfl, ⟨_, rfl⟩⟩
theorem div64_calls (hi lo y : Nat) (h1 : hi < y) (hlo : lo < 18446744073709551616) (hy : y < 18446744073709551616) (w : World) :
    Calls Tryz.prog 116 #[.int .u64 hi, .int .u64 lo, .int .u64 y] w fun e w' => e = .returned (.tuple #[.int .u64 (((hi * 18446744073709551616 + lo) / y : Nat) : Int), .int .u64 (((hi * 18446744073709551616 + lo) % y : Nat) : Int)]) ∧ Sees w w' := by
  rcases Nat.eq_zero_or_pos hi with rfl | h0
  · have := div64_zero lo y h1 hlo hy w
    rw [Nat.zero_mul, Nat.zero_add]
    exact this
  · exact div64_pos hi lo y h1 hlo hy h0 w
end Go.Proofs.YtddbhhedjipjkaaGreatDoor
end

section
namespace Go.Proofs.YtddbhhedjipjkaaGreatDoor
open Go.RowKit Go.Shelf
set_option linter.unusedVariables false
set_option linter.unusedSimpArgs false
attribute [local go_sem] Oper.semAt_some
theorem rem64_v {hi lo y r : Nat} (hlo : lo < 18446744073709551616) (h0 : 0 < y) (hy : y < 18446744073709551616) (hr : (hi * 18446744073709551616 + lo) % y = r) (w : World) :
    Calls Tryz.prog 95 #[.int .u64 (hi : Int), .int .u64 (lo : Int), .int .u64 (y : Int)] w (UPost r w) := by
  obtain ⟨H, hH⟩ : ∃ H, hi % y = H := ⟨_, rfl⟩
  have lH : H < y := hH ▸ Nat.mod_lt _ h0
  have e1 : (hi : Int) % (y : Int) = (H : Int) := by rw [← Int.natCast_emod, hH]
  have HR : Hid ((H * 18446744073709551616 + lo) % y = r) := Lib.hid (by rw [← hr, ← hH, Nat.add_mod, Nat.mul_mod, Nat.mod_mod, ← Nat.mul_mod, ← Nat.add_mod])
  have hy0 : ¬ (y = 0) := by omega
  clear hH hr
  go_enter Tryz.func95, Tryz.ntmps95
  go_wp2_with fail
  refine (div64_calls H lo y lH hlo hy _).mono ?_
  rintro e w1 ⟨rfl, B1⟩
  obtain ⟨q, hq⟩ : ∃ q, (H * 18446744073709551616 + lo) / y = q := ⟨_, rfl⟩
  rw [hq, HR.out]
  clear hq
  go_wp2_with fail
  go_ret
  exact ⟨rfl, B1.below _⟩
set_option maxRecDepth 100000 in
set_option maxHeartbeats 2000000 in
theorem back1_in (F : Fence) (n : Nat) (h7 : F.fn 115) (hro : F.round = none) (hn : 1 ≤ n) (l Bs n₀ : Nat) (A : Option Addr) (c : Nat) (xs : List Nat) (hlen : xs.length ≤ 9223372036854775807) (hL : Low 18446744073709551616 xs)
    (hA : ∀ ad, A = some ad → 0 < xs.length → ad.block < n₀) (J Jx : List Wd → World → Prop)
    (hY : ∀ pre x W, J pre W → pre.length < xs.length → YieldAt F (n - 1) Tryz.prog l #[.int .i64 (x.1.1 : Int), .int .u64 (x.1.2 : Int)] W fun e W' =>
      (e = .returned (.bool true) ∧ J (pre ++ [x]) W' ∧ KeepB n₀ Bs W W') ∨ (e = .returned (.bool false) ∧ Jx (pre ++ [x]) W'))
    (W : World) (hBs : W.cell? ⟨Bs, 0, none⟩ = some (.slice A xs.length c)) (hc : Rd W .u64 A xs) (h0 : J [] W) :
    CallsIn F n Tryz.prog 115 #[.func (.yield l) #[] #[], .pointer (some ⟨Bs, 0, none⟩)] W fun e W' => (∃ v, e = .returned v) ∧
      ((∃ ys, ys = upto (fromEnd xs hL) xs.length ∧ J ys W') ∨ (∃ pre, (∃ k, k ≤ xs.length ∧ pre = upto (fromEnd xs hL) k) ∧ Jx pre W')) := by
  obtain ⟨m, hm⟩ : ∃ m, xs.length = m := ⟨_, rfl⟩
  have hwr : IntKind.i64.wrap ((m : Int) - 1) = (m : Int) - 1 := by rw [IntKind.wrap_i64]; omega
  refine callsIn_of_wp Tryz.func115 rfl h7 ?_ hro
  simp only [Tryz.ntmps115, List.size_toArray, List.length_cons, List.length_nil, Nat.reduceAdd, Nat.reduceSub, Array.replicate_succ, Array.replicate_zero, List.push_toArray, List.append_toArray, List.nil_append, List.cons_append]
  rw [hm] at hBs
  gi_wp2
  gi_loopw [3] (fun i wr => ∃ k : Nat, k ≤ m ∧ i = .int .i64 ((k : Int) - 1) ∧ J (upto (fromEnd xs hL) (m - k)) wr ∧ KeepB n₀ Bs W wr)
    (fun i _ => (intOf i + 1).toNat)
  case atStart => exact ⟨m, Nat.le_refl _, rfl, by rw [Nat.sub_self]; exact h0, Below.refl _ _, rfl⟩
  case round =>
    obtain ⟨k, hk, rfl, hJs, hnx⟩ := hrel
    have hBr : wr.cell? ⟨Bs, 0, none⟩ = some (.slice A m c) := (World.cell?_of_block hnx.2).trans hBs
    rcases k with _ | k
    · gi_wp2
      go_end0
      exact ⟨⟨_, rfl⟩, .inl ⟨_, rfl, by rw [hm]; exact hJs⟩⟩
    · rw [show ((k + 1 : Nat) : Int) - 1 = (k : Int) by omega]
      obtain ⟨ad, rfl, hb0, hcs⟩ := hc (by omega)
      have hcx : wr.cell? (ad.add k) = some (.int .u64 (nth xs k)) := (hnx.1.cell (p := ad.add k) (by rw [add_block]; exact hA ad rfl (by omega))).trans (hcs k (by omega))
      have hfe : fromEnd xs hL (m - (k + 1)) = ⟨(k, nth xs k), hL.any (by omega) _⟩ := by unfold fromEnd; apply Subtype.ext; show (xs.length - 1 - (m - (k + 1)), nth xs (xs.length - 1 - (m - (k + 1)))) = (k, nth xs k); rw [hm, show m - 1 - (m - (k + 1)) = k by omega]
      obtain ⟨fn, tmps, assign, body, hy, hR⟩ := hY _ ⟨(k, nth xs k), hL.any (by omega) _⟩ wr hJs (by rw [upto_length]; omega)
      dsimp only at hy
      obtain ⟨z, hz⟩ : ∃ z, nth xs k = z := ⟨_, rfl⟩
      rw [hz] at hcx hy
      gi_wp2
      refine hR.mono ?_
      rintro e W3 (⟨rfl, hJ3, hk3⟩ | ⟨rfl, hJx3⟩)
      · gi_wp2
        go_roundw
        case rel => exact ⟨k, by omega, by simp, by rw [show m - k = (m - (k + 1)) + 1 by omega, upto_succ, hfe]; exact hJ3, keepB_t hnx hk3⟩
        case measure => simp [intOf]
      · gi_wp2
        refine bodyPost_ret (results_none rfl _ _ _) rfl ?_
        exact ⟨⟨_, rfl⟩, .inr ⟨_, ⟨m - (k + 1) + 1, by omega, by rw [upto_succ, hfe]⟩, hJx3⟩⟩
theorem back_in (A : Option Addr) (len cap : Nat) (w : World) :
    Calls Tryz.prog 94 #[.slice A len cap] w fun e w' => e = .returned (.func (.func 115) #[] #[.pointer (some ⟨w.heap.size, 0, none⟩)]) ∧ w' = w.alloc (.cells #[.slice A len cap] 25) := by
  go_enter Tryz.func94, Tryz.ntmps94
  go_wp2_with fail
  go_ret
  exact ⟨rfl, rfl⟩
theorem back_stops (F : Fence) (n : Nat) (h7 : F.fn 115) (hro : F.round = none) (hn : 1 ≤ n) (Bs n₀ : Nat) (A : Option Addr) (c : Nat) (xs : List Nat) (hlen : xs.length ≤ 9223372036854775807) (hL : Low 18446744073709551616 xs) (hA : ∀ ad, A = some ad → 0 < xs.length → ad.block < n₀) (w : World) (hBs : Bs < w.heap.size) (hn₀ : n₀ ≤ w.heap.size)
    (hc : w.cell? ⟨Bs, 0, none⟩ = some (.slice A xs.length c)) (hI : Rd w .u64 A xs) :
    SeqStopsK F n Tryz.prog 115 #[.pointer (some ⟨Bs, 0, none⟩)] (fun x : Wd => #[Value.int .i64 (x.1.1 : Int), Value.int .u64 (x.1.2 : Int)]) (KeepB n₀ Bs) (fun ys => ys = upto (fromEnd xs hL) xs.length)
      (fun pre => ∃ k, k ≤ xs.length ∧ pre = upto (fromEnd xs hL) k) xs.length w := fun l J Jx W hW _ _ hY h0 =>
  back1_in F n h7 hro hn l Bs n₀ A c xs hlen hL hA J Jx hY W ((hW.cell (p := ⟨Bs, 0, none⟩) hBs).trans hc) (hI.below hW) h0
end Go.Proofs.YtddbhhedjipjkaaGreatDoor
end
