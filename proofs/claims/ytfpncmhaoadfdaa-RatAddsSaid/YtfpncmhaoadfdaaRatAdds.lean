/-
  For every input quincunxlaw07.RatAdds returns true, and each argument reads behind the call as it read before. No condition: every input that the row's form can read.
-/
import Derived.Test.YtfpncmhaoadfdaaRatO
import Derived.Test.YtfpncmhaoadfdaaH2
import Derived.Test.YtfpncmhaoadfdaaRows
import Derived.WalkKit
import Derived.ProofKit
import Derived.OpenShut
import Derived.ShutString
import Derived.ChangeOld
import Derived.Below
namespace Go.Proofs.Ytfpncmhaoadfdaa.ratAdds
open Go.ChangeShapes Go.WideShapes Go.ChangeAt Go.RowKit
set_option linter.unusedVariables false

theorem own : ownKnob Try.prog.godebug = none := by kernel_rfl
theorem laidOut : laidOutB Try.prog = true := by kernel_rfl

theorem walk (s0 : Bool) (a0 : Option Addr) (len0 cap0 : Nat) (z0 : List Int) (s'0 : Bool) (a'0 : Option Addr) (len'0 cap'0 : Nat) (z'0 : List Int) (s1 : Bool) (a1 : Option Addr) (len1 cap1 : Nat) (z1 : List Int) (s'1 : Bool) (a'1 : Option Addr) (len'1 cap'1 : Nat) (z'1 : List Int) (w : World) (w0 : IsRow .u64 w a0 len0 cap0 z0) (w'0 : IsRow .u64 w a'0 len'0 cap'0 z'0) (w1 : IsRow .u64 w a1 len1 cap1 z1) (w'1 : IsRow .u64 w a'1 len'1 cap'1 z'1) :
    Calls Try.prog 4 #[.agg #[.bool s0, .slice a0 len0 cap0, .bool s'0, .slice a'0 len'0 cap'0], .agg #[.bool s1, .slice a1 len1 cap1, .bool s'1, .slice a'1 len'1 cap'1]] w fun e w' => e = .returned (.bool true) ∧ Below w.heap.size w w' := by
  obtain ⟨x, hx⟩ := w0.nv
  obtain ⟨y, hy⟩ := w'0.nv
  obtain ⟨u, hu⟩ := w1.nv
  obtain ⟨v, hv⟩ := w'1.nv
  exact ratadds_calls a0 a'0 a1 a'1 len0 cap0 len'0 cap'0 len1 cap1 len'1 cap'1 s0 s'0 s1 s'1 (sg s0 x) (sg s'0 y) (sg s1 u) (sg s'1 v) w ⟨x, hx, Lib.hid rfl⟩ ⟨y, hy, Lib.hid rfl⟩ ⟨u, hu, Lib.hid rfl⟩ ⟨v, hv, Lib.hid rfl⟩ w0.le w'0.le w1.le w'1.le

set_option maxRecDepth 100000 in
theorem lifted (os : Os) (started : os.Started) (H : Type) (enc : TypeId × Value → H) :
    ReturnsInHanded {} Try.checked os 4 .any (Rows.ratAddsSpec.pre6 enc Try.prog Try.f4 Rows.ratAddsRow.domain false) (Rows.ratAddsSpec.post enc Try.prog Try.f4 false true false false) := by
  refine returnsInHanded_of_change (C := Try.checked) own started (by kernel_rfl) Try.func4
    (ChangeSpec.witness6 (enc := enc) (C := Try.checked) false ⟨#[], #[.agg #[.bool false, .slice none 0 0, .bool false, .slice none 0 0], .agg #[.bool false, .slice none 0 0, .bool false, .slice none 0 0]], []⟩ 8 (by kernel_rfl) (by kernel_rfl) (by kernel_rfl) (by kernel_rfl)) ?_
  intro W base args ds gs before hval0 hW hcnd _
  have hval : ∀ (j : Nat) t v, Try.f4.params[j]? = some t → args[j]? = some v → Value.okWide Try.prog W .any base t v := hval0
  have hW' := hW
  obtain ⟨p, q, hA0, hV, rfl, hfz, hnd⟩ := hW
  have hA : DataW.TrodAll enc Try.prog W 0 (fun _ => true) true Try.f4.params.toList args.toList ds p := hA0
  rw [Try.params4] at hA hval
  obtain ⟨v0, vs0, d0, ds0, p0, q0, hargs, rfl, rfl, h0, r0⟩ := trodAll_cons hA
  obtain ⟨v1, vs1, d1, ds1, p1, q1, rfl, rfl, rfl, h1, r1⟩ := trodAll_cons r0
  obtain ⟨rfl, rfl, rfl⟩ := trodAll_nil r1
  obtain rfl : args = #[v0, v1] := by cases args; simp_all
  obtain ⟨rfl, rfl⟩ := trodVars_none hV
  have k0 := h0
  have lt0 : ∀ x ∈ p0, x.block < W.heap.size := by obtain ⟨m, hm⟩ := k0; exact DataW.trod_lt m _ _ _ hm
  obtain ⟨s0, a0, len0, cap0, z0, s'0, a'0, len'0, cap'0, z'0, rfl, w0, w'0⟩ := open_rat Try.underlying28 (by kernel_rfl) (by refine ⟨by kernel_rfl, by kernel_rfl, by kernel_rfl, by kernel_rfl⟩) Try.underlying25 Try.underlying25 (by kernel_rfl) Try.underlying4 Try.underlying23 Try.underlying61 (by kernel_rfl) (hval 0 28 v0 rfl rfl) h0
  have k1 := h1
  have lt1 : ∀ x ∈ p1, x.block < W.heap.size := by obtain ⟨m, hm⟩ := k1; exact DataW.trod_lt m _ _ _ hm
  obtain ⟨s1, a1, len1, cap1, z1, s'1, a'1, len'1, cap'1, z'1, rfl, w1, w'1⟩ := open_rat Try.underlying28 (by kernel_rfl) (by refine ⟨by kernel_rfl, by kernel_rfl, by kernel_rfl, by kernel_rfl⟩) Try.underlying25 Try.underlying25 (by kernel_rfl) Try.underlying4 Try.underlying23 Try.underlying61 (by kernel_rfl) (hval 1 28 v1 rfl rfl) h1
  clear hA0 hval0
  refine (walk s0 a0 len0 cap0 z0 s'0 a'0 len'0 cap'0 z'0 s1 a1 len1 cap1 z1 s'1 a'1 len'1 cap'1 z'1 W w0 w'0 w1 w'1).mono fun e W' ⟨he, bel⟩ => ?_
  subst he
  exact ⟨_, rfl, _, _, _, [], _, [], hW', trodAll_mk1 (shut_bool Try.underlying4 _), (trodAll_cons_mk (Below.trod laidOut (by kernel_rfl) (of_decide_eq_true (by kernel_rfl)) k0 bel lt0) (trodAll_cons_mk (Below.trod laidOut (by kernel_rfl) (of_decide_eq_true (by kernel_rfl)) k1 bel lt1) trodAll_mk0)), rfl, bel.frame _, fun h => by cases h⟩

theorem over : Rows.ratAddsRow.holds Try.pinned (OpenSpec.ofChange Rows.ratAddsSpec) :=
  OpenClaim.holds_of_wide 4 Try.f4 rfl rfl rfl rfl rfl rfl rfl ⟨rfl, rfl, rfl, rfl, rfl⟩ rfl rfl rfl rfl rfl (by kernel_rfl) Try.func4 (by kernel_rfl)
    (of_decide_eq_true (by kernel_rfl)) (by unfold Func.isWrapper; first | (rw [if_pos (by decide +kernel)]; kernel_rfl) | (rw [if_neg (by decide +kernel)]; exact ⟨rfl, rfl⟩))
    (fun os started H enc _ => lifted os started H enc)

/-- The given statement. -/
theorem proved : Rows.RatAddsSaid := over
#print axioms proved
end Go.Proofs.Ytfpncmhaoadfdaa.ratAdds
