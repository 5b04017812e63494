/-
  quincunxlaw06.ModCrt returns true, and each argument reads behind the call as it read before.
  Condition: what it reads is of bulk at most 1048576 (the given second form): beyond it a product of moduli can pass what a slice may hold.
-/
import Derived.Test.YtbcopicoldnahaaGreatG4
import Derived.Test.YtbcopicoldnahaaGreatG4b
import Derived.Test.YtbcopicoldnahaaGreatG4c
import Derived.Test.YtbcopicoldnahaaGreatRows
import Derived.WalkKit
import Derived.ProofKit
import Derived.OpenShut
import Derived.ChangeOld
import Derived.Below
import Derived.JoinedCond
namespace Go.Proofs.YtbcopicoldnahaaGreat.modCrt
open Go.ChangeShapes Go.WideShapes Go.ChangeAt Go.RowKit
set_option linter.unusedVariables false

theorem own : ownKnob Tryz.prog.godebug = none := by kernel_rfl
theorem laidOut : laidOutB Tryz.prog = true := by kernel_rfl

/-- The walk, for lists whose numbers are together of at most 1048576 words. -/
theorem walk (a0 : Option Addr) (len0 cap0 : Nat) (R0 : List Zin) (a1 : Option Addr) (len1 cap1 : Nat) (R1 : List Zin) (w : World)
    (w0 : R0.length = len0 ∧ ZRow w a0 R0 ∧ ∀ x, x ∈ R0 → Zv w x.s x.A x.n x.c x.z) (w1 : R1.length = len1 ∧ ZRow w a1 R1 ∧ ∀ x, x ∈ R1 → Zv w x.s x.A x.n x.c x.z) (hs : wsum R0 + wsum R1 + 2 ≤ 1048576) :
    Calls Tryz.prog 3 #[.slice a0 len0 cap0, .slice a1 len1 cap1] w fun e w' => e = .returned (.bool true) ∧ Below w.heap.size w w' := by
  obtain ⟨e0, r0, z0⟩ := w0
  obtain ⟨e1, r1, z1⟩ := w1
  have o0 : ZinOk w R0 := fun x hx => ⟨z0 x hx, by have := wsum_le hx; omega⟩
  have o1 : ZinOk w R1 := fun x hx => ⟨z1 x hx, by have := wsum_le hx; omega⟩
  by_cases h6 : 6 < len0 ∨ 6 < len1
  · exact glaw_big h6
  · by_cases hn : len0 = len1
    · subst hn
      exact glaw_same r0 r1 o0 o1 e0 e1 (by omega) (Lib.hid (lcm_bound z1)) (by omega)
    · exact glaw_shape (by omega) (by omega) hn

set_option maxRecDepth 100000 in
theorem contract (H : Type) (enc : TypeId × Value → H) (W : World) (base : Nat) (args : Array Value) (ds gs : List (DataW H)) (before : List MemPlace)
    (hval : ∀ (j : Nat) t v, Tryz.f3.params[j]? = some t → args[j]? = some v → Value.okWide Tryz.prog W .any base t v)
    (hW : DataW.Whole enc Tryz.prog Tryz.f3.params.toList Rows.modCrtSpec.vars false W args.toList ds gs before) (hk : Rows.uptoSmall H (ds ++ gs) = true) :
    Calls Tryz.prog 3 args W fun e W' => ∃ v, e = .returned v ∧ Rows.modCrtSpec.post enc Tryz.prog Tryz.f3 false true false false W args v W' := by
  have hW' := hW
  obtain ⟨p, q, hA0, hV, rfl, hfz, hnd⟩ := hW
  have hA : DataW.TrodAll enc Tryz.prog W 0 (fun _ => true) true Tryz.f3.params.toList args.toList ds p := hA0
  rw [Tryz.params3] at hA hval
  obtain ⟨v0, vs0, d0, ds0, p0, q0, hargs, rfl, rfl, h0, r0⟩ := trodAll_cons hA
  obtain ⟨v1, vs1, d1, ds1, p1, q1, rfl, rfl, rfl, h1, r1⟩ := trodAll_cons r0
  obtain ⟨rfl, rfl, rfl⟩ := trodAll_nil r1
  obtain rfl : args = #[v0, v1] := by cases args; simp_all
  obtain ⟨rfl, rfl⟩ := trodVars_none hV
  have k0 := h0
  have lt0 : ∀ x ∈ p0, x.block < W.heap.size := by obtain ⟨m, hm⟩ := k0; exact DataW.trod_lt m _ _ _ hm
  have k1 := h1
  have lt1 : ∀ x ∈ p1, x.block < W.heap.size := by obtain ⟨m, hm⟩ := k1; exact DataW.trod_lt m _ _ _ hm
  obtain ⟨a0, len0, cap0, rfl⟩ := okWide_slice Tryz.underlying22 (hval 0 22 v0 rfl rfl)
  obtain ⟨a1, len1, cap1, rfl⟩ := okWide_slice Tryz.underlying22 (hval 1 22 v1 rfl rfl)
  obtain ⟨R0, x0, y0, z0, b0⟩ := open_zrow Tryz.underlying22 Tryz.underlying27 (by kernel_rfl) (by kernel_rfl) Tryz.underlying4 Tryz.underlying25 Tryz.underlying57 (by kernel_rfl) h0 lt0
  obtain ⟨R1, x1, y1, z1, b1⟩ := open_zrow Tryz.underlying22 Tryz.underlying27 (by kernel_rfl) (by kernel_rfl) Tryz.underlying4 Tryz.underlying25 Tryz.underlying57 (by kernel_rfl) h1 lt1
  clear hA0
  simp only [List.append_nil] at hW' hk
  have hb : Rows.uptoBulkAll [d0, d1] ≤ 1048576 := of_decide_eq_true hk
  simp only [Rows.uptoBulkAll] at hb
  refine (walk a0 len0 cap0 R0 a1 len1 cap1 R1 W ⟨x0, y0, z0⟩ ⟨x1, y1, z1⟩ (by omega)).mono fun e W' ⟨he, bel⟩ => ?_
  subst he
  exact ⟨_, rfl, _, _, _, [], _, [], hW', trodAll_mk1 (shut_bool Tryz.underlying4 _), (trodAll_cons_mk (Below.trod laidOut (by kernel_rfl) (of_decide_eq_true (by kernel_rfl)) k0 bel lt0) (trodAll_cons_mk (Below.trod laidOut (by kernel_rfl) (of_decide_eq_true (by kernel_rfl)) k1 bel lt1) trodAll_mk0)), rfl, bel.frame _, fun h => by cases h⟩

set_option maxRecDepth 100000 in
theorem lifted (os : Os) (started : os.Started) (H : Type) (enc : TypeId × Value → H) (F : Stop.Interp) :
    ReturnsInHanded {} Tryz.checked os 3 .any ((Rows.OpenSpec.upto Rows.modCrtSpec).pre6 enc Tryz.prog Tryz.f3 Rows.modCrtUptoRow.domain false) (((Rows.OpenSpec.upto Rows.modCrtSpec).at F).post enc Tryz.prog Tryz.f3 false true false false) := by
  refine returnsInHanded_of_cond (C := Tryz.checked) (s := Rows.OpenSpec.upto Rows.modCrtSpec) (k := Rows.uptoSmall) rfl own started (by kernel_rfl) Tryz.func3
    (OpenSpec.witness (enc := enc) (C := Tryz.checked) (s := Rows.OpenSpec.upto Rows.modCrtSpec) (k := Rows.uptoSmall) rfl false ⟨#[], #[.slice none 0 0, .slice none 0 0], []⟩ 8 (by kernel_rfl) (by kernel_rfl) (by kernel_rfl)
      (x := ([.nil, .nil], [], [])) (by kernel_rfl) rfl (by kernel_rfl)) ?_
  intro W base args ds gs before hval hW _ hk _
  exact contract H enc W base args ds gs before hval hW hk

theorem over : Rows.modCrtUptoRow.holds Tryz.pinned (Rows.OpenSpec.upto Rows.modCrtSpec) :=
  OpenClaim.holds_of_cond 3 Tryz.f3 rfl rfl rfl rfl rfl rfl rfl ⟨rfl, rfl, rfl, rfl, rfl⟩ rfl rfl rfl rfl rfl (by kernel_rfl) Tryz.func3 (by kernel_rfl)
    (of_decide_eq_true (by kernel_rfl)) (by unfold Func.isWrapper; first | (rw [if_pos (by decide +kernel)]; kernel_rfl) | (rw [if_neg (by decide +kernel)]; exact ⟨rfl, rfl⟩))
    (fun os started H enc _ F => lifted os started H enc F)

/-- The given statement, in its second form. -/
theorem proved : Rows.ModCrtUptoSaid := over
#print axioms proved
end Go.Proofs.YtbcopicoldnahaaGreat.modCrt
