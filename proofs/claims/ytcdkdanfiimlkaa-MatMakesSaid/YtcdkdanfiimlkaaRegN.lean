/-
  A region that draws its order: the end by the slots alone.
-/
import Derived.Test.YtcdkdanfiimlkaaRegM
import Derived.Lib.Hide
/-! Regions of this program: their ends. -/
namespace Go.Proofs.Ytcdkdanfiimlkaa
open Go.RowKit
set_option linter.unusedVariables false
set_option linter.unusedSimpArgs false

/-- A goal that nothing lays open by itself. -/
structure Shut (p : Prop) : Prop where
  out : p
/-- What is to be shown behind a region, slot by slot. -/
def Ends (P : Program) (ops : Array Oper) (Q : Exit → Act → World → Prop) (m : Nat) (Fs : List FVal) (w : World) : Nat → List (Option Nat) → Act → Prop
  | _, [], a => Shut (wpList P ops Q (ops.toList.drop m) a w)
  | i, d :: ds, a => ∀ v, nthF Fs i v w → Ends P ops Q m Fs w (i + 1) ds (a.put d v)
theorem endAll_of {P : Program} {ops : Array Oper} {Q : Exit → Act → World → Prop} {m : Nat} {w0 w : World} {Z : TypeId → Obj} {Fs : List FVal} : ∀ (l : List Oper) (acc : List Nat) (i : Nat) (a : Act), l.all (fun o => (isAlloc o).isNone) = true → Ends P ops Q m Fs w i (l.map (·.dst)) a → EndAll P ops Q m w0 Z Fs w acc i l a
  | [], acc, i, a, _, h => by unfold EndAll; unfold Ends at h; exact h.out
  | o :: os, acc, i, a, hn, h => by
    rw [List.all_cons, Bool.and_eq_true] at hn
    have e : isAlloc o = none := by simpa using hn.1
    unfold EndAll
    rw [e]
    intro v hv
    exact endAll_of os acc (i + 1) _ hn.2 (h v hv)
theorem Ends.one {P : Program} {ops : Array Oper} {Q : Exit → Act → World → Prop} {m : Nat} {w : World} {Fs : List FVal} {i : Nat} {d : Option Nat} {ds : List (Option Nat)} {a : Act} (h : ∀ v, nthF Fs i v w → Ends P ops Q m Fs w (i + 1) ds (a.put d v)) : Ends P ops Q m Fs w i (d :: ds) a := h
theorem Ends.nil {P : Program} {ops : Array Oper} {Q : Exit → Act → World → Prop} {m : Nat} {w : World} {Fs : List FVal} {i : Nat} {a : Act} {l : List Oper} (hl : ops.toList.drop m = l) (h : wpList P ops Q l a w) : Ends P ops Q m Fs w i [] a := by
  unfold Ends; rw [hl]; exact ⟨h⟩
theorem region9 {ops : Array Oper} {Q : Exit → Act → World → Prop} {id : Nat} {a0 : Act} {w0 : World} (ds : List (Option Nat)) (fl : List Nat) (m : Nat) (Fs : List FVal) (hQ : ∀ c a d v w, Q (.panic c) (a.put d v) w → Q (.panic c) a w)
    (hok : regionOk ops fl m a0.tmps.size = true) (hno : (ops.toList.take m).all (fun o => (isAlloc o).isNone) = true) (hds : (ops.toList.take m).map (·.dst) = ds) (hzl : (allocTs ops m).all okZ = true)
    (hg : (List.range m).all (fun k => ((ops[k]?).bind isAlloc).isNone || ((ops[k]?).map (·.guard)) == some none) = true)
    (hs : StayAll Fs) (hops : HopAll Try.prog ops Q fl m a0 w0 Fs 0 (ops.toList.take m))
    (hend : ∀ w, Below w0.heap.size w0 w → Ends Try.prog ops Q m Fs w 0 ds a0) : (Code.region id ops true).wp Try.prog Q a0 w0 :=
  region8 fl m Fs hQ hok hzl hg hs hops (fun w hw => endAll_of _ _ _ _ hno (by rw [hds]; exact hend w hw))
end Go.Proofs.Ytcdkdanfiimlkaa
