/-
  strings.CutPrefix of a minus; zint.Print, Parse.
-/
import Derived.Test.YtfpncmhaoadfdaaZintD
import Derived.Test.YtfpncmhaoadfdaaRefE
/-! Contracts: strings.CutPrefix, zint.Print, Parse. -/
namespace Go.Proofs.Ytfpncmhaoadfdaa
open Go.RowKit
set_option linter.unusedVariables false
set_option linter.unusedSimpArgs false

/-- The text begins with a minus. -/
def Minus (s : ByteArray) : Prop := 0 < s.size ∧ nth (bys s) 0 = 45
instance (s : ByteArray) : Decidable (Minus s) := by unfold Minus; exact inferInstance
theorem minus_eql (s : ByteArray) (h : 0 < s.size) {b : Bool} (hb : decide (nth (bys s) 0 = 45) = b) : ((s.extract 0 1).toList == [45]) = b := by
  have e1 : bys (s.extract 0 1) = [nth (bys s) 0] := by
    rw [bys_extract, List.drop_zero]
    have hl : 0 < (bys s).length := by rw [bys_length]; exact h
    match hm : bys s, hl with
    | x :: l, _ => simp [nth]
  rw [ByteArray.toList_eq, ← hb]
  generalize nth (bys s) 0 = v at *
  unfold bys at e1
  generalize (s.extract 0 1).data.toList = L at *
  obtain ⟨x, rfl⟩ : ∃ x, L = [x] := by
    match L, e1 with
    | [], e1 => simp at e1
    | [x], _ => exact ⟨x, rfl⟩
    | x :: y :: l, e1 => simp at e1
  simp only [List.map_cons, List.map_nil, List.cons.injEq, and_true] at e1
  rw [← e1, Bool.eq_iff_iff, beq_iff_eq, decide_eq_true_iff]
  constructor
  · intro h; simp at h; rw [h]; rfl
  · intro h
    have : x = 45 := UInt8.toNat_inj.1 (by rw [h]; rfl)
    rw [this]
/-- The text of a whole number. -/
def zstr (z : Int) : ByteArray := if z < 0 then { data := #[45] } ++ str (dgs z.natAbs) else str (dgs z.natAbs)
/-- zint.Print. -/
def ZPrPost (z : Int) (w : World) (e : Ending) (w' : World) : Prop := e = .returned (.string (zstr z)) ∧ Below w.heap.size w w'
theorem zprint_v {A : Option Addr} {n c : Nat} {s : Bool} {z : Int} {w : World} (h : Zv w s A n c z) (hn : n ≤ 900) :
    Calls Try.prog 57 #[.agg #[.bool s, .slice A n c]] w (ZPrPost z w) := by
  have z0 := zba w (.cells #[.bool s, .slice A n c] 25)
  obtain ⟨w3, hw3⟩ : ∃ w', w' = w.alloc (.cells #[.bool s, .slice A n c] 25) := ⟨_, rfl⟩
  have I : Ib w3 w.heap.size s A n c := by rw [hw3]; exact Ib.new _ _ _ _ _ _
  rw [← hw3] at z0
  have hX := h.below z0
  have HW := Lib.hid hw3.symm
  have HZ := Lib.hid z0
  have HI := Lib.hid I
  obtain ⟨r, hr⟩ : ∃ r, z.sign = r := ⟨_, rfl⟩
  have HR := Lib.hid hr
  obtain ⟨S, hS⟩ : ∃ S, S = str (dgs z.natAbs) := ⟨_, rfl⟩
  have HS := Lib.hid hS.symm
  have hsz : S.size ≤ 20000 := by
    rw [← bys_length, hS, bys_str (dig_dgs z.natAbs).low, dgs_length]
    exact nv_digits h.abs.1 hn
  by_cases h0 : z < 0
  · have hr0 : r < 0 := by rw [← hr, Int.sign_eq_neg_one_of_neg h0]; omega
    have hz : zstr z = { data := #[45] } ++ S := by unfold zstr; rw [if_pos h0, hS]
    have HZS := Lib.hid hz
    clear h hw3 hr hS z0 h0 hz I
    obtain ⟨i1, i2, i3, i4, i5⟩ := HI.out
    go_enter Try.func57, Try.ntmps57
    go_wp2_with fail
    rw [HW.out]
    refine (print_calls hX.abs.1 (by omega)).mono ?_
    unfold PrPost
    rw [HS.out]
    rintro e w4 ⟨rfl, B4⟩
    clear i1 i2 i3 i4 i5
    obtain ⟨i1, i2, i3, i4, i5⟩ := HI.out.below B4
    have hX4 := hX.below B4
    clear hX
    go_wp2_with fail
    refine (zsign_v hX4 (by omega) HR.out).mono ?_
    rintro e w5 ⟨rfl, B5⟩
    have P := Lib.hid (zup HZ.out (zup B4 B5))
    clear hX4 B4 B5 i1 i2 i3 i4 i5
    go_wp2_with fail
    go_ret
    exact ⟨by rw [HZS.out]; rfl, P.out⟩
  · have hr0 : ¬ r < 0 := by rw [← hr]; intro k; exact h0 (sign_neg k)
    have hz : zstr z = S := by unfold zstr; rw [if_neg h0, hS]
    have HZS := Lib.hid hz
    clear h hw3 hr hS z0 h0 hz I
    obtain ⟨i1, i2, i3, i4, i5⟩ := HI.out
    go_enter Try.func57, Try.ntmps57
    go_wp2_with fail
    rw [HW.out]
    refine (print_calls hX.abs.1 (by omega)).mono ?_
    unfold PrPost
    rw [HS.out]
    rintro e w4 ⟨rfl, B4⟩
    clear i1 i2 i3 i4 i5
    obtain ⟨i1, i2, i3, i4, i5⟩ := HI.out.below B4
    have hX4 := hX.below B4
    clear hX
    go_wp2_with fail
    refine (zsign_v hX4 (by omega) HR.out).mono ?_
    rintro e w5 ⟨rfl, B5⟩
    have P := Lib.hid (zup HZ.out (zup B4 B5))
    clear hX4 B4 B5 i1 i2 i3 i4 i5
    go_wp2_with fail
    go_ret
    exact ⟨by rw [HZS.out]; rfl, P.out⟩

end Go.Proofs.Ytfpncmhaoadfdaa
