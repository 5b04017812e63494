/-
  strings.Cut at a slash.
-/
import Derived.Test.YtfpncmhaoadfdaaGreatZintE
import Derived.Lib.Bytealg
import Derived.Laws.Externs
/-! Contract: strings.Cut at a slash. -/
namespace Go.Proofs.YtfpncmhaoadfdaaGreat
open Go.RowKit
set_option linter.unusedVariables false
set_option linter.unusedSimpArgs false

/-- The place of the first slash; -1, if there is none. -/
def ix (s : ByteArray) : Int := Lib.indexByte s.data.toList 47
theorem ix_list (l : List UInt8) : (Lib.indexByte l 47 = -1 ∧ ∀ x ∈ l, x ≠ 47) ∨ ∃ i : Nat, Lib.indexByte l 47 = i ∧ i < l.length ∧ l.drop i = 47 :: l.drop (i + 1) ∧ ∀ x ∈ l.take i, x ≠ 47 := by
  induction l with
  | nil => exact .inl ⟨rfl, fun x hx => by cases hx⟩
  | cons b l ih =>
    unfold Lib.indexByte
    by_cases hb : b = 47
    · subst hb
      exact .inr ⟨0, by simp, by simp, by simp, fun x hx => by simp at hx⟩
    · have hb' : (b == 47) = false := by simpa using hb
      rw [hb']
      simp only [Bool.false_eq_true, if_false]
      rcases ih with ⟨h1, h2⟩ | ⟨i, h1, h2, h3, h4⟩
      · exact .inl ⟨by rw [h1]; rfl, fun x hx => by rcases List.mem_cons.1 hx with rfl | hx; exact hb; exact h2 x hx⟩
      · refine .inr ⟨i + 1, ?_, by simp; omega, by simpa using h3, fun x hx => ?_⟩
        · rw [h1]
          have : ((i : Int) == -1) = false := by rw [beq_eq_false_iff_ne]; omega
          rw [this]
          simp
        · rw [List.take_succ_cons] at hx
          rcases List.mem_cons.1 hx with rfl | hx
          · exact hb
          · exact h4 x hx
theorem ix_range (s : ByteArray) : -1 ≤ ix s ∧ ix s < s.size := by
  unfold ix
  have hl : s.data.toList.length = s.size := by rw [← ByteArray.toList_eq]; simp [ByteArray.toList_eq]
  rcases ix_list s.data.toList with ⟨h, -⟩ | ⟨i, h, h2, -⟩
  · rw [h]; omega
  · rw [h]; omega
set_option maxRecDepth 100000 in
/-- internal/stringslite.IndexByte of a slash. -/
theorem slibyte_v (s : ByteArray) (w : World) {i : Int} (hi : ix s = i) :
    Calls Tryz.prog 67 #[.string s, .int .u8 47] w fun e w' => e = .returned (.int .i64 i) ∧ w = w' := by
  go_enter Tryz.func67, Tryz.ntmps67
  go_wp2
  rw [run_callFunc_extern Tryz.func84 (by kernel_rfl) (by kernel_rfl) (by kernel_rfl) (e := Extern.BytealgIndexByte.indexByte) (by kernel_rfl), Lib.run_indexByteString]
  simp only [Result.andThen]
  rw [Oper.upon_value]
  have e : Lib.indexByte s.data.toList (47 : Int).toNat.toUInt8 = i := hi
  rw [e]
  go_wp2
  go_ret
  exact ⟨rfl, rfl⟩
set_option maxRecDepth 100000 in
/-- internal/stringslite.Index of a slash. -/
theorem slindex_v (s : ByteArray) (hs : s.size ≤ 9223372036854775807) (w : World) {i : Int} (hi : ix s = i) :
    Calls Tryz.prog 48 #[.string s, .string { data := #[47] }] w fun e w' => e = .returned (.int .i64 i) ∧ w = w' := by
  by_cases h : s = { data := #[47] }
  · subst h
    obtain rfl : i = 0 := by rw [← hi]; decide +kernel
    clear hi hs
    go_enter Tryz.func48, Tryz.ntmps48
    go_wp2_with fail
    go_ret
    exact ⟨rfl, rfl⟩
  · have hne : ([47] == s.toList) = false := by
      rw [beq_eq_false_iff_ne]
      intro e
      apply h
      apply bys_inj
      have : s.toList = s.data.toList := ByteArray.toList_eq s
      rw [this] at e
      unfold bys
      rw [← e]
    have HI := Lib.hid hi
    clear h hi
    go_enter Tryz.func48, Tryz.ntmps48
    go_wp2_with fail
    refine (slibyte_v s _ HI.out).mono ?_
    rintro e w' ⟨rfl, rfl⟩
    go_wp2_with fail
    go_ret
    exact ⟨rfl, rfl⟩
end Go.Proofs.YtfpncmhaoadfdaaGreat
