/-
  strings.CutPrefix of a minus; zint.Print, Parse.
-/
import Derived.Test.YtfpncmhaoadfdaaGreatZintD
import Derived.Test.YtfpncmhaoadfdaaGreatRefE
/-! Contracts: strings.CutPrefix, zint.Print, Parse. -/
namespace Go.Proofs.YtfpncmhaoadfdaaGreat
open Go.RowKit
set_option linter.unusedVariables false
set_option linter.unusedSimpArgs false

/-- The text begins with a minus. -/
def Minus (s : ByteArray) : Prop := 0 < s.size ∧ nth (bys s) 0 = 45
instance (s : ByteArray) : Decidable (Minus s) := by unfold Minus; exact inferInstance
theorem minus_eql (s : ByteArray) (h : 0 < s.size) {b : Bool} (hb : decide (nth (bys s) 0 = 45) = b) : ((s.extract 0 1).toList == [45]) = b := by
  have e1 : bys (s.extract 0 1) = [nth (bys s) 0] := by
    rw [bys_extract, List.drop_zero]
    have hl : 0 < (bys s).length := by rw [bys_length]; exact h
    match hm : bys s, hl with
    | x :: l, _ => simp [nth]
  rw [ByteArray.toList_eq, ← hb]
  generalize nth (bys s) 0 = v at *
  unfold bys at e1
  generalize (s.extract 0 1).data.toList = L at *
  obtain ⟨x, rfl⟩ : ∃ x, L = [x] := by
    match L, e1 with
    | [], e1 => simp at e1
    | [x], _ => exact ⟨x, rfl⟩
    | x :: y :: l, e1 => simp at e1
  simp only [List.map_cons, List.map_nil, List.cons.injEq, and_true] at e1
  rw [← e1, Bool.eq_iff_iff, beq_iff_eq, decide_eq_true_iff]
  constructor
  · intro h; simp at h; rw [h]; rfl
  · intro h
    have : x = 45 := UInt8.toNat_inj.1 (by rw [h]; rfl)
    rw [this]
/-- internal/stringslite.HasPrefix of a minus. -/
theorem hasp_calls (s : ByteArray) (hs : s.size ≤ 9223372036854775807) (w : World) (b : Bool) (hb : decide (Minus s) = b) :
    Calls Tryz.prog 71 #[.string s, .string { data := #[45] }] w fun e w' => e = .returned (.bool b) ∧ w = w' := by
  by_cases h : 0 < s.size
  · have e := minus_eql s h (b := b) (by rw [← hb, decide_eq_decide]; exact ⟨fun k => ⟨h, k⟩, fun k => k.2⟩)
    clear hb
    go_enter Tryz.func71, Tryz.ntmps71
    go_wp2_with fail
    go_ret
    exact ⟨rfl, rfl⟩
  · obtain rfl : b = false := by rw [← hb, decide_eq_false_iff_not]; exact fun k => h k.1
    clear hb
    have h2 : ¬ (1 : Int) ≤ (s.size : Int) := by omega
    go_enter Tryz.func71, Tryz.ntmps71
    go_wp2_with fail
    go_ret
    exact ⟨rfl, rfl⟩
theorem scut_yes (s : ByteArray) (hs : s.size ≤ 9223372036854775807) (h : Minus s) (w : World) :
    Calls Tryz.prog 49 #[.string s, .string { data := #[45] }] w fun e w' => e = .returned (.tuple #[.string (s.extract 1 s.size), .bool true]) ∧ w = w' := by
  have hs1 : 1 ≤ s.size := h.1
  have H := Lib.hid h
  clear h
  go_enter Tryz.func49, Tryz.ntmps49
  go_wp2_with fail
  refine (hasp_calls s hs _ true (by rw [decide_eq_true_iff]; exact H.out)).mono ?_
  rintro e w' ⟨rfl, rfl⟩
  go_wp2_with fail
  go_ret2
  exact ⟨rfl, rfl⟩
theorem scut_no (s : ByteArray) (hs : s.size ≤ 9223372036854775807) (h : ¬ Minus s) (w : World) :
    Calls Tryz.prog 49 #[.string s, .string { data := #[45] }] w fun e w' => e = .returned (.tuple #[.string s, .bool false]) ∧ w = w' := by
  have H := Lib.hid h
  clear h
  go_enter Tryz.func49, Tryz.ntmps49
  go_wp2_with fail
  refine (hasp_calls s hs _ false (by rw [decide_eq_false_iff_not]; exact H.out)).mono ?_
  rintro e w' ⟨rfl, rfl⟩
  go_wp2_with fail
  go_ret2
  exact ⟨rfl, rfl⟩
theorem cut_yes (s : ByteArray) (hs : s.size ≤ 9223372036854775807) (h : Minus s) (w : World) :
    Calls Tryz.prog 35 #[.string s, .string { data := #[45] }] w fun e w' => e = .returned (.tuple #[.string (s.extract 1 s.size), .bool true]) ∧ w = w' := by
  have H := Lib.hid h
  clear h
  go_enter Tryz.func35, Tryz.ntmps35
  go_wp2_with fail
  refine (scut_yes s hs H.out _).mono ?_
  rintro e w' ⟨rfl, rfl⟩
  go_wp2_with fail
  go_ret2
  exact ⟨rfl, rfl⟩
theorem cut_no (s : ByteArray) (hs : s.size ≤ 9223372036854775807) (h : ¬ Minus s) (w : World) :
    Calls Tryz.prog 35 #[.string s, .string { data := #[45] }] w fun e w' => e = .returned (.tuple #[.string s, .bool false]) ∧ w = w' := by
  have H := Lib.hid h
  clear h
  go_enter Tryz.func35, Tryz.ntmps35
  go_wp2_with fail
  refine (scut_no s hs H.out _).mono ?_
  rintro e w' ⟨rfl, rfl⟩
  go_wp2_with fail
  go_ret2
  exact ⟨rfl, rfl⟩

/-- The text of a whole number. -/
def zstr (z : Int) : ByteArray := if z < 0 then { data := #[45] } ++ str (dgs z.natAbs) else str (dgs z.natAbs)
/-- zint.Print. -/
def ZPrPost (z : Int) (w : World) (e : Ending) (w' : World) : Prop := e = .returned (.string (zstr z)) ∧ Below w.heap.size w w'
theorem zprint_v {A : Option Addr} {n c : Nat} {s : Bool} {z : Int} {w : World} (h : Zv w s A n c z) (hn : n ≤ 900) :
    Calls Tryz.prog 18 #[.agg #[.bool s, .slice A n c]] w (ZPrPost z w) := by
  have z0 := zba w (.cells #[.bool s, .slice A n c] 25)
  obtain ⟨w3, hw3⟩ : ∃ w', w' = w.alloc (.cells #[.bool s, .slice A n c] 25) := ⟨_, rfl⟩
  have I : Ib w3 w.heap.size s A n c := by rw [hw3]; exact Ib.new _ _ _ _ _ _
  rw [← hw3] at z0
  have hX := h.below z0
  have HW := Lib.hid hw3.symm
  have HZ := Lib.hid z0
  have HI := Lib.hid I
  obtain ⟨r, hr⟩ : ∃ r, z.sign = r := ⟨_, rfl⟩
  have HR := Lib.hid hr
  obtain ⟨S, hS⟩ : ∃ S, S = str (dgs z.natAbs) := ⟨_, rfl⟩
  have HS := Lib.hid hS.symm
  have hsz : S.size ≤ 20000 := by
    rw [← bys_length, hS, bys_str (dig_dgs z.natAbs).low, dgs_length]
    exact nv_digits h.abs.1 hn
  by_cases h0 : z < 0
  · have hr0 : r < 0 := by rw [← hr, Int.sign_eq_neg_one_of_neg h0]; omega
    have hz : zstr z = { data := #[45] } ++ S := by unfold zstr; rw [if_pos h0, hS]
    have HZS := Lib.hid hz
    clear h hw3 hr hS z0 h0 hz I
    obtain ⟨i1, i2, i3, i4, i5⟩ := HI.out
    go_enter Tryz.func18, Tryz.ntmps18
    go_wp2_with fail
    rw [HW.out]
    refine (print_calls hX.abs.1 (by omega)).mono ?_
    unfold PrPost
    rw [HS.out]
    rintro e w4 ⟨rfl, B4⟩
    clear i1 i2 i3 i4 i5
    obtain ⟨i1, i2, i3, i4, i5⟩ := HI.out.below B4
    have hX4 := hX.below B4
    clear hX
    go_wp2_with fail
    refine (zsign_v hX4 (by omega) HR.out).mono ?_
    rintro e w5 ⟨rfl, B5⟩
    have P := Lib.hid (zup HZ.out (zup B4 B5))
    clear hX4 B4 B5 i1 i2 i3 i4 i5
    go_wp2_with fail
    go_ret
    exact ⟨by rw [HZS.out]; rfl, P.out⟩
  · have hr0 : ¬ r < 0 := by rw [← hr]; intro k; exact h0 (sign_neg k)
    have hz : zstr z = S := by unfold zstr; rw [if_neg h0, hS]
    have HZS := Lib.hid hz
    clear h hw3 hr hS z0 h0 hz I
    obtain ⟨i1, i2, i3, i4, i5⟩ := HI.out
    go_enter Tryz.func18, Tryz.ntmps18
    go_wp2_with fail
    rw [HW.out]
    refine (print_calls hX.abs.1 (by omega)).mono ?_
    unfold PrPost
    rw [HS.out]
    rintro e w4 ⟨rfl, B4⟩
    clear i1 i2 i3 i4 i5
    obtain ⟨i1, i2, i3, i4, i5⟩ := HI.out.below B4
    have hX4 := hX.below B4
    clear hX
    go_wp2_with fail
    refine (zsign_v hX4 (by omega) HR.out).mono ?_
    rintro e w5 ⟨rfl, B5⟩
    have P := Lib.hid (zup HZ.out (zup B4 B5))
    clear hX4 B4 B5 i1 i2 i3 i4 i5
    go_wp2_with fail
    go_ret
    exact ⟨by rw [HZS.out]; rfl, P.out⟩

/-- zint.Parse: of a numeral. -/
theorem zparse_pos (s : ByteArray) (hs : s.size ≤ 9223372036854775807) (h : ¬ Minus s) (hN : Num (bys s)) (w : World) :
    Calls Tryz.prog 20 #[.string s] w (ZPowPost ((hv (bys s) : Nat) : Int) 2048 w) := by
  have z0 := zba w (.cells #[.bool false, .slice none 0 0] 25)
  obtain ⟨w3, hw3⟩ : ∃ w', w' = w.alloc (.cells #[.bool false, .slice none 0 0] 25) := ⟨_, rfl⟩
  have I : Ib w3 w.heap.size false none 0 0 := by rw [hw3]; exact Ib.new _ _ _ _ _ _
  rw [← hw3] at z0
  have HW := Lib.hid hw3.symm
  have HZ := Lib.hid z0
  have HI := Lib.hid I
  have H := Lib.hid h
  have HN := Lib.hid hN
  obtain ⟨v, hv0⟩ : ∃ v, hv (bys s) = v := ⟨_, rfl⟩
  have HV := Lib.hid hv0
  rw [hv0]
  clear hw3 I z0 h hN hv0
  go_enter Tryz.func20, Tryz.ntmps20
  go_wp2_with fail
  rw [HW.out]
  refine (cut_no s hs H.out _).mono ?_
  rintro e w' ⟨rfl, rfl⟩
  go_wp2_with fail
  refine (parse_yes s HN.out _).mono ?_
  rw [HV.out]
  rintro e w4 ⟨A4, n4, c4, rfl, p4, k4, B4⟩
  go_wp2_with fail
  refine (signed_v p4).mono ?_
  rw [sg_false]
  rintro e w5 ⟨s5, A5, n5, c5, rfl, p5, k5, B5⟩
  have Q5 := zup B4 B5
  have I5 := HI.out.below Q5
  have P := Lib.hid (zfin2 p5 I5 (k := 2048) (by omega) (Nat.le_refl _) (zup HZ.out Q5))
  obtain ⟨r1, r2, r3, r4, r5⟩ := I5
  clear p4 p5 B4 B5 Q5
  go_wp2_with fail
  exact bodyPost_ret (v := .tuple #[.agg #[.bool s5, .slice A5 n5 c5], .bool true]) (by simp [results, Tryz.results20, go_sem, r1, r2]) rfl P.out
/-- zint.Parse: of a numeral with a minus ahead, of no 0. -/
theorem zparse_neg (s : ByteArray) (hs : s.size ≤ 9223372036854775807) (h : Minus s) (hN : Num (bys (s.extract 1 s.size))) (h0 : 0 < hv (bys (s.extract 1 s.size))) (w : World) :
    Calls Tryz.prog 20 #[.string s] w (ZPowPost (-((hv (bys (s.extract 1 s.size)) : Nat) : Int)) 2048 w) := by
  have z0 := zba w (.cells #[.bool false, .slice none 0 0] 25)
  obtain ⟨w3, hw3⟩ : ∃ w', w' = w.alloc (.cells #[.bool false, .slice none 0 0] 25) := ⟨_, rfl⟩
  have I : Ib w3 w.heap.size false none 0 0 := by rw [hw3]; exact Ib.new _ _ _ _ _ _
  rw [← hw3] at z0
  have HW := Lib.hid hw3.symm
  have HZ := Lib.hid z0
  have HI := Lib.hid I
  have HC := cut_yes s hs h
  generalize s.extract 1 s.size = r at *
  have HCC := Lib.hid HC
  have HN := Lib.hid hN
  obtain ⟨v, hv0⟩ : ∃ v, hv (bys r) = v := ⟨_, rfl⟩
  have HV := Lib.hid hv0
  rw [hv0] at h0
  rw [hv0]
  have hs2 : sg true v = -(v : Int) := by simp [sg]
  have HS := Lib.hid hs2
  clear hw3 I z0 h hN hv0 HC hs2
  go_enter Tryz.func20, Tryz.ntmps20
  go_wp2_with fail
  rw [HW.out]
  refine (HCC.out _).mono ?_
  rintro e w' ⟨rfl, rfl⟩
  go_wp2_with fail
  refine (parse_yes r HN.out _).mono ?_
  rw [HV.out]
  rintro e w4 ⟨A4, n4, c4, rfl, p4, k4, B4⟩
  have hn4 : 0 < n4 := by have := p4.pos; rw [decide_eq_decide] at this; omega
  go_wp2_with fail
  refine (signed_v p4).mono ?_
  rw [HS.out]
  rintro e w5 ⟨s5, A5, n5, c5, rfl, p5, k5, B5⟩
  have Q5 := zup B4 B5
  have I5 := HI.out.below Q5
  have P := Lib.hid (zfin2 p5 I5 (k := 2048) (by omega) (Nat.le_refl _) (zup HZ.out Q5))
  obtain ⟨r1, r2, r3, r4, r5⟩ := I5
  clear p4 p5 B4 B5 Q5
  go_wp2_with fail
  exact bodyPost_ret (v := .tuple #[.agg #[.bool s5, .slice A5 n5 c5], .bool true]) (by simp [results, Tryz.results20, go_sem, r1, r2]) rfl P.out
theorem zparse_no0 (s : ByteArray) (hs : s.size ≤ 9223372036854775807) (h : ¬ Minus s) (hN : ¬ Num (bys s)) (w : World) :
    Calls Tryz.prog 20 #[.string s] w (ZNoPost w) := by
  have z0 := zba w (.cells #[.bool false, .slice none 0 0] 25)
  have HZ := Lib.hid z0
  have H := Lib.hid h
  have HN := Lib.hid hN
  clear z0 h hN
  go_enter Tryz.func20, Tryz.ntmps20
  go_wp2_with fail
  refine (cut_no s hs H.out _).mono ?_
  rintro e w' ⟨rfl, rfl⟩
  go_wp2_with fail
  refine (parse_no s HN.out _).mono ?_
  rintro e w' ⟨rfl, rfl⟩
  go_wp2_with fail
  exact bodyPost_ret (v := .tuple #[.agg #[.bool false, .slice none 0 0], .bool false]) (by simp [results, Tryz.results20, go_sem]) rfl ⟨rfl, HZ.out⟩
theorem zparse_no1 (s : ByteArray) (hs : s.size ≤ 9223372036854775807) (h : Minus s) (hN : ¬ Num (bys (s.extract 1 s.size))) (w : World) :
    Calls Tryz.prog 20 #[.string s] w (ZNoPost w) := by
  have z0 := zba w (.cells #[.bool false, .slice none 0 0] 25)
  have HZ := Lib.hid z0
  have HC := cut_yes s hs h
  generalize s.extract 1 s.size = r at *
  have HCC := Lib.hid HC
  have HN := Lib.hid hN
  clear z0 h hN HC
  go_enter Tryz.func20, Tryz.ntmps20
  go_wp2_with fail
  refine (HCC.out _).mono ?_
  rintro e w' ⟨rfl, rfl⟩
  go_wp2_with fail
  refine (parse_no r HN.out _).mono ?_
  rintro e w' ⟨rfl, rfl⟩
  go_wp2_with fail
  exact bodyPost_ret (v := .tuple #[.agg #[.bool false, .slice none 0 0], .bool false]) (by simp [results, Tryz.results20, go_sem]) rfl ⟨rfl, HZ.out⟩
theorem zparse_no2 (s : ByteArray) (hs : s.size ≤ 9223372036854775807) (h : Minus s) (hN : Num (bys (s.extract 1 s.size))) (h0 : hv (bys (s.extract 1 s.size)) = 0) (w : World) :
    Calls Tryz.prog 20 #[.string s] w (ZNoPost w) := by
  have z0 := zba w (.cells #[.bool false, .slice none 0 0] 25)
  obtain ⟨w3, hw3⟩ : ∃ w', w' = w.alloc (.cells #[.bool false, .slice none 0 0] 25) := ⟨_, rfl⟩
  have I : Ib w3 w.heap.size false none 0 0 := by rw [hw3]; exact Ib.new _ _ _ _ _ _
  rw [← hw3] at z0
  have HW := Lib.hid hw3.symm
  have HZ := Lib.hid z0
  have HI := Lib.hid I
  have HC := cut_yes s hs h
  generalize s.extract 1 s.size = r at *
  have HCC := Lib.hid HC
  have HN := Lib.hid hN
  have HV := Lib.hid h0
  clear hw3 I z0 h hN h0 HC
  go_enter Tryz.func20, Tryz.ntmps20
  go_wp2_with fail
  rw [HW.out]
  refine (HCC.out _).mono ?_
  rintro e w' ⟨rfl, rfl⟩
  go_wp2_with fail
  refine (parse_yes r HN.out _).mono ?_
  rw [HV.out]
  rintro e w4 ⟨A4, n4, c4, rfl, p4, k4, B4⟩
  have hn4 : n4 = 0 := by have := p4.pos; simp at this; omega
  subst hn4
  have P := Lib.hid (below_put (zup HZ.out B4) (g := w.heap.size) (A := none) (n := 0) (c := 0) (s := false) (Nat.le_refl _))
  obtain ⟨r1, r2, r3, r4, r5⟩ := HI.out.below B4
  clear p4 B4
  go_wp2_with fail
  exact bodyPost_ret (v := .tuple #[.agg #[.bool false, .slice none 0 0], .bool false]) (by simp [results, Tryz.results20, go_sem, r1, r2]) rfl ⟨rfl, P.out⟩
end Go.Proofs.YtfpncmhaoadfdaaGreat
