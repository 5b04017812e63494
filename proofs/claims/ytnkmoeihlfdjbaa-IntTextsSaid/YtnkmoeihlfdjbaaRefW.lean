/-
  The reference of layer 5: Print, Parse.
-/
import Derived.Test.YtnkmoeihlfdjbaaZintE
import Derived.Test.YtnkmoeihlfdjbaaRefZ
/-! Contracts: quincunxref05.Print, Parse. -/
namespace Go.Proofs.Ytnkmoeihlfdjbaa
open Go.RowKit
set_option linter.unusedVariables false
set_option linter.unusedSimpArgs false

/-- quincunxref05.Print. -/
theorem rprintz_v {A : Option Addr} {n c : Nat} {s : Bool} {z : Int} {w : World} (h : Rz w s A n c z) (hn : n ≤ 1000000) (hnd : nd z.natAbs ≤ 20000) :
    Calls Try.prog 44 #[.agg #[.bool s, .slice A n c]] w (ZPrPost z w) := by
  have z0 := zba w (.cells #[.bool s, .slice A n c] 30)
  have hD := h.1.below z0
  have hs := h.2.out
  have HZ := Lib.hid z0
  obtain ⟨S, hS⟩ : ∃ S, S = str (dgs z.natAbs) := ⟨_, rfl⟩
  have HS := Lib.hid hS.symm
  have hsz : S.size ≤ 20000 := by
    rw [← bys_length, hS, bys_str (dig_dgs z.natAbs).low, dgs_length]
    exact hnd
  by_cases h0 : z < 0
  · obtain rfl : s = true := by rw [hs, decide_eq_true h0]
    have hz : zstr z = { data := #[45] } ++ S := by unfold zstr; rw [if_pos h0, hS]
    have HZS := Lib.hid hz
    clear h hs hS z0 h0 hz
    go_enter Try.func44, Try.ntmps44
    go_wp2_with fail
    refine (rprint_v hD hn (by omega)).mono ?_
    unfold PrPost
    rw [HS.out]
    rintro e w4 ⟨rfl, B4⟩
    have P := Lib.hid (zup HZ.out B4)
    clear hD B4
    go_wp2_with fail
    go_ret
    exact ⟨by rw [HZS.out]; rfl, P.out⟩
  · obtain rfl : s = false := by rw [hs, decide_eq_false h0]
    have hz : zstr z = S := by unfold zstr; rw [if_neg h0, hS]
    have HZS := Lib.hid hz
    clear h hs hS z0 h0 hz
    go_enter Try.func44, Try.ntmps44
    go_wp2_with fail
    refine (rprint_v hD hn (by omega)).mono ?_
    unfold PrPost
    rw [HS.out]
    rintro e w4 ⟨rfl, B4⟩
    have P := Lib.hid (zup HZ.out B4)
    clear hD B4
    go_wp2_with fail
    go_ret
    exact ⟨by rw [HZS.out]; rfl, P.out⟩
/-- What quincunxref05.Parse answers of a numeral. -/
def RpPost (z : Int) (k : Nat) (w : World) (e : Ending) (w' : World) : Prop :=
  ∃ s A n c, e = .returned (.tuple #[.agg #[.bool s, .slice A n c], .bool true]) ∧ Rz w' s A n c z ∧ n ≤ k ∧ Below w.heap.size w w'
theorem rfinp {w w2 : World} {A B : Option Addr} {n c g k m d : Nat} {s t : Bool} {z : Int} (h : Rz w2 s A n c z) (hi : Ib w2 g t B m d) (hk : n ≤ k) (hg : w.heap.size ≤ g) (hB : Below w.heap.size w w2) :
    RpPost z k w (.returned (.tuple #[.agg #[.bool s, .slice A n c], .bool true])) ((w2.setCell ⟨g, 0, none⟩ (.bool s)).setCell ⟨g, 1, none⟩ (.slice A n c)) :=
  ⟨s, A, n, c, rfl, h.put hi, hk, below_put hB hg⟩
theorem not_minus {s : ByteArray} (h : ¬ Minus s) (h1 : 0 < s.size) : ((s[0].toNat : Int) == 45) = false := by
  rw [beq_eq_false_iff_ne]
  intro k
  refine h ⟨h1, ?_⟩
  rw [← bys_at s h1]
  omega
set_option maxHeartbeats 400000 in
theorem rparse_pos (s : ByteArray) (hs : s.size ≤ 20000) (h : ¬ Minus s) (hN : Num (bys s)) (w : World) :
    Calls Try.prog 43 #[.string s] w (RpPost ((hv (bys s) : Nat) : Int) s.size w) := by
  have z0 := zba w (.cells #[.bool false, .slice none 0 0] 30)
  obtain ⟨w3, hw3⟩ : ∃ w', w' = w.alloc (.cells #[.bool false, .slice none 0 0] 30) := ⟨_, rfl⟩
  have I : Ib w3 w.heap.size false none 0 0 := by rw [hw3]; exact Ib.new _ _ _ _ _ _
  rw [← hw3] at z0
  have h1 : 0 < s.size := by have := hN.1; rwa [bys_length] at this
  have e0 := not_minus h h1
  have HW := Lib.hid hw3.symm
  have HZ := Lib.hid z0
  have HI := Lib.hid I
  have HN := Lib.hid hN
  obtain ⟨v, hv0⟩ : ∃ v, hv (bys s) = v := ⟨_, rfl⟩
  have HV := Lib.hid hv0
  rw [hv0]
  clear hw3 I z0 h hN hv0
  go_enter Try.func43, Try.ntmps43
  go_wp2_with fail
  rw [HW.out]
  refine (is_yes s HN.out _).mono ?_
  rintro e w' ⟨rfl, rfl⟩
  go_wp2_with fail
  refine (rparse_calls s HN.out.2.2.2 hs _).mono ?_
  rw [HV.out]
  rintro e w4 ⟨A4, n4, c4, rfl, p4, k4, B4⟩
  go_wp2_with fail
  refine (rnorm_v p4).mono ?_
  rw [sg_false]
  rintro e w5 ⟨s5, A5, n5, c5, rfl, p5, k5, B5⟩
  have Q5 := zup B4 B5
  have I5 := HI.out.below Q5
  have P := Lib.hid (rfinp p5 I5 (k := s.size) (by omega) (Nat.le_refl _) (zup HZ.out Q5))
  obtain ⟨r1, r2, r3, r4, r5⟩ := I5
  clear p4 p5 B4 B5 Q5
  go_wp2_with fail
  exact bodyPost_ret (v := .tuple #[.agg #[.bool s5, .slice A5 n5 c5], .bool true]) (by simp [results, Try.results43, go_sem, r1, r2]) rfl P.out

theorem zero_eql (r : ByteArray) (hN : Num (bys r)) {b : Bool} (hb : decide (hv (bys r) = 0) = b) : (r.toList == [48]) = b := by
  rw [ByteArray.toList_eq, ← hb, Bool.eq_iff_iff, beq_iff_eq, decide_eq_true_iff]
  constructor
  · intro h
    have : bys r = [48] := by unfold bys; rw [h]; rfl
    rw [this]; rfl
  · intro h
    have e := dgs_hv hN
    rw [h] at e
    have e2 : dgs 0 = [48] := by unfold dgs; rw [nd_eq (k := 1) (by omega) (by omega) (.inl rfl)]; rfl
    rw [e2] at e
    unfold bys at e
    generalize r.data.toList = L at *
    match L, e with
    | [x], e =>
      simp at e
      have : x = 48 := UInt8.toNat_inj.1 (by rw [← e]; rfl)
      rw [this]
    | x :: y :: l, e => simp at e
set_option maxHeartbeats 400000 in
theorem rparse_neg (s : ByteArray) (hs : s.size ≤ 20000) (h : Minus s) (hN : Num (bys (s.extract 1 s.size))) (h0 : 0 < hv (bys (s.extract 1 s.size))) (w : World) :
    Calls Try.prog 43 #[.string s] w (RpPost (-((hv (bys (s.extract 1 s.size)) : Nat) : Int)) s.size w) := by
  have z0 := zba w (.cells #[.bool false, .slice none 0 0] 30)
  obtain ⟨w3, hw3⟩ : ∃ w', w' = w.alloc (.cells #[.bool false, .slice none 0 0] 30) := ⟨_, rfl⟩
  have I : Ib w3 w.heap.size false none 0 0 := by rw [hw3]; exact Ib.new _ _ _ _ _ _
  rw [← hw3] at z0
  have h1 : 0 < s.size := h.1
  have e0 : s[0].toNat = 45 := by rw [bys_at s h1]; exact h.2
  obtain ⟨r, hr⟩ : ∃ r, s.extract 1 s.size = r := ⟨_, rfl⟩
  have hsz : r.size ≤ s.size := by rw [← hr, ByteArray.size_extract]; omega
  rw [hr] at hN h0
  have hz := zero_eql r hN (b := false) (by rw [decide_eq_false_iff_not]; omega)
  have HW := Lib.hid hw3.symm
  have HZ := Lib.hid z0
  have HI := Lib.hid I
  have HN := Lib.hid hN
  obtain ⟨v, hv0⟩ : ∃ v, hv (bys r) = v := ⟨_, rfl⟩
  have HV := Lib.hid hv0
  have hs2 : sg true v = -(v : Int) := by simp [sg]
  have HS := Lib.hid hs2
  rw [hr, hv0]
  clear hw3 I z0 h hN hv0 hs2 h0
  go_enter Try.func43, Try.ntmps43
  go_wp2_with fail
  rw [HW.out]
  refine (is_yes r HN.out _).mono ?_
  rintro e w' ⟨rfl, rfl⟩
  go_wp2_with fail
  refine (rparse_calls r HN.out.2.2.2 (by omega) _).mono ?_
  rw [HV.out]
  rintro e w4 ⟨A4, n4, c4, rfl, p4, k4, B4⟩
  go_wp2_with fail
  refine (rnorm_v p4).mono ?_
  rw [HS.out]
  rintro e w5 ⟨s5, A5, n5, c5, rfl, p5, k5, B5⟩
  have Q5 := zup B4 B5
  have I5 := HI.out.below Q5
  have P := Lib.hid (rfinp p5 I5 (k := s.size) (by omega) (Nat.le_refl _) (zup HZ.out Q5))
  obtain ⟨r1, r2, r3, r4, r5⟩ := I5
  clear p4 p5 B4 B5 Q5
  go_wp2_with fail
  exact bodyPost_ret (v := .tuple #[.agg #[.bool s5, .slice A5 n5 c5], .bool true]) (by simp [results, Try.results43, go_sem, r1, r2]) rfl P.out
theorem rparse_no0 (s : ByteArray) (h : ¬ Minus s) (hN : ¬ Num (bys s)) (w : World) :
    Calls Try.prog 43 #[.string s] w (ZNoPost w) := by
  have z0 := zba w (.cells #[.bool false, .slice none 0 0] 30)
  have HZ := Lib.hid z0
  have HN := Lib.hid hN
  by_cases h1 : 0 < s.size
  · have e0 := not_minus h h1
    clear z0 h hN
    go_enter Try.func43, Try.ntmps43
    go_wp2_with fail
    refine (is_no s HN.out _).mono ?_
    rintro e w' ⟨rfl, rfl⟩
    go_wp2_with fail
    exact bodyPost_ret (v := .tuple #[.agg #[.bool false, .slice none 0 0], .bool false]) (by simp [results, Try.results43, go_sem]) rfl ⟨rfl, HZ.out⟩
  · clear z0 h hN
    have h2 : ¬ (0 : Int) < (s.size : Int) := by omega
    go_enter Try.func43, Try.ntmps43
    go_wp2_with fail
    refine (is_no s HN.out _).mono ?_
    rintro e w' ⟨rfl, rfl⟩
    go_wp2_with fail
    exact bodyPost_ret (v := .tuple #[.agg #[.bool false, .slice none 0 0], .bool false]) (by simp [results, Try.results43, go_sem]) rfl ⟨rfl, HZ.out⟩
theorem rparse_no1 (s : ByteArray) (h : Minus s) (hN : ¬ Num (bys (s.extract 1 s.size))) (w : World) (hs : s.size ≤ 20000) :
    Calls Try.prog 43 #[.string s] w (ZNoPost w) := by
  have z0 := zba w (.cells #[.bool false, .slice none 0 0] 30)
  have HZ := Lib.hid z0
  have h1 : 0 < s.size := h.1
  have e0 : s[0].toNat = 45 := by rw [bys_at s h1]; exact h.2
  obtain ⟨r, hr⟩ : ∃ r, s.extract 1 s.size = r := ⟨_, rfl⟩
  rw [hr] at hN
  have HN := Lib.hid hN
  clear z0 h hN
  go_enter Try.func43, Try.ntmps43
  go_wp2_with fail
  refine (is_no r HN.out _).mono ?_
  rintro e w' ⟨rfl, rfl⟩
  go_wp2_with fail
  exact bodyPost_ret (v := .tuple #[.agg #[.bool false, .slice none 0 0], .bool false]) (by simp [results, Try.results43, go_sem]) rfl ⟨rfl, HZ.out⟩
theorem rparse_no2 (s : ByteArray) (h : Minus s) (hN : Num (bys (s.extract 1 s.size))) (h0 : hv (bys (s.extract 1 s.size)) = 0) (w : World) (hs : s.size ≤ 20000) :
    Calls Try.prog 43 #[.string s] w (ZNoPost w) := by
  have z0 := zba w (.cells #[.bool false, .slice none 0 0] 30)
  have HZ := Lib.hid z0
  have h1 : 0 < s.size := h.1
  have e0 : s[0].toNat = 45 := by rw [bys_at s h1]; exact h.2
  obtain ⟨r, hr⟩ : ∃ r, s.extract 1 s.size = r := ⟨_, rfl⟩
  rw [hr] at hN h0
  have hz := zero_eql r hN (b := true) (by rw [decide_eq_true_iff]; exact h0)
  have HN := Lib.hid hN
  clear z0 h hN h0
  go_enter Try.func43, Try.ntmps43
  go_wp2_with fail
  refine (is_yes r HN.out _).mono ?_
  rintro e w' ⟨rfl, rfl⟩
  go_wp2_with fail
  exact bodyPost_ret (v := .tuple #[.agg #[.bool false, .slice none 0 0], .bool false]) (by simp [results, Try.results43, go_sem]) rfl ⟨rfl, HZ.out⟩
end Go.Proofs.Ytnkmoeihlfdjbaa
