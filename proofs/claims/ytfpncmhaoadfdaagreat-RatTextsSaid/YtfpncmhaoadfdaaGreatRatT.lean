/-
  strings.Cut at a slash; rat.Parse, Bits.
-/
import Derived.Test.YtfpncmhaoadfdaaGreatRatS
import Derived.Test.YtfpncmhaoadfdaaGreatRatW
/-! Contracts: strings.Cut at a slash; rat.Parse, Bits. -/
namespace Go.Proofs.YtfpncmhaoadfdaaGreat
open Go.RowKit
set_option linter.unusedVariables false
set_option linter.unusedSimpArgs false

set_option maxRecDepth 100000 in
set_option maxHeartbeats 16000000 in
theorem slcut_none {s : ByteArray} {w : World} (hs : s.size ≤ 4611686018427387904) (hi : ix s = -1) :
    Calls Tryz.prog 34 #[.string s, .string { data := #[47] }] w fun e w' => e = .returned (.tuple #[.string s, .string ByteArray.empty, .bool false]) ∧ Below w.heap.size w w' := by
  have hW := Below.refl w.heap.size w
  have HI := Lib.hid hi
  clear hi
  go_enter Tryz.func34, Tryz.ntmps34
  go_wp2_with fail
  refine (slindex_v s (by omega) _ HI.out).mono ?_
  rintro e w2 ⟨rfl, rfl⟩
  go_wp2_with fail
  go_ret3
  exact ⟨rfl, hW⟩
set_option maxRecDepth 100000 in
set_option maxHeartbeats 16000000 in
theorem cut_none {s : ByteArray} {w : World} (hs : s.size ≤ 4611686018427387904) (hi : ix s = -1) :
    Calls Tryz.prog 19 #[.string s, .string { data := #[47] }] w fun e w' => e = .returned (.tuple #[.string s, .string ByteArray.empty, .bool false]) ∧ Below w.heap.size w w' := by
  have hW := Below.refl w.heap.size w
  have HI := Lib.hid hi
  clear hi
  go_enter Tryz.func19, Tryz.ntmps19
  go_wp2_with fail
  refine (slcut_none hs HI.out).mono ?_
  rintro e w21 ⟨rfl, B21⟩
  replace hW := hW.trans (B21.mono hW.size)
  clear B21
  go_wp2_with fail
  go_ret3
  exact ⟨rfl, hW⟩
set_option maxRecDepth 100000 in
set_option maxHeartbeats 16000000 in
theorem slcut_some {s : ByteArray} {w : World} (hs : s.size ≤ 4611686018427387904) {i : Nat} (hi : ix s = (i : Int)) (hlt : i < s.size) :
    Calls Tryz.prog 34 #[.string s, .string { data := #[47] }] w fun e w' => e = .returned (.tuple #[.string (s.extract 0 i), .string (s.extract (i + 1) s.size), .bool true]) ∧ Below w.heap.size w w' := by
  have hW := Below.refl w.heap.size w
  have HI := Lib.hid hi
  clear hi
  go_enter Tryz.func34, Tryz.ntmps34
  go_wp2_with fail
  refine (slindex_v s (by omega) _ HI.out).mono ?_
  rintro e w2 ⟨rfl, rfl⟩
  have hwi : IntKind.i64.wrap ((i : Int) + 1) = (i : Int) + 1 := by rw [IntKind.wrap_i64]; omega
  go_wp2_with fail
  refine region7 [] 12 [IsK (.string s), IsK (.int .i64 (i : Int)), IsK (.string (s.extract 0 i)), IsK (.string s), IsK (.int .i64 (i : Int)), IsK (.string ({ data := #[47] } : ByteArray)), IsK (.int .i64 1), IsK (.int .i64 ((i : Int) + 1)), IsK (.string (s.extract (i + 1) s.size)), IsK (.string (s.extract 0 i)), IsK (.string (s.extract (i + 1) s.size)), IsK (.bool true)] (fun _ _ d _ _ h => by cases d <;> exact h) (by kernel_rfl) (by kernel_rfl) (by kernel_rfl) ⟨stay_k _, stay_k _, stay_k _, stay_k _, stay_k _, stay_k _, stay_k _, stay_k _, stay_k _, stay_k _, stay_k _, stay_k _, trivial⟩ ?_ ?_
  · refine HopAll.cons rfl ?_ (HopAll.cons rfl ?_ (HopAll.cons rfl ?_ (HopAll.cons rfl ?_ (HopAll.cons rfl ?_ (HopAll.cons rfl ?_ (HopAll.cons rfl ?_ (HopAll.cons rfl ?_ (HopAll.cons rfl ?_ (HopAll.cons rfl ?_ (HopAll.cons rfl ?_ (HopAll.cons rfl ?_ HopAll.nil)))))))))))
    · intro a w1 hB ho hp K hK
      have e0 : a.eval (.tmp 0) = (.string s) := ho 0 (by kernel_rfl)
      refine hop_val (wanted_none rfl) ?_ (hK (.string s) _ rfl (Below.refl _ _))
      unfold execOp; simp only [eval_const, e0]; simp [go_sem]
    · intro a w1 hB ho hp K hK
      have e7 : a.eval (.tmp 7) = (.int .i64 (i : Int)) := ho 7 (by kernel_rfl)
      refine hop_val (wanted_none rfl) ?_ (hK (.int .i64 (i : Int)) _ rfl (Below.refl _ _))
      unfold execOp; simp only [eval_const, e7]; simp [go_sem]
    · intro a w1 hB ho hp K hK
      have e13 : a.eval (.tmp 13) = (.string s) := hp 0 13 (by kernel_rfl)
      have e14 : a.eval (.tmp 14) = (.int .i64 (i : Int)) := hp 1 14 (by kernel_rfl)
      refine hop_val (wanted_none rfl) ?_ (hK (.string (s.extract 0 i)) _ rfl (Below.refl _ _))
      unfold execOp; simp only [eval_const, resolve, Option.map_some, Option.map_none, List.map_toArray, List.map_cons, List.map_nil, e13, e14]; simp [go_sem]; intro h; exfalso; omega
    · intro a w1 hB ho hp K hK
      have e0 : a.eval (.tmp 0) = (.string s) := ho 0 (by kernel_rfl)
      refine hop_val (wanted_none rfl) ?_ (hK (.string s) _ rfl (Below.refl _ _))
      unfold execOp; simp only [eval_const, e0]; simp [go_sem]
    · intro a w1 hB ho hp K hK
      have e7 : a.eval (.tmp 7) = (.int .i64 (i : Int)) := ho 7 (by kernel_rfl)
      refine hop_val (wanted_none rfl) ?_ (hK (.int .i64 (i : Int)) _ rfl (Below.refl _ _))
      unfold execOp; simp only [eval_const, e7]; simp [go_sem]
    · intro a w1 hB ho hp K hK
      have e1 : a.eval (.tmp 1) = (.string ({ data := #[47] } : ByteArray)) := ho 1 (by kernel_rfl)
      refine hop_val (wanted_none rfl) ?_ (hK (.string ({ data := #[47] } : ByteArray)) _ rfl (Below.refl _ _))
      unfold execOp; simp only [eval_const, e1]; simp [go_sem]
    · intro a w1 hB ho hp K hK
      have e18 : a.eval (.tmp 18) = (.string ({ data := #[47] } : ByteArray)) := hp 5 18 (by kernel_rfl)
      refine hop_val (wanted_none rfl) ?_ (hK (.int .i64 1) _ rfl (Below.refl _ _))
      unfold execOp; simp only [eval_const, resolve, Option.map_some, Option.map_none, List.map_toArray, List.map_cons, List.map_nil, e18]; simp [go_sem]
    · intro a w1 hB ho hp K hK
      have e17 : a.eval (.tmp 17) = (.int .i64 (i : Int)) := hp 4 17 (by kernel_rfl)
      have e19 : a.eval (.tmp 19) = (.int .i64 1) := hp 6 19 (by kernel_rfl)
      refine hop_val (wanted_none rfl) ?_ (hK (.int .i64 ((i : Int) + 1)) _ rfl (Below.refl _ _))
      unfold execOp; simp only [eval_const, e17, e19]; simp [go_sem, hwi]
    · intro a w1 hB ho hp K hK
      have e16 : a.eval (.tmp 16) = (.string s) := hp 3 16 (by kernel_rfl)
      have e20 : a.eval (.tmp 20) = (.int .i64 ((i : Int) + 1)) := hp 7 20 (by kernel_rfl)
      refine hop_val (wanted_none rfl) ?_ (hK (.string (s.extract (i + 1) s.size)) _ rfl (Below.refl _ _))
      unfold execOp; simp only [eval_const, resolve, Option.map_some, Option.map_none, List.map_toArray, List.map_cons, List.map_nil, e16, e20]; simp [go_sem]; intro h; exfalso; have := h (by omega); omega
    · intro a w1 hB ho hp K hK
      have e15 : a.eval (.tmp 15) = (.string (s.extract 0 i)) := hp 2 15 (by kernel_rfl)
      refine hop_val (wanted_none rfl) ?_ (hK (.string (s.extract 0 i)) _ rfl (Below.refl _ _))
      unfold execOp; simp only [eval_const, e15]; simp [go_sem]
    · intro a w1 hB ho hp K hK
      have e21 : a.eval (.tmp 21) = (.string (s.extract (i + 1) s.size)) := hp 8 21 (by kernel_rfl)
      refine hop_val (wanted_none rfl) ?_ (hK (.string (s.extract (i + 1) s.size)) _ rfl (Below.refl _ _))
      unfold execOp; simp only [eval_const, e21]; simp [go_sem]
    · intro a w1 hB ho hp K hK
      refine hop_val (wanted_none rfl) ?_ (hK (.bool true) _ rfl (Below.refl _ _))
      unfold execOp; simp only [eval_const]; simp [go_sem]
  intro w21 B21
  refine EndAll.one rfl fun vv hv => ?_
  obtain rfl : vv = (.string s) := hv
  refine EndAll.one rfl fun vv hv => ?_
  obtain rfl : vv = (.int .i64 (i : Int)) := hv
  refine EndAll.one rfl fun vv hv => ?_
  obtain rfl : vv = (.string (s.extract 0 i)) := hv
  refine EndAll.one rfl fun vv hv => ?_
  obtain rfl : vv = (.string s) := hv
  refine EndAll.one rfl fun vv hv => ?_
  obtain rfl : vv = (.int .i64 (i : Int)) := hv
  refine EndAll.one rfl fun vv hv => ?_
  obtain rfl : vv = (.string ({ data := #[47] } : ByteArray)) := hv
  refine EndAll.one rfl fun vv hv => ?_
  obtain rfl : vv = (.int .i64 1) := hv
  refine EndAll.one rfl fun vv hv => ?_
  obtain rfl : vv = (.int .i64 ((i : Int) + 1)) := hv
  refine EndAll.one rfl fun vv hv => ?_
  obtain rfl : vv = (.string (s.extract (i + 1) s.size)) := hv
  refine EndAll.one rfl fun vv hv => ?_
  obtain rfl : vv = (.string (s.extract 0 i)) := hv
  refine EndAll.one rfl fun vv hv => ?_
  obtain rfl : vv = (.string (s.extract (i + 1) s.size)) := hv
  refine EndAll.one rfl fun vv hv => ?_
  obtain rfl : vv = (.bool true) := hv
  refine EndAll.nil (l := []) rfl ?_
  simp only [Act.put, List.setIfInBounds_toArray, List.set_cons_zero, List.set_cons_succ]
  replace hW := hW.trans (B21.mono hW.size)
  clear B21
  go_wp2_with fail
  go_ret3
  exact ⟨rfl, hW⟩
set_option maxRecDepth 100000 in
set_option maxHeartbeats 16000000 in
theorem cut_some {s : ByteArray} {w : World} (hs : s.size ≤ 4611686018427387904) {i : Nat} (hi : ix s = (i : Int)) (hlt : i < s.size) :
    Calls Tryz.prog 19 #[.string s, .string { data := #[47] }] w fun e w' => e = .returned (.tuple #[.string (s.extract 0 i), .string (s.extract (i + 1) s.size), .bool true]) ∧ Below w.heap.size w w' := by
  have hW := Below.refl w.heap.size w
  have HI := Lib.hid hi
  clear hi
  go_enter Tryz.func19, Tryz.ntmps19
  go_wp2_with fail
  refine (slcut_some hs HI.out hlt).mono ?_
  rintro e w21 ⟨rfl, B21⟩
  replace hW := hW.trans (B21.mono hW.size)
  clear B21
  go_wp2_with fail
  go_ret3
  exact ⟨rfl, hW⟩
/-! ### Texts of whole numbers and fractions -/
theorem tbys_neg {z : Int} (h : z < 0) : bys (zstr z) = 45 :: dgs z.natAbs := by
  unfold zstr
  rw [if_pos h, bys_add, bys_str (dig_dgs z.natAbs).low]
  rfl
theorem tbys_pos {z : Int} (h : ¬ z < 0) : bys (zstr z) = dgs z.natAbs := by
  unfold zstr
  rw [if_neg h, bys_str (dig_dgs z.natAbs).low]
theorem tminus {z : Int} (h : z < 0) : Minus (zstr z) ∧ bys ((zstr z).extract 1 (zstr z).size) = dgs z.natAbs := by
  have e := tbys_neg h
  refine ⟨⟨?_, by rw [e]; rfl⟩, ?_⟩
  · rw [← bys_length, e]; simp
  · rw [bys_extract, e, List.drop_succ_cons, List.drop_zero, ← bys_length, e]
    exact List.take_of_length_le (by simp)
theorem tnot_minus {s : ByteArray} (h : Dig (bys s)) : ¬ Minus s := by
  rintro ⟨h1, h2⟩
  have := h.at (k := 0) (by rw [bys_length]; exact h1)
  omega
theorem tsize {z : Int} : (zstr z).size ≤ nd z.natAbs + 1 := by
  rw [← bys_length]
  by_cases h : z < 0
  · rw [tbys_neg h, List.length_cons, dgs_length]; omega
  · rw [tbys_pos h, dgs_length]; omega
theorem tparse {z : Int} (hnd : nd z.natAbs ≤ 20000) (w : World) :
    Calls Tryz.prog 20 #[.string (zstr z)] w (ZPowPost z 2048 w) := by
  have hl : (zstr z).size ≤ 9223372036854775807 := by have := tsize (z := z); omega
  by_cases h : z < 0
  · obtain ⟨h1, h2⟩ := tminus h
    have hN : Num (bys ((zstr z).extract 1 (zstr z).size)) := by rw [h2]; exact num_dgs hnd
    have hv0 : hv (bys ((zstr z).extract 1 (zstr z).size)) = z.natAbs := by rw [h2, hv_dgs]
    have := zparse_neg (zstr z) hl h1 hN (by rw [hv0]; omega) w
    rw [hv0, show -((z.natAbs : Nat) : Int) = z by omega] at this
    exact this
  · have e := tbys_pos h
    have hN : Num (bys (zstr z)) := by rw [e]; exact num_dgs hnd
    have := zparse_pos (zstr z) hl (tnot_minus hN.2.2.2) hN w
    rw [e, hv_dgs, show ((z.natAbs : Nat) : Int) = z by omega] at this
    exact this
/-- Of every text: a number is answered, of which it is the text; or nothing. -/
theorem treads (s : ByteArray) (hs : s.size ≤ 20000) : (∃ z, zstr z = s ∧ nd z.natAbs ≤ s.size ∧ ∀ w, Calls Tryz.prog 20 #[.string s] w (ZPowPost z 2048 w)) ∨ ∀ w, Calls Tryz.prog 20 #[.string s] w (ZNoPost w) := by
  by_cases h : Minus s
  · by_cases hN : Num (bys (s.extract 1 s.size))
    · by_cases h0 : hv (bys (s.extract 1 s.size)) = 0
      · exact .inr (zparse_no2 s (by omega) h hN h0)
      · refine .inl ⟨_, ?_, ?_, zparse_neg s (by omega) h hN (by omega)⟩
        · apply bys_inj
          rw [tbys_neg (by omega), Int.natAbs_neg, Int.natAbs_natCast, dgs_hv hN, bys_extract, ← bys_length s]
          have h2 := h.2
          have h1 := h.1
          rw [← bys_length] at h1
          match hb : bys s, h1 with
          | x :: l, _ =>
            rw [hb] at h2
            simp [nth] at h2
            subst h2
            simp
        · rw [Int.natAbs_neg, Int.natAbs_natCast, nd_hv hN, bys_length, ByteArray.size_extract]; omega
    · exact .inr (zparse_no1 s (by omega) h hN)
  · by_cases hN : Num (bys s)
    · refine .inl ⟨_, ?_, ?_, zparse_pos s (by omega) h hN⟩
      · apply bys_inj
        rw [tbys_pos (by omega), Int.natAbs_natCast, dgs_hv hN]
      · rw [Int.natAbs_natCast, nd_hv hN, bys_length]; omega
    · exact .inr (zparse_no0 s (by omega) h hN)
theorem tslash {z : Int} : ∀ x ∈ bys (zstr z), x ≠ 47 := by
  intro x hx
  by_cases h : z < 0
  · rw [tbys_neg h] at hx
    rcases List.mem_cons.1 hx with rfl | hx
    · omega
    · have := dig_dgs z.natAbs x hx; omega
  · rw [tbys_pos h] at hx
    have := dig_dgs z.natAbs x hx; omega
theorem ix_none {s : ByteArray} (h : ∀ x ∈ bys s, x ≠ 47) : ix s = -1 := by
  rcases ix_list s.data.toList with ⟨h1, -⟩ | ⟨i, h1, h2, h3, -⟩
  · exact h1
  · exfalso
    have hm : (47 : UInt8) ∈ s.data.toList := List.mem_of_mem_drop (i := i) (by rw [h3]; exact List.mem_cons_self ..)
    exact h 47 (by unfold bys; exact List.mem_map.2 ⟨47, hm, rfl⟩) rfl
theorem bys_slash : bys ({ data := #[47] } : ByteArray) = [47] := rfl
theorem ix_at {a b : ByteArray} (h : ∀ x ∈ bys a, x ≠ 47) : ix (a ++ ({ data := #[47] } : ByteArray) ++ b) = a.size ∧ (a ++ ({ data := #[47] } : ByteArray) ++ b).extract 0 a.size = a ∧ (a ++ ({ data := #[47] } : ByteArray) ++ b).extract (a.size + 1) (a ++ ({ data := #[47] } : ByteArray) ++ b).size = b ∧ a.size < (a ++ ({ data := #[47] } : ByteArray) ++ b).size := by
  have hB : bys (a ++ ({ data := #[47] } : ByteArray) ++ b) = bys a ++ 47 :: bys b := by rw [bys_add, bys_add, bys_slash, List.append_assoc]; rfl
  have hS : (a ++ ({ data := #[47] } : ByteArray) ++ b).size = a.size + 1 + b.size := by rw [← bys_length, hB, List.length_append, List.length_cons, bys_length, bys_length]; omega
  have hla := bys_length a
  generalize a ++ ({ data := #[47] } : ByteArray) ++ b = S at *
  refine ⟨?_, ?_, ?_, by omega⟩
  · unfold ix
    rcases ix_list S.data.toList with ⟨h1, h2⟩ | ⟨i, h1, h2, h3, h4⟩
    · exfalso
      have : 47 ∈ bys S := by rw [hB]; simp
      obtain ⟨x, hx, hx2⟩ := List.mem_map.1 (show 47 ∈ S.data.toList.map UInt8.toNat from this)
      exact h2 x hx (UInt8.toNat_inj.1 (by rw [hx2]; rfl))
    · rw [h1]
      have hd : (bys S).drop i = 47 :: (bys S).drop (i + 1) := by unfold bys; rw [← List.map_drop, h3, List.map_cons, List.map_drop]; rfl
      have ht : ∀ x ∈ (bys S).take i, x ≠ 47 := by
        intro x hx
        unfold bys at hx
        rw [← List.map_take] at hx
        obtain ⟨y, hy, rfl⟩ := List.mem_map.1 hx
        exact fun e => h4 y hy (UInt8.toNat_inj.1 (by rw [e]; rfl))
      rcases Nat.lt_trichotomy i a.size with hi | hi | hi
      · exfalso
        rw [hB, List.drop_append_of_le_length (by omega)] at hd
        have hm : 47 ∈ bys a := by
          match hq : (bys a).drop i with
          | [] => have := congrArg List.length hq; simp at this; omega
          | y :: l =>
            rw [hq] at hd
            simp at hd
            rw [← hd.1]
            exact List.mem_of_mem_drop (i := i) (by rw [hq]; exact List.mem_cons_self ..)
        exact h 47 hm rfl
      · omega
      · exfalso
        rw [hB] at ht
        refine ht 47 ?_ rfl
        rw [List.take_append]
        refine List.mem_append.2 (.inr ?_)
        obtain ⟨j, hj⟩ : ∃ j, i - (bys a).length = j + 1 := ⟨i - (bys a).length - 1, by omega⟩
        rw [hj, List.take_succ_cons]
        exact List.mem_cons_self ..
  · apply bys_inj
    rw [bys_extract, hB, List.drop_zero, Nat.sub_zero, List.take_append_of_le_length (by omega)]
    exact List.take_of_length_le (by omega)
  · apply bys_inj
    rw [bys_extract, hB, hS]
    rw [List.drop_append, List.drop_of_length_le (by omega), List.nil_append, show a.size + 1 - (bys a).length = 1 by omega, List.drop_succ_cons, List.drop_zero]
    exact List.take_of_length_le (by rw [bys_length]; omega)
theorem cut_join {s : ByteArray} {i : Nat} (h : ix s = (i : Int)) (hlt : i < s.size) : s.extract 0 i ++ ({ data := #[47] } : ByteArray) ++ s.extract (i + 1) s.size = s := by
  rcases ix_list s.data.toList with ⟨h1, -⟩ | ⟨j, h1, h2, h3, -⟩
  · unfold ix at h; omega
  · have hij : j = i := by unfold ix at h; omega
    subst hij
    apply bys_inj
    have hd : (bys s).drop j = 47 :: (bys s).drop (j + 1) := by unfold bys; rw [← List.map_drop, h3, List.map_cons, List.map_drop]; rfl
    have hl := bys_length s
    have ht : ((bys s).drop (j + 1)).take (s.size - (j + 1)) = (bys s).drop (j + 1) := List.take_of_length_le (by rw [List.length_drop]; omega)
    rw [bys_add, bys_add, bys_slash, bys_extract, bys_extract, List.drop_zero, Nat.sub_zero, ht, List.append_assoc, List.singleton_append, ← hd, List.take_append_drop]
set_option maxRecDepth 100000 in
set_option maxHeartbeats 16000000 in
theorem p_no {s a b : ByteArray} {h : Bool} {N D : Int} {w : World} (C : ∀ w : World, Calls Tryz.prog 19 #[.string s, .string { data := #[47] }] w fun e w' => e = .returned (.tuple #[.string a, .string b, .bool h]) ∧ Below w.heap.size w w') (P1 : ∀ w : World, Calls Tryz.prog 20 #[.string a] w (ZNoPost w)) :
    Calls Tryz.prog 7 #[.string s] w (QbPost 0 false 1 w) := by
  have hW := Below.refl w.heap.size w
  obtain ⟨wp0, hwp0⟩ : ∃ x, x = w.alloc (.cells #[.bool false, .slice none 0 0, .bool false, .slice none 0 0] 27) := ⟨_, rfl⟩
  have zp0 : Below w.heap.size w wp0 := by rw [hwp0]; exact zba _ _
  have sp0 : wp0.heap.size = w.heap.size + 1 := by rw [hwp0, World.size_alloc]
  have Ir : Rb wp0 w.heap.size false none 0 0 false none 0 0 := by rw [hwp0]; exact Rb.new _ _ _ _ _ _ _ _ _ _
  replace hW := hW.trans (zp0.mono hW.size)
  have H_r := Lib.hid Ir
  clear Ir zp0
  have HW : Hid ((w.alloc (.cells #[.bool false, .slice none 0 0, .bool false, .slice none 0 0] 27)) = wp0) := Lib.hid (by rw [hwp0])
  have lw_r : w.heap.size ≤ w.heap.size := by omega
  clear hwp0 sp0
  have HC := Lib.hid C
  have HP1 := Lib.hid P1
  clear C P1
  go_enter Tryz.func7, Tryz.ntmps7
  obtain ⟨r1, r2, r3, r4, r5, r6, r7, r8, r9⟩ := H_r.out
  go_wp2_with fail
  rw [HW.out]
  clear r1 r2 r3 r4 r5 r6 r7 r8 r9
  refine (HC.out _).mono ?_
  rintro e w21 ⟨rfl, B21⟩
  replace H_r := Lib.hid (H_r.out.below B21)
  replace hW := hW.trans (B21.mono hW.size)
  clear B21
  obtain ⟨r1, r2, r3, r4, r5, r6, r7, r8, r9⟩ := H_r.out
  go_wp2_with fail
  clear r1 r2 r3 r4 r5 r6 r7 r8 r9
  refine (HP1.out _).mono ?_
  rintro e w22 ⟨rfl, B22⟩
  replace H_r := Lib.hid (H_r.out.below B22)
  replace hW := hW.trans (B22.mono hW.size)
  clear B22
  have O_r := H_r
  obtain ⟨w23, hw23⟩ : ∃ x, x = w22.alloc (.cells #[.bool false, .slice none 0 0] 25) := ⟨_, rfl⟩
  have z23 : Below w22.heap.size w22 w23 := by rw [hw23]; exact zba _ _
  have HW23 : Hid (w22.alloc (.cells #[.bool false, .slice none 0 0] 25) = w23) := Lib.hid hw23.symm
  have nn_r_na : ¬ (w.heap.size = w22.heap.size) := by have := H_r.out.2.2.2.2.2.2.2.2; omega
  have nm_r_na : ¬ (w22.heap.size = w.heap.size) := by omega
  have lw_na : w.heap.size ≤ w22.heap.size := by have := hW.size; omega
  replace H_r := Lib.hid (H_r.out.below z23)
  replace hW := hW.trans (z23.mono hW.size)
  have H_na : Hid (Ib w23 w22.heap.size false none 0 0) := Lib.hid (by rw [hw23]; exact Ib.new _ _ _ _ _ _)
  clear z23 hw23
  obtain ⟨r1, r2, r3, r4, r5, r6, r7, r8, r9⟩ := O_r.out
  go_wp2_with fail
  rw [HW23.out]
  clear r1 r2 r3 r4 r5 r6 r7 r8 r9 O_r
  refine (qof_v (k := 1) (N := 0) (zc_nought _).zv (by omega) (by omega) (by omega)).mono ?_
  rintro e w24 ⟨s24, A24, n24, c24, t24, D24, m24, d24, rfl, pr, k24, l24, B24⟩
  replace H_r := Lib.hid (H_r.out.below B24)
  replace H_na := Lib.hid (H_na.out.below B24)
  replace hW := hW.trans (B24.mono hW.size)
  clear B24
  rw [show ((0 : Int) : Rat) = 0 from rfl] at pr
  have P := Lib.hid (qbfin (b := false) (q := 0) (w := w) (k := 1) pr H_r.out (by omega) (by omega) lw_r hW)
  unfold rput at P
  obtain ⟨r1, r2, r3, r4, r5, r6, r7, r8, r9⟩ := H_r.out
  obtain ⟨na1, na2, na3, na4, na5⟩ := H_na.out
  go_wp2_with fail
  clear r1 r2 r3 r4 r5 r6 r7 r8 r9 na1 na2 na3 na4 na5
  obtain ⟨r1, r2, r3, r4, r5, r6, r7, r8, r9⟩ := H_r.out
  exact bodyPost_ret (v := (.tuple #[.agg #[.bool s24, .slice A24 n24 c24, .bool t24, .slice D24 m24 d24], .bool false])) (by simp [results, Tryz.results7, go_sem, r1, r2, r3, r4]) rfl P.out
set_option maxRecDepth 100000 in
set_option maxHeartbeats 16000000 in
theorem p_whole {s a b : ByteArray} {h : Bool} {N D : Int} {w : World} (C : ∀ w : World, Calls Tryz.prog 19 #[.string s, .string { data := #[47] }] w fun e w' => e = .returned (.tuple #[.string a, .string b, .bool false]) ∧ Below w.heap.size w w') (P1 : ∀ w : World, Calls Tryz.prog 20 #[.string a] w (ZPowPost N 2048 w)) :
    Calls Tryz.prog 7 #[.string s] w (QbPost (N : Rat) true 2048 w) := by
  have hW := Below.refl w.heap.size w
  obtain ⟨wp0, hwp0⟩ : ∃ x, x = w.alloc (.cells #[.bool false, .slice none 0 0, .bool false, .slice none 0 0] 27) := ⟨_, rfl⟩
  have zp0 : Below w.heap.size w wp0 := by rw [hwp0]; exact zba _ _
  have sp0 : wp0.heap.size = w.heap.size + 1 := by rw [hwp0, World.size_alloc]
  have Ir : Rb wp0 w.heap.size false none 0 0 false none 0 0 := by rw [hwp0]; exact Rb.new _ _ _ _ _ _ _ _ _ _
  replace hW := hW.trans (zp0.mono hW.size)
  have H_r := Lib.hid Ir
  clear Ir zp0
  have HW : Hid ((w.alloc (.cells #[.bool false, .slice none 0 0, .bool false, .slice none 0 0] 27)) = wp0) := Lib.hid (by rw [hwp0])
  have lw_r : w.heap.size ≤ w.heap.size := by omega
  clear hwp0 sp0
  have HC := Lib.hid C
  have HP1 := Lib.hid P1
  clear C P1
  go_enter Tryz.func7, Tryz.ntmps7
  obtain ⟨r1, r2, r3, r4, r5, r6, r7, r8, r9⟩ := H_r.out
  go_wp2_with fail
  rw [HW.out]
  clear r1 r2 r3 r4 r5 r6 r7 r8 r9
  refine (HC.out _).mono ?_
  rintro e w21 ⟨rfl, B21⟩
  replace H_r := Lib.hid (H_r.out.below B21)
  replace hW := hW.trans (B21.mono hW.size)
  clear B21
  obtain ⟨r1, r2, r3, r4, r5, r6, r7, r8, r9⟩ := H_r.out
  go_wp2_with fail
  clear r1 r2 r3 r4 r5 r6 r7 r8 r9
  refine (HP1.out _).mono ?_
  rintro e w22 ⟨s22, A22, n22, c22, rfl, pn, k22, B22⟩
  replace H_r := Lib.hid (H_r.out.below B22)
  replace hW := hW.trans (B22.mono hW.size)
  clear B22
  have O_r := H_r
  obtain ⟨w23, hw23⟩ : ∃ x, x = w22.alloc (.cells #[.bool s22, .slice A22 n22 c22] 25) := ⟨_, rfl⟩
  have z23 : Below w22.heap.size w22 w23 := by rw [hw23]; exact zba _ _
  have HW23 : Hid (w22.alloc (.cells #[.bool s22, .slice A22 n22 c22] 25) = w23) := Lib.hid hw23.symm
  have nn_r_na : ¬ (w.heap.size = w22.heap.size) := by have := H_r.out.2.2.2.2.2.2.2.2; omega
  have nm_r_na : ¬ (w22.heap.size = w.heap.size) := by omega
  have lw_na : w.heap.size ≤ w22.heap.size := by have := hW.size; omega
  replace H_r := Lib.hid (H_r.out.below z23)
  replace pn := pn.below z23
  replace hW := hW.trans (z23.mono hW.size)
  have H_na : Hid (Ib w23 w22.heap.size s22 A22 n22 c22) := Lib.hid (by rw [hw23]; exact Ib.new _ _ _ _ _ _)
  clear z23 hw23
  obtain ⟨r1, r2, r3, r4, r5, r6, r7, r8, r9⟩ := O_r.out
  go_wp2_with fail
  rw [HW23.out]
  clear r1 r2 r3 r4 r5 r6 r7 r8 r9 O_r
  refine (qof_v (k := 2048) pn.zv (by omega) (by omega) (by omega)).mono ?_
  rintro e w24 ⟨s24, A24, n24, c24, t24, D24, m24, d24, rfl, pr, k24, l24, B24⟩
  replace H_r := Lib.hid (H_r.out.below B24)
  replace H_na := Lib.hid (H_na.out.below B24)
  replace pn := pn.below B24
  replace hW := hW.trans (B24.mono hW.size)
  clear B24
  have P := Lib.hid (qbfin (b := true) (w := w) (k := 2048) pr H_r.out (by omega) (by omega) lw_r hW)
  unfold rput at P
  obtain ⟨r1, r2, r3, r4, r5, r6, r7, r8, r9⟩ := H_r.out
  obtain ⟨na1, na2, na3, na4, na5⟩ := H_na.out
  go_wp2_with fail
  clear r1 r2 r3 r4 r5 r6 r7 r8 r9 na1 na2 na3 na4 na5
  obtain ⟨r1, r2, r3, r4, r5, r6, r7, r8, r9⟩ := H_r.out
  exact bodyPost_ret (v := (.tuple #[.agg #[.bool s24, .slice A24 n24 c24, .bool t24, .slice D24 m24 d24], .bool true])) (by simp [results, Tryz.results7, go_sem, r1, r2, r3, r4]) rfl P.out
set_option maxRecDepth 100000 in
set_option maxHeartbeats 16000000 in
theorem p_bad {s a b : ByteArray} {h : Bool} {N D : Int} {w : World} (C : ∀ w : World, Calls Tryz.prog 19 #[.string s, .string { data := #[47] }] w fun e w' => e = .returned (.tuple #[.string a, .string b, .bool true]) ∧ Below w.heap.size w w') (P1 : ∀ w : World, Calls Tryz.prog 20 #[.string a] w (ZPowPost N 2048 w)) (P2 : ∀ w : World, Calls Tryz.prog 20 #[.string b] w (ZNoPost w)) :
    Calls Tryz.prog 7 #[.string s] w (QbPost 0 false 1 w) := by
  have hW := Below.refl w.heap.size w
  obtain ⟨wp0, hwp0⟩ : ∃ x, x = w.alloc (.cells #[.bool false, .slice none 0 0, .bool false, .slice none 0 0] 27) := ⟨_, rfl⟩
  have zp0 : Below w.heap.size w wp0 := by rw [hwp0]; exact zba _ _
  have sp0 : wp0.heap.size = w.heap.size + 1 := by rw [hwp0, World.size_alloc]
  have Ir : Rb wp0 w.heap.size false none 0 0 false none 0 0 := by rw [hwp0]; exact Rb.new _ _ _ _ _ _ _ _ _ _
  replace hW := hW.trans (zp0.mono hW.size)
  have H_r := Lib.hid Ir
  clear Ir zp0
  have HW : Hid ((w.alloc (.cells #[.bool false, .slice none 0 0, .bool false, .slice none 0 0] 27)) = wp0) := Lib.hid (by rw [hwp0])
  have lw_r : w.heap.size ≤ w.heap.size := by omega
  clear hwp0 sp0
  have HC := Lib.hid C
  have HP1 := Lib.hid P1
  have HP2 := Lib.hid P2
  clear P2
  clear C P1
  go_enter Tryz.func7, Tryz.ntmps7
  obtain ⟨r1, r2, r3, r4, r5, r6, r7, r8, r9⟩ := H_r.out
  go_wp2_with fail
  rw [HW.out]
  clear r1 r2 r3 r4 r5 r6 r7 r8 r9
  refine (HC.out _).mono ?_
  rintro e w21 ⟨rfl, B21⟩
  replace H_r := Lib.hid (H_r.out.below B21)
  replace hW := hW.trans (B21.mono hW.size)
  clear B21
  obtain ⟨r1, r2, r3, r4, r5, r6, r7, r8, r9⟩ := H_r.out
  go_wp2_with fail
  clear r1 r2 r3 r4 r5 r6 r7 r8 r9
  refine (HP1.out _).mono ?_
  rintro e w22 ⟨s22, A22, n22, c22, rfl, pn, k22, B22⟩
  replace H_r := Lib.hid (H_r.out.below B22)
  replace hW := hW.trans (B22.mono hW.size)
  clear B22
  have O_r := H_r
  obtain ⟨w23, hw23⟩ : ∃ x, x = w22.alloc (.cells #[.bool s22, .slice A22 n22 c22] 25) := ⟨_, rfl⟩
  have z23 : Below w22.heap.size w22 w23 := by rw [hw23]; exact zba _ _
  have HW23 : Hid (w22.alloc (.cells #[.bool s22, .slice A22 n22 c22] 25) = w23) := Lib.hid hw23.symm
  have nn_r_na : ¬ (w.heap.size = w22.heap.size) := by have := H_r.out.2.2.2.2.2.2.2.2; omega
  have nm_r_na : ¬ (w22.heap.size = w.heap.size) := by omega
  have lw_na : w.heap.size ≤ w22.heap.size := by have := hW.size; omega
  replace H_r := Lib.hid (H_r.out.below z23)
  replace pn := pn.below z23
  replace hW := hW.trans (z23.mono hW.size)
  have H_na : Hid (Ib w23 w22.heap.size s22 A22 n22 c22) := Lib.hid (by rw [hw23]; exact Ib.new _ _ _ _ _ _)
  clear z23 hw23
  obtain ⟨r1, r2, r3, r4, r5, r6, r7, r8, r9⟩ := O_r.out
  go_wp2_with fail
  rw [HW23.out]
  clear r1 r2 r3 r4 r5 r6 r7 r8 r9 O_r
  refine (HP2.out _).mono ?_
  rintro e w24 ⟨rfl, B24⟩
  replace H_r := Lib.hid (H_r.out.below B24)
  replace H_na := Lib.hid (H_na.out.below B24)
  replace pn := pn.below B24
  replace hW := hW.trans (B24.mono hW.size)
  clear B24
  have O_r := H_r
  have O_na := H_na
  obtain ⟨w25, hw25⟩ : ∃ x, x = w24.alloc (.cells #[.bool false, .slice none 0 0] 25) := ⟨_, rfl⟩
  have z25 : Below w24.heap.size w24 w25 := by rw [hw25]; exact zba _ _
  have HW25 : Hid (w24.alloc (.cells #[.bool false, .slice none 0 0] 25) = w25) := Lib.hid hw25.symm
  have nn_r_da : ¬ (w.heap.size = w24.heap.size) := by have := H_r.out.2.2.2.2.2.2.2.2; omega
  have nm_r_da : ¬ (w24.heap.size = w.heap.size) := by omega
  have nn_na_da : ¬ (w22.heap.size = w24.heap.size) := by have := H_na.out.2.2.2.2; omega
  have nm_na_da : ¬ (w24.heap.size = w22.heap.size) := by omega
  have lw_da : w.heap.size ≤ w24.heap.size := by have := hW.size; omega
  replace H_r := Lib.hid (H_r.out.below z25)
  replace H_na := Lib.hid (H_na.out.below z25)
  replace pn := pn.below z25
  replace hW := hW.trans (z25.mono hW.size)
  have H_da : Hid (Ib w25 w24.heap.size false none 0 0) := Lib.hid (by rw [hw25]; exact Ib.new _ _ _ _ _ _)
  clear z25 hw25
  obtain ⟨r1, r2, r3, r4, r5, r6, r7, r8, r9⟩ := O_r.out
  obtain ⟨na1, na2, na3, na4, na5⟩ := O_na.out
  go_wp2_with fail
  rw [HW25.out]
  clear r1 r2 r3 r4 r5 r6 r7 r8 r9 na1 na2 na3 na4 na5 O_r O_na
  refine (normal_v (k := 2048) pn.zv (zc_nought _).zv (by omega) (by omega) (by omega) (by omega)).mono ?_
  rintro e w26 ⟨s26, A26, n26, c26, t26, D26, m26, d26, rfl, pq, k26, l26, B26⟩
  replace H_r := Lib.hid (H_r.out.below B26)
  replace H_na := Lib.hid (H_na.out.below B26)
  replace H_da := Lib.hid (H_da.out.below B26)
  replace pn := pn.below B26
  replace hW := hW.trans (B26.mono hW.size)
  clear B26
  have O_r := H_r
  have O_na := H_na
  have O_da := H_da
  obtain ⟨w27, hw27⟩ : ∃ x, x = w26.alloc (.cells #[.bool s26, .slice A26 n26 c26, .bool t26, .slice D26 m26 d26] 27) := ⟨_, rfl⟩
  have z27 : Below w26.heap.size w26 w27 := by rw [hw27]; exact zba _ _
  have HW27 : Hid (w26.alloc (.cells #[.bool s26, .slice A26 n26 c26, .bool t26, .slice D26 m26 d26] 27) = w27) := Lib.hid hw27.symm
  have nn_r_qa : ¬ (w.heap.size = w26.heap.size) := by have := H_r.out.2.2.2.2.2.2.2.2; omega
  have nm_r_qa : ¬ (w26.heap.size = w.heap.size) := by omega
  have nn_na_qa : ¬ (w22.heap.size = w26.heap.size) := by have := H_na.out.2.2.2.2; omega
  have nm_na_qa : ¬ (w26.heap.size = w22.heap.size) := by omega
  have nn_da_qa : ¬ (w24.heap.size = w26.heap.size) := by have := H_da.out.2.2.2.2; omega
  have nm_da_qa : ¬ (w26.heap.size = w24.heap.size) := by omega
  have lw_qa : w.heap.size ≤ w26.heap.size := by have := hW.size; omega
  replace H_r := Lib.hid (H_r.out.below z27)
  replace H_na := Lib.hid (H_na.out.below z27)
  replace H_da := Lib.hid (H_da.out.below z27)
  replace pn := pn.below z27
  replace pq := pq.below z27
  replace hW := hW.trans (z27.mono hW.size)
  have H_qa : Hid (Rb w27 w26.heap.size s26 A26 n26 c26 t26 D26 m26 d26) := Lib.hid (by rw [hw27]; exact Rb.new _ _ _ _ _ _ _ _ _ _)
  clear z27 hw27
  obtain ⟨r1, r2, r3, r4, r5, r6, r7, r8, r9⟩ := O_r.out
  obtain ⟨na1, na2, na3, na4, na5⟩ := O_na.out
  obtain ⟨da1, da2, da3, da4, da5⟩ := O_da.out
  go_wp2_with fail
  rw [HW27.out]
  clear r1 r2 r3 r4 r5 r6 r7 r8 r9 na1 na2 na3 na4 na5 da1 da2 da3 da4 da5 O_r O_na O_da
  refine (qof_v (k := 1) (N := 0) (zc_nought _).zv (by omega) (by omega) (by omega)).mono ?_
  rintro e w28 ⟨s28, A28, n28, c28, t28, D28, m28, d28, rfl, pr, k28, l28, B28⟩
  replace H_r := Lib.hid (H_r.out.below B28)
  replace H_na := Lib.hid (H_na.out.below B28)
  replace H_da := Lib.hid (H_da.out.below B28)
  replace H_qa := Lib.hid (H_qa.out.below B28)
  replace pn := pn.below B28
  replace pq := pq.below B28
  replace hW := hW.trans (B28.mono hW.size)
  clear B28
  rw [show ((0 : Int) : Rat) = 0 from rfl] at pr
  have P := Lib.hid (qbfin (b := false) (q := 0) (w := w) (k := 1) pr H_r.out (by omega) (by omega) lw_r hW)
  unfold rput at P
  obtain ⟨r1, r2, r3, r4, r5, r6, r7, r8, r9⟩ := H_r.out
  obtain ⟨na1, na2, na3, na4, na5⟩ := H_na.out
  obtain ⟨da1, da2, da3, da4, da5⟩ := H_da.out
  obtain ⟨qa1, qa2, qa3, qa4, qa5, qa6, qa7, qa8, qa9⟩ := H_qa.out
  go_wp2_with fail
  clear r1 r2 r3 r4 r5 r6 r7 r8 r9 na1 na2 na3 na4 na5 da1 da2 da3 da4 da5 qa1 qa2 qa3 qa4 qa5 qa6 qa7 qa8 qa9
  obtain ⟨r1, r2, r3, r4, r5, r6, r7, r8, r9⟩ := H_r.out
  exact bodyPost_ret (v := (.tuple #[.agg #[.bool s28, .slice A28 n28 c28, .bool t28, .slice D28 m28 d28], .bool false])) (by simp [results, Tryz.results7, go_sem, r1, r2, r3, r4]) rfl P.out
set_option maxRecDepth 100000 in
set_option maxHeartbeats 16000000 in
theorem p_one {s a b : ByteArray} {h : Bool} {N D : Int} {w : World} (C : ∀ w : World, Calls Tryz.prog 19 #[.string s, .string { data := #[47] }] w fun e w' => e = .returned (.tuple #[.string a, .string b, .bool true]) ∧ Below w.heap.size w w') (P1 : ∀ w : World, Calls Tryz.prog 20 #[.string a] w (ZPowPost N 2048 w)) (P2 : ∀ w : World, Calls Tryz.prog 20 #[.string b] w (ZPowPost D 2048 w)) (h1 : D = 1) :
    Calls Tryz.prog 7 #[.string s] w (QbPost 0 false 1 w) := by
  have hW := Below.refl w.heap.size w
  obtain ⟨wp0, hwp0⟩ : ∃ x, x = w.alloc (.cells #[.bool false, .slice none 0 0, .bool false, .slice none 0 0] 27) := ⟨_, rfl⟩
  have zp0 : Below w.heap.size w wp0 := by rw [hwp0]; exact zba _ _
  have sp0 : wp0.heap.size = w.heap.size + 1 := by rw [hwp0, World.size_alloc]
  have Ir : Rb wp0 w.heap.size false none 0 0 false none 0 0 := by rw [hwp0]; exact Rb.new _ _ _ _ _ _ _ _ _ _
  replace hW := hW.trans (zp0.mono hW.size)
  have H_r := Lib.hid Ir
  clear Ir zp0
  have HW : Hid ((w.alloc (.cells #[.bool false, .slice none 0 0, .bool false, .slice none 0 0] 27)) = wp0) := Lib.hid (by rw [hwp0])
  have lw_r : w.heap.size ≤ w.heap.size := by omega
  clear hwp0 sp0
  have HC := Lib.hid C
  have HP1 := Lib.hid P1
  have HP2 := Lib.hid P2
  clear P2
  clear C P1
  have HB1 : Hid (decide (D = 1) = true) := Lib.hid (decide_eq_true h1)
  clear h1
  go_enter Tryz.func7, Tryz.ntmps7
  obtain ⟨r1, r2, r3, r4, r5, r6, r7, r8, r9⟩ := H_r.out
  go_wp2_with fail
  rw [HW.out]
  clear r1 r2 r3 r4 r5 r6 r7 r8 r9
  refine (HC.out _).mono ?_
  rintro e w21 ⟨rfl, B21⟩
  replace H_r := Lib.hid (H_r.out.below B21)
  replace hW := hW.trans (B21.mono hW.size)
  clear B21
  obtain ⟨r1, r2, r3, r4, r5, r6, r7, r8, r9⟩ := H_r.out
  go_wp2_with fail
  clear r1 r2 r3 r4 r5 r6 r7 r8 r9
  refine (HP1.out _).mono ?_
  rintro e w22 ⟨s22, A22, n22, c22, rfl, pn, k22, B22⟩
  replace H_r := Lib.hid (H_r.out.below B22)
  replace hW := hW.trans (B22.mono hW.size)
  clear B22
  have O_r := H_r
  obtain ⟨w23, hw23⟩ : ∃ x, x = w22.alloc (.cells #[.bool s22, .slice A22 n22 c22] 25) := ⟨_, rfl⟩
  have z23 : Below w22.heap.size w22 w23 := by rw [hw23]; exact zba _ _
  have HW23 : Hid (w22.alloc (.cells #[.bool s22, .slice A22 n22 c22] 25) = w23) := Lib.hid hw23.symm
  have nn_r_na : ¬ (w.heap.size = w22.heap.size) := by have := H_r.out.2.2.2.2.2.2.2.2; omega
  have nm_r_na : ¬ (w22.heap.size = w.heap.size) := by omega
  have lw_na : w.heap.size ≤ w22.heap.size := by have := hW.size; omega
  replace H_r := Lib.hid (H_r.out.below z23)
  replace pn := pn.below z23
  replace hW := hW.trans (z23.mono hW.size)
  have H_na : Hid (Ib w23 w22.heap.size s22 A22 n22 c22) := Lib.hid (by rw [hw23]; exact Ib.new _ _ _ _ _ _)
  clear z23 hw23
  obtain ⟨r1, r2, r3, r4, r5, r6, r7, r8, r9⟩ := O_r.out
  go_wp2_with fail
  rw [HW23.out]
  clear r1 r2 r3 r4 r5 r6 r7 r8 r9 O_r
  refine (HP2.out _).mono ?_
  rintro e w24 ⟨s24, A24, n24, c24, rfl, pd, k24, B24⟩
  replace H_r := Lib.hid (H_r.out.below B24)
  replace H_na := Lib.hid (H_na.out.below B24)
  replace pn := pn.below B24
  replace hW := hW.trans (B24.mono hW.size)
  clear B24
  have O_r := H_r
  have O_na := H_na
  obtain ⟨w25, hw25⟩ : ∃ x, x = w24.alloc (.cells #[.bool s24, .slice A24 n24 c24] 25) := ⟨_, rfl⟩
  have z25 : Below w24.heap.size w24 w25 := by rw [hw25]; exact zba _ _
  have HW25 : Hid (w24.alloc (.cells #[.bool s24, .slice A24 n24 c24] 25) = w25) := Lib.hid hw25.symm
  have nn_r_da : ¬ (w.heap.size = w24.heap.size) := by have := H_r.out.2.2.2.2.2.2.2.2; omega
  have nm_r_da : ¬ (w24.heap.size = w.heap.size) := by omega
  have nn_na_da : ¬ (w22.heap.size = w24.heap.size) := by have := H_na.out.2.2.2.2; omega
  have nm_na_da : ¬ (w24.heap.size = w22.heap.size) := by omega
  have lw_da : w.heap.size ≤ w24.heap.size := by have := hW.size; omega
  replace H_r := Lib.hid (H_r.out.below z25)
  replace H_na := Lib.hid (H_na.out.below z25)
  replace pn := pn.below z25
  replace pd := pd.below z25
  replace hW := hW.trans (z25.mono hW.size)
  have H_da : Hid (Ib w25 w24.heap.size s24 A24 n24 c24) := Lib.hid (by rw [hw25]; exact Ib.new _ _ _ _ _ _)
  clear z25 hw25
  obtain ⟨r1, r2, r3, r4, r5, r6, r7, r8, r9⟩ := O_r.out
  obtain ⟨na1, na2, na3, na4, na5⟩ := O_na.out
  go_wp2_with fail
  rw [HW25.out]
  clear r1 r2 r3 r4 r5 r6 r7 r8 r9 na1 na2 na3 na4 na5 O_r O_na
  refine (normal_v (k := 2048) pn.zv pd.zv (by omega) (by omega) (by omega) (by omega)).mono ?_
  rintro e w26 ⟨s26, A26, n26, c26, t26, D26, m26, d26, rfl, pq, k26, l26, B26⟩
  replace H_r := Lib.hid (H_r.out.below B26)
  replace H_na := Lib.hid (H_na.out.below B26)
  replace H_da := Lib.hid (H_da.out.below B26)
  replace pn := pn.below B26
  replace pd := pd.below B26
  replace hW := hW.trans (B26.mono hW.size)
  clear B26
  have O_r := H_r
  have O_na := H_na
  have O_da := H_da
  obtain ⟨w27, hw27⟩ : ∃ x, x = w26.alloc (.cells #[.bool s26, .slice A26 n26 c26, .bool t26, .slice D26 m26 d26] 27) := ⟨_, rfl⟩
  have z27 : Below w26.heap.size w26 w27 := by rw [hw27]; exact zba _ _
  have HW27 : Hid (w26.alloc (.cells #[.bool s26, .slice A26 n26 c26, .bool t26, .slice D26 m26 d26] 27) = w27) := Lib.hid hw27.symm
  have nn_r_qa : ¬ (w.heap.size = w26.heap.size) := by have := H_r.out.2.2.2.2.2.2.2.2; omega
  have nm_r_qa : ¬ (w26.heap.size = w.heap.size) := by omega
  have nn_na_qa : ¬ (w22.heap.size = w26.heap.size) := by have := H_na.out.2.2.2.2; omega
  have nm_na_qa : ¬ (w26.heap.size = w22.heap.size) := by omega
  have nn_da_qa : ¬ (w24.heap.size = w26.heap.size) := by have := H_da.out.2.2.2.2; omega
  have nm_da_qa : ¬ (w26.heap.size = w24.heap.size) := by omega
  have lw_qa : w.heap.size ≤ w26.heap.size := by have := hW.size; omega
  replace H_r := Lib.hid (H_r.out.below z27)
  replace H_na := Lib.hid (H_na.out.below z27)
  replace H_da := Lib.hid (H_da.out.below z27)
  replace pn := pn.below z27
  replace pd := pd.below z27
  replace pq := pq.below z27
  replace hW := hW.trans (z27.mono hW.size)
  have H_qa : Hid (Rb w27 w26.heap.size s26 A26 n26 c26 t26 D26 m26 d26) := Lib.hid (by rw [hw27]; exact Rb.new _ _ _ _ _ _ _ _ _ _)
  clear z27 hw27
  obtain ⟨r1, r2, r3, r4, r5, r6, r7, r8, r9⟩ := O_r.out
  obtain ⟨na1, na2, na3, na4, na5⟩ := O_na.out
  obtain ⟨da1, da2, da3, da4, da5⟩ := O_da.out
  go_wp2_with fail
  rw [HW27.out]
  clear r1 r2 r3 r4 r5 r6 r7 r8 r9 na1 na2 na3 na4 na5 da1 da2 da3 da4 da5 O_r O_na O_da
  refine (isone_v pd.zv (by omega) HB1.out).mono ?_
  rintro e w28 ⟨rfl, B28⟩
  replace H_r := Lib.hid (H_r.out.below B28)
  replace H_na := Lib.hid (H_na.out.below B28)
  replace H_da := Lib.hid (H_da.out.below B28)
  replace H_qa := Lib.hid (H_qa.out.below B28)
  replace pn := pn.below B28
  replace pd := pd.below B28
  replace pq := pq.below B28
  replace hW := hW.trans (B28.mono hW.size)
  clear B28
  obtain ⟨r1, r2, r3, r4, r5, r6, r7, r8, r9⟩ := H_r.out
  obtain ⟨na1, na2, na3, na4, na5⟩ := H_na.out
  obtain ⟨da1, da2, da3, da4, da5⟩ := H_da.out
  obtain ⟨qa1, qa2, qa3, qa4, qa5, qa6, qa7, qa8, qa9⟩ := H_qa.out
  go_wp2_with fail
  clear r1 r2 r3 r4 r5 r6 r7 r8 r9 na1 na2 na3 na4 na5 da1 da2 da3 da4 da5 qa1 qa2 qa3 qa4 qa5 qa6 qa7 qa8 qa9
  refine (qof_v (k := 1) (N := 0) (zc_nought _).zv (by omega) (by omega) (by omega)).mono ?_
  rintro e w29 ⟨s29, A29, n29, c29, t29, D29, m29, d29, rfl, pr, k29, l29, B29⟩
  replace H_r := Lib.hid (H_r.out.below B29)
  replace H_na := Lib.hid (H_na.out.below B29)
  replace H_da := Lib.hid (H_da.out.below B29)
  replace H_qa := Lib.hid (H_qa.out.below B29)
  replace pn := pn.below B29
  replace pd := pd.below B29
  replace pq := pq.below B29
  replace hW := hW.trans (B29.mono hW.size)
  clear B29
  rw [show ((0 : Int) : Rat) = 0 from rfl] at pr
  have P := Lib.hid (qbfin (b := false) (q := 0) (w := w) (k := 1) pr H_r.out (by omega) (by omega) lw_r hW)
  unfold rput at P
  obtain ⟨r1, r2, r3, r4, r5, r6, r7, r8, r9⟩ := H_r.out
  obtain ⟨na1, na2, na3, na4, na5⟩ := H_na.out
  obtain ⟨da1, da2, da3, da4, da5⟩ := H_da.out
  obtain ⟨qa1, qa2, qa3, qa4, qa5, qa6, qa7, qa8, qa9⟩ := H_qa.out
  go_wp2_with fail
  clear r1 r2 r3 r4 r5 r6 r7 r8 r9 na1 na2 na3 na4 na5 da1 da2 da3 da4 da5 qa1 qa2 qa3 qa4 qa5 qa6 qa7 qa8 qa9
  obtain ⟨r1, r2, r3, r4, r5, r6, r7, r8, r9⟩ := H_r.out
  exact bodyPost_ret (v := (.tuple #[.agg #[.bool s29, .slice A29 n29 c29, .bool t29, .slice D29 m29 d29], .bool false])) (by simp [results, Tryz.results7, go_sem, r1, r2, r3, r4]) rfl P.out
set_option maxRecDepth 100000 in
set_option maxHeartbeats 16000000 in
theorem p_odd {s a b : ByteArray} {h : Bool} {N D : Int} {w : World} (C : ∀ w : World, Calls Tryz.prog 19 #[.string s, .string { data := #[47] }] w fun e w' => e = .returned (.tuple #[.string a, .string b, .bool true]) ∧ Below w.heap.size w w') (P1 : ∀ w : World, Calls Tryz.prog 20 #[.string a] w (ZPowPost N 2048 w)) (P2 : ∀ w : World, Calls Tryz.prog 20 #[.string b] w (ZPowPost D 2048 w)) (h1 : D ≠ 1) (h2 : ((Rat.divInt N D).den : Int) ≠ D) :
    Calls Tryz.prog 7 #[.string s] w (QbPost 0 false 1 w) := by
  have hW := Below.refl w.heap.size w
  obtain ⟨wp0, hwp0⟩ : ∃ x, x = w.alloc (.cells #[.bool false, .slice none 0 0, .bool false, .slice none 0 0] 27) := ⟨_, rfl⟩
  have zp0 : Below w.heap.size w wp0 := by rw [hwp0]; exact zba _ _
  have sp0 : wp0.heap.size = w.heap.size + 1 := by rw [hwp0, World.size_alloc]
  have Ir : Rb wp0 w.heap.size false none 0 0 false none 0 0 := by rw [hwp0]; exact Rb.new _ _ _ _ _ _ _ _ _ _
  replace hW := hW.trans (zp0.mono hW.size)
  have H_r := Lib.hid Ir
  clear Ir zp0
  have HW : Hid ((w.alloc (.cells #[.bool false, .slice none 0 0, .bool false, .slice none 0 0] 27)) = wp0) := Lib.hid (by rw [hwp0])
  have lw_r : w.heap.size ≤ w.heap.size := by omega
  clear hwp0 sp0
  have HC := Lib.hid C
  have HP1 := Lib.hid P1
  have HP2 := Lib.hid P2
  clear P2
  clear C P1
  have HB1 : Hid (decide (D = 1) = false) := Lib.hid (decide_eq_false h1)
  have HB2 : Hid (decide (((Rat.divInt N D).den : Int) = D) = false) := Lib.hid (decide_eq_false h2)
  clear h2
  clear h1
  go_enter Tryz.func7, Tryz.ntmps7
  obtain ⟨r1, r2, r3, r4, r5, r6, r7, r8, r9⟩ := H_r.out
  go_wp2_with fail
  rw [HW.out]
  clear r1 r2 r3 r4 r5 r6 r7 r8 r9
  refine (HC.out _).mono ?_
  rintro e w21 ⟨rfl, B21⟩
  replace H_r := Lib.hid (H_r.out.below B21)
  replace hW := hW.trans (B21.mono hW.size)
  clear B21
  obtain ⟨r1, r2, r3, r4, r5, r6, r7, r8, r9⟩ := H_r.out
  go_wp2_with fail
  clear r1 r2 r3 r4 r5 r6 r7 r8 r9
  refine (HP1.out _).mono ?_
  rintro e w22 ⟨s22, A22, n22, c22, rfl, pn, k22, B22⟩
  replace H_r := Lib.hid (H_r.out.below B22)
  replace hW := hW.trans (B22.mono hW.size)
  clear B22
  have O_r := H_r
  obtain ⟨w23, hw23⟩ : ∃ x, x = w22.alloc (.cells #[.bool s22, .slice A22 n22 c22] 25) := ⟨_, rfl⟩
  have z23 : Below w22.heap.size w22 w23 := by rw [hw23]; exact zba _ _
  have HW23 : Hid (w22.alloc (.cells #[.bool s22, .slice A22 n22 c22] 25) = w23) := Lib.hid hw23.symm
  have nn_r_na : ¬ (w.heap.size = w22.heap.size) := by have := H_r.out.2.2.2.2.2.2.2.2; omega
  have nm_r_na : ¬ (w22.heap.size = w.heap.size) := by omega
  have lw_na : w.heap.size ≤ w22.heap.size := by have := hW.size; omega
  replace H_r := Lib.hid (H_r.out.below z23)
  replace pn := pn.below z23
  replace hW := hW.trans (z23.mono hW.size)
  have H_na : Hid (Ib w23 w22.heap.size s22 A22 n22 c22) := Lib.hid (by rw [hw23]; exact Ib.new _ _ _ _ _ _)
  clear z23 hw23
  obtain ⟨r1, r2, r3, r4, r5, r6, r7, r8, r9⟩ := O_r.out
  go_wp2_with fail
  rw [HW23.out]
  clear r1 r2 r3 r4 r5 r6 r7 r8 r9 O_r
  refine (HP2.out _).mono ?_
  rintro e w24 ⟨s24, A24, n24, c24, rfl, pd, k24, B24⟩
  replace H_r := Lib.hid (H_r.out.below B24)
  replace H_na := Lib.hid (H_na.out.below B24)
  replace pn := pn.below B24
  replace hW := hW.trans (B24.mono hW.size)
  clear B24
  have O_r := H_r
  have O_na := H_na
  obtain ⟨w25, hw25⟩ : ∃ x, x = w24.alloc (.cells #[.bool s24, .slice A24 n24 c24] 25) := ⟨_, rfl⟩
  have z25 : Below w24.heap.size w24 w25 := by rw [hw25]; exact zba _ _
  have HW25 : Hid (w24.alloc (.cells #[.bool s24, .slice A24 n24 c24] 25) = w25) := Lib.hid hw25.symm
  have nn_r_da : ¬ (w.heap.size = w24.heap.size) := by have := H_r.out.2.2.2.2.2.2.2.2; omega
  have nm_r_da : ¬ (w24.heap.size = w.heap.size) := by omega
  have nn_na_da : ¬ (w22.heap.size = w24.heap.size) := by have := H_na.out.2.2.2.2; omega
  have nm_na_da : ¬ (w24.heap.size = w22.heap.size) := by omega
  have lw_da : w.heap.size ≤ w24.heap.size := by have := hW.size; omega
  replace H_r := Lib.hid (H_r.out.below z25)
  replace H_na := Lib.hid (H_na.out.below z25)
  replace pn := pn.below z25
  replace pd := pd.below z25
  replace hW := hW.trans (z25.mono hW.size)
  have H_da : Hid (Ib w25 w24.heap.size s24 A24 n24 c24) := Lib.hid (by rw [hw25]; exact Ib.new _ _ _ _ _ _)
  clear z25 hw25
  obtain ⟨r1, r2, r3, r4, r5, r6, r7, r8, r9⟩ := O_r.out
  obtain ⟨na1, na2, na3, na4, na5⟩ := O_na.out
  go_wp2_with fail
  rw [HW25.out]
  clear r1 r2 r3 r4 r5 r6 r7 r8 r9 na1 na2 na3 na4 na5 O_r O_na
  refine (normal_v (k := 2048) pn.zv pd.zv (by omega) (by omega) (by omega) (by omega)).mono ?_
  rintro e w26 ⟨s26, A26, n26, c26, t26, D26, m26, d26, rfl, pq, k26, l26, B26⟩
  replace H_r := Lib.hid (H_r.out.below B26)
  replace H_na := Lib.hid (H_na.out.below B26)
  replace H_da := Lib.hid (H_da.out.below B26)
  replace pn := pn.below B26
  replace pd := pd.below B26
  replace hW := hW.trans (B26.mono hW.size)
  clear B26
  have O_r := H_r
  have O_na := H_na
  have O_da := H_da
  obtain ⟨w27, hw27⟩ : ∃ x, x = w26.alloc (.cells #[.bool s26, .slice A26 n26 c26, .bool t26, .slice D26 m26 d26] 27) := ⟨_, rfl⟩
  have z27 : Below w26.heap.size w26 w27 := by rw [hw27]; exact zba _ _
  have HW27 : Hid (w26.alloc (.cells #[.bool s26, .slice A26 n26 c26, .bool t26, .slice D26 m26 d26] 27) = w27) := Lib.hid hw27.symm
  have nn_r_qa : ¬ (w.heap.size = w26.heap.size) := by have := H_r.out.2.2.2.2.2.2.2.2; omega
  have nm_r_qa : ¬ (w26.heap.size = w.heap.size) := by omega
  have nn_na_qa : ¬ (w22.heap.size = w26.heap.size) := by have := H_na.out.2.2.2.2; omega
  have nm_na_qa : ¬ (w26.heap.size = w22.heap.size) := by omega
  have nn_da_qa : ¬ (w24.heap.size = w26.heap.size) := by have := H_da.out.2.2.2.2; omega
  have nm_da_qa : ¬ (w26.heap.size = w24.heap.size) := by omega
  have lw_qa : w.heap.size ≤ w26.heap.size := by have := hW.size; omega
  replace H_r := Lib.hid (H_r.out.below z27)
  replace H_na := Lib.hid (H_na.out.below z27)
  replace H_da := Lib.hid (H_da.out.below z27)
  replace pn := pn.below z27
  replace pd := pd.below z27
  replace pq := pq.below z27
  replace hW := hW.trans (z27.mono hW.size)
  have H_qa : Hid (Rb w27 w26.heap.size s26 A26 n26 c26 t26 D26 m26 d26) := Lib.hid (by rw [hw27]; exact Rb.new _ _ _ _ _ _ _ _ _ _)
  clear z27 hw27
  obtain ⟨r1, r2, r3, r4, r5, r6, r7, r8, r9⟩ := O_r.out
  obtain ⟨na1, na2, na3, na4, na5⟩ := O_na.out
  obtain ⟨da1, da2, da3, da4, da5⟩ := O_da.out
  go_wp2_with fail
  rw [HW27.out]
  clear r1 r2 r3 r4 r5 r6 r7 r8 r9 na1 na2 na3 na4 na5 da1 da2 da3 da4 da5 O_r O_na O_da
  refine (isone_v pd.zv (by omega) HB1.out).mono ?_
  rintro e w28 ⟨rfl, B28⟩
  replace H_r := Lib.hid (H_r.out.below B28)
  replace H_na := Lib.hid (H_na.out.below B28)
  replace H_da := Lib.hid (H_da.out.below B28)
  replace H_qa := Lib.hid (H_qa.out.below B28)
  replace pn := pn.below B28
  replace pd := pd.below B28
  replace pq := pq.below B28
  replace hW := hW.trans (B28.mono hW.size)
  clear B28
  obtain ⟨r1, r2, r3, r4, r5, r6, r7, r8, r9⟩ := H_r.out
  obtain ⟨na1, na2, na3, na4, na5⟩ := H_na.out
  obtain ⟨da1, da2, da3, da4, da5⟩ := H_da.out
  obtain ⟨qa1, qa2, qa3, qa4, qa5, qa6, qa7, qa8, qa9⟩ := H_qa.out
  go_wp2_with fail
  clear r1 r2 r3 r4 r5 r6 r7 r8 r9 na1 na2 na3 na4 na5 da1 da2 da3 da4 da5 qa1 qa2 qa3 qa4 qa5 qa6 qa7 qa8 qa9
  refine (zsame_v pq.dv pd.zv (by omega) (by omega) HB2.out).mono ?_
  rintro e w29 ⟨rfl, B29⟩
  replace H_r := Lib.hid (H_r.out.below B29)
  replace H_na := Lib.hid (H_na.out.below B29)
  replace H_da := Lib.hid (H_da.out.below B29)
  replace H_qa := Lib.hid (H_qa.out.below B29)
  replace pn := pn.below B29
  replace pd := pd.below B29
  replace pq := pq.below B29
  replace hW := hW.trans (B29.mono hW.size)
  clear B29
  obtain ⟨r1, r2, r3, r4, r5, r6, r7, r8, r9⟩ := H_r.out
  obtain ⟨na1, na2, na3, na4, na5⟩ := H_na.out
  obtain ⟨da1, da2, da3, da4, da5⟩ := H_da.out
  obtain ⟨qa1, qa2, qa3, qa4, qa5, qa6, qa7, qa8, qa9⟩ := H_qa.out
  go_wp2_with fail
  clear r1 r2 r3 r4 r5 r6 r7 r8 r9 na1 na2 na3 na4 na5 da1 da2 da3 da4 da5 qa1 qa2 qa3 qa4 qa5 qa6 qa7 qa8 qa9
  refine (qof_v (k := 1) (N := 0) (zc_nought _).zv (by omega) (by omega) (by omega)).mono ?_
  rintro e w30 ⟨s30, A30, n30, c30, t30, D30, m30, d30, rfl, pr, k30, l30, B30⟩
  replace H_r := Lib.hid (H_r.out.below B30)
  replace H_na := Lib.hid (H_na.out.below B30)
  replace H_da := Lib.hid (H_da.out.below B30)
  replace H_qa := Lib.hid (H_qa.out.below B30)
  replace pn := pn.below B30
  replace pd := pd.below B30
  replace pq := pq.below B30
  replace hW := hW.trans (B30.mono hW.size)
  clear B30
  rw [show ((0 : Int) : Rat) = 0 from rfl] at pr
  have P := Lib.hid (qbfin (b := false) (q := 0) (w := w) (k := 1) pr H_r.out (by omega) (by omega) lw_r hW)
  unfold rput at P
  obtain ⟨r1, r2, r3, r4, r5, r6, r7, r8, r9⟩ := H_r.out
  obtain ⟨na1, na2, na3, na4, na5⟩ := H_na.out
  obtain ⟨da1, da2, da3, da4, da5⟩ := H_da.out
  obtain ⟨qa1, qa2, qa3, qa4, qa5, qa6, qa7, qa8, qa9⟩ := H_qa.out
  go_wp2_with fail
  clear r1 r2 r3 r4 r5 r6 r7 r8 r9 na1 na2 na3 na4 na5 da1 da2 da3 da4 da5 qa1 qa2 qa3 qa4 qa5 qa6 qa7 qa8 qa9
  obtain ⟨r1, r2, r3, r4, r5, r6, r7, r8, r9⟩ := H_r.out
  exact bodyPost_ret (v := (.tuple #[.agg #[.bool s30, .slice A30 n30 c30, .bool t30, .slice D30 m30 d30], .bool false])) (by simp [results, Tryz.results7, go_sem, r1, r2, r3, r4]) rfl P.out
set_option maxRecDepth 100000 in
set_option maxHeartbeats 16000000 in
theorem p_frac {s a b : ByteArray} {h : Bool} {N D : Int} {w : World} (C : ∀ w : World, Calls Tryz.prog 19 #[.string s, .string { data := #[47] }] w fun e w' => e = .returned (.tuple #[.string a, .string b, .bool true]) ∧ Below w.heap.size w w') (P1 : ∀ w : World, Calls Tryz.prog 20 #[.string a] w (ZPowPost N 2048 w)) (P2 : ∀ w : World, Calls Tryz.prog 20 #[.string b] w (ZPowPost D 2048 w)) (h1 : D ≠ 1) (h2 : ((Rat.divInt N D).den : Int) = D) :
    Calls Tryz.prog 7 #[.string s] w (QbPost (Rat.divInt N D) true 2048 w) := by
  have hW := Below.refl w.heap.size w
  obtain ⟨wp0, hwp0⟩ : ∃ x, x = w.alloc (.cells #[.bool false, .slice none 0 0, .bool false, .slice none 0 0] 27) := ⟨_, rfl⟩
  have zp0 : Below w.heap.size w wp0 := by rw [hwp0]; exact zba _ _
  have sp0 : wp0.heap.size = w.heap.size + 1 := by rw [hwp0, World.size_alloc]
  have Ir : Rb wp0 w.heap.size false none 0 0 false none 0 0 := by rw [hwp0]; exact Rb.new _ _ _ _ _ _ _ _ _ _
  replace hW := hW.trans (zp0.mono hW.size)
  have H_r := Lib.hid Ir
  clear Ir zp0
  have HW : Hid ((w.alloc (.cells #[.bool false, .slice none 0 0, .bool false, .slice none 0 0] 27)) = wp0) := Lib.hid (by rw [hwp0])
  have lw_r : w.heap.size ≤ w.heap.size := by omega
  clear hwp0 sp0
  have HC := Lib.hid C
  have HP1 := Lib.hid P1
  have HP2 := Lib.hid P2
  clear P2
  clear C P1
  have HB1 : Hid (decide (D = 1) = false) := Lib.hid (decide_eq_false h1)
  have HB2 : Hid (decide (((Rat.divInt N D).den : Int) = D) = true) := Lib.hid (decide_eq_true h2)
  clear h2
  clear h1
  go_enter Tryz.func7, Tryz.ntmps7
  obtain ⟨r1, r2, r3, r4, r5, r6, r7, r8, r9⟩ := H_r.out
  go_wp2_with fail
  rw [HW.out]
  clear r1 r2 r3 r4 r5 r6 r7 r8 r9
  refine (HC.out _).mono ?_
  rintro e w21 ⟨rfl, B21⟩
  replace H_r := Lib.hid (H_r.out.below B21)
  replace hW := hW.trans (B21.mono hW.size)
  clear B21
  obtain ⟨r1, r2, r3, r4, r5, r6, r7, r8, r9⟩ := H_r.out
  go_wp2_with fail
  clear r1 r2 r3 r4 r5 r6 r7 r8 r9
  refine (HP1.out _).mono ?_
  rintro e w22 ⟨s22, A22, n22, c22, rfl, pn, k22, B22⟩
  replace H_r := Lib.hid (H_r.out.below B22)
  replace hW := hW.trans (B22.mono hW.size)
  clear B22
  have O_r := H_r
  obtain ⟨w23, hw23⟩ : ∃ x, x = w22.alloc (.cells #[.bool s22, .slice A22 n22 c22] 25) := ⟨_, rfl⟩
  have z23 : Below w22.heap.size w22 w23 := by rw [hw23]; exact zba _ _
  have HW23 : Hid (w22.alloc (.cells #[.bool s22, .slice A22 n22 c22] 25) = w23) := Lib.hid hw23.symm
  have nn_r_na : ¬ (w.heap.size = w22.heap.size) := by have := H_r.out.2.2.2.2.2.2.2.2; omega
  have nm_r_na : ¬ (w22.heap.size = w.heap.size) := by omega
  have lw_na : w.heap.size ≤ w22.heap.size := by have := hW.size; omega
  replace H_r := Lib.hid (H_r.out.below z23)
  replace pn := pn.below z23
  replace hW := hW.trans (z23.mono hW.size)
  have H_na : Hid (Ib w23 w22.heap.size s22 A22 n22 c22) := Lib.hid (by rw [hw23]; exact Ib.new _ _ _ _ _ _)
  clear z23 hw23
  obtain ⟨r1, r2, r3, r4, r5, r6, r7, r8, r9⟩ := O_r.out
  go_wp2_with fail
  rw [HW23.out]
  clear r1 r2 r3 r4 r5 r6 r7 r8 r9 O_r
  refine (HP2.out _).mono ?_
  rintro e w24 ⟨s24, A24, n24, c24, rfl, pd, k24, B24⟩
  replace H_r := Lib.hid (H_r.out.below B24)
  replace H_na := Lib.hid (H_na.out.below B24)
  replace pn := pn.below B24
  replace hW := hW.trans (B24.mono hW.size)
  clear B24
  have O_r := H_r
  have O_na := H_na
  obtain ⟨w25, hw25⟩ : ∃ x, x = w24.alloc (.cells #[.bool s24, .slice A24 n24 c24] 25) := ⟨_, rfl⟩
  have z25 : Below w24.heap.size w24 w25 := by rw [hw25]; exact zba _ _
  have HW25 : Hid (w24.alloc (.cells #[.bool s24, .slice A24 n24 c24] 25) = w25) := Lib.hid hw25.symm
  have nn_r_da : ¬ (w.heap.size = w24.heap.size) := by have := H_r.out.2.2.2.2.2.2.2.2; omega
  have nm_r_da : ¬ (w24.heap.size = w.heap.size) := by omega
  have nn_na_da : ¬ (w22.heap.size = w24.heap.size) := by have := H_na.out.2.2.2.2; omega
  have nm_na_da : ¬ (w24.heap.size = w22.heap.size) := by omega
  have lw_da : w.heap.size ≤ w24.heap.size := by have := hW.size; omega
  replace H_r := Lib.hid (H_r.out.below z25)
  replace H_na := Lib.hid (H_na.out.below z25)
  replace pn := pn.below z25
  replace pd := pd.below z25
  replace hW := hW.trans (z25.mono hW.size)
  have H_da : Hid (Ib w25 w24.heap.size s24 A24 n24 c24) := Lib.hid (by rw [hw25]; exact Ib.new _ _ _ _ _ _)
  clear z25 hw25
  obtain ⟨r1, r2, r3, r4, r5, r6, r7, r8, r9⟩ := O_r.out
  obtain ⟨na1, na2, na3, na4, na5⟩ := O_na.out
  go_wp2_with fail
  rw [HW25.out]
  clear r1 r2 r3 r4 r5 r6 r7 r8 r9 na1 na2 na3 na4 na5 O_r O_na
  refine (normal_v (k := 2048) pn.zv pd.zv (by omega) (by omega) (by omega) (by omega)).mono ?_
  rintro e w26 ⟨s26, A26, n26, c26, t26, D26, m26, d26, rfl, pq, k26, l26, B26⟩
  replace H_r := Lib.hid (H_r.out.below B26)
  replace H_na := Lib.hid (H_na.out.below B26)
  replace H_da := Lib.hid (H_da.out.below B26)
  replace pn := pn.below B26
  replace pd := pd.below B26
  replace hW := hW.trans (B26.mono hW.size)
  clear B26
  have O_r := H_r
  have O_na := H_na
  have O_da := H_da
  obtain ⟨w27, hw27⟩ : ∃ x, x = w26.alloc (.cells #[.bool s26, .slice A26 n26 c26, .bool t26, .slice D26 m26 d26] 27) := ⟨_, rfl⟩
  have z27 : Below w26.heap.size w26 w27 := by rw [hw27]; exact zba _ _
  have HW27 : Hid (w26.alloc (.cells #[.bool s26, .slice A26 n26 c26, .bool t26, .slice D26 m26 d26] 27) = w27) := Lib.hid hw27.symm
  have nn_r_qa : ¬ (w.heap.size = w26.heap.size) := by have := H_r.out.2.2.2.2.2.2.2.2; omega
  have nm_r_qa : ¬ (w26.heap.size = w.heap.size) := by omega
  have nn_na_qa : ¬ (w22.heap.size = w26.heap.size) := by have := H_na.out.2.2.2.2; omega
  have nm_na_qa : ¬ (w26.heap.size = w22.heap.size) := by omega
  have nn_da_qa : ¬ (w24.heap.size = w26.heap.size) := by have := H_da.out.2.2.2.2; omega
  have nm_da_qa : ¬ (w26.heap.size = w24.heap.size) := by omega
  have lw_qa : w.heap.size ≤ w26.heap.size := by have := hW.size; omega
  replace H_r := Lib.hid (H_r.out.below z27)
  replace H_na := Lib.hid (H_na.out.below z27)
  replace H_da := Lib.hid (H_da.out.below z27)
  replace pn := pn.below z27
  replace pd := pd.below z27
  replace pq := pq.below z27
  replace hW := hW.trans (z27.mono hW.size)
  have H_qa : Hid (Rb w27 w26.heap.size s26 A26 n26 c26 t26 D26 m26 d26) := Lib.hid (by rw [hw27]; exact Rb.new _ _ _ _ _ _ _ _ _ _)
  clear z27 hw27
  obtain ⟨r1, r2, r3, r4, r5, r6, r7, r8, r9⟩ := O_r.out
  obtain ⟨na1, na2, na3, na4, na5⟩ := O_na.out
  obtain ⟨da1, da2, da3, da4, da5⟩ := O_da.out
  go_wp2_with fail
  rw [HW27.out]
  clear r1 r2 r3 r4 r5 r6 r7 r8 r9 na1 na2 na3 na4 na5 da1 da2 da3 da4 da5 O_r O_na O_da
  refine (isone_v pd.zv (by omega) HB1.out).mono ?_
  rintro e w28 ⟨rfl, B28⟩
  replace H_r := Lib.hid (H_r.out.below B28)
  replace H_na := Lib.hid (H_na.out.below B28)
  replace H_da := Lib.hid (H_da.out.below B28)
  replace H_qa := Lib.hid (H_qa.out.below B28)
  replace pn := pn.below B28
  replace pd := pd.below B28
  replace pq := pq.below B28
  replace hW := hW.trans (B28.mono hW.size)
  clear B28
  obtain ⟨r1, r2, r3, r4, r5, r6, r7, r8, r9⟩ := H_r.out
  obtain ⟨na1, na2, na3, na4, na5⟩ := H_na.out
  obtain ⟨da1, da2, da3, da4, da5⟩ := H_da.out
  obtain ⟨qa1, qa2, qa3, qa4, qa5, qa6, qa7, qa8, qa9⟩ := H_qa.out
  go_wp2_with fail
  clear r1 r2 r3 r4 r5 r6 r7 r8 r9 na1 na2 na3 na4 na5 da1 da2 da3 da4 da5 qa1 qa2 qa3 qa4 qa5 qa6 qa7 qa8 qa9
  refine (zsame_v pq.dv pd.zv (by omega) (by omega) HB2.out).mono ?_
  rintro e w29 ⟨rfl, B29⟩
  replace H_r := Lib.hid (H_r.out.below B29)
  replace H_na := Lib.hid (H_na.out.below B29)
  replace H_da := Lib.hid (H_da.out.below B29)
  replace H_qa := Lib.hid (H_qa.out.below B29)
  replace pn := pn.below B29
  replace pd := pd.below B29
  replace pq := pq.below B29
  replace hW := hW.trans (B29.mono hW.size)
  clear B29
  have P := Lib.hid (qbfin (b := true) (w := w) (k := 2048) pq H_r.out (by omega) (by omega) lw_r hW)
  unfold rput at P
  obtain ⟨r1, r2, r3, r4, r5, r6, r7, r8, r9⟩ := H_r.out
  obtain ⟨na1, na2, na3, na4, na5⟩ := H_na.out
  obtain ⟨da1, da2, da3, da4, da5⟩ := H_da.out
  obtain ⟨qa1, qa2, qa3, qa4, qa5, qa6, qa7, qa8, qa9⟩ := H_qa.out
  go_wp2_with fail
  clear r1 r2 r3 r4 r5 r6 r7 r8 r9 na1 na2 na3 na4 na5 da1 da2 da3 da4 da5 qa1 qa2 qa3 qa4 qa5 qa6 qa7 qa8 qa9
  obtain ⟨r1, r2, r3, r4, r5, r6, r7, r8, r9⟩ := H_r.out
  exact bodyPost_ret (v := (.tuple #[.agg #[.bool s26, .slice A26 n26 c26, .bool t26, .slice D26 m26 d26], .bool true])) (by simp [results, Tryz.results7, go_sem, r1, r2, r3, r4]) rfl P.out
set_option maxRecDepth 100000 in
set_option maxHeartbeats 16000000 in
theorem qbits_v {A B : Option Addr} {n c m d k : Nat} {s t : Bool} {p : Rat} {b : Int} {w : World} (ha : Qv w s A n c t B m d p) (hnk : n ≤ k) (hmk : m ≤ k) (h1 : 1 ≤ k) (hk : k ≤ 1073741824) (hb : max (bl p.num.natAbs : Int) (bl p.den : Int) = b) :
    Calls Tryz.prog 8 #[.agg #[.bool s, .slice A n c, .bool t, .slice B m d]] w (IPost b w) := by
  obtain ⟨N, D, hn, hd, hp⟩ := ha
  have hW := Below.refl w.heap.size w
  obtain ⟨wp0, hwp0⟩ : ∃ x, x = w.alloc (.cells #[.bool s, .slice A n c, .bool t, .slice B m d] 27) := ⟨_, rfl⟩
  have zp0 : Below w.heap.size w wp0 := by rw [hwp0]; exact zba _ _
  have sp0 : wp0.heap.size = w.heap.size + 1 := by rw [hwp0, World.size_alloc]
  have Ia : Rb wp0 w.heap.size s A n c t B m d := by rw [hwp0]; exact Rb.new _ _ _ _ _ _ _ _ _ _
  replace hn := hn.below zp0
  replace hd := hd.below zp0
  replace hW := hW.trans (zp0.mono hW.size)
  have H_a := Lib.hid Ia
  clear Ia zp0
  have HW : Hid ((w.alloc (.cells #[.bool s, .slice A n c, .bool t, .slice B m d] 27)) = wp0) := Lib.hid (by rw [hwp0])
  have lw_a : w.heap.size ≤ w.heap.size := by omega
  clear hwp0 sp0
  obtain ⟨b1, hb1⟩ : ∃ b, bl p.num.natAbs = b := ⟨_, rfl⟩
  obtain ⟨b2, hb2⟩ : ∃ b, bl p.den = b := ⟨_, rfl⟩
  have HB1 := Lib.hid hb1
  have HB2 : Hid (bl ((p.den : Int)).natAbs = b2) := Lib.hid (by rw [Int.natAbs_natCast, hb2])
  rw [hb1, hb2] at hb
  have HQ := hp
  clear hb1 hb2 hp
  go_enter Tryz.func8, Tryz.ntmps8
  obtain ⟨a1, a2, a3, a4, a5, a6, a7, a8, a9⟩ := H_a.out
  go_wp2_with fail
  rw [HW.out]
  clear a1 a2 a3 a4 a5 a6 a7 a8 a9
  refine (normal_v (k := k) hn hd hnk hmk h1 (by omega)).mono ?_
  rintro e w21 ⟨s21, A21, n21, c21, t21, D21, m21, d21, rfl, pq, k21, l21, B21⟩
  replace H_a := Lib.hid (H_a.out.below B21)
  replace hn := hn.below B21
  replace hd := hd.below B21
  replace hW := hW.trans (B21.mono hW.size)
  clear B21
  rw [HQ.out] at pq
  have O_a := H_a
  obtain ⟨w22, hw22⟩ : ∃ x, x = rput w21 w.heap.size s21 A21 n21 c21 t21 D21 m21 d21 := ⟨_, rfl⟩
  have HW22 : Hid (((((w21.setCell ⟨w.heap.size, 0, none⟩ (.bool s21)).setCell ⟨w.heap.size, 1, none⟩ (.slice A21 n21 c21)).setCell ⟨w.heap.size, 2, none⟩ (.bool t21)).setCell ⟨w.heap.size, 3, none⟩ (.slice D21 m21 d21)) = w22) := Lib.hid hw22.symm
  have OI := H_a.out
  replace hn := hn.rput (s' := s21) (A' := A21) (n' := n21) (c' := c21) (t' := t21) (B' := D21) (m' := m21) (d' := d21) OI
  replace hd := hd.rput (s' := s21) (A' := A21) (n' := n21) (c' := c21) (t' := t21) (B' := D21) (m' := m21) (d' := d21) OI
  replace pq := pq.rput (s' := s21) (A' := A21) (n' := n21) (c' := c21) (t' := t21) (B' := D21) (m' := m21) (d' := d21) OI
  rw [← hw22] at hn
  rw [← hw22] at hd
  rw [← hw22] at pq
  replace hW : Below w.heap.size w w22 := by rw [hw22]; exact below_rput hW lw_a
  replace H_a : Hid (Rb w22 w.heap.size s21 A21 n21 c21 t21 D21 m21 d21) := Lib.hid (by rw [hw22]; exact OI.own)
  clear hw22 OI
  clear hn hd
  obtain ⟨a1, a2, a3, a4, a5, a6, a7, a8, a9⟩ := O_a.out
  go_wp2_with fail
  rw [HW22.out]
  clear a1 a2 a3 a4 a5 a6 a7 a8 a9 O_a
  refine region7 [] 8 [IsK (.pointer (some ⟨w.heap.size, 0, none⟩)), IsK (.agg #[.bool s21, .slice A21 n21 c21]), IsK (.int .i64 (b1 : Int)), IsK (.pointer (some ⟨w.heap.size, 2, none⟩)), IsK (.agg #[.bool t21, .slice D21 m21 d21]), IsK (.int .i64 (b2 : Int)), IsK (.int .i64 b), IsK (.int .i64 b)] (fun _ _ d _ _ h => by cases d <;> exact h) (by kernel_rfl) (by kernel_rfl) (by kernel_rfl) ⟨stay_k _, stay_k _, stay_k _, stay_k _, stay_k _, stay_k _, stay_k _, stay_k _, trivial⟩ ?_ ?_
  · refine HopAll.cons rfl ?_ (HopAll.cons rfl ?_ (HopAll.cons rfl ?_ (HopAll.cons rfl ?_ (HopAll.cons rfl ?_ (HopAll.cons rfl ?_ (HopAll.cons rfl ?_ (HopAll.cons rfl ?_ HopAll.nil)))))))
    · intro a w1 hB ho hp K hK
      have e1 : a.eval (.tmp 1) = (.pointer (some ⟨w.heap.size, 0, none⟩)) := ho 1 (by kernel_rfl)
      refine hop_val (wanted_none rfl) ?_ (hK (.pointer (some ⟨w.heap.size, 0, none⟩)) _ rfl (Below.refl _ _))
      unfold execOp; simp only [e1]; simp [go_sem]
    · intro a w1 hB ho hp K hK
      have e8 : a.eval (.tmp 8) = (.pointer (some ⟨w.heap.size, 0, none⟩)) := hp 0 8 (by kernel_rfl)
      obtain ⟨u1, u2, u3, u4, u5, u6, u7, u8, u9⟩ := H_a.out.below hB
      exact hop_load (wanted_none rfl) rfl e8 (run_ldz u1 u2) (hK _ _ rfl (Below.refl _ _))
    · intro a w1 hB ho hp K hK
      have e9 : a.eval (.tmp 9) = (.agg #[.bool s21, .slice A21 n21 c21]) := hp 1 9 (by kernel_rfl)
      refine hop_call (wanted_none rfl) rfl (args := #[(.agg #[.bool s21, .slice A21 n21 c21])]) (by simp only [List.map_toArray, List.map_cons, List.map_nil, eval_const, e9]) (ent7 (by kernel_rfl) _ _) (zbits_v (pq.below hB).nv (by omega) HB1.out) ?_
      rintro e w2 ⟨rfl, B⟩
      exact ⟨_, rfl, hK _ _ rfl B⟩
    · intro a w1 hB ho hp K hK
      have e1 : a.eval (.tmp 1) = (.pointer (some ⟨w.heap.size, 0, none⟩)) := ho 1 (by kernel_rfl)
      refine hop_val (wanted_none rfl) ?_ (hK (.pointer (some ⟨w.heap.size, 2, none⟩)) _ rfl (Below.refl _ _))
      unfold execOp; simp only [e1]; simp [go_sem]
    · intro a w1 hB ho hp K hK
      have e11 : a.eval (.tmp 11) = (.pointer (some ⟨w.heap.size, 2, none⟩)) := hp 3 11 (by kernel_rfl)
      obtain ⟨u1, u2, u3, u4, u5, u6, u7, u8, u9⟩ := H_a.out.below hB
      exact hop_load (wanted_none rfl) rfl e11 (run_ldz u3 u4) (hK _ _ rfl (Below.refl _ _))
    · intro a w1 hB ho hp K hK
      have e12 : a.eval (.tmp 12) = (.agg #[.bool t21, .slice D21 m21 d21]) := hp 4 12 (by kernel_rfl)
      refine hop_call (wanted_none rfl) rfl (args := #[(.agg #[.bool t21, .slice D21 m21 d21])]) (by simp only [List.map_toArray, List.map_cons, List.map_nil, eval_const, e12]) (ent7 (by kernel_rfl) _ _) (zbits_v (pq.below hB).dv (by omega) HB2.out) ?_
      rintro e w2 ⟨rfl, B⟩
      exact ⟨_, rfl, hK _ _ rfl B⟩
    · intro a w1 hB ho hp K hK
      have e10 : a.eval (.tmp 10) = (.int .i64 (b1 : Int)) := hp 2 10 (by kernel_rfl)
      have e13 : a.eval (.tmp 13) = (.int .i64 (b2 : Int)) := hp 5 13 (by kernel_rfl)
      refine hop_val (wanted_none rfl) ?_ (hK (.int .i64 b) _ rfl (Below.refl _ _))
      unfold execOp; simp only [eval_const, resolve, Option.map_some, Option.map_none, List.map_toArray, List.map_cons, List.map_nil, e10, e13]; simp [go_sem, hb]
    · intro a w1 hB ho hp K hK
      have e14 : a.eval (.tmp 14) = (.int .i64 b) := hp 6 14 (by kernel_rfl)
      refine hop_val (wanted_none rfl) ?_ (hK (.int .i64 b) _ rfl (Below.refl _ _))
      unfold execOp; simp only [eval_const, e14]; simp [go_sem]
  intro w23 B23
  refine EndAll.one rfl fun vv hv => ?_
  obtain rfl : vv = (.pointer (some ⟨w.heap.size, 0, none⟩)) := hv
  refine EndAll.one rfl fun vv hv => ?_
  obtain rfl : vv = (.agg #[.bool s21, .slice A21 n21 c21]) := hv
  refine EndAll.one rfl fun vv hv => ?_
  obtain rfl : vv = (.int .i64 (b1 : Int)) := hv
  refine EndAll.one rfl fun vv hv => ?_
  obtain rfl : vv = (.pointer (some ⟨w.heap.size, 2, none⟩)) := hv
  refine EndAll.one rfl fun vv hv => ?_
  obtain rfl : vv = (.agg #[.bool t21, .slice D21 m21 d21]) := hv
  refine EndAll.one rfl fun vv hv => ?_
  obtain rfl : vv = (.int .i64 (b2 : Int)) := hv
  refine EndAll.one rfl fun vv hv => ?_
  obtain rfl : vv = (.int .i64 b) := hv
  refine EndAll.one rfl fun vv hv => ?_
  obtain rfl : vv = (.int .i64 b) := hv
  refine EndAll.nil (l := []) rfl ?_
  simp only [Act.put, List.setIfInBounds_toArray, List.set_cons_zero, List.set_cons_succ]
  replace H_a := Lib.hid (H_a.out.below B23)
  replace pq := pq.below B23
  replace hW := hW.trans (B23.mono hW.size)
  clear B23
  go_wp2_with fail
  go_ret
  exact ⟨rfl, hW⟩
end Go.Proofs.YtfpncmhaoadfdaaGreat
