/-
  FpA
-/
import Derived.Test.YtddbhhedjipjkaaGreatDoorPr23
import Derived.Test.YtddbhhedjipjkaaGreatDoorPr11
import Derived.Test.YtddbhhedjipjkaaGreatDoorPr06

namespace Go.Proofs.YtddbhhedjipjkaaGreatDoor
open Go.RowKit
set_option linter.unusedVariables false
set_option linter.unusedSimpArgs false
structure Lv (w : World) (A : Option Addr) (n c : Nat) (xs : List Nat) : Prop where
  rd : Rd w .u64 A xs
  len : xs.length = n
  le : n ≤ c
  cap : c ≤ 9223372036854775807
  low : Low 18446744073709551616 xs
theorem Lv.below {w w' : World} {A : Option Addr} {n c : Nat} {xs : List Nat} (h : Lv w A n c xs) (hb : Below w.heap.size w w') : Lv w' A n c xs := ⟨h.rd.below hb, h.len, h.le, h.cap, h.low⟩
theorem Fb.other {w : World} {g a : Nat} {q : Addr} (h : Fb w g a) (hg : g ≠ q.block) (u : Value) : Fb (w.setCell q u) g a := by
  obtain ⟨h1, h2, h3⟩ := h
  refine ⟨(World.cell?_setCell_other w q ⟨g, 0, none⟩ u (fun e => hg (by rw [e]))).trans h1, ?_, by simpa using h3⟩
  rw [← h2]; unfold World.frozen?; simp only; rw [Below.heap_setCell w q u g hg]
theorem Lv.nil (w : World) : Lv w none 0 0 [] := ⟨Rd.nil _ _ _, rfl, by omega, by omega, Low.nil _⟩
theorem Lv.at {w : World} {A : Option Addr} {n c k : Nat} {xs : List Nat} (h : Lv w A n c xs) (hk : k < n) : ∃ ad, A = some ad ∧ ad.block < w.heap.size ∧ w.cell? (ad.add k) = some (.int .u64 (nth xs k)) := h.rd.at (by rw [h.len]; exact hk)
theorem Lv.lt {w : World} {A : Option Addr} {n c : Nat} {xs : List Nat} (h : Lv w A n c xs) (k : Nat) : nth xs k < 18446744073709551616 := h.low.any (by omega) k
theorem Lv.blk {w : World} {g c : Nat} {t : TypeId} {xs : List Nat} (h : Blk w g t .u64 xs) (hc : xs.length ≤ c) (hm : c ≤ 9223372036854775807) (hl : Low 18446744073709551616 xs) : Lv w (some ⟨g, 0, none⟩) xs.length c xs := ⟨h.rd0, rfl, hc, hm, hl⟩
def Wr (w : World) (g : Nat) (L : List Nat) : Prop := ∃ cur : Array Value, w.heap[g]? = some (.cells cur 52 (0, 0)) ∧ ∀ j, j < L.length → cur[j]? = some (.int .u64 (nth L j : Int))
theorem Wr.lt {w : World} {g : Nat} {L : List Nat} (h : Wr w g L) : g < w.heap.size := by
  obtain ⟨cur, h1, h2⟩ := h; exact (Array.getElem?_eq_some_iff.1 h1).1
theorem Wr.below {w w' : World} {g : Nat} {L : List Nat} (h : Wr w g L) (hb : Below w.heap.size w w') : Wr w' g L := by
  have hl := h.lt
  obtain ⟨cur, h1, h2⟩ := h; exact ⟨cur, (hb.block g hl).trans h1, h2⟩
theorem Wr.grown {w w' : World} {g q : Nat} {L : List Nat} (h : Wr w g L) (hg : w.grownBy w' (some q)) (hn : g ≠ q) : Wr w' g L := by
  have hl := h.lt
  obtain ⟨cur, h1, h2⟩ := h; exact ⟨cur, (hg.block g hl (fun e => hn (Option.some.inj e))).trans h1, h2⟩
theorem Wr.other {w : World} {g : Nat} {q : Addr} {L : List Nat} (h : Wr w g L) (hn : g ≠ q.block) (u : Value) : Wr (w.setCell q u) g L := by
  obtain ⟨cur, h1, h2⟩ := h; exact ⟨cur, (Below.heap_setCell w q u g hn).trans h1, h2⟩
theorem Wr.cell {w : World} {g j : Nat} {L : List Nat} (h : Wr w g L) (hj : j < L.length) : w.cell? ⟨g, j, none⟩ = some (.int .u64 (nth L j : Int)) := by
  obtain ⟨cur, h1, h2⟩ := h
  rw [cell_of_row w g j _ _ (0, 0) h1]; exact h2 j hj
theorem Wr.free {w : World} {g : Nat} {L : List Nat} (h : Wr w g L) (j : Nat) : w.frozen? ⟨g, j, none⟩ = false := by
  obtain ⟨cur, h1, h2⟩ := h
  exact frozen_of_row w g j _ _ h1
theorem Wr.rd {w : World} {g : Nat} {L : List Nat} (h : Wr w g L) : Rd w .u64 (some ⟨g, 0, none⟩) L := fun hn =>
  ⟨_, rfl, h.lt, fun j hj => by rw [add_lit0]; exact h.cell hj⟩
theorem Wr.of_blk {w : World} {g : Nat} {L : List Nat} (h : Blk w g 52 .u64 L) : Wr w g L := ⟨_, h, fun j hj => by
  rw [List.getElem?_toArray]; exact vs_get hj⟩
theorem Wr.set {w : World} {g : Nat} {L : List Nat} (h : Wr w g L) (j n : Nat) : Wr (w.setCell ⟨g, j, none⟩ (.int .u64 (n : Int))) g (L.set j n) := by
  obtain ⟨cur, h1, h2⟩ := h
  refine ⟨cur.setIfInBounds j (.int .u64 (n : Int)), ?_, fun i hi => ?_⟩
  · rw [heap_setCell_same w g j _ _ _ h1]
  · rw [List.length_set] at hi
    by_cases e : j = i
    · subst e
      have := h2 j hi
      rw [nth_set_eq hi]
      simp [Array.getElem?_setIfInBounds, (Array.getElem?_eq_some_iff.1 this).1]
    · rw [nth_set_ne e, Array.getElem?_setIfInBounds_ne e]; exact h2 i hi
theorem Wr.own {w : World} {base : Nat} {A : Option Addr} {c : Nat} {L : List Nat} (h : w.ownsRow base 52 1 (.slice A L.length c) L.length (vs .u64 L)) : (A = none ∧ L = []) ∨ ∃ g, A = some ⟨g, 0, none⟩ ∧ base ≤ g ∧ Wr w g L := by
  obtain ⟨h0, ⟨e, hn⟩ | ⟨g, cap, cur, e, hg, hh, hc, hm, hcs, ht⟩⟩ := h
  · injection e with e1; exact .inl ⟨e1, List.length_eq_zero_iff.1 hn⟩
  · injection e with e1
    refine .inr ⟨g, e1, hg, cur, hh, fun j hj => ?_⟩
    have h3 := vs_get (K := .u64) hj
    rw [← ht, List.getElem?_take_of_lt (by omega)] at h3
    simpa using h3
theorem Lv.wr {w : World} {g c : Nat} {xs : List Nat} (h : Wr w g xs) (hc : xs.length ≤ c) (hm : c ≤ 9223372036854775807) (hl : Low 18446744073709551616 xs) : Lv w (some ⟨g, 0, none⟩) xs.length c xs := ⟨h.rd, rfl, hc, hm, hl⟩
theorem Low.word {p : Nat} {xs : List Nat} (h : Low p xs) (hp : p < 2147483648) : Low 18446744073709551616 xs := fun k hk => by have := h k hk; omega
def LPost (zs : List Nat) (w : World) (e : Ending) (w' : World) : Prop := ∃ A n c, e = .returned (.slice A n c) ∧ Lv w' A n c zs ∧ Below w.heap.size w w'
def LLPost (zs ys : List Nat) (w : World) (e : Ending) (w' : World) : Prop := ∃ A n c D m d, e = .returned (.tuple #[.slice A n c, .slice D m d]) ∧ (Lv w' A n c zs ∧ Lv w' D m d ys) ∧ Below w.heap.size w w'
def IsP (zs : List Nat) : FVal := fun v w => ∃ A n c, v = .slice A n c ∧ Lv w A n c zs
def IsPP (zs ys : List Nat) : FVal := fun v w => ∃ A n c D m d, v = .tuple #[.slice A n c, .slice D m d] ∧ Lv w A n c zs ∧ Lv w D m d ys
theorem stay_p (zs : List Nat) : Stays (IsP zs) := fun v w w' ⟨A, n, c, e, h⟩ hb => ⟨A, n, c, e, h.below hb⟩
theorem stay_pp (zs ys : List Nat) : Stays (IsPP zs ys) := fun v w w' ⟨A, n, c, D, m, d, e, h, k⟩ hb => ⟨A, n, c, D, m, d, e, h.below hb, k.below hb⟩
theorem run_ixp {w : World} {ad : Addr} {n c k : Nat} (h : k < n) : (Instr.indexAt 56 (.slice (some ad) n c) (.int .i64 (k : Int))).run Tryz.prog w = .ok (.pointer (some (ad.add k))) w := by
  simp [go_sem, Tryz.underlying56]
  omega
theorem run_ldw {w : World} {q : Addr} {x : Nat} (h : w.cell? q = some (.int .u64 (x : Int))) : (Instr.loadAt 52 (.pointer (some q))).run Tryz.prog w = .ok (.int .u64 (x : Int)) w := by
  simp [go_sem, h]
def DPost (r : Int) (w : World) (e : Ending) (w' : World) : Prop := e = .returned (.int .i64 r) ∧ Below w.heap.size w w'
set_option maxRecDepth 100000 in
set_option maxHeartbeats 4000000 in
theorem deg_v {ab p n c : Nat} {A : Option Addr} {xs : List Nat} {w : World} (hp : ab + 2 = p) (h : p < 2147483648) (hx : Lv w A n c xs) :
    Calls Tryz.prog 97 #[.agg #[.int .u64 (ab : Int)], .slice A n c] w (DPost (((nrm p xs).length : Int) - 1) w) := by
  have hW := Below.refl w.heap.size w
  obtain ⟨wp0, hwp0⟩ : ∃ xw, xw = w.alloc (.cells #[.int .u64 (ab : Int)] 54) := ⟨_, rfl⟩
  have zp0 : Below w.heap.size w wp0 := by rw [hwp0]; exact zba _ _
  have sp0 : wp0.heap.size = w.heap.size + 1 := by rw [hwp0, World.size_alloc]
  have If : Fb wp0 w.heap.size ab := by rw [hwp0]; exact Fb.new _ _ _
  replace hx := hx.below zp0
  replace hW := hW.trans (zp0.mono hW.size)
  have H_f := Lib.hid If
  clear If zp0
  have HW : Hid ((w.alloc (.cells #[.int .u64 (ab : Int)] 54)) = wp0) := Lib.hid (by rw [hwp0])
  have lw_f : w.heap.size ≤ w.heap.size := by omega
  clear hwp0 sp0
  have h2 : 2 ≤ p := by omega
  have HP := Lib.hid hp
  have HN := Lib.hid hx.len
  have hnc := hx.le
  have hcm := hx.cap
  clear hp
  go_enter Tryz.func97, Tryz.ntmps97
  obtain ⟨f1, f2, f3⟩ := H_f.out
  go_wp2_with fail
  rw [HW.out]
  clear f1 f2 f3
  have HB : Hid (Fb wp0 w.heap.size ab ∧ Lv wp0 A n c xs ∧ Below w.heap.size w wp0) := Lib.hid ⟨H_f.out, hx, hW⟩
  clear hW H_f HW hx
  go_loopw [5] (fun s5 wr => ∃ k : Nat, s5 = .int .i64 ((k : Int) - 1) ∧ k ≤ n ∧ Hid (∀ j, k ≤ j → nth xs j % p = 0) ∧ Hid (Fb wr w.heap.size ab ∧ Lv wr A n c xs ∧ Below w.heap.size w wr)) (fun s5 _ => (intOf s5 + 1).toNat)
  case atStart => exact ⟨n, rfl, Nat.le_refl _, Lib.hid (fun j hj => by rw [nth_ge (by rw [HN.out]; exact hj), Nat.zero_mod]), HB⟩
  case round =>
    clear HB
    obtain ⟨k, rfl, hk, HZ, HB⟩ := hrel
    obtain ⟨I1, hx, hW⟩ := HB.out
    have H_f := Lib.hid I1
    clear I1 HB
    rcases Nat.eq_zero_or_pos k with rfl | h0
    · have e1 : (nrm p xs).length = 0 := Nat.le_zero.1 (nrm_short HZ.out)
      have E1 : Hid ((((nrm p xs).length : Int) - 1) = -1) := Lib.hid (by omega)
      clear e1 HZ
      obtain ⟨f1, f2, f3⟩ := H_f.out
      go_wp2_with fail
      clear f1 f2 f3
      refine region8 [] 11 [IsK (.int .i64 (((0 : Nat) : Int) - 1)), IsK (.bool false), IsK (.bool false), IsK undef, IsK undef, IsK undef, IsK undef, IsK undef, IsK undef, IsK undef, IsK (.bool false)] (fun _ _ d _ _ h => by cases d <;> exact h) (by kernel_rfl) (by kernel_rfl) (by kernel_rfl) ⟨stay_k _, stay_k _, stay_k _, stay_k _, stay_k _, stay_k _, stay_k _, stay_k _, stay_k _, stay_k _, stay_k _, trivial⟩ ?_ ?_
      · refine HopAll.cons rfl ?_ (HopAll.cons rfl ?_ (HopAll.cons rfl ?_ (HopAll.cons rfl ?_ (HopAll.cons rfl ?_ (HopAll.cons rfl ?_ (HopAll.cons rfl ?_ (HopAll.cons rfl ?_ (HopAll.cons rfl ?_ (HopAll.cons rfl ?_ (HopAll.cons rfl ?_ HopAll.nil))))))))))
        · intro a w1 hB ho hp K hK
          have e5 : a.eval (.tmp 5) = (.int .i64 (((0 : Nat) : Int) - 1)) := ho 5 (by kernel_rfl)
          refine hop_val (wanted_none rfl) ?_ (hK (.int .i64 (((0 : Nat) : Int) - 1)) _ rfl (Below.refl _ _))
          unfold execOp; simp only [eval_const, e5]; simp [go_sem]
        · intro a w1 hB ho hp K hK
          have e9 : a.eval (.tmp 9) = (.int .i64 (((0 : Nat) : Int) - 1)) := hp 0 9 (by kernel_rfl)
          refine hop_val (wanted_none rfl) ?_ (hK (.bool false) _ rfl (Below.refl _ _))
          unfold execOp; simp only [eval_const, e9]; simp [go_sem]
        · intro a w1 hB ho hp K hK
          have e10 : a.eval (.tmp 10) = (.bool false) := hp 1 10 (by kernel_rfl)
          refine hop_val (wanted_none rfl) ?_ (hK (.bool false) _ rfl (Below.refl _ _))
          unfold execOp; simp only [eval_const, e10]; simp [go_sem]
        · intro a w1 hB ho hp K hK
          exact hop_not (unwanted_at rfl (j := 2) (d := 11) (b := true) (by kernel_rfl) (hp 2 11 (by kernel_rfl)) rfl) (hK _ _ rfl (Below.refl _ _))
        · intro a w1 hB ho hp K hK
          exact hop_not (unwanted_at rfl (j := 2) (d := 11) (b := true) (by kernel_rfl) (hp 2 11 (by kernel_rfl)) rfl) (hK _ _ rfl (Below.refl _ _))
        · intro a w1 hB ho hp K hK
          exact hop_not (unwanted_at rfl (j := 2) (d := 11) (b := true) (by kernel_rfl) (hp 2 11 (by kernel_rfl)) rfl) (hK _ _ rfl (Below.refl _ _))
        · intro a w1 hB ho hp K hK
          exact hop_not (unwanted_at rfl (j := 2) (d := 11) (b := true) (by kernel_rfl) (hp 2 11 (by kernel_rfl)) rfl) (hK _ _ rfl (Below.refl _ _))
        · intro a w1 hB ho hp K hK
          exact hop_not (unwanted_at rfl (j := 2) (d := 11) (b := true) (by kernel_rfl) (hp 2 11 (by kernel_rfl)) rfl) (hK _ _ rfl (Below.refl _ _))
        · intro a w1 hB ho hp K hK
          exact hop_not (unwanted_at rfl (j := 2) (d := 11) (b := true) (by kernel_rfl) (hp 2 11 (by kernel_rfl)) rfl) (hK _ _ rfl (Below.refl _ _))
        · intro a w1 hB ho hp K hK
          exact hop_not (unwanted_at rfl (j := 2) (d := 11) (b := true) (by kernel_rfl) (hp 2 11 (by kernel_rfl)) rfl) (hK _ _ rfl (Below.refl _ _))
        · intro a w1 hB ho hp K hK
          have e11 : a.eval (.tmp 11) = (.bool false) := hp 2 11 (by kernel_rfl)
          have e18 : a.eval (.tmp 18) = undef := hp 9 18 (by kernel_rfl)
          refine hop_val (wanted_none rfl) ?_ (hK (.bool false) _ rfl (Below.refl _ _))
          unfold execOp; simp only [eval_const, e11, e18]; simp [go_sem]
      intro w21 B21
      refine EndAll.one rfl fun vv hv => ?_
      obtain rfl : vv = (.int .i64 (((0 : Nat) : Int) - 1)) := hv
      refine EndAll.one rfl fun vv hv => ?_
      obtain rfl : vv = (.bool false) := hv
      refine EndAll.one rfl fun vv hv => ?_
      obtain rfl : vv = (.bool false) := hv
      refine EndAll.one rfl fun vv hv => ?_
      obtain rfl : vv = undef := hv
      refine EndAll.one rfl fun vv hv => ?_
      obtain rfl : vv = undef := hv
      refine EndAll.one rfl fun vv hv => ?_
      obtain rfl : vv = undef := hv
      refine EndAll.one rfl fun vv hv => ?_
      obtain rfl : vv = undef := hv
      refine EndAll.one rfl fun vv hv => ?_
      obtain rfl : vv = undef := hv
      refine EndAll.one rfl fun vv hv => ?_
      obtain rfl : vv = undef := hv
      refine EndAll.one rfl fun vv hv => ?_
      obtain rfl : vv = undef := hv
      refine EndAll.one rfl fun vv hv => ?_
      obtain rfl : vv = (.bool false) := hv
      refine EndAll.nil (l := []) rfl ?_
      simp only [Act.put, List.setIfInBounds_toArray, List.set_cons_zero, List.set_cons_succ]
      replace H_f := Lib.hid (H_f.out.below B21)
      replace hx := hx.below B21
      replace hW := hW.trans (B21.mono hW.size)
      clear B21
      obtain ⟨f1, f2, f3⟩ := H_f.out
      go_wp2_with fail
      clear f1 f2 f3
      exact bodyPost_ret (v := (.int .i64 (-1))) (by simp [results, Tryz.results97, go_sem]) rfl ⟨by rw [E1.out], hW⟩
    · obtain ⟨k, rfl⟩ : ∃ q, k = q + 1 := ⟨k - 1, by omega⟩
      obtain ⟨ad, rfl, hblk, hcell⟩ := hx.at (k := k) (by omega)
      obtain ⟨X, hX⟩ : ∃ X, nth xs k % p = X := ⟨_, rfl⟩
      have HX := Lib.hid hX
      have e5 : (((k + 1 : Nat) : Int) - 1) = (k : Int) := by omega
      rw [e5]
      clear hX e5 h0 hblk hcell
      rcases Nat.eq_zero_or_pos X with rfl | hX0
      · skip
        obtain ⟨f1, f2, f3⟩ := H_f.out
        go_wp2_with fail
        clear f1 f2 f3
        refine region8 [] 11 [IsK (.int .i64 (k : Int)), IsK (.bool true), IsK (.bool true), IsK (.agg #[.int .u64 (ab : Int)]), IsK (.slice (some ad) n c), IsK (.int .i64 (k : Int)), IsK (.pointer (some (ad.add k))), IsK (.int .u64 (nth xs k : Int)), IsK (.int .u64 ((0 : Nat) : Int)), IsK (.bool true), IsK (.bool true)] (fun _ _ d _ _ h => by cases d <;> exact h) (by kernel_rfl) (by kernel_rfl) (by kernel_rfl) ⟨stay_k _, stay_k _, stay_k _, stay_k _, stay_k _, stay_k _, stay_k _, stay_k _, stay_k _, stay_k _, stay_k _, trivial⟩ ?_ ?_
        · refine HopAll.cons rfl ?_ (HopAll.cons rfl ?_ (HopAll.cons rfl ?_ (HopAll.cons rfl ?_ (HopAll.cons rfl ?_ (HopAll.cons rfl ?_ (HopAll.cons rfl ?_ (HopAll.cons rfl ?_ (HopAll.cons rfl ?_ (HopAll.cons rfl ?_ (HopAll.cons rfl ?_ HopAll.nil))))))))))
          · intro a w1 hB ho hp K hK
            have e5 : a.eval (.tmp 5) = (.int .i64 (k : Int)) := ho 5 (by kernel_rfl)
            refine hop_val (wanted_none rfl) ?_ (hK (.int .i64 (k : Int)) _ rfl (Below.refl _ _))
            unfold execOp; simp only [eval_const, e5]; simp [go_sem]
          · intro a w1 hB ho hp K hK
            have e9 : a.eval (.tmp 9) = (.int .i64 (k : Int)) := hp 0 9 (by kernel_rfl)
            refine hop_val (wanted_none rfl) ?_ (hK (.bool true) _ rfl (Below.refl _ _))
            unfold execOp; simp only [eval_const, e9]; simp [go_sem]
          · intro a w1 hB ho hp K hK
            have e10 : a.eval (.tmp 10) = (.bool true) := hp 1 10 (by kernel_rfl)
            refine hop_val (wanted_none rfl) ?_ (hK (.bool true) _ rfl (Below.refl _ _))
            unfold execOp; simp only [eval_const, e10]; simp [go_sem]
          · intro a w1 hB ho hp K hK
            have e2 : a.eval (.tmp 2) = (.pointer (some ⟨w.heap.size, 0, none⟩)) := ho 2 (by kernel_rfl)
            obtain ⟨u1, u2, u3⟩ := H_f.out.below hB
            exact hop_load (wanted_at rfl (j := 2) (d := 11) (b := true) (by kernel_rfl) (hp 2 11 (by kernel_rfl))) rfl e2 (run_ldf u1) (hK _ _ rfl (Below.refl _ _))
          · intro a w1 hB ho hp K hK
            have e1 : a.eval (.tmp 1) = (.slice (some ad) n c) := ho 1 (by kernel_rfl)
            refine hop_val (wanted_at rfl (j := 2) (d := 11) (b := true) (by kernel_rfl) (hp 2 11 (by kernel_rfl))) ?_ (hK (.slice (some ad) n c) _ rfl (Below.refl _ _))
            unfold execOp; simp only [eval_const, e1]; simp [go_sem]
          · intro a w1 hB ho hp K hK
            have e5 : a.eval (.tmp 5) = (.int .i64 (k : Int)) := ho 5 (by kernel_rfl)
            refine hop_val (wanted_at rfl (j := 2) (d := 11) (b := true) (by kernel_rfl) (hp 2 11 (by kernel_rfl))) ?_ (hK (.int .i64 (k : Int)) _ rfl (Below.refl _ _))
            unfold execOp; simp only [eval_const, e5]; simp [go_sem]
          · intro a w1 hB ho hp K hK
            have e13 : a.eval (.tmp 13) = (.slice (some ad) n c) := hp 4 13 (by kernel_rfl)
            have e14 : a.eval (.tmp 14) = (.int .i64 (k : Int)) := hp 5 14 (by kernel_rfl)
            refine hop_val (wanted_at rfl (j := 2) (d := 11) (b := true) (by kernel_rfl) (hp 2 11 (by kernel_rfl))) ?_ (hK (.pointer (some (ad.add k))) _ rfl (Below.refl _ _))
            unfold execOp; simp only [eval_const, Option.map_some, Option.map_none, e13, e14]; simp [run_ixp (show k < n by omega)]
          · intro a w1 hB ho hp K hK
            have e15 : a.eval (.tmp 15) = (.pointer (some (ad.add k))) := hp 6 15 (by kernel_rfl)
            exact hop_load (wanted_at rfl (j := 2) (d := 11) (b := true) (by kernel_rfl) (hp 2 11 (by kernel_rfl))) rfl e15 (run_ldw ((hx.below hB).rd.cell rfl (by rw [HN.out]; omega))) (hK _ _ rfl (Below.refl _ _))
          · intro a w1 hB ho hp K hK
            have e12 : a.eval (.tmp 12) = (.agg #[.int .u64 (ab : Int)]) := hp 3 12 (by kernel_rfl)
            have e16 : a.eval (.tmp 16) = (.int .u64 (nth xs k : Int)) := hp 7 16 (by kernel_rfl)
            refine hop_call (wanted_at rfl (j := 2) (d := 11) (b := true) (by kernel_rfl) (hp 2 11 (by kernel_rfl))) rfl (args := #[(.agg #[.int .u64 (ab : Int)]), (.int .u64 (nth xs k : Int))]) (by simp only [List.map_toArray, List.map_cons, List.map_nil, eval_const, e12, e16]) (ent7 (by kernel_rfl) _ _) (fnorm_v HP.out h (hx.lt k) HX.out _) ?_
            rintro e w2 ⟨rfl, B⟩
            exact ⟨_, rfl, hK _ _ rfl B⟩
          · intro a w1 hB ho hp K hK
            have e17 : a.eval (.tmp 17) = (.int .u64 ((0 : Nat) : Int)) := hp 8 17 (by kernel_rfl)
            refine hop_val (wanted_at rfl (j := 2) (d := 11) (b := true) (by kernel_rfl) (hp 2 11 (by kernel_rfl))) ?_ (hK (.bool true) _ rfl (Below.refl _ _))
            unfold execOp; simp only [eval_const, e17]; simp [go_sem]
          · intro a w1 hB ho hp K hK
            have e11 : a.eval (.tmp 11) = (.bool true) := hp 2 11 (by kernel_rfl)
            have e18 : a.eval (.tmp 18) = (.bool true) := hp 9 18 (by kernel_rfl)
            refine hop_val (wanted_none rfl) ?_ (hK (.bool true) _ rfl (Below.refl _ _))
            unfold execOp; simp only [eval_const, e11, e18]; simp [go_sem]
        intro w21 B21
        refine EndAll.one rfl fun vv hv => ?_
        obtain rfl : vv = (.int .i64 (k : Int)) := hv
        refine EndAll.one rfl fun vv hv => ?_
        obtain rfl : vv = (.bool true) := hv
        refine EndAll.one rfl fun vv hv => ?_
        obtain rfl : vv = (.bool true) := hv
        refine EndAll.one rfl fun vv hv => ?_
        obtain rfl : vv = (.agg #[.int .u64 (ab : Int)]) := hv
        refine EndAll.one rfl fun vv hv => ?_
        obtain rfl : vv = (.slice (some ad) n c) := hv
        refine EndAll.one rfl fun vv hv => ?_
        obtain rfl : vv = (.int .i64 (k : Int)) := hv
        refine EndAll.one rfl fun vv hv => ?_
        obtain rfl : vv = (.pointer (some (ad.add k))) := hv
        refine EndAll.one rfl fun vv hv => ?_
        obtain rfl : vv = (.int .u64 (nth xs k : Int)) := hv
        refine EndAll.one rfl fun vv hv => ?_
        obtain rfl : vv = (.int .u64 ((0 : Nat) : Int)) := hv
        refine EndAll.one rfl fun vv hv => ?_
        obtain rfl : vv = (.bool true) := hv
        refine EndAll.one rfl fun vv hv => ?_
        obtain rfl : vv = (.bool true) := hv
        refine EndAll.nil (l := []) rfl ?_
        simp only [Act.put, List.setIfInBounds_toArray, List.set_cons_zero, List.set_cons_succ]
        replace H_f := Lib.hid (H_f.out.below B21)
        replace hx := hx.below B21
        replace hW := hW.trans (B21.mono hW.size)
        clear B21
        obtain ⟨f1, f2, f3⟩ := H_f.out
        go_wp2_with fail
        clear f1 f2 f3
        go_round
        case rel => exact ⟨k, by go_num, by omega, Lib.hid (fun j hj => (Nat.eq_or_lt_of_le hj).elim (fun e => e ▸ HX.out) fun hl => HZ.out j hl), Lib.hid ⟨H_f.out, hx, hW⟩⟩
        case measure => first | (simp [intOf]; done) | (simp [intOf]; omega)
      · skip
        obtain ⟨f1, f2, f3⟩ := H_f.out
        go_wp2_with fail
        clear f1 f2 f3
        refine region8 [] 11 [IsK (.int .i64 (k : Int)), IsK (.bool true), IsK (.bool true), IsK (.agg #[.int .u64 (ab : Int)]), IsK (.slice (some ad) n c), IsK (.int .i64 (k : Int)), IsK (.pointer (some (ad.add k))), IsK (.int .u64 (nth xs k : Int)), IsK (.int .u64 (X : Int)), IsK (.bool false), IsK (.bool false)] (fun _ _ d _ _ h => by cases d <;> exact h) (by kernel_rfl) (by kernel_rfl) (by kernel_rfl) ⟨stay_k _, stay_k _, stay_k _, stay_k _, stay_k _, stay_k _, stay_k _, stay_k _, stay_k _, stay_k _, stay_k _, trivial⟩ ?_ ?_
        · refine HopAll.cons rfl ?_ (HopAll.cons rfl ?_ (HopAll.cons rfl ?_ (HopAll.cons rfl ?_ (HopAll.cons rfl ?_ (HopAll.cons rfl ?_ (HopAll.cons rfl ?_ (HopAll.cons rfl ?_ (HopAll.cons rfl ?_ (HopAll.cons rfl ?_ (HopAll.cons rfl ?_ HopAll.nil))))))))))
          · intro a w1 hB ho hp K hK
            have e5 : a.eval (.tmp 5) = (.int .i64 (k : Int)) := ho 5 (by kernel_rfl)
            refine hop_val (wanted_none rfl) ?_ (hK (.int .i64 (k : Int)) _ rfl (Below.refl _ _))
            unfold execOp; simp only [eval_const, e5]; simp [go_sem]
          · intro a w1 hB ho hp K hK
            have e9 : a.eval (.tmp 9) = (.int .i64 (k : Int)) := hp 0 9 (by kernel_rfl)
            refine hop_val (wanted_none rfl) ?_ (hK (.bool true) _ rfl (Below.refl _ _))
            unfold execOp; simp only [eval_const, e9]; simp [go_sem]
          · intro a w1 hB ho hp K hK
            have e10 : a.eval (.tmp 10) = (.bool true) := hp 1 10 (by kernel_rfl)
            refine hop_val (wanted_none rfl) ?_ (hK (.bool true) _ rfl (Below.refl _ _))
            unfold execOp; simp only [eval_const, e10]; simp [go_sem]
          · intro a w1 hB ho hp K hK
            have e2 : a.eval (.tmp 2) = (.pointer (some ⟨w.heap.size, 0, none⟩)) := ho 2 (by kernel_rfl)
            obtain ⟨u1, u2, u3⟩ := H_f.out.below hB
            exact hop_load (wanted_at rfl (j := 2) (d := 11) (b := true) (by kernel_rfl) (hp 2 11 (by kernel_rfl))) rfl e2 (run_ldf u1) (hK _ _ rfl (Below.refl _ _))
          · intro a w1 hB ho hp K hK
            have e1 : a.eval (.tmp 1) = (.slice (some ad) n c) := ho 1 (by kernel_rfl)
            refine hop_val (wanted_at rfl (j := 2) (d := 11) (b := true) (by kernel_rfl) (hp 2 11 (by kernel_rfl))) ?_ (hK (.slice (some ad) n c) _ rfl (Below.refl _ _))
            unfold execOp; simp only [eval_const, e1]; simp [go_sem]
          · intro a w1 hB ho hp K hK
            have e5 : a.eval (.tmp 5) = (.int .i64 (k : Int)) := ho 5 (by kernel_rfl)
            refine hop_val (wanted_at rfl (j := 2) (d := 11) (b := true) (by kernel_rfl) (hp 2 11 (by kernel_rfl))) ?_ (hK (.int .i64 (k : Int)) _ rfl (Below.refl _ _))
            unfold execOp; simp only [eval_const, e5]; simp [go_sem]
          · intro a w1 hB ho hp K hK
            have e13 : a.eval (.tmp 13) = (.slice (some ad) n c) := hp 4 13 (by kernel_rfl)
            have e14 : a.eval (.tmp 14) = (.int .i64 (k : Int)) := hp 5 14 (by kernel_rfl)
            refine hop_val (wanted_at rfl (j := 2) (d := 11) (b := true) (by kernel_rfl) (hp 2 11 (by kernel_rfl))) ?_ (hK (.pointer (some (ad.add k))) _ rfl (Below.refl _ _))
            unfold execOp; simp only [eval_const, Option.map_some, Option.map_none, e13, e14]; simp [run_ixp (show k < n by omega)]
          · intro a w1 hB ho hp K hK
            have e15 : a.eval (.tmp 15) = (.pointer (some (ad.add k))) := hp 6 15 (by kernel_rfl)
            exact hop_load (wanted_at rfl (j := 2) (d := 11) (b := true) (by kernel_rfl) (hp 2 11 (by kernel_rfl))) rfl e15 (run_ldw ((hx.below hB).rd.cell rfl (by rw [HN.out]; omega))) (hK _ _ rfl (Below.refl _ _))
          · intro a w1 hB ho hp K hK
            have e12 : a.eval (.tmp 12) = (.agg #[.int .u64 (ab : Int)]) := hp 3 12 (by kernel_rfl)
            have e16 : a.eval (.tmp 16) = (.int .u64 (nth xs k : Int)) := hp 7 16 (by kernel_rfl)
            refine hop_call (wanted_at rfl (j := 2) (d := 11) (b := true) (by kernel_rfl) (hp 2 11 (by kernel_rfl))) rfl (args := #[(.agg #[.int .u64 (ab : Int)]), (.int .u64 (nth xs k : Int))]) (by simp only [List.map_toArray, List.map_cons, List.map_nil, eval_const, e12, e16]) (ent7 (by kernel_rfl) _ _) (fnorm_v HP.out h (hx.lt k) HX.out _) ?_
            rintro e w2 ⟨rfl, B⟩
            exact ⟨_, rfl, hK _ _ rfl B⟩
          · intro a w1 hB ho hp K hK
            have e17 : a.eval (.tmp 17) = (.int .u64 (X : Int)) := hp 8 17 (by kernel_rfl)
            refine hop_val (wanted_at rfl (j := 2) (d := 11) (b := true) (by kernel_rfl) (hp 2 11 (by kernel_rfl))) ?_ (hK (.bool false) _ rfl (Below.refl _ _))
            unfold execOp; simp only [eval_const, e17]; simp [go_sem]; omega
          · intro a w1 hB ho hp K hK
            have e11 : a.eval (.tmp 11) = (.bool true) := hp 2 11 (by kernel_rfl)
            have e18 : a.eval (.tmp 18) = (.bool false) := hp 9 18 (by kernel_rfl)
            refine hop_val (wanted_none rfl) ?_ (hK (.bool false) _ rfl (Below.refl _ _))
            unfold execOp; simp only [eval_const, e11, e18]; simp [go_sem]
        intro w21 B21
        refine EndAll.one rfl fun vv hv => ?_
        obtain rfl : vv = (.int .i64 (k : Int)) := hv
        refine EndAll.one rfl fun vv hv => ?_
        obtain rfl : vv = (.bool true) := hv
        refine EndAll.one rfl fun vv hv => ?_
        obtain rfl : vv = (.bool true) := hv
        refine EndAll.one rfl fun vv hv => ?_
        obtain rfl : vv = (.agg #[.int .u64 (ab : Int)]) := hv
        refine EndAll.one rfl fun vv hv => ?_
        obtain rfl : vv = (.slice (some ad) n c) := hv
        refine EndAll.one rfl fun vv hv => ?_
        obtain rfl : vv = (.int .i64 (k : Int)) := hv
        refine EndAll.one rfl fun vv hv => ?_
        obtain rfl : vv = (.pointer (some (ad.add k))) := hv
        refine EndAll.one rfl fun vv hv => ?_
        obtain rfl : vv = (.int .u64 (nth xs k : Int)) := hv
        refine EndAll.one rfl fun vv hv => ?_
        obtain rfl : vv = (.int .u64 (X : Int)) := hv
        refine EndAll.one rfl fun vv hv => ?_
        obtain rfl : vv = (.bool false) := hv
        refine EndAll.one rfl fun vv hv => ?_
        obtain rfl : vv = (.bool false) := hv
        refine EndAll.nil (l := []) rfl ?_
        simp only [Act.put, List.setIfInBounds_toArray, List.set_cons_zero, List.set_cons_succ]
        replace H_f := Lib.hid (H_f.out.below B21)
        replace hx := hx.below B21
        replace hW := hW.trans (B21.mono hW.size)
        clear B21
        have E1 : Hid ((((nrm p xs).length : Int) - 1) = (k : Int)) := Lib.hid (by have := nrm_full HZ.out (.inr (by rw [Nat.add_sub_cancel, HX.out]; omega)); omega)
        obtain ⟨f1, f2, f3⟩ := H_f.out
        go_wp2_with fail
        clear f1 f2 f3
        exact bodyPost_ret (v := (.int .i64 (k : Int))) (by simp [results, Tryz.results97, go_sem]) rfl ⟨by rw [E1.out], hW⟩
theorem run_ixp0 {w : World} {g n c k : Nat} (h : k < n) : (Instr.indexAt 56 (.slice (some ⟨g, 0, none⟩) n c) (.int .i64 (k : Int))).run Tryz.prog w = .ok (.pointer (some ⟨g, k, none⟩)) w := by
  rw [run_ixp h, add_lit0]
def mdl (p L : Nat) (xs : List Nat) (k : Nat) : List Nat := (xs.map (· % p)).take k ++ List.replicate (L - k) 0
theorem mdl_zero (p L : Nat) (xs : List Nat) : mdl p L xs 0 = List.replicate L 0 := by simp [mdl]
theorem mdl_len {p L k : Nat} {xs : List Nat} (hk : k ≤ L) (hL : k ≤ xs.length) : (mdl p L xs k).length = L := by simp [mdl]; omega
theorem mdl_step {p L k : Nat} {xs : List Nat} (hk : k < L) (hL : k < xs.length) : (mdl p L xs k).set k (nth xs k % p) = mdl p L xs (k + 1) := by
  refine ext_nth (by rw [List.length_set, mdl_len (by omega) (by omega), mdl_len (by omega) (by omega)]) fun j hj => ?_
  have hlen : ((xs.map (· % p)).take k).length = k := by simp; omega
  have hlen2 : ((xs.map (· % p)).take (k + 1)).length = k + 1 := by simp; omega
  by_cases e : j = k
  · subst e
    rw [nth_set_eq (by rw [mdl_len (by omega) (by omega)]; exact hk)]
    unfold mdl
    rw [nth_append_left (by omega), nth_take (by omega), nth_map_mod]
  · rw [nth_set_ne (by omega)]
    unfold mdl
    by_cases h : j < k
    · rw [nth_append_left (by omega), nth_append_left (by omega), nth_take h, nth_take (by omega)]
    · rw [nth_append_right (by omega), nth_append_right (by omega), nth_replicate, nth_replicate]
theorem nth_mdl {p L k j : Nat} {xs : List Nat} (hk : k ≤ xs.length) : nth (mdl p L xs k) j = if j < k then nth xs j % p else 0 := by
  have hlen : ((xs.map (· % p)).take k).length = k := by simp; omega
  unfold mdl
  by_cases h : j < k
  · rw [if_pos h, nth_append_left (by omega), nth_take h, nth_map_mod]
  · rw [if_neg h, nth_append_right (by omega), nth_replicate]
theorem mdl_end (p : Nat) (xs : List Nat) : mdl p (nrm p xs).length xs (nrm p xs).length = nrm p xs := by
  unfold mdl; rw [Nat.sub_self, nrm_length]; simp [nrm]
def Nz (b : Nat) (w : World) (A : Option Addr) : Prop := ∃ g, A = some ⟨g, 0, none⟩ ∧ b ≤ g ∧ g < w.heap.size
theorem Nz.mono {b b' : Nat} {w : World} {A : Option Addr} (h : Nz b' w A) (hb : b ≤ b') : Nz b w A := by
  obtain ⟨g, h1, h2, h3⟩ := h; exact ⟨g, h1, Nat.le_trans hb h2, h3⟩
theorem Nz.below {b : Nat} {w w' : World} {A : Option Addr} (h : Nz b w A) (hb : Below w.heap.size w w') : Nz b w' A := by
  obtain ⟨g, h1, h2, h3⟩ := h; exact ⟨g, h1, h2, Nat.lt_of_lt_of_le h3 hb.size⟩
def LZ (zs : List Nat) (w : World) (e : Ending) (w' : World) : Prop := ∃ A n c, e = .returned (.slice A n c) ∧ (Lv w' A n c zs ∧ Nz w.heap.size w' A) ∧ Below w.heap.size w w'
theorem LZ.post {zs : List Nat} {w w' : World} {e : Ending} (h : LZ zs w e w') : LPost zs w e w' := by
  obtain ⟨A, n, c, h1, h2, h3⟩ := h; exact ⟨A, n, c, h1, h2.1, h3⟩
def IsPz (b : Nat) (zs : List Nat) : FVal := fun v w => ∃ A n c, v = .slice A n c ∧ Lv w A n c zs ∧ Nz b w A
theorem stay_pz (b : Nat) (zs : List Nat) : Stays (IsPz b zs) := fun v w w' ⟨A, n, c, e, h, k⟩ hb => ⟨A, n, c, e, h.below hb, k.below hb⟩
def LLZ (zs ys : List Nat) (w : World) (e : Ending) (w' : World) : Prop := ∃ A n c D m d, e = .returned (.tuple #[.slice A n c, .slice D m d]) ∧ (Lv w' A n c zs ∧ Lv w' D m d ys ∧ Nz w.heap.size w' D) ∧ Below w.heap.size w w'
theorem LLZ.post {zs ys : List Nat} {w w' : World} {e : Ending} (h : LLZ zs ys w e w') : LLPost zs ys w e w' := by
  obtain ⟨A, n, c, D, m, d, h1, h2, h3⟩ := h; exact ⟨A, n, c, D, m, d, h1, ⟨h2.1, h2.2.1⟩, h3⟩
def LNew (zs : List Nat) (w : World) (e : Ending) (w' : World) : Prop := ∃ A n c, e = .returned (.slice A n c) ∧ Lv w' A n c zs ∧ (∀ ad, A = some ad → w.heap.size ≤ ad.block) ∧ Below w.heap.size w w'
theorem LNew.post {zs : List Nat} {w w' : World} {e : Ending} (h : LNew zs w e w') : LPost zs w e w' := by
  obtain ⟨A, n, c, h1, h2, _, h3⟩ := h; exact ⟨A, n, c, h1, h2, h3⟩
theorem LZ.new {zs : List Nat} {w w' : World} {e : Ending} (h : LZ zs w e w') : LNew zs w e w' := by
  obtain ⟨A, n, c, h1, ⟨h2, g, h4, h5, _⟩, h3⟩ := h; exact ⟨A, n, c, h1, h2, fun ad e => by rw [h4] at e; cases e; exact h5, h3⟩
theorem lzed {zs : List Nat} {w w' : World} {g n c : Nat} (h : Lv w' (some ⟨g, 0, none⟩) n c zs) (hg : w.heap.size ≤ g) (hl : g < w'.heap.size) (hb : Below w.heap.size w w') : LZ zs w (.returned (.slice (some ⟨g, 0, none⟩) n c)) w' := ⟨_, n, c, rfl, ⟨h, g, rfl, hg, hl⟩, hb⟩
set_option maxRecDepth 100000 in
set_option maxHeartbeats 4000000 in
theorem norm_z {ab p n c : Nat} {A : Option Addr} {xs : List Nat} {w : World} (hp : ab + 2 = p) (h : p < 2147483648) (hx : Lv w A n c xs) (hn : n ≤ 4398046511104) :
    Calls Tryz.prog 68 #[.agg #[.int .u64 (ab : Int)], .slice A n c] w (LZ (nrm p xs) w) := by
  have HX0 := Lib.hid hx
  have hW := Below.refl w.heap.size w
  obtain ⟨wp0, hwp0⟩ : ∃ xw, xw = w.alloc (.cells #[.int .u64 (ab : Int)] 54) := ⟨_, rfl⟩
  have zp0 : Below w.heap.size w wp0 := by rw [hwp0]; exact zba _ _
  have sp0 : wp0.heap.size = w.heap.size + 1 := by rw [hwp0, World.size_alloc]
  have If : Fb wp0 w.heap.size ab := by rw [hwp0]; exact Fb.new _ _ _
  replace hx := hx.below zp0
  replace hW := hW.trans (zp0.mono hW.size)
  have H_f := Lib.hid If
  clear If zp0
  have HW : Hid ((w.alloc (.cells #[.int .u64 (ab : Int)] 54)) = wp0) := Lib.hid (by rw [hwp0])
  have lw_f : w.heap.size ≤ w.heap.size := by omega
  clear hwp0 sp0
  have h2 : 2 ≤ p := by omega
  have HP := Lib.hid hp
  have HN := Lib.hid hx.len
  obtain ⟨L, hL⟩ : ∃ L, (nrm p xs).length = L := ⟨_, rfl⟩
  have HL := Lib.hid hL
  have hLn : L ≤ n := by have := nrm_le p xs; rw [hx.len] at this; omega
  clear hp hL
  go_enter Tryz.func68, Tryz.ntmps68
  obtain ⟨f1, f2, f3⟩ := H_f.out
  go_wp2_with fail
  rw [HW.out]
  clear f1 f2 f3
  refine (deg_v HP.out h hx).mono ?_
  rintro e w21 ⟨rfl, B21⟩
  replace H_f := Lib.hid (H_f.out.below B21)
  replace hx := hx.below B21
  replace hW := hW.trans (B21.mono hW.size)
  clear B21
  rw [HL.out]
  obtain ⟨f1, f2, f3⟩ := H_f.out
  go_wp2_with (at_make; refine wpList_make_blk _ rfl _ _ 56 rfl 52 .u64 8 Tryz.underlying56 info_u64 _ _ _ _ L rfl rfl (by omega) (by omega) (by omega) (by omega) ?_)
  intro w1 hb1 hw1 hz1
  clear f1 f2 f3
  have hg1 : w.heap.size < w21.heap.size := H_f.out.2.2
  obtain ⟨gB, hgB⟩ : ∃ q, w21.heap.size = q := ⟨_, rfl⟩
  rw [hgB] at hb1 hg1
  have HB : Hid (Fb w1 w.heap.size ab ∧ Below w.heap.size w w1 ∧ Blk w1 gB 52 .u64 (mdl p L xs 0)) := Lib.hid ⟨H_f.out.below hw1, hW.trans (hw1.mono hW.size), by rw [mdl_zero]; exact hb1⟩
  rw [hgB]
  clear hW H_f hx hb1 hw1 hz1 hgB
  go_wp2_with fail
  go_loopw [14] (fun s14 wr => ∃ k : Nat, s14 = .int .i64 (k : Int) ∧ k ≤ L ∧ Hid (Fb wr w.heap.size ab ∧ Below w.heap.size w wr ∧ Blk wr gB 52 .u64 (mdl p L xs k))) (fun s14 _ => L - (intOf s14).toNat)
  case atStart => exact ⟨0, rfl, Nat.zero_le _, HB⟩
  case round =>
    clear HB
    obtain ⟨k, rfl, hk, HB⟩ := hrel
    obtain ⟨I1, hW, hb⟩ := HB.out
    have hx := HX0.out.below hW
    have H_f := Lib.hid I1
    clear I1 HB
    by_cases hlt : k < L
    · obtain ⟨ad, rfl, hblk, hcell⟩ := hx.at (k := k) (by omega)
      have hl := mdl_len (p := p) (xs := xs) (show k ≤ L by omega) (by rw [HN.out]; omega)
      clear hblk hcell
      have hb0 := hb
      obtain ⟨f1, f2, f3⟩ := H_f.out
      go_wp2_with fail
      clear f1 f2 f3
      refine region8 [] 9 [IsK (.slice (some ⟨gB, 0, none⟩) L L), IsK (.int .i64 (k : Int)), IsK (.agg #[.int .u64 (ab : Int)]), IsK (.slice (some ad) n c), IsK (.int .i64 (k : Int)), IsK (.pointer (some (ad.add k))), IsK (.int .u64 (nth xs k : Int)), IsK (.int .u64 ((nth xs k % p : Nat) : Int)), IsK (.pointer (some ⟨gB, k, none⟩))] (fun _ _ d _ _ h => by cases d <;> exact h) (by kernel_rfl) (by kernel_rfl) (by kernel_rfl) ⟨stay_k _, stay_k _, stay_k _, stay_k _, stay_k _, stay_k _, stay_k _, stay_k _, stay_k _, trivial⟩ ?_ ?_
      · refine HopAll.cons rfl ?_ (HopAll.cons rfl ?_ (HopAll.cons rfl ?_ (HopAll.cons rfl ?_ (HopAll.cons rfl ?_ (HopAll.cons rfl ?_ (HopAll.cons rfl ?_ (HopAll.cons rfl ?_ (HopAll.cons rfl ?_ HopAll.nil))))))))
        · intro a w1 hB ho hp K hK
          have e5 : a.eval (.tmp 5) = (.slice (some ⟨gB, 0, none⟩) L L) := ho 5 (by kernel_rfl)
          refine hop_val (wanted_none rfl) ?_ (hK (.slice (some ⟨gB, 0, none⟩) L L) _ rfl (Below.refl _ _))
          unfold execOp; simp only [eval_const, e5]; simp [go_sem]
        · intro a w1 hB ho hp K hK
          have e6 : a.eval (.tmp 6) = (.int .i64 (k : Int)) := ho 6 (by kernel_rfl)
          refine hop_val (wanted_none rfl) ?_ (hK (.int .i64 (k : Int)) _ rfl (Below.refl _ _))
          unfold execOp; simp only [eval_const, e6]; simp [go_sem]
        · intro a w1 hB ho hp K hK
          have e2 : a.eval (.tmp 2) = (.pointer (some ⟨w.heap.size, 0, none⟩)) := ho 2 (by kernel_rfl)
          obtain ⟨u1, u2, u3⟩ := H_f.out.below hB
          exact hop_load (wanted_none rfl) rfl e2 (run_ldf u1) (hK _ _ rfl (Below.refl _ _))
        · intro a w1 hB ho hp K hK
          have e1 : a.eval (.tmp 1) = (.slice (some ad) n c) := ho 1 (by kernel_rfl)
          refine hop_val (wanted_none rfl) ?_ (hK (.slice (some ad) n c) _ rfl (Below.refl _ _))
          unfold execOp; simp only [eval_const, e1]; simp [go_sem]
        · intro a w1 hB ho hp K hK
          have e6 : a.eval (.tmp 6) = (.int .i64 (k : Int)) := ho 6 (by kernel_rfl)
          refine hop_val (wanted_none rfl) ?_ (hK (.int .i64 (k : Int)) _ rfl (Below.refl _ _))
          unfold execOp; simp only [eval_const, e6]; simp [go_sem]
        · intro a w1 hB ho hp K hK
          have e20 : a.eval (.tmp 20) = (.slice (some ad) n c) := hp 3 20 (by kernel_rfl)
          have e21 : a.eval (.tmp 21) = (.int .i64 (k : Int)) := hp 4 21 (by kernel_rfl)
          refine hop_val (wanted_none rfl) ?_ (hK (.pointer (some (ad.add k))) _ rfl (Below.refl _ _))
          unfold execOp; simp only [eval_const, Option.map_some, Option.map_none, e20, e21]; simp [run_ixp (show k < n by omega)]
        · intro a w1 hB ho hp K hK
          have e22 : a.eval (.tmp 22) = (.pointer (some (ad.add k))) := hp 5 22 (by kernel_rfl)
          exact hop_load (wanted_none rfl) rfl e22 (run_ldw ((hx.below hB).rd.cell rfl (by rw [HN.out]; omega))) (hK _ _ rfl (Below.refl _ _))
        · intro a w1 hB ho hp K hK
          have e19 : a.eval (.tmp 19) = (.agg #[.int .u64 (ab : Int)]) := hp 2 19 (by kernel_rfl)
          have e23 : a.eval (.tmp 23) = (.int .u64 (nth xs k : Int)) := hp 6 23 (by kernel_rfl)
          refine hop_call (wanted_none rfl) rfl (args := #[(.agg #[.int .u64 (ab : Int)]), (.int .u64 (nth xs k : Int))]) (by simp only [List.map_toArray, List.map_cons, List.map_nil, eval_const, e19, e23]) (ent7 (by kernel_rfl) _ _) (fnorm_v HP.out h (hx.lt k) rfl _) ?_
          rintro e w2 ⟨rfl, B⟩
          exact ⟨_, rfl, hK _ _ rfl B⟩
        · intro a w1 hB ho hp K hK
          have e17 : a.eval (.tmp 17) = (.slice (some ⟨gB, 0, none⟩) L L) := hp 0 17 (by kernel_rfl)
          have e18 : a.eval (.tmp 18) = (.int .i64 (k : Int)) := hp 1 18 (by kernel_rfl)
          refine hop_val (wanted_none rfl) ?_ (hK (.pointer (some ⟨gB, k, none⟩)) _ rfl (Below.refl _ _))
          unfold execOp; simp only [eval_const, Option.map_some, Option.map_none, e17, e18]; simp [run_ixp0 hlt]
      intro w22 B22
      refine EndAll.one rfl fun vv hv => ?_
      obtain rfl : vv = (.slice (some ⟨gB, 0, none⟩) L L) := hv
      refine EndAll.one rfl fun vv hv => ?_
      obtain rfl : vv = (.int .i64 (k : Int)) := hv
      refine EndAll.one rfl fun vv hv => ?_
      obtain rfl : vv = (.agg #[.int .u64 (ab : Int)]) := hv
      refine EndAll.one rfl fun vv hv => ?_
      obtain rfl : vv = (.slice (some ad) n c) := hv
      refine EndAll.one rfl fun vv hv => ?_
      obtain rfl : vv = (.int .i64 (k : Int)) := hv
      refine EndAll.one rfl fun vv hv => ?_
      obtain rfl : vv = (.pointer (some (ad.add k))) := hv
      refine EndAll.one rfl fun vv hv => ?_
      obtain rfl : vv = (.int .u64 (nth xs k : Int)) := hv
      refine EndAll.one rfl fun vv hv => ?_
      obtain rfl : vv = (.int .u64 ((nth xs k % p : Nat) : Int)) := hv
      refine EndAll.one rfl fun vv hv => ?_
      obtain rfl : vv = (.pointer (some ⟨gB, k, none⟩)) := hv
      refine EndAll.nil (l := [_]) rfl ?_
      simp only [Act.put, List.setIfInBounds_toArray, List.set_cons_zero, List.set_cons_succ]
      replace H_f := Lib.hid (H_f.out.below B22)
      replace hx := hx.below B22
      replace hW := hW.trans (B22.mono hW.size)
      replace hb := hb.below B22 hb.lt
      have c1 := hb.cell (j := k) (by rw [hl]; exact hlt)
      have c2 := hb.free k
      have hl3 := hb.lt
      clear hb0
      go_wp2_with fail
      have hs := hb.set k (nth xs k % p)
      rw [mdl_step hlt (by rw [HN.out]; omega)] at hs
      go_round
      case rel => exact ⟨k + 1, by go_num, by omega, Lib.hid ⟨Fb.other H_f.out (q := ⟨gB, k, none⟩) (by simp only; omega) _, hW.setCell (p := ⟨gB, k, none⟩) (by simpa using Nat.le_of_lt hg1) _, hs⟩⟩
      case measure => first | (simp [intOf]; done) | (simp [intOf]; omega)
    · obtain rfl : k = L := by omega
      have e := mdl_end p xs
      rw [HL.out] at e
      rw [e] at hb
      have hb' := Lib.hid hb
      clear hb e
      have P := Lib.hid (lzed (w := w) (Lv.blk hb'.out (Nat.le_refl _) (by rw [HL.out]; omega) ((nm_nrm (show 0 < p by omega) xs).1.word h)) (by omega) hb'.out.lt hW)
      rw [HL.out] at P
      obtain ⟨f1, f2, f3⟩ := H_f.out
      go_wp2_with fail
      clear f1 f2 f3
      exact bodyPost_ret (v := (.slice (some ⟨gB, 0, none⟩) k k)) (by simp [results, Tryz.results68, go_sem]) rfl P.out
theorem norm_new {ab p n c : Nat} {A : Option Addr} {xs : List Nat} {w : World} (hp : ab + 2 = p) (h : p < 2147483648) (hx : Lv w A n c xs) (hn : n ≤ 4398046511104) :
    Calls Tryz.prog 68 #[.agg #[.int .u64 (ab : Int)], .slice A n c] w (LNew (nrm p xs) w) := (norm_z hp h hx hn).mono fun _ _ h => h.new
theorem pnorm_v {ab p n c : Nat} {A : Option Addr} {xs : List Nat} {w : World} (hp : ab + 2 = p) (h : p < 2147483648) (hx : Lv w A n c xs) (hn : n ≤ 4398046511104) :
    Calls Tryz.prog 68 #[.agg #[.int .u64 (ab : Int)], .slice A n c] w (LPost (nrm p xs) w) := (norm_new hp h hx hn).mono fun _ _ h => h.post
end Go.Proofs.YtddbhhedjipjkaaGreatDoor
