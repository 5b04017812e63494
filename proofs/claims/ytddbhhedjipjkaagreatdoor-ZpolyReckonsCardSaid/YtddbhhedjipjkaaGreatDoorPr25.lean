/-
  FpB
-/
import Derived.Test.YtddbhhedjipjkaaGreatDoorPr24

namespace Go.Proofs.YtddbhhedjipjkaaGreatDoor
open Go.RowKit
set_option linter.unusedVariables false
set_option linter.unusedSimpArgs false
def GRel (p : Nat) (L : List Nat) (o cc : Nat) (ys L' : List Nat) : Prop := L'.length = L.length ∧ (∀ j, nth L' j < 2 * p * p) ∧ ∀ j, nth L' j % p = (nth L j + cc * nth (shl o ys) j) % p
def GPost (p : Nat) (L : List Nat) (g o cc : Nat) (ys : List Nat) (w : World) (e : Ending) (w' : World) : Prop :=
  e = .returned (.tuple #[]) ∧ ∃ L', GRel p L o cc ys L' ∧ Wr w' g L' ∧ w.grownBy w' (some g)
def GMid (p : Nat) (L : List Nat) (o cc : Nat) (ys : List Nat) (k : Nat) (L' : List Nat) : Prop := GRel p L o cc (ys.take k) L' ∧ ∀ j, o + k ≤ j → nth L' j = nth L j
theorem grel_zero {p o : Nat} {L ys : List Nat} (hL : ∀ j, nth L j < 2 * p * p) : GRel p L o 0 ys L := ⟨rfl, hL, fun j => by rw [Nat.zero_mul, Nat.add_zero]⟩
theorem gmid_zero {p o cc : Nat} {L ys : List Nat} (hL : ∀ j, nth L j < 2 * p * p) : GMid p L o cc ys 0 L :=
  ⟨⟨rfl, hL, fun j => by rw [List.take_zero, nth_shl]; split <;> simp [nth_nil]⟩, fun j _ => rfl⟩
theorem gmid_step {p o cc k v : Nat} {L ys L' : List Nat} (h : GMid p L o cc ys k L') (hk : k < ys.length) (ho : o + k < L.length) (hv : v < 2 * p * p) (e : v % p = (nth L (o + k) + cc * nth ys k) % p) : GMid p L o cc ys (k + 1) (L'.set (o + k) v) := by
  obtain ⟨⟨h1, h2, h3⟩, h4⟩ := h
  refine ⟨⟨by rw [List.length_set, h1], fun j => ?_, fun j => ?_⟩, fun j hj => by rw [nth_set_ne (by omega)]; exact h4 j (by omega)⟩
  · by_cases ej : j = o + k
    · subst ej; rw [nth_set_eq (by omega)]; exact hv
    · rw [nth_set_ne (by omega)]; exact h2 j
  · by_cases ej : j = o + k
    · subst ej
      rw [nth_set_eq (by omega), e, nth_shl, if_neg (by omega), Nat.add_sub_cancel_left, nth_take (by omega)]
    · rw [nth_set_ne (by omega), h3 j, nth_shl, nth_shl]
      by_cases c : j < o
      · rw [if_pos c, if_pos c]
      · rw [if_neg c, if_neg c]
        by_cases d : j - o < k
        · rw [nth_take d, nth_take (by omega)]
        · rw [nth_take_ge (by omega), nth_take_ge (by omega)]
theorem gmid_end {p o cc : Nat} {L ys L' : List Nat} (h : GMid p L o cc ys ys.length L') : GRel p L o cc ys L' := by
  have := h.1; rwa [List.take_length] at this
theorem gro_below {w w' : World} (h : Below w.heap.size w w') (r : Option Nat) : w.grownBy w' r := ⟨h.os, h.tape, h.output, h.size, fun k hk _ => h.block k hk⟩
theorem grown_other {w w' : World} {g : Nat} {q : Addr} (h : w.grownBy w' (some g)) (hq : q.block = g) (u : Value) : w.grownBy (w'.setCell q u) (some g) := by
  obtain ⟨b, o, n⟩ := q
  exact ⟨h.os, h.tape, h.output, by simpa using h.size, fun k hk hne => (Below.heap_setCell _ _ _ _ (fun e => hne (by rw [e]; simp only at hq ⊢; rw [hq]))).trans (h.block k hk hne)⟩
theorem grown_to_below {w0 w w' : World} {g : Nat} (hb : Below w0.heap.size w0 w) (h : w.grownBy w' (some g)) (hg : w0.heap.size ≤ g) : Below w0.heap.size w0 w' :=
  hb.trans ⟨h.os, h.tape, h.output, h.size, fun k hk => h.block k (by have := hb.size; omega) (fun e => by have := Option.some.inj e; omega)⟩
theorem Lv.grown {w w' : World} {A : Option Addr} {n c g : Nat} {xs : List Nat} (h : Lv w A n c xs) (hg : w.grownBy w' (some g)) (hA : ∀ ad, A = some ad → ad.block ≠ g) : Lv w' A n c xs :=
  ⟨h.rd.grown hg fun ad ha e => hA ad ha (Option.some.inj e), h.len, h.le, h.cap, h.low⟩
theorem Fb.grown {w w' : World} {g b a : Nat} (h : Fb w g a) (hg : w.grownBy w' (some b)) (hn : g ≠ b) : Fb w' g a := by
  have e := hg.block g h.2.2 (fun e => hn (Option.some.inj e))
  refine ⟨?_, ?_, Nat.lt_of_lt_of_le h.2.2 hg.size⟩
  · rw [← h.1]; unfold World.cell?; simp only [e]
  · rw [← h.2.1]; unfold World.frozen?; simp only [e]
theorem twopp {p : Nat} (h : p < 2147483648) : p * p < 4611686018427387904 := by
  have := Nat.mul_le_mul (show p ≤ 2147483647 by omega) (show p ≤ 2147483647 by omega)
  omega
theorem low2 {p : Nat} {L : List Nat} (h : p < 2147483648) (hL : ∀ j, nth L j < 2 * p * p) : Low 18446744073709551616 L := Low.of_any fun j => by
  have h1 := hL j
  have h2 := twopp h
  rw [Nat.mul_assoc] at h1
  omega
theorem sub_mod2 {p T : Nat} (hp : 0 < p) (h : 2 * p * p ≤ T) : (T - 2 * p * p) % p = T % p := by
  have : T = (T - 2 * p * p) + p * (2 * p) := by
    have : p * (2 * p) = 2 * p * p := Nat.mul_comm _ _
    omega
  conv => rhs; rw [this, Nat.add_mul_mod_self_left]
set_option maxRecDepth 100000 in
set_option maxHeartbeats 4000000 in
theorem gather_v {ab p g o m cap n d cc : Nat} {D : Option Addr} {L ys : List Nat} {w : World} (hp : ab + 2 = p) (h : p < 2147483648) (hb : Wr w g L) (hL : ∀ j, nth L j < 2 * p * p) (hy : Lv w D n d ys) (hD : ∀ ad, D = some ad → ad.block ≠ g)
    (lyp : Low p ys) (hc : cc < p) (hm : o + m ≤ L.length) (hnm : n ≤ m) (hcap : m ≤ cap) (hcap2 : cap ≤ 9223372036854775807) :
    Calls Tryz.prog 99 #[.agg #[.int .u64 (ab : Int)], .slice (some ⟨g, o, none⟩) m cap, .slice D n d, .int .u64 (cc : Int)] w (GPost p L g o cc ys w) := by
  have HY0 := Lib.hid hy
  have HB0 := Lib.hid hb
  have hW := Below.refl w.heap.size w
  obtain ⟨wp0, hwp0⟩ : ∃ xw, xw = w.alloc (.cells #[.int .u64 (ab : Int)] 54) := ⟨_, rfl⟩
  have zp0 : Below w.heap.size w wp0 := by rw [hwp0]; exact zba _ _
  have sp0 : wp0.heap.size = w.heap.size + 1 := by rw [hwp0, World.size_alloc]
  have If : Fb wp0 w.heap.size ab := by rw [hwp0]; exact Fb.new _ _ _
  replace hy := hy.below zp0
  replace hW := hW.trans (zp0.mono hW.size)
  have H_f := Lib.hid If
  clear If zp0
  have HW : Hid ((w.alloc (.cells #[.int .u64 (ab : Int)] 54)) = wp0) := Lib.hid (by rw [hwp0])
  have lw_f : w.heap.size ≤ w.heap.size := by omega
  clear hwp0 sp0
  have h2 : 2 ≤ p := by omega
  have hgl := hb.lt
  have gn : ¬ w.heap.size = g := by omega
  replace hb := hb.below hW
  have HP := Lib.hid hp
  have HL := Lib.hid hL
  have HYL := Lib.hid hy.len
  have HM := Lib.hid hm
  have hpp := twopp h
  have HLY := Lib.hid lyp
  have HD := Lib.hid hD
  have hd := hy.le
  have hd2 := hy.cap
  clear hp hL hm lyp hD
  go_enter Tryz.func99, Tryz.ntmps99
  by_cases h0 : cc = 0
  · subst h0
    have hz : GRel p L o 0 ys L := grel_zero HL.out
    have HZ := Lib.hid hz
    clear hz hpp
    obtain ⟨f1, f2, f3⟩ := H_f.out
    go_wp2_with fail
    rw [HW.out]
    clear f1 f2 f3
    refine bodyPost_ret (v := .tuple #[]) (by simp [results, Tryz.results99, go_sem]) rfl ⟨rfl, L, HZ.out, hb, gro_below hW _⟩
  · have hne : (((cc : Nat) : Int) == 0) = false := by rw [beq_eq_false_iff_ne]; omega
    obtain ⟨BB, hBB⟩ : ∃ BB, 2 * p * p = BB := ⟨_, rfl⟩
    obtain ⟨P2, hP2⟩ : ∃ P2, 2 * p = P2 := ⟨_, rfl⟩
    have hBl : BB < 9223372036854775808 := by rw [← hBB, Nat.mul_assoc]; omega
    have w2 : Hid (IntKind.u64.wrap (2 * (p : Int)) = (P2 : Int)) := Lib.hid (by rw [show 2 * (p : Int) = (P2 : Int) by omega]; exact wrap_small (by omega))
    have w3 : Hid (IntKind.u64.wrap ((P2 : Int) * (p : Int)) = (BB : Int)) := Lib.hid (by rw [← hBB, ← hP2, ← Int.natCast_mul]; exact wrap_small (by rw [hBB]; omega))
    have HBB := Lib.hid hBB
    clear hBB hP2
    obtain ⟨f1, f2, f3⟩ := H_f.out
    go_wp2_with fail
    rw [HW.out]
    clear f1 f2 f3
    obtain ⟨f1, f2, f3⟩ := H_f.out
    go_wp2_with fail
    clear f1 f2 f3
    refine region8 [] 7 [IsK (.agg #[.int .u64 (ab : Int)]), IsK (.int .u64 (p : Int)), IsK (.int .u64 (P2 : Int)), IsK (.agg #[.int .u64 (ab : Int)]), IsK (.int .u64 (p : Int)), IsK (.int .u64 (BB : Int)), IsK (.int .u64 (BB : Int))] (fun _ _ d _ _ h => by cases d <;> exact h) (by kernel_rfl) (by kernel_rfl) (by kernel_rfl) ⟨stay_k _, stay_k _, stay_k _, stay_k _, stay_k _, stay_k _, stay_k _, trivial⟩ ?_ ?_
    · refine HopAll.cons rfl ?_ (HopAll.cons rfl ?_ (HopAll.cons rfl ?_ (HopAll.cons rfl ?_ (HopAll.cons rfl ?_ (HopAll.cons rfl ?_ (HopAll.cons rfl ?_ HopAll.nil))))))
      · intro a w1 hB ho hp K hK
        have e4 : a.eval (.tmp 4) = (.pointer (some ⟨w.heap.size, 0, none⟩)) := ho 4 (by kernel_rfl)
        obtain ⟨u1, u2, u3⟩ := H_f.out.below hB
        exact hop_load (wanted_none rfl) rfl e4 (run_ldf u1) (hK _ _ rfl (Below.refl _ _))
      · intro a w1 hB ho hp K hK
        have e14 : a.eval (.tmp 14) = (.agg #[.int .u64 (ab : Int)]) := hp 0 14 (by kernel_rfl)
        refine hop_call (wanted_none rfl) rfl (args := #[(.agg #[.int .u64 (ab : Int)])]) (by simp only [List.map_toArray, List.map_cons, List.map_nil, eval_const, e14]) (ent7 (by kernel_rfl) _ _) (fp_v HP.out h _) ?_
        rintro e w2 ⟨rfl, B⟩
        exact ⟨_, rfl, hK _ _ rfl B⟩
      · intro a w1 hB ho hp K hK
        have e15 : a.eval (.tmp 15) = (.int .u64 (p : Int)) := hp 1 15 (by kernel_rfl)
        refine hop_val (wanted_none rfl) ?_ (hK (.int .u64 (P2 : Int)) _ rfl (Below.refl _ _))
        unfold execOp; simp only [eval_const, e15]; simp [go_sem, w2.out]
      · intro a w1 hB ho hp K hK
        have e4 : a.eval (.tmp 4) = (.pointer (some ⟨w.heap.size, 0, none⟩)) := ho 4 (by kernel_rfl)
        obtain ⟨u1, u2, u3⟩ := H_f.out.below hB
        exact hop_load (wanted_none rfl) rfl e4 (run_ldf u1) (hK _ _ rfl (Below.refl _ _))
      · intro a w1 hB ho hp K hK
        have e17 : a.eval (.tmp 17) = (.agg #[.int .u64 (ab : Int)]) := hp 3 17 (by kernel_rfl)
        refine hop_call (wanted_none rfl) rfl (args := #[(.agg #[.int .u64 (ab : Int)])]) (by simp only [List.map_toArray, List.map_cons, List.map_nil, eval_const, e17]) (ent7 (by kernel_rfl) _ _) (fp_v HP.out h _) ?_
        rintro e w2 ⟨rfl, B⟩
        exact ⟨_, rfl, hK _ _ rfl B⟩
      · intro a w1 hB ho hp K hK
        have e16 : a.eval (.tmp 16) = (.int .u64 (P2 : Int)) := hp 2 16 (by kernel_rfl)
        have e18 : a.eval (.tmp 18) = (.int .u64 (p : Int)) := hp 4 18 (by kernel_rfl)
        refine hop_val (wanted_none rfl) ?_ (hK (.int .u64 (BB : Int)) _ rfl (Below.refl _ _))
        unfold execOp; simp only [eval_const, e16, e18]; simp [go_sem, w3.out]
      · intro a w1 hB ho hp K hK
        have e19 : a.eval (.tmp 19) = (.int .u64 (BB : Int)) := hp 5 19 (by kernel_rfl)
        refine hop_val (wanted_none rfl) ?_ (hK (.int .u64 (BB : Int)) _ rfl (Below.refl _ _))
        unfold execOp; simp only [eval_const, e19]; simp [go_sem]
    intro w21 B21
    refine EndAll.one rfl fun vv hv => ?_
    obtain rfl : vv = (.agg #[.int .u64 (ab : Int)]) := hv
    refine EndAll.one rfl fun vv hv => ?_
    obtain rfl : vv = (.int .u64 (p : Int)) := hv
    refine EndAll.one rfl fun vv hv => ?_
    obtain rfl : vv = (.int .u64 (P2 : Int)) := hv
    refine EndAll.one rfl fun vv hv => ?_
    obtain rfl : vv = (.agg #[.int .u64 (ab : Int)]) := hv
    refine EndAll.one rfl fun vv hv => ?_
    obtain rfl : vv = (.int .u64 (p : Int)) := hv
    refine EndAll.one rfl fun vv hv => ?_
    obtain rfl : vv = (.int .u64 (BB : Int)) := hv
    refine EndAll.one rfl fun vv hv => ?_
    obtain rfl : vv = (.int .u64 (BB : Int)) := hv
    refine EndAll.nil (l := []) rfl ?_
    simp only [Act.put, List.setIfInBounds_toArray, List.set_cons_zero, List.set_cons_succ]
    replace H_f := Lib.hid (H_f.out.below B21)
    replace hy := hy.below B21
    replace hW := hW.trans (B21.mono hW.size)
    clear B21
    obtain ⟨f1, f2, f3⟩ := H_f.out
    go_wp2_with fail
    clear f1 f2 f3
    have HB : Hid (GMid p L o cc ys 0 L ∧ Wr w21 g L ∧ w.grownBy w21 (some g)) := Lib.hid ⟨gmid_zero HL.out, HB0.out.below hW, gro_below hW _⟩
    clear hb hW H_f hy w2 w3
    go_loopw [22] (fun s22 wr => ∃ (k : Nat) (L' : List Nat), s22 = .int .i64 (k : Int) ∧ k ≤ n ∧ Hid (GMid p L o cc ys k L' ∧ Wr wr g L' ∧ w.grownBy wr (some g))) (fun s22 _ => n - (intOf s22).toNat)
    case atStart => exact ⟨0, L, rfl, Nat.zero_le _, HB⟩
    case round =>
      clear HB
      obtain ⟨k, L', rfl, hk, HB⟩ := hrel
      by_cases hlt : k < n
      · obtain ⟨HMd, hb, hgr⟩ : Hid (GMid p L o cc ys k L') ∧ Wr wr g L' ∧ w.grownBy wr (some g) := ⟨Lib.hid HB.out.1, HB.out.2⟩
        clear HB
        obtain ⟨ad, rfl, hblk, hcell⟩ := (HY0.out.grown hgr HD.out).at (k := k) hlt
        have hlL : L'.length = L.length := HMd.out.1.1
        have cs := hb.cell (j := o + k) (by rw [hlL]; have := HM.out; omega)
        have cf := hb.free (o + k)
        obtain ⟨s, hs⟩ : ∃ s, nth L' (o + k) = s := ⟨_, rfl⟩
        rw [hs] at cs
        obtain ⟨y, hy⟩ : ∃ y, nth ys k = y := ⟨_, rfl⟩
        rw [hy] at hcell
        have ls : s < BB := by rw [← hs, ← HBB.out]; exact HMd.out.1.2.1 _
        have ly : y < p := by rw [← hy]; exact HLY.out.any (by omega) k
        obtain ⟨M, hM⟩ : ∃ M, cc * y = M := ⟨_, rfl⟩
        have lM : M < 4611686018427387904 := by
          have := Nat.mul_le_mul (show cc ≤ p by omega) (show y ≤ p by omega)
          omega
        have hw1 : IntKind.u64.wrap ((cc : Int) * (y : Int)) = (M : Int) := by rw [← Int.natCast_mul, hM]; exact wrap_small (by omega)
        obtain ⟨T, hT⟩ : ∃ T, s + M = T := ⟨_, rfl⟩
        have hw2 : IntKind.u64.wrap ((s : Int) + (M : Int)) = (T : Int) := by rw [← Int.natCast_add, hT]; exact wrap_small (by omega)
        have e4 : s = nth L (o + k) := by rw [← hs]; exact HMd.out.2 _ (Nat.le_refl _)
        have HE : Hid (T % p = (nth L (o + k) + cc * nth ys k) % p) := Lib.hid (by rw [← hT, ← hM, hy, e4])
        have HE2 := Lib.hid (show M ≤ p * p by rw [← hM]; exact Nat.mul_le_mul (show cc ≤ p by omega) (show y ≤ p by omega))
        clear hs hM e4 hblk
        by_cases hge : BB ≤ T
        · skip
          obtain ⟨V, hV⟩ : ∃ V, T - BB = V := ⟨_, rfl⟩
          have hw3 : IntKind.u64.wrap ((T : Int) - (BB : Int)) = (V : Int) := by rw [show (T : Int) - (BB : Int) = (V : Int) by omega]; exact wrap_small (by omega)
          have HN : Hid (GMid p L o cc ys (k + 1) (L'.set (o + k) V)) := Lib.hid (gmid_step HMd.out (by rw [HYL.out]; exact hlt) (by have := HM.out; omega) (by rw [HBB.out, ← hV]; have := HE2.out; rw [Nat.mul_assoc] at HBB; have := HBB.out; omega) (by rw [← hV, ← HBB.out, sub_mod2 (by omega) (by rw [HBB.out]; exact hge)]; exact HE.out))
          clear hV hT HMd HE HE2 hy
          go_wp2_with fail
          have hs := hb.set (o + k) V
          go_roundw
          case rel => exact ⟨k + 1, L'.set (o + k) V, by go_num, by omega, Lib.hid ⟨HN.out, hs, grown_other hgr rfl _⟩⟩
          case measure => first | (simp [intOf]; done) | (simp [intOf]; omega)
        · skip
          have HN : Hid (GMid p L o cc ys (k + 1) (L'.set (o + k) T)) := Lib.hid (gmid_step HMd.out (by rw [HYL.out]; exact hlt) (by have := HM.out; omega) (by rw [HBB.out]; omega) HE.out)
          clear hT HMd HE HE2 hy
          go_wp2_with fail
          have hs := hb.set (o + k) T
          go_roundw
          case rel => exact ⟨k + 1, L'.set (o + k) T, by go_num, by omega, Lib.hid ⟨HN.out, hs, grown_other hgr rfl _⟩⟩
          case measure => first | (simp [intOf]; done) | (simp [intOf]; omega)
      · obtain rfl : k = n := by omega
        go_wp2_with fail
        refine bodyPost_ret (v := .tuple #[]) (by simp [results, Tryz.results99, go_sem]) rfl ⟨rfl, L', gmid_end (by rw [HYL.out]; exact HB.out.1), HB.out.2⟩
end Go.Proofs.YtddbhhedjipjkaaGreatDoor
