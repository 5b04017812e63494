/-
  GcdE GcdF
-/
import Derived.Test.YtddbhhedjipjkaaGreatDoorPr33
import Derived.Test.YtddbhhedjipjkaaGreatDoorPr34
import Derived.Test.YtddbhhedjipjkaaGreatDoorPr35

section
namespace Go.Proofs.YtddbhhedjipjkaaGreatDoor
open Go.RowKit
set_option linter.unusedVariables false
structure Two (w : World) (base G g n ga gb ca cb : Nat) (La Lb : List Nat) : Prop where
  ne : ga ≠ gb
  ba : base ≤ ga
  bb : base ≤ gb
  la : La.length = ca
  lb : Lb.length = cb
  na : n ≤ ca
  nb : n ≤ cb
  ma : ca ≤ 137438953472
  mb : cb ≤ 137438953472
  wa : Wb w ga 52 La
  wb : Wb w gb 52 Lb
  gcd : Nat.gcd (ev 18446744073709551616 (La.take n)) (ev 18446744073709551616 (Lb.take n)) = G
  sum : ev 18446744073709551616 (La.take n) + ev 18446744073709551616 (Lb.take n) = g
def ShRel (w : World) (base G g : Nat) (s0 s6 : Value) (wr : World) : Prop :=
  ∃ (n ga gb ca cb : Nat) (La Lb : List Nat), s0 = .slice (some ⟨ga, 0, none⟩) n ca ∧ s6 = .slice (some ⟨gb, 0, none⟩) n cb ∧ Two wr base G g n ga gb ca cb La Lb ∧ ev 18446744073709551616 (Lb.take n) ≤ ev 18446744073709551616 (La.take n) ∧ (n = 0 ∨ nth La (n - 1) ≠ 0) ∧ Below base w wr
def ShMid (w : World) (base G g n ga gb ca cb : Nat) (wx : World) : Prop :=
  ∃ (g' : Nat) (La Lb : List Nat), g' < g ∧ Two wx base G g' n ga gb ca cb La Lb ∧ Below base w wx
def ShEx (w : World) (base G g n : Nat) (s0 s6 : Value) (wx : World) : Prop :=
  ∃ (g' ga gb ca cb : Nat) (La Lb : List Nat), s0 = .slice (some ⟨ga, 0, none⟩) n ca ∧ s6 = .slice (some ⟨gb, 0, none⟩) n cb ∧ g' < g ∧ Two wx base G g' n ga gb ca cb La Lb ∧ ev 18446744073709551616 (Lb.take n) ≤ ev 18446744073709551616 (La.take n) ∧ Below base w wx
theorem Two.swap {w : World} {base G g n ga gb ca cb : Nat} {La Lb : List Nat} (h : Two w base G g n ga gb ca cb La Lb) : Two w base G g n gb ga cb ca Lb La :=
  ⟨h.ne.symm, h.bb, h.ba, h.lb, h.la, h.nb, h.na, h.mb, h.ma, h.wb, h.wa, by rw [Nat.gcd_comm]; exact h.gcd, by rw [Nat.add_comm]; exact h.sum⟩
theorem Two.below {w w' : World} {base G g n ga gb ca cb : Nat} {La Lb : List Nat} (h : Two w base G g n ga gb ca cb La Lb) (hb : Below w.heap.size w w') : Two w' base G g n ga gb ca cb La Lb :=
  { h with wa := ⟨h.wa.1.below hb h.wa.1.lt, h.wa.2⟩, wb := ⟨h.wb.1.below hb h.wb.1.lt, h.wb.2⟩ }
theorem Two.nva {w : World} {base G g n ga gb ca cb : Nat} {La Lb : List Nat} (h : Two w base G g n ga gb ca cb La Lb) : Nv w (some ⟨ga, 0, none⟩) n ca (ev 18446744073709551616 (La.take n)) :=
  ⟨_, h.wa.1.rd0.take n, by have := h.la; have := h.na; simp; omega, h.na, by have := h.ma; omega, h.wa.2.take n, rfl⟩
theorem Two.nvb {w : World} {base G g n ga gb ca cb : Nat} {La Lb : List Nat} (h : Two w base G g n ga gb ca cb La Lb) : Nv w (some ⟨gb, 0, none⟩) n cb (ev 18446744073709551616 (Lb.take n)) := h.swap.nva
theorem take_fits {b : Nat} {zs us : List Nat} (hb : 2 ≤ b) (lz : Low b zs) (h : ev b us ≤ ev b zs) (hl : sl zs ≤ us.length) : ev b (us.take (sl zs)) = ev b us := by
  have h1 := ev_split b us (sl zs) hl
  have h2 : ev b zs < b ^ sl zs := by
    have := ev_lt (lz.take (sl zs))
    rw [ev_take_sl, trim_len] at this
    exact this
  unfold pre at h1
  rcases Nat.eq_zero_or_pos (ev b (us.drop (sl zs))) with h3 | h3
  · rw [h3, Nat.mul_zero, Nat.add_zero] at h1
    exact h1.symm
  · have := Nat.le_mul_of_pos_right (b ^ sl zs) h3
    omega
theorem ShEx.next {w wx : World} {base G n : Nat} {ga gb ca cb g' : Nat} {La Lb : List Nat} (hT : Two wx base G g' n ga gb ca cb La Lb) (hle : ev 18446744073709551616 (Lb.take n) ≤ ev 18446744073709551616 (La.take n)) (hB : Below base w wx) :
    ShRel w base G g' (.slice (some ⟨ga, 0, none⟩) (sl (La.take n)) ca) (.slice (some ⟨gb, 0, none⟩) (sl (La.take n)) cb) wx ∧ sl (La.take n) ≤ cb ∧ sl (La.take n) ≤ ca := by
  have hl : (La.take n).length = n := by have := hT.la; have := hT.na; simp; omega
  have hlb : (Lb.take n).length = n := by have := hT.lb; have := hT.nb; simp; omega
  have hs := sl_le (La.take n)
  rw [hl] at hs
  have e1 : ev 18446744073709551616 (La.take (sl (La.take n))) = ev 18446744073709551616 (La.take n) := by
    have := ev_take_sl 18446744073709551616 (La.take n)
    rwa [List.take_take, Nat.min_eq_left hs] at this
  have e2 : ev 18446744073709551616 (Lb.take (sl (La.take n))) = ev 18446744073709551616 (Lb.take n) := by
    have := take_fits (by omega) (hT.wa.2.take n) hle (by omega)
    rwa [List.take_take, Nat.min_eq_left hs] at this
  refine ⟨⟨sl (La.take n), ga, gb, ca, cb, La, Lb, rfl, rfl, { hT with na := by have := hT.na; omega, nb := by have := hT.nb; omega, gcd := by rw [e1, e2]; exact hT.gcd, sum := by rw [e1, e2]; exact hT.sum }, by rw [e1, e2]; exact hle, ?_, hB⟩, by have := hT.nb; omega, by have := hT.na; omega⟩
  rcases Nat.eq_zero_or_pos (sl (La.take n)) with h0 | h0
  · exact .inl h0
  · have := sl_top h0
    rw [nth_take (by omega)] at this
    exact .inr this
def ShPost (w : World) (base G : Nat) (e : Ending) (w' : World) : Prop :=
  ∃ (n ga ca y k : Nat) (La : List Nat) (B : Option Addr) (cb : Nat), e = .returned (.tuple #[.slice (some ⟨ga, 0, none⟩) n ca, .slice B k cb]) ∧ base ≤ ga ∧ La.length = ca ∧ n ≤ ca ∧ ca ≤ 137438953472 ∧ Wb w' ga 52 La ∧ (n = 0 ∨ nth La (n - 1) ≠ 0) ∧
    k ≤ 1 ∧ (k = 0 ∨ 0 < y) ∧ Nv w' B k cb y ∧ Hid (Nat.gcd (ev 18446744073709551616 (La.take n)) y = G) ∧ Below base w w'
theorem front_take {zs L : List Nat} {n : Nat} (h : zs.length = n) : (zs ++ L.drop n).take n = zs := by rw [List.take_append_of_le_length (by omega), List.take_of_length_le (by omega)]
theorem front_len {zs L : List Nat} {n c : Nat} (h : zs.length = n) (hl : L.length = c) (hn : n ≤ c) : (zs ++ L.drop n).length = c := by simp; omega
theorem mid_step {w w6 w7 : World} {base G g n ga gb ca cb x y : Nat} {La Lb : List Nat} {e : Ending} (T : Two w6 base G g n ga gb ca cb La Lb) (hx : ev 18446744073709551616 (La.take n) = x) (hy : ev 18446744073709551616 (Lb.take n) = y) (hle : y ≤ x) (h0 : 0 < y) (hB : Below base w w6) (hbase : base ≤ w6.heap.size)
    (h : StPost w6 base ga n (x % y) La e w7) : e = .returned (.tuple #[]) ∧ ShMid w base G g n ga gb ca cb w7 := by
  obtain ⟨zs, rfl, hl, hz, W, t⟩ := h
  have wb := T.wb.tch t fun j _ h => T.ne h.1.symm
  have hm := Nat.mod_lt x h0
  have ez : ev 18446744073709551616 ((zs ++ La.drop n).take n) = x % y := by rw [front_take hl]; exact hz.out
  refine ⟨rfl, x % y + y, zs ++ La.drop n, Lb, by rw [← T.sum, hx, hy]; omega, { T with la := front_len hl T.la T.na, wa := W, wb := wb, gcd := ?_, sum := ?_ }, hB.trans (t.below hbase fun a h => by rw [h.1]; exact T.ba)⟩
  · rw [ez, hy, ← Nat.gcd_rec, Nat.gcd_comm, ← hx, ← hy]; exact T.gcd
  · rw [ez, hy]
theorem mid_take {w w6 w7 : World} {base G g n ga gb ca cb x y D1 D2 p q r s : Nat} {La Lb : List Nat} {e : Ending} (T : Two w6 base G g n ga gb ca cb La Lb) (hx : ev 18446744073709551616 (La.take n) = x) (hy : ev 18446744073709551616 (Lb.take n) = y) (h0 : 0 < y) (hB : Below base w w6) (hq : 1 ≤ q) (hp : 1 ≤ p) (hs : 1 ≤ s)
    (h1 : x * p = y * q + D1) (h2 : y * s = x * r + D2) (h3 : s * D1 + q * D2 = x) (h4 : r * D1 + p * D2 = y) (h : TkPost w6 base ga gb n D1 D2 La Lb e w7) : e = .returned (.tuple #[]) ∧ ShMid w base G g n ga gb ca cb w7 := by
  obtain ⟨us1, us2, rfl, l1, l2, e1, e2, W1, W2, B, _⟩ := h
  have ez1 : ev 18446744073709551616 ((us1 ++ La.drop n).take n) = D1 := by rw [front_take l1]; exact e1.out
  have ez2 : ev 18446744073709551616 ((us2 ++ Lb.drop n).take n) = D2 := by rw [front_take l2]; exact e2.out
  refine ⟨rfl, D1 + D2, us1 ++ La.drop n, us2 ++ Lb.drop n, by rw [← T.sum, hx, hy]; exact jump_less h3 h4 hq hp hs h0, { T with la := front_len l1 T.la T.na, lb := front_len l2 T.lb T.nb, wa := W1, wb := W2, gcd := ?_, sum := ?_ }, hB.trans B⟩
  · rw [ez1, ez2, jump_gcd h1 h2 h3 h4, ← hx, ← hy]; exact T.gcd
  · rw [ez1, ez2]
set_option maxRecDepth 100000 in
set_option maxHeartbeats 2000000 in
theorem shorten_calls (g1 n k c2 x y G base : Nat) (A2 : Option Addr) (La us : List Nat) (w : World) (W : Wb w g1 52 La) (hl : La.length = n) (hx : ev 18446744073709551616 La = x) (htop : n = 0 ∨ nth La (n - 1) ≠ 0) (hn : n ≤ 137438953472)
    (hr : Rd w .u64 A2 us) (hk : us.length = k) (hkn : k ≤ n) (lu : Low 18446744073709551616 us) (hy : ev 18446744073709551616 us = y) (hyx : y ≤ x) (hb : base ≤ g1) (hG : Nat.gcd x y = G) :
    Calls Tryz.prog 89 #[.slice (some ⟨g1, 0, none⟩) n n, .slice A2 k c2] w (ShPost w base G) := by
  have hlt := W.1.lt
  have HK := Lib.hid hk
  have HS := Lib.hid (show (List.replicate n 0).length = n from by simp)
  have HL := Lib.hid hl
  have HX := Lib.hid hx
  have HY := Lib.hid hy
  have HG := Lib.hid hG
  have HTOP := Lib.hid htop
  clear hk hl hx hy hG htop
  go_enter Tryz.func89, Tryz.ntmps89
  go_wp2_with (at_make; refine wpList_make_blk _ rfl _ _ 25 rfl 52 .u64 8 Tryz.underlying25 info_u64 _ _ _ _ n rfl rfl (by omega) (by omega) (by omega) (by omega) ?_)
  intro w1 hb1 hw1 hz1
  have HZ1 := Lib.hid hz1
  have ar1 := Ar.of_wb (wb_made hb1)
  have W1 := wb_made hb1
  have hr1 := hr.below hw1
  have Wa : Wb w1 g1 52 La := ⟨W.1.below hw1 hlt, W.2⟩
  have HW1 := Lib.hid W1
  have HWa := Lib.hid Wa
  have HBe := Lib.hid hw1
  clear hz1 hb1 hr W W1 Wa hw1
  go_wp2_with (refine wpList_copy_ar rfl (.tmp 11) (.tmp 12) _ _ rfl 52 Tryz.underlying25 (by kernel_rfl) A2 n n k c2 w.heap.size 0 52 _ us rfl rfl HS.out HK.out hkn ar1 hr1 lu (Seg w.heap.size 0 n) (fun j hj => ⟨rfl, Nat.zero_le _, by simp; omega⟩) ?_)
  intro w2 ar2 T2 Z2
  have hB2 : Below base w w2 := (HBe.out.mono (by omega)).trans (T2.below (B := base) (by have := HZ1.out; omega) fun a h => by rw [h.1]; omega)
  have Wa2 := HWa.out.tch T2 fun j _ h => by have := h.1; simp at this; omega
  have Wb2 := HW1.out.part (n := n) T2 ar2 (by have := HK.out; simp; omega) (by simp) fun j hj h => by have := h.2.2; simp at this; omega
  have T0 : Hid (ShRel w base G (x + y) (.slice (some ⟨g1, 0, none⟩) n n) (.slice (some ⟨w.heap.size, 0, none⟩) n n) w2) := Lib.hid (by
    have hlen : (us ++ List.replicate (n - k) 0).length = n := by have := HK.out; simp; omega
    rw [List.drop_of_length_le (by simp), List.append_nil] at Wb2
    have ea : La.take n = La := List.take_of_length_le (by have := HL.out; omega)
    have eb : (us ++ List.replicate (n - k) 0).take n = us ++ List.replicate (n - k) 0 := List.take_of_length_le (by omega)
    have evb : ev 18446744073709551616 (us ++ List.replicate (n - k) 0) = y := by rw [ev_pad']; exact HY.out
    refine ⟨n, g1, w.heap.size, n, n, La, us ++ List.replicate (n - k) 0, rfl, rfl, ⟨by omega, hb, by omega, HL.out, hlen, Nat.le_refl _, Nat.le_refl _, hn, hn, Wa2, Wb2, ?_, ?_⟩, ?_, HTOP.out, hB2⟩
    · rw [ea, eb, evb, HX.out]; exact HG.out
    · rw [ea, eb, evb, HX.out]
    · rw [ea, eb, evb, HX.out]; exact hyx)
  clear ar2 T2 Z2 hB2 Wa2 Wb2 ar1 hr1
  go_wp2_with fail
  go_loopg [0, 6] (x + y) (fun g s0 s6 wr => ShRel w base G g s0 s6 wr)
  case atStart => exact T0.out
  case round =>
    clear T0
    obtain ⟨n, ga, gb, ca, cb, La, Lb, rfl, rfl, hT, hle, htop, hB⟩ := hrel
    have hlb : (Lb.take n).length = n := by have := hT.lb; have := hT.nb; simp; omega
    have hla : (La.take n).length = n := by have := hT.la; have := hT.na; simp; omega
    have hma := hT.ma
    have hmb := hT.mb
    have hna := hT.na
    have hnb := hT.nb
    have rb := hT.wb.1.rd0.take n
    have ra := hT.wa.1.rd0.take n
    have lb := hT.wb.2.take n
    have lA := hT.wa.2.take n
    have hsl := sl_le (Lb.take n)
    rw [hlb] at hsl
    have HLB := Lib.hid hlb
    have HLA := Lib.hid hla
    have HT := Lib.hid hT
    have HBw := Lib.hid hB
    have HTO := Lib.hid htop
    have HLE := Lib.hid hle
    clear hlb hla hT hB htop hle
    go_wp2_with fail
    refine (dtrim_calls _ n cb (Lb.take n) _ rb HLB.out hnb (by omega) lb (by omega)).mono ?_
    rintro e w' ⟨rfl, rfl⟩
    obtain ⟨q, hq⟩ : ∃ q, q = sl (Lb.take n) := ⟨_, rfl⟩
    rw [← hq] at hsl
    rw [← hq]
    have HQ := Lib.hid hq
    clear hq
    by_cases h1 : 1 < q
    · have htopn : nth (La.take n) (n - 1) ≠ 0 := by
        rw [nth_take (by omega)]
        rcases HTO.out with h | h
        · omega
        · exact h
      have hbpos : 0 < ev 18446744073709551616 (Lb.take n) := by
        rcases Nat.eq_zero_or_pos (ev 18446744073709551616 (Lb.take n)) with h | h
        · have := sl_len 18446744073709551616 (by omega) lb
          rw [h, cn_zero] at this
          have := HQ.out
          simp at *
          omega
        · exact h
      have HTOPN := Lib.hid htopn
      have HBP := Lib.hid hbpos
      clear htopn hbpos
      go_wp2_with fail
      refine (jof_calls _ _ n ca cb (La.take n) (Lb.take n) _ ra rb HLA.out HLB.out lA lb (by omega) HTOPN.out HLE.out (by omega)).mono ?_
      rintro e w4 ⟨p, q', r, s, rfl, hp, hq', hr, hs, hp1, hs1, hJ, B4⟩
      have T4 := Lib.hid (HT.out.below B4)
      have hbase : base ≤ wr.heap.size := by have := HT.out.wa.1.lt; have := HT.out.ba; omega
      have BB4 := Lib.hid (HBw.out.trans (B4.mono hbase))
      have hbase4 : base ≤ w4.heap.size := by have := B4.size; omega
      have Wj := jo_alloc w4 p q' r s
      obtain ⟨j0, j1, j2, j3, _⟩ := wb4 ⟨Wj, low4 hp hq' hr hs⟩
      have B5 : Below w4.heap.size w4 (w4.alloc (.cells #[.int .u64 p, .int .u64 q', .int .u64 r, .int .u64 s] 121)) := (Below.refl _ _).alloc (Nat.le_refl _) _
      have T5 := Lib.hid (T4.out.below B5)
      have BB5 := Lib.hid (BB4.out.trans (B5.mono hbase4))
      have Z5 : Hid ((w4.alloc (.cells #[.int .u64 p, .int .u64 q', .int .u64 r, .int .u64 s] 121)).heap.size = w4.heap.size + 1) := Lib.hid (by simp)
      clear B4 B5 hbase ra rb
      obtain ⟨w5, hw5⟩ : ∃ w5, w5 = w4.alloc (.cells #[.int .u64 p, .int .u64 q', .int .u64 r, .int .u64 s] 121) := ⟨_, rfl⟩
      have WJ5 : Hid (Wb w5 w4.heap.size 121 [p, q', r, s]) := Lib.hid (by rw [hw5]; exact ⟨Wj, low4 hp hq' hr hs⟩)
      clear Wj
      obtain ⟨bq, hbq⟩ : ∃ b, ((q' : Int) == 0) = b := ⟨_, rfl⟩
      have HBQ := Lib.hid hbq
      clear hbq
      go_wp2_with fail
      rw [← hw5] at T5 BB5 Z5 j0 j1 j2 j3 ⊢
      clear hw5
      refine (none_calls p q' r s HBQ.out _).mono ?_
      rintro e w6 ⟨rfl, B6⟩
      have hbase5 : base ≤ w5.heap.size := by have := Z5.out; omega
      have T6 := Lib.hid (T5.out.below B6)
      have BB6 := Lib.hid (BB5.out.trans (B6.mono hbase5))
      have WJ6 : Hid (Wb w6 w4.heap.size 121 [p, q', r, s]) := Lib.hid ⟨WJ5.out.1.below B6 WJ5.out.1.lt, WJ5.out.2⟩
      have hbase6 : base ≤ w6.heap.size := by have := B6.size; omega
      clear B6 j0 j1 j2 j3 T5 BB5 Z5 WJ5 hbase5 T4 BB4 hbase4
      go_upto_if 22 with fail
      go_cut [] (ShMid w base G gk n ga gb ca cb)
      case first =>
        cases bq
        · have hq1 : 1 ≤ q' := by
            have := HBQ.out
            rw [beq_eq_false_iff_ne] at this
            omega
          obtain ⟨j0, j1, j2, j3, _⟩ := wb4 WJ6.out
          have hjump : Hid (∃ D1 D2, ev 18446744073709551616 (La.take n) * p = ev 18446744073709551616 (Lb.take n) * q' + D1 ∧ ev 18446744073709551616 (Lb.take n) * s = ev 18446744073709551616 (La.take n) * r + D2 ∧ s * D1 + q' * D2 = ev 18446744073709551616 (La.take n) ∧ r * D1 + p * D2 = ev 18446744073709551616 (Lb.take n)) := Lib.hid (by
            obtain ⟨D1, D2, d1, d2, d3, d4, _⟩ := hJ.out
            exact ⟨D1, D2, d1, d2, d3, d4⟩)
          obtain ⟨D1, D2, d1, d2, d3, d4⟩ := hjump.out
          have ltA := ev_lt lA
          have ltB := ev_lt lb
          rw [HLA.out] at ltA
          rw [HLB.out] at ltB
          have F1 : D1 < 18446744073709551616 ^ n := by
            have := Nat.le_mul_of_pos_left D1 hs1
            omega
          have F2 : D2 < 18446744073709551616 ^ n := by
            have := Nat.le_mul_of_pos_left D2 hp1
            omega
          have DD1 := Lib.hid d1
          have DD2 := Lib.hid d2
          have DD3 := Lib.hid d3
          have DD4 := Lib.hid d4
          have FF1 := Lib.hid F1
          have FF2 := Lib.hid F2
          clear d1 d2 d3 d4 F1 F2 ltA ltB hjump
          go_wp2_with fail
          refine (jtake_calls w6 base ga gb n ca cb p q' r s D1 D2 La Lb T6.out.wa T6.out.wb T6.out.ne T6.out.ba T6.out.bb (by rw [T6.out.la]; exact hna) (by rw [T6.out.lb]; exact hnb) (by omega) hp hq' hr hs DD1.out FF1.out DD2.out FF2.out).mono ?_
          intro e w7 htk
          obtain ⟨rfl, hmid⟩ := mid_take T6.out rfl rfl HBP.out BB6.out hq1 hp1 hs1 DD1.out DD2.out DD3.out DD4.out htk
          clear htk
          have HMID := Lib.hid hmid
          clear hmid
          go_wp2_with fail
          go_meet
          exact HMID.out
        · go_wp2_with fail
          refine (step_calls ga n ca cb n _ _ _ La w6 base T6.out.wa (by rw [T6.out.la]; exact hna) hna rfl (by omega) (by omega) T6.out.nvb (Nat.le_refl _) HBP.out).mono ?_
          intro e w7 hst
          obtain ⟨rfl, hmid⟩ := mid_step T6.out rfl rfl HLE.out HBP.out BB6.out hbase6 hst
          clear hst
          have HMID := Lib.hid hmid
          clear hmid
          go_wp2_with fail
          go_meet
          exact HMID.out
      case rest =>
        obtain ⟨g', Lc, Ld, hlt', T7, B7⟩ := hcut
        clear T6 BB6 WJ6 hbase6 hJ HBQ lA lb
        obtain ⟨rc, hrc⟩ : ∃ r, cmpN (ev 18446744073709551616 (Lc.take n)) (ev 18446744073709551616 (Ld.take n)) = r := ⟨_, rfl⟩
        have HRC := Lib.hid hrc
        have HT7 := Lib.hid T7
        have HB7 := Lib.hid B7
        have hbase7 : base ≤ wc.heap.size := by have := T7.wa.1.lt; have := T7.ba; omega
        have HLT := Lib.hid hlt'
        clear hrc T7 B7 hlt'
        go_wp2_with fail
        refine (cmp_as HT7.out.nva HT7.out.nvb HRC.out).mono ?_
        rintro e w8 ⟨rfl, B8⟩
        have HT8 := Lib.hid (HT7.out.below B8)
        have HB8 := Lib.hid (HB7.out.trans (B8.mono hbase7))
        clear B8 HT7 HB7 hbase7
        go_upto_if 33 with fail
        go_cut [0, 6] (ShEx w base G gk n)
        case first =>
          by_cases hlt2 : ev 18446744073709551616 (Lc.take n) < ev 18446744073709551616 (Ld.take n)
          · have hr1 : rc = -1 := by rw [← HRC.out, cmpN_lt hlt2]
            subst hr1
            have HLT2 := Lib.hid hlt2
            clear hlt2
            go_wp2_with fail
            go_meet
            exact ⟨g', gb, ga, cb, ca, Ld, Lc, rfl, rfl, HLT.out, HT8.out.swap, Nat.le_of_lt HLT2.out, HB8.out⟩
          · have hr1 : ¬ rc < 0 := by
              rw [← HRC.out]
              rcases Nat.lt_or_eq_of_le (Nat.le_of_not_lt hlt2) with h | h
              · rw [cmpN_gt h]; omega
              · rw [cmpN_eq h.symm]; omega
            have HLT2 := Lib.hid hlt2
            clear hlt2
            go_wp2_with fail
            go_meet
            exact ⟨g', ga, gb, ca, cb, Lc, Ld, rfl, rfl, HLT.out, HT8.out, Nat.le_of_not_lt HLT2.out, HB8.out⟩
        case rest =>
          clear HT8 HB8 HLT HRC
          obtain ⟨g2, ha, hb', ca2, cb2, Le, Lf, rfl, rfl, hlt2, T9, hle9, B9⟩ := hcut
          obtain ⟨R, hcb, hca⟩ := ShEx.next T9 hle9 B9
          have hla9 : (Le.take n).length = n := by have := T9.la; have := T9.na; simp; omega
          have hsl9 := sl_le (Le.take n)
          rw [hla9] at hsl9
          have r9 := T9.wa.1.rd0.take n
          have l9 := T9.wa.2.take n
          have hna9 := T9.na
          have hma9 := T9.ma
          have hmb9 := T9.mb
          have HR := Lib.hid R
          have HLA9 := Lib.hid hla9
          have HLT2 := Lib.hid hlt2
          clear R hla9 hlt2 T9 hle9 B9
          go_wp2_with fail
          refine (dtrim_calls _ n ca2 (Le.take n) _ r9 HLA9.out hna9 (by omega) l9 (by omega)).mono ?_
          rintro e w' ⟨rfl, rfl⟩
          clear r9
          generalize sl (Le.take n) = n' at *
          go_wp2_with fail
          go_roundg g2
          case rel => exact HR.out
          case measure => exact HLT2.out
    · have hy1 : Nv wr (some ⟨gb, 0, none⟩) q cb (ev 18446744073709551616 (Lb.take n)) := by
        refine ⟨(Lb.take n).take q, rb.take q, ?_, by omega, by omega, lb.take q, ?_⟩
        · have := HLB.out; simp at this ⊢; omega
        · rw [HQ.out]; exact ev_take_sl _ _
      have hq0 : q = 0 ∨ 0 < ev 18446744073709551616 (Lb.take n) := by
        rcases Nat.eq_zero_or_pos (ev 18446744073709551616 (Lb.take n)) with h | h
        · have := sl_len 18446744073709551616 (by omega) lb
          rw [h, cn_zero, ← HQ.out] at this
          exact .inl this
        · exact .inr h
      have P : Hid (ShPost w base G (.returned (.tuple #[.slice (some ⟨ga, 0, none⟩) n ca, .slice (some ⟨gb, 0, none⟩) q cb])) wr) :=
        Lib.hid ⟨n, ga, ca, _, q, La, _, cb, rfl, HT.out.ba, HT.out.la, hna, hma, HT.out.wa, HTO.out, by omega, hq0, hy1, Lib.hid HT.out.gcd, HBw.out⟩
      clear hy1 ra lA hq0
      go_wp2_with fail
      refine (dtrim_calls _ n cb (Lb.take n) _ rb HLB.out hnb (by omega) lb (by omega)).mono ?_
      rintro e w' ⟨rfl, rfl⟩
      rw [← HQ.out]
      go_wp2_with fail
      go_ret2
      exact P.out
end Go.Proofs.YtddbhhedjipjkaaGreatDoor
end

section
namespace Go.Proofs.YtddbhhedjipjkaaGreatDoor
open Go.RowKit
set_option linter.unusedVariables false
theorem gword_v {A : Option Addr} {n c x : Nat} {w : World} (hx : Nv w A n c x) :
    Calls Tryz.prog 86 #[.slice A n c] w (WordPost x w) := by
  obtain ⟨xs, h1, h2, h3, h4, h5, rfl⟩ := hx
  exact word_calls A n c xs w h1 h2 h3 h4 h5
theorem norm_nb {A : Option Addr} {n c x : Nat} {w : World} (hx : Nv w A n c x) (hn : n ≤ 1099511627776) :
    Calls Tryz.prog 74 #[.slice A n c] w (NbPost x w) := by
  obtain ⟨xs, h1, h2, h3, h4, h5, rfl⟩ := hx
  exact norm_blk A n c xs w h1 h2 h3 h4 h5 hn
theorem norm_nat {A : Option Addr} {n c x : Nat} {w : World} (hx : Nv w A n c x) (hn : n ≤ 1099511627776) :
    Calls Tryz.prog 74 #[.slice A n c] w (NatPost x w) := by
  obtain ⟨xs, h1, h2, h3, h4, h5, rfl⟩ := hx
  exact norm_calls A n c xs w h1 h2 h3 h4 h5 hn
theorem NatPost.up {v : Nat} {w w1 w' : World} {e : Ending} (h : NatPost v w1 e w') (hb : Below w.heap.size w w1) : NatPost v w e w' := by
  obtain ⟨A, c, he, hg⟩ := h
  exact ⟨A, c, he, hg.up hb⟩
theorem of_nat (x : Nat) (hx : x < 18446744073709551616) (w : World) : Calls Tryz.prog 45 #[.int .u64 x] w (NatPost x w) := of_calls x hx w
theorem gcd_le_left' (x y : Nat) (hx : 0 < x) : Nat.gcd x y ≤ x := Nat.le_of_dvd hx (Nat.gcd_dvd_left x y)
theorem gcd_word {x y : Nat} (hx : x < 18446744073709551616) (hy : y < 18446744073709551616) : Nat.gcd x y < 18446744073709551616 := by
  rcases Nat.eq_zero_or_pos x with h | h
  · rw [h, Nat.gcd_zero_left]; exact hy
  · exact Nat.lt_of_le_of_lt (gcd_le_left' x y h) hx
theorem more_end {w w' : World} {ga n ca v : Nat} {La : List Nat} (W : Wb w' ga 52 La) (hl : La.length = ca) (hn : n ≤ ca) (hm : ca ≤ 137438953472) (ht : n = 0 ∨ nth La (n - 1) ≠ 0) (hg : w.heap.size ≤ ga) (hB : Below w.heap.size w w') (hv : ev 18446744073709551616 (La.take n) = v) :
    NatPost v w (.returned (.slice (some ⟨ga, 0, none⟩) n ca)) w' := by
  have hlen : (La.take n).length = n := by simp; omega
  have hs : sl (La.take n) = n := by
    refine sl_eq (fun j hj => nth_ge (by omega)) ?_
    rcases ht with h | h
    · exact .inl h
    · rcases Nat.eq_zero_or_pos n with h0 | h0
      · exact .inl h0
      · rw [nth_take (by omega)]; exact .inr h
  have e := cn_ev 18446744073709551616 (by omega) (La.take n) (W.2.take n)
  rw [hs, List.take_take, Nat.min_self, hv] at e
  have ho := W.1.owns (base := w.heap.size) (n := n) hg (by omega) (by rw [hl]; unfold maxLen; omega)
  rw [hl] at ho
  refine ⟨_, ca, by rw [e, hlen], ?_, hB⟩
  rw [e, hlen]
  exact ho
theorem gword_any {A : Option Addr} {n c x : Nat} {w : World} (hx : Nv w A n c x) :
    Calls Tryz.prog 86 #[.slice A n c] w fun e w' => ∃ (v : Nat) (b : Bool), e = .returned (.tuple #[.int .u64 (v : Int), .bool b]) ∧ (b = true → x < 18446744073709551616) ∧ w = w' := by
  refine (gword_v hx).mono ?_
  rintro e w' ⟨⟨h, rfl⟩ | ⟨h, rfl⟩, rfl⟩
  · exact ⟨x, true, rfl, fun _ => h, rfl⟩
  · exact ⟨0, false, rfl, (fun h => by cases h), rfl⟩
def GcCut (w : World) (G : Nat) (s9 s11 : Value) (wx : World) : Prop :=
  ∃ (n ga ca y k : Nat) (La : List Nat) (B : Option Addr) (cb : Nat), s11 = .slice (some ⟨ga, 0, none⟩) n ca ∧ s9 = .slice B k cb ∧ w.heap.size ≤ ga ∧ La.length = ca ∧ n ≤ ca ∧ ca ≤ 137438953472 ∧ Wb wx ga 52 La ∧ (n = 0 ∨ nth La (n - 1) ≠ 0) ∧
    k ≤ 1 ∧ (k = 0 ∨ 0 < y) ∧ Nv wx B k cb y ∧ Hid (Nat.gcd (ev 18446744073709551616 (La.take n)) y = G) ∧ Below w.heap.size w wx
theorem top_cn (v : Nat) : (cn 18446744073709551616 v).length = 0 ∨ nth (cn 18446744073709551616 v) ((cn 18446744073709551616 v).length - 1) ≠ 0 := by
  rcases Nat.eq_zero_or_pos (cn 18446744073709551616 v).length with h | h
  · exact .inl h
  · have := sl_top (xs := cn 18446744073709551616 v) (by rw [sl_cn _ _ (by omega)]; exact h)
    rw [sl_cn _ _ (by omega)] at this
    exact .inr this
set_option maxRecDepth 100000 in
set_option maxHeartbeats 2000000 in
theorem gcd_calls {A B : Option Addr} {n m c d x y : Nat} {w : World} (hx : Nv w A n c x) (hy : Nv w B m d y) (hn : n ≤ 137438953472) (hm : m ≤ 137438953472) :
    Calls Tryz.prog 62 #[.slice A n c, .slice B m d] w (NatPost (Nat.gcd x y) w) := by
  obtain ⟨G, hG⟩ : ∃ G, Nat.gcd x y = G := ⟨_, rfl⟩
  rw [hG]
  have HG := Lib.hid hG
  clear hG
  by_cases hw : x < 18446744073709551616 ∧ y < 18446744073709551616
  · obtain ⟨h1, h2⟩ := hw
    go_enter Tryz.func62, Tryz.ntmps62
    go_wp2_with fail
    refine (gword_v hx).mono ?_
    rintro e w' ⟨⟨_, rfl⟩ | ⟨h, rfl⟩, rfl⟩
    · go_wp2_with fail
      refine (gword_v hy).mono ?_
      rintro e w' ⟨⟨_, rfl⟩ | ⟨h, rfl⟩, rfl⟩
      · go_wp2_with fail
        refine (gw_calls x y h1 h2 _).mono ?_
        rw [HG.out]
        rintro e w1 ⟨rfl, S1⟩
        have hgB : G < 18446744073709551616 := by rw [← HG.out]; exact gcd_word h1 h2
        go_wp2_with fail
        refine (of_nat G hgB _).mono ?_
        intro e w2 h
        have P := h.up (S1.below w.heap.size)
        obtain ⟨A2, c2, rfl, g2⟩ := P
        have HP := Lib.hid g2
        clear h g2
        go_wp2_with fail
        go_ret
        exact ⟨_, _, rfl, HP.out⟩
      · exfalso; omega
    · exfalso; omega
  · have HW := Lib.hid hw
    clear hw
    go_enter Tryz.func62, Tryz.ntmps62
    go_wp2_with fail
    refine (gword_any hx).mono ?_
    rintro e w' ⟨v1, b1, rfl, hb1, rfl⟩
    go_wp2_with fail
    refine (gword_any hy).mono ?_
    rintro e w' ⟨v2, b2, rfl, hb2, rfl⟩
    have hbb : b1 = false ∨ b1 = true ∧ b2 = false := by
      cases b1
      · exact .inl rfl
      · cases b2
        · exact .inr ⟨rfl, rfl⟩
        · exact absurd ⟨hb1 rfl, hb2 rfl⟩ HW.out
    clear hb1 hb2
    rcases hbb with rfl | ⟨rfl, rfl⟩
    all_goals
      rcases Nat.eq_zero_or_pos y with rfl | hy0
      · have hGx : Hid (x = G) := Lib.hid (by rw [← HG.out, Nat.gcd_zero_right])
        go_wp2_with fail
        refine (mod_none hx hy (by omega) (by omega)).mono ?_
        rintro e w1 ⟨rfl, B1⟩
        have hx1 := hx.below B1
        go_wp2_with fail
        refine (norm_nat hx1 (by omega)).mono ?_
        intro e w2 h
        obtain ⟨A2, c2, rfl, g2⟩ := h.up B1
        rw [hGx.out] at g2 ⊢
        have HP := Lib.hid g2
        clear h g2
        go_wp2_with fail
        go_ret
        exact ⟨_, _, rfl, HP.out⟩
      · have hmod := Nat.mod_lt x hy0
        have ly := hy.lt
        have hlen1 : (cn 18446744073709551616 (x % y)).length ≤ (cn 18446744073709551616 y).length := cn_len_mono _ _ _ (by omega) (by omega)
        have hlen2 : (cn 18446744073709551616 y).length ≤ m := cn_len_of_lt _ _ _ (by omega) ly
        have hGG : Hid (Nat.gcd y (x % y) = G) := Lib.hid (by rw [← HG.out, Nat.gcd_comm y, ← Nat.gcd_rec, Nat.gcd_comm])
        have hk0 : (cn 18446744073709551616 (x % y)).length = 0 ∨ 0 < x % y := by
          rcases Nat.eq_zero_or_pos (x % y) with h | h
          · rw [h]; exact .inl rfl
          · exact .inr h
        have hevr := ev_cn 18446744073709551616 (x % y) (by omega)
        have hevy := ev_cn 18446744073709551616 y (by omega)
        have lowr := cn_low 18446744073709551616 (x % y) (by omega)
        have htopy := top_cn y
        clear ly
        go_wp2_with fail
        refine (mod_calls hx hy (by omega) (by omega) hy0).mono ?_
        rintro e w1 ⟨A1, c1, rfl, G1⟩
        have hy1 := hy.below G1.2
        have HB1 := Lib.hid G1.2
        have r1 := G1.rd
        have cap1 := G1.cap
        clear G1 hx hy
        generalize cn 18446744073709551616 (x % y) = us at *
        go_wp2_with fail
        refine (norm_nb hy1 (by omega)).mono ?_
        rintro e w2 ⟨g, rfl, hg, hblk, B2⟩
        have r2 := r1.below B2
        have hsz1 := HB1.out.size
        have HB2 := Lib.hid (HB1.out.trans (B2.mono hsz1))
        have W2 : Wb w2 g 52 (cn 18446744073709551616 y) := ⟨hblk, cn_low _ _ (by omega)⟩
        clear r1 hy1 hblk B2
        generalize cn 18446744073709551616 y = La at *
        obtain ⟨k, hk⟩ : ∃ k, k = us.length := ⟨_, rfl⟩
        rw [← hk] at hlen1 hk0 cap1 ⊢
        obtain ⟨n0, hn0⟩ : ∃ n, n = La.length := ⟨_, rfl⟩
        rw [← hn0] at hlen1 hlen2 htopy ⊢
        have HK := Lib.hid hk
        have HN := Lib.hid hn0
        have HEV := Lib.hid hevy
        have HEVR := Lib.hid hevr
        have HK0 := Lib.hid hk0
        have HTO := Lib.hid htopy
        have hgw : w.heap.size ≤ g := by omega
        clear hk hn0 hevy hevr hk0 htopy
        go_upto_if 44 with fail
        go_cut [9, 11] (GcCut w G)
        case first =>
          by_cases hk1 : 1 < k
          · have hle : x % y ≤ y := by omega
            go_wp2_with fail
            refine (shorten_calls g n0 k c1 y (x % y) G w.heap.size A1 La us w2 W2 HN.out.symm HEV.out HTO.out (by omega) r2 HK.out.symm hlen1 lowr HEVR.out hle hgw hGG.out).mono ?_
            rintro e w3 ⟨n1, ga, ca, y1, k1, La1, B1, cb1, rfl, s1, s2, s3, s4, s5, s6, s7, s8, s9, s10, s11⟩
            have P : Hid (GcCut w G (.slice B1 k1 cb1) (.slice (some ⟨ga, 0, none⟩) n1 ca) w3) := Lib.hid ⟨n1, ga, ca, y1, k1, La1, B1, cb1, rfl, rfl, s1, s2, s3, s4, s5, s6, s7, s8, s9, s10, HB2.out.trans s11⟩
            clear s1 s2 s3 s4 s5 s6 s7 s8 s9 s10 s11
            go_wp2_with fail
            go_meet
            exact P.out
          · have P : Hid (GcCut w G (.slice A1 k c1) (.slice (some ⟨g, 0, none⟩) n0 n0) w2) := Lib.hid ⟨n0, g, n0, x % y, k, La, A1, c1, rfl, rfl, hgw, HN.out.symm, Nat.le_refl _, by omega, W2, HTO.out, by omega, HK0.out,
              ⟨us, r2, HK.out.symm, cap1.1, by have := cap1.2; unfold maxLen at this; omega, lowr, HEVR.out⟩, Lib.hid (by rw [List.take_of_length_le (by rw [← HN.out]; exact Nat.le_refl _), HEV.out]; exact hGG.out), HB2.out⟩
            clear r2 W2
            go_wp2_with fail
            go_meet
            exact P.out
        case rest =>
          clear r2 W2 HB2 HB1 HK HN HEV HEVR HK0 HTO hgw hGG lowr
          obtain ⟨n1, ga, ca, y1, k1, La1, B1, cb1, rfl, rfl, s1, s2, s3, s4, s5, s6, s7, s8, s9, s10, s11⟩ := hcut
          rcases Nat.eq_zero_or_pos k1 with rfl | hk1
          · have hy1 : y1 = 0 := by have := s9.lt; omega
            have P : Hid (NatPost G w (.returned (.slice (some ⟨ga, 0, none⟩) n1 ca)) wc) := Lib.hid (more_end s5 s2 s3 s4 s6 s1 s11 (by rw [← s10.out, hy1, Nat.gcd_zero_right]))
            clear s1 s2 s3 s4 s5 s6 s7 s8 s9 s10 s11 hy1
            go_wp2_with fail
            go_ret
            exact P.out
          · obtain rfl : k1 = 1 := by omega
            have hy1 : 0 < y1 := by rcases s8 with h | h
                                    · omega
                                    · exact h
            have hyB : y1 < 18446744073709551616 := by have := s9.lt; omega
            obtain ⟨xs9, r9, l9, _, _, low9, ev9⟩ := s9
            have hx9 : xs9 = [y1] := by
              match xs9, l9, ev9 with
              | [z], _, h => simp [ev] at h; rw [h]
            subst hx9
            obtain ⟨ae, rfl, _, c9⟩ := r9.at (k := 0) (by simp)
            rw [show ae.add 0 = ae by unfold Addr.add; simp, show nth [y1] 0 = y1 from rfl] at c9
            have nvm : Nv wc (some ⟨ga, 0, none⟩) n1 ca (ev 18446744073709551616 (La1.take n1)) := ⟨_, s5.1.rd0.take n1, by simp; omega, s3, by omega, s5.2.take n1, rfl⟩
            have hn1 : n1 ≤ 137438953472 := by omega
            have HS11 := Lib.hid s11
            have HS10 := Lib.hid s10
            clear s1 s2 s4 s5 s6 s7 s8 s10 s11 low9 ev9 l9
            go_wp2_with fail
            refine (small_calls nvm (by omega) hy1 hyB).mono ?_
            rintro e w4 ⟨A4, c4, rfl, G4⟩
            have r9' := r9.below G4.2
            have c9' := r9'.cell rfl (k := 0) (by simp)
            rw [show ae.add 0 = ae by unfold Addr.add; simp, show nth [y1] 0 = y1 from rfl] at c9'
            have B4 := Lib.hid (HS11.out.trans (G4.2.mono HS11.out.size))
            have hr2 := Nat.mod_lt (ev 18446744073709551616 (La1.take n1)) hy1
            obtain ⟨z, hz⟩ : ∃ z, z = ev 18446744073709551616 (La1.take n1) % y1 := ⟨_, rfl⟩
            rw [← hz] at hr2
            rw [← hz]
            have hgz : Hid (Nat.gcd y1 z = G) := Lib.hid (by rw [← HS10.out.out, hz, Nat.gcd_comm y1, ← Nat.gcd_rec, Nat.gcd_comm])
            clear hz r9 r9' c9 G4 nvm
            go_wp2_with fail
            refine (gw_calls y1 z hyB (by omega) _).mono ?_
            rw [hgz.out]
            rintro e w5 ⟨rfl, S5⟩
            have hgB : G < 18446744073709551616 := by rw [← hgz.out]; exact gcd_word hyB (by omega)
            have B5 := Lib.hid (B4.out.trans (S5.below w.heap.size))
            clear S5 c9'
            go_wp2_with fail
            refine (of_nat G hgB _).mono ?_
            intro e w6 h
            obtain ⟨A6, c6, rfl, g6⟩ := h.up B5.out
            have HP := Lib.hid g6
            clear h g6
            go_wp2_with fail
            go_ret
            exact ⟨_, _, rfl, HP.out⟩
theorem gcd_lt {x y n m : Nat} (hx : x < 18446744073709551616 ^ n) (hy : y < 18446744073709551616 ^ m) : Nat.gcd x y < 18446744073709551616 ^ max n m := by
  have p1 := pow_big (Nat.le_max_left n m)
  have p2 := pow_big (Nat.le_max_right n m)
  rcases Nat.eq_zero_or_pos x with h | h
  · rw [h, Nat.gcd_zero_left]; omega
  · have := gcd_le_left' x y h
    omega
theorem gcd_v {A B : Option Addr} {n m c d x y : Nat} {w : World} (hx : Nv w A n c x) (hy : Nv w B m d y) (hn : n ≤ 137438953472) (hm : m ≤ 137438953472) :
    Calls Tryz.prog 62 #[.slice A n c, .slice B m d] w (CvPost (Nat.gcd x y) (max n m) w) :=
  (gcd_calls hx hy hn hm).mono fun _ _ h => h.cv (gcd_lt hx.lt hy.lt)
end Go.Proofs.YtddbhhedjipjkaaGreatDoor
end
