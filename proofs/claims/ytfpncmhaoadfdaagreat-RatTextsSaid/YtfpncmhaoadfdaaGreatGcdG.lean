/-
  Package lehmer: whole, sure.
-/
import Derived.Test.YtfpncmhaoadfdaaGreatGcdC
import Derived.Deep.CutBlock
import Derived.Deep.LoopGhost
/-! Contracts: lehmer.whole, sure. -/
namespace Go.Proofs.YtfpncmhaoadfdaaGreat
open Go.RowKit
set_option linter.unusedVariables false

set_option maxRecDepth 100000 in
set_option maxHeartbeats 2000000 in
theorem whole_calls (u v : Nat) (hvu : v ≤ u) (h0 : 0 < u) (hu : u < 18446744073709551616) (w : World) :
    Calls Tryz.prog 87 #[.int .u64 u, .int .u64 v] w (JpPost (Jok u v) w) := by
  have hv : v < 18446744073709551616 := by omega
  go_enter Tryz.func87, Tryz.ntmps87
  go_wp2_with fail
  refine (start_calls u v hu hv _).mono ?_
  rintro e w2 ⟨rfl, B2⟩
  have R := SlRel.begin (t := 117) (Jw.start hvu h0) hu hv B2
  have hz : w.heap.size + 1 ≤ w2.heap.size := by have := B2.size; simpa using this
  obtain ⟨h, hh⟩ : ∃ h, h = w2.heap.size := ⟨_, rfl⟩
  rw [← hh] at R hz
  have HH := Lib.hid hh
  have HR := Lib.hid R
  clear B2 hh R
  go_wp2_with fail
  rw [← HH.out]
  clear HH
  go_loopg [] v (fun g wr => SlRel Jw w h u v g wr)
  case atStart => exact HR.out
  case round =>
    clear HR
    obtain ⟨x, p, q, r, s, U, V, b, hUV, hj, hU, hV, hp, hs, S, W, hB⟩ := hrel
    have HS := Lib.hid S
    have HW := Lib.hid W
    have HB := Lib.hid hB
    have HUV := Lib.hid hUV
    obtain ⟨c0, c1, c2, c3, c4, c5, c6, fz, lt, bx, bY, bp, bq, br, bs⟩ := S
    clear c0 c2 c3 c4 c5 c6 fz W hB hUV
    rcases Nat.eq_zero_or_pos gk with rfl | hg
    · have b1 : (((0 : Nat) : Int) != 0) = false := by rfl
      have hz0 : w.heap.size ≤ wr.heap.size := HB.out.size
      rcases HUV.out with ⟨rfl, rfl, rfl⟩ | ⟨rfl, rfl, rfl⟩
      · have hok := Lib.hid hj.out.ok
        clear HUV
        go_wp2_with fail
        refine (unturned_no _ h x 0 p q r s HS.out).mono ?_
        rintro e w4 ⟨rfl, B4⟩
        have W4 : Wb w4 w.heap.size 95 [0, 0, 0, 0] := ⟨HW.out.1.below B4 HW.out.1.lt, HW.out.2⟩
        obtain ⟨z0, z1, z2, z3, _, _, _, _, k0, k1, k2, k3⟩ := wb4 W4
        obtain ⟨X, T⟩ := wb4_set W4 bp bq br bs
        obtain ⟨y0, y1, y2, y3, _⟩ := wb4 X
        have B := Lib.hid ((HB.out.trans (B4.mono hz0)).trans (T.below (B := w.heap.size) (by have := B4.size; omega) fun a h => by rw [h]; exact Nat.le_refl _))
        clear X T W4 B4 c1
        go_wp2_with fail
        refine bodyPost_ret (v := .agg #[.int .u64 (p : Int), .int .u64 (q : Int), .int .u64 (r : Int), .int .u64 (s : Int)]) (by simp [results, Tryz.results87, go_sem, y0, y1, y2, y3]) rfl ?_
        exact ⟨p, q, r, s, rfl, bp, bq, br, bs, hp, hs, hok, B.out⟩
      · have hok := Lib.hid hj.out.ok_flip
        clear HUV
        go_wp2_with fail
        refine (unturned_yes _ h x 0 p q r s HS.out).mono ?_
        rintro e w4 ⟨rfl, B4⟩
        have W4 : Wb w4 w.heap.size 95 [0, 0, 0, 0] := ⟨HW.out.1.below B4 HW.out.1.lt, HW.out.2⟩
        obtain ⟨z0, z1, z2, z3, _, _, _, _, k0, k1, k2, k3⟩ := wb4 W4
        obtain ⟨X, T⟩ := wb4_set W4 bs br bq bp
        obtain ⟨y0, y1, y2, y3, _⟩ := wb4 X
        have B := Lib.hid ((HB.out.trans (B4.mono hz0)).trans (T.below (B := w.heap.size) (by have := B4.size; omega) fun a h => by rw [h]; exact Nat.le_refl _))
        clear X T W4 B4 c1
        go_wp2_with fail
        refine bodyPost_ret (v := .agg #[.int .u64 (s : Int), .int .u64 (r : Int), .int .u64 (q : Int), .int .u64 (p : Int)]) (by simp [results, Tryz.results87, go_sem, y0, y1, y2, y3]) rfl ?_
        exact ⟨s, r, q, p, rfl, bs, br, bq, bp, hs, hp, hok, B.out⟩
    · have b1 : ((gk : Int) != 0) = true := by rw [bne_iff_ne]; omega
      have b2 : ((gk : Int) == 0) = false := by rw [beq_eq_false_iff_ne]; omega
      obtain ⟨i1, i2⟩ := hj.out.fits hU hV hg
      have J2 := hj.out.step hg
      have hmg := Nat.mod_lt x hg
      have HJ := Lib.hid J2
      have HI1 := Lib.hid i1
      have HI2 := Lib.hid i2
      have HMG := Lib.hid hmg
      clear J2 hmg i1 i2
      go_wp2_with fail
      refine (snext_calls _ h x gk p q r s b HS.out hg HI1.out HI2.out).mono ?_
      intro e w4 P
      obtain ⟨rfl, R⟩ := SlRel.next hz HUV.out HJ.out hU hV hp hs HW.out HB.out P
      have HR := Lib.hid R
      clear R P c1
      go_wp2_with fail
      go_roundg (x % gk)
      case rel => exact HR.out
      case measure => exact HMG.out
/-- What sure makes of its last steps. -/
theorem sure_end (w wr : World) (h u v x y p q r s U V : Nat) (b : Bool) (hUV : b = false ∧ U = u ∧ V = v ∨ b = true ∧ U = v ∧ V = u) (hj : Jump U V x y p q r s) (S : St7 wr h x y p q r s b) :
    Calls Tryz.prog 102 #[.pointer (some ⟨h, 0, none⟩)] wr (JpPost (JumpOk u v) wr) := by
  rcases hUV with ⟨rfl, rfl, rfl⟩ | ⟨rfl, rfl, rfl⟩
  · refine (unturned_no _ h x y p q r s S).mono ?_
    rintro e w4 ⟨rfl, B4⟩
    exact ⟨p, q, r, s, rfl, S.bp, S.bq, S.br, S.bs, hj.jw.lp, hj.jw.ls, Lib.hid hj.ok, B4⟩
  · refine (unturned_yes _ h x y p q r s S).mono ?_
    rintro e w4 ⟨rfl, B4⟩
    exact ⟨s, r, q, p, rfl, S.bs, S.br, S.bq, S.bp, hj.jw.ls, hj.jw.lp, Lib.hid hj.ok_flip, B4⟩
/-- Behind the loop of sure. -/
def SuCut (w : World) (h u v : Nat) (wx : World) : Prop := ∃ g, SlRel Jump w h u v g wx

set_option maxRecDepth 100000 in
set_option maxHeartbeats 2000000 in
theorem sure_calls (u v : Nat) (hvu : v ≤ u) (h0 : 0 < u) (hu : u < 18446744073709551616) (w : World) :
    Calls Tryz.prog 88 #[.int .u64 u, .int .u64 v] w (JpPost (JumpOk u v) w) := by
  have hv : v < 18446744073709551616 := by omega
  go_enter Tryz.func88, Tryz.ntmps88
  go_wp2_with fail
  refine (start_calls u v hu hv _).mono ?_
  rintro e w2 ⟨rfl, B2⟩
  have R := SlRel.begin (t := 117) (Jump.start hvu h0) hu hv B2
  have hz : w.heap.size + 1 ≤ w2.heap.size := by have := B2.size; simpa using this
  obtain ⟨h, hh⟩ : ∃ h, h = w2.heap.size := ⟨_, rfl⟩
  rw [← hh] at R hz
  have HH := Lib.hid hh
  have HR := Lib.hid R
  clear B2 hh R
  go_upto_block 0 with fail
  rw [← HH.out]
  clear HH
  go_cut [] (SuCut w h u v)
  case first =>
   go_wp2_with fail
   go_loopg [] v (fun g wr => SlRel Jump w h u v g wr)
   case atStart => exact HR.out
   case round =>
     clear HR
     obtain ⟨x, p, q, r, s, U, V, b, hUV, hj, hU, hV, hp, hs, S, W, hB⟩ := hrel
     have HS := Lib.hid S
     have HW := Lib.hid W
     have HB := Lib.hid hB
     have HUV := Lib.hid hUV
     obtain ⟨c0, c1, c2, c3, c4, c5, c6, fz, lt, bx, bY, bp, bq, br, bs⟩ := S
     clear c0 c2 c3 c4 c5 c6 fz W hB hUV

     have HJ0 := Lib.hid (show ∀ n, SuCut w h u v (wr.drewN n) from fun n => ⟨gk, SlRel.drewN ⟨x, p, q, r, s, U, V, b, HUV.out, hj, hU, hV, hp, hs, HS.out, HW.out, HB.out⟩ n⟩)
     obtain ⟨c0, _, c2, c3, c4, c5, _, _, _, _, _, _, _, _, _⟩ := HS.out
     rcases Nat.eq_zero_or_pos gk with rfl | hg
     · have b1 : (((0 : Nat) : Int) != 0) = false := by rfl
       go_wp2_with fail
       go_quiet (fail)
       go_wp2_with fail
       go_meet
       exact HJ0.out _
     · obtain ⟨t, ht⟩ : ∃ t, t = x / gk := ⟨_, rfl⟩
       obtain ⟨m, hm⟩ : ∃ m, m = x % gk := ⟨_, rfl⟩
       obtain ⟨i1, i2⟩ := hj.out.jw.fits hU hV hg
       have HI1 := Lib.hid i1
       have HI2 := Lib.hid i2
       rw [← ht] at i1 i2
       obtain ⟨ts, hts⟩ : ∃ y, y = t * s := ⟨_, rfl⟩
       rw [← hts] at i1
       have hmg : m < gk := by rw [hm]; exact Nat.mod_lt _ hg
       have htx : t ≤ x := by rw [ht]; exact Nat.div_le_self _ _
       have e1 : (x : Int) / (gk : Int) = (t : Int) := by rw [ht]; rfl
       have e2 : (x : Int) % (gk : Int) = (m : Int) := by rw [hm]; rfl
       have e3 : (x : Int).tdiv (gk : Int) = (t : Int) := by rw [ht]; rfl
       have e4 : (x : Int).tmod (gk : Int) = (m : Int) := by rw [hm]; rfl
       have e5 : IntKind.u64.wrap (t : Int) = (t : Int) := by rw [IntKind.wrap_u64]; omega
       have e6 : IntKind.u64.wrap (m : Int) = (m : Int) := by rw [IntKind.wrap_u64]; omega
       have e7 : IntKind.u64.wrap ((t : Int) * (s : Int)) = (ts : Int) := by rw [← Int.natCast_mul, ← hts, IntKind.wrap_u64]; omega
       have e8 : IntKind.u64.wrap ((q : Int) + (ts : Int)) = ((q : Int) + (ts : Int)) := by rw [IntKind.wrap_u64]; omega
       have b1 : ((gk : Int) != 0) = true := by rw [bne_iff_ne]; omega
       have b2 : ((gk : Int) == 0) = false := by rw [beq_eq_false_iff_ne]; omega
       have b3 : ¬ (gk = 0) := by omega
       have HT := Lib.hid ht
       have HM := Lib.hid hm
       have HTS := Lib.hid hts
       clear ht hm hts
       by_cases hc : q + ts ≤ m
       · have z1 : (q : Int) + (ts : Int) ≤ (m : Int) := by omega
         have hc2 : q + x / gk * s ≤ x % gk := by rw [← HT.out, ← HM.out, ← HTS.out]; exact hc
         have J2 := hj.out.step hg hc2
         have HJ := Lib.hid J2
         clear hc hc2 J2
         go_wp2_with fail
         go_quiet (fail)
         go_wp2_with fail
         refine (snext_calls _ h x gk p q r s b (HS.out.below (below_drewN _ _)) hg HI1.out HI2.out).mono ?_
         intro e w4 P
         obtain ⟨rfl, R⟩ := SlRel.next hz HUV.out HJ.out hU hV hp hs (show Wb (wr.drewN _) w.heap.size 95 [0, 0, 0, 0] from HW.out) (HB.out.trans ((below_drewN wr _).mono HB.out.size)) P
         rw [← HM.out] at R
         have HR := Lib.hid R
         clear R P c0 c1 c2 c3 c4 c5
         go_wp2_with fail
         go_roundg m
         case rel => exact HR.out
         case measure => exact hmg
       · have z1 : ¬ ((q : Int) + (ts : Int) ≤ (m : Int)) := by omega
         clear hc
         go_wp2_with fail
         go_quiet (fail)
         go_wp2_with fail
         go_meet
         exact HJ0.out _
  case rest =>
    clear HR
    obtain ⟨gk, x, p, q, r, s, U, V, b, hUV, hj, hU, hV, hp, hs, S, W, hB⟩ := hcut
    have HS := Lib.hid S
    have HW := Lib.hid W
    have HB := Lib.hid hB
    have HUV := Lib.hid hUV
    have hz0 : w.heap.size ≤ wc.heap.size := hB.size
    clear S W hB hUV
    go_wp2_with fail
    refine (sure_end w _ h u v x gk p q r s U V b HUV.out hj.out HS.out).mono ?_
    rintro e w4 ⟨p', q', r', s', rfl, bp, bq, br, bs, hp', hs', hok, B4⟩
    have W4 : Wb w4 w.heap.size 95 [0, 0, 0, 0] := ⟨HW.out.1.below B4 HW.out.1.lt, HW.out.2⟩
    obtain ⟨z0, z1, z2, z3, _, _, _, _, k0, k1, k2, k3⟩ := wb4 W4
    obtain ⟨X, T⟩ := wb4_set W4 bp bq br bs
    obtain ⟨y0, y1, y2, y3, _⟩ := wb4 X
    have B := Lib.hid ((HB.out.trans (B4.mono hz0)).trans (T.below (B := w.heap.size) (by have := B4.size; omega) fun a h => by rw [h]; exact Nat.le_refl _))
    clear X T W4 B4
    go_wp2_with fail
    refine bodyPost_ret (v := .agg #[.int .u64 (p' : Int), .int .u64 (q' : Int), .int .u64 (r' : Int), .int .u64 (s' : Int)]) (by simp [results, Tryz.results88, go_sem, y0, y1, y2, y3]) rfl ?_
    exact ⟨p', q', r', s', rfl, bp, bq, br, bs, hp', hs', hok, B.out⟩
end Go.Proofs.YtfpncmhaoadfdaaGreat
