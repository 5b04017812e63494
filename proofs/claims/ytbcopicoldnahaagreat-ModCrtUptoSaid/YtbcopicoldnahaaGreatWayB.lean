/-
  Package zint: the way's beginning.
-/
import Derived.Test.YtbcopicoldnahaaGreatWayA
/-! Contract: zint.wayOf. -/
namespace Go.Proofs.YtbcopicoldnahaaGreat
open Go.RowKit
set_option linter.unusedVariables false

/-- Block h of the way is none of its numbers'. -/
structure Wh (base h ga gb gx gy : Nat) : Prop where
  h0 : base ≤ h
  ha : h ≠ ga
  hb : h ≠ gb
  hx : h ≠ gx
  hy : h ≠ gy
theorem Wh.swap {base h ga gb gx gy : Nat} (k : Wh base h ga gb gx gy) : Wh base h gb ga gy gx := ⟨k.h0, k.hb, k.ha, k.hy, k.hx⟩
/-- The way, the greater number ahead and trimmed. -/
def WayAt (w : World) (base h u m G N g : Nat) : Prop :=
  ∃ (n ga gb gx gy a b x y : Nat) (La Lb Lx Ly : List Nat) (t : Bool), Wy w h (.slice (some ⟨ga, 0, none⟩) n N) (.slice (some ⟨gb, 0, none⟩) n N) (.slice (some ⟨gx, 0, none⟩) N N) (.slice (some ⟨gy, 0, none⟩) N N) t ∧ Wh base h ga gb gx gy ∧
    Four w base N n ga gb gx gy La Lb Lx Ly a b x y ∧ Wm u m G a b x y t ∧ b ≤ a ∧ (n = 0 ∨ nth La (n - 1) ≠ 0) ∧ a + b = g
theorem WayAt.below {w w' : World} {base h u m G N g : Nat} (k : WayAt w base h u m G N g) (hb : Below w.heap.size w w') : WayAt w' base h u m G N g := by
  obtain ⟨n, ga, gb, gx, gy, a, b, x, y, La, Lb, Lx, Ly, t, k1, k2, k3, k4, k5, k6, k7⟩ := k
  exact ⟨n, ga, gb, gx, gy, a, b, x, y, La, Lb, Lx, Ly, t, k1.below hb, k2, k3.below hb, k4, k5, k6, k7⟩
/-- What wayOf answers. -/
def WoPost (w : World) (u m k : Nat) (e : Ending) (w' : World) : Prop :=
  ∃ h N, e = .returned (.pointer (some ⟨h, 0, none⟩)) ∧ WayAt w' w.heap.size h u m (Nat.gcd u m) N (m + u % m) ∧ m < 18446744073709551616 ^ N ∧ N ≤ k ∧ N ≤ 68719476736 ∧ Below w.heap.size w w'
theorem cn_none : ev 18446744073709551616 [] = 0 := rfl
set_option maxRecDepth 100000 in
set_option maxHeartbeats 1000000 in
theorem wayof_calls {A B : Option Addr} {n k c d u m : Nat} {w : World} (hu : Nv w A n c u) (hm : Nv w B k d m) (hn : n ≤ 68719476736) (hk : k ≤ 68719476736) (h0 : 0 < m) :
    Calls Tryz.prog 59 #[.slice A n c, .slice B k d] w (WoPost w u m k) := by
  have hW := Below.refl w.heap.size w
  obtain ⟨N, hN⟩ : ∃ N, N = (cn 18446744073709551616 m).length := ⟨_, rfl⟩
  have hNk : N ≤ k := by rw [hN]; exact cn_len_of_lt _ _ _ (by omega) hm.lt
  have hmN : Hid (m < 18446744073709551616 ^ N) := Lib.hid (by rw [hN]; exact cn_len_lt _ _ (by omega))
  have htop := top_cn m
  have hum := Nat.mod_lt u h0
  have hrN : u % m < 18446744073709551616 ^ N := Nat.lt_trans hum hmN.out
  have HUM := Lib.hid hum
  have HRN := Lib.hid hrN
  have HN := Lib.hid hN
  rw [← hN] at htop
  have HTOP := Lib.hid htop
  clear hN hum hrN htop
  go_enter Tryz.func59, Tryz.ntmps59
  go_wp2_with fail
  refine (norm_nb hm (by omega)).mono ?_
  rw [show (NbPost m w : Ending → World → Prop) = NbPost m w from rfl]
  rintro e w1 ⟨g, rfl, hg, hblk, B1⟩
  rw [← HN.out]
  have W1 : Hid (Wb w1 g 57 (cn 18446744073709551616 m)) := Lib.hid ⟨hblk, cn_low _ _ (by omega)⟩
  replace hu := hu.below B1
  replace hm := hm.below B1
  have Z1 := Lib.hid hblk.lt
  have HB := Lib.hid B1
  clear hblk B1
  go_wp2_with fail
  refine (mod_v hu hm (by omega) (by omega) h0).mono ?_
  rintro e w2 ⟨A2, n2, c2, rfl, p2, k2, B2⟩
  have hn2 : n2 ≤ N := by rw [← p2.2.1]; exact cn_len_of_lt _ _ _ (by omega) HRN.out
  replace W1 := Lib.hid (W1.out.below B2)
  replace Z1 := Lib.hid (Nat.lt_of_lt_of_le Z1.out B2.size)
  replace HB := Lib.hid (HB.out.trans (B2.mono HB.out.size))
  clear B2 hu hm
  go_wp2_with fail
  refine (room_calls A2 n2 c2 N (u % m) _ p2.nv hn2 (by omega)).mono ?_
  rintro e w3 ⟨gb, Lb, rfl, hgb, lb, Wb3, vb, B3⟩
  replace W1 := Lib.hid (W1.out.below B3)
  have Wb3 := Lib.hid Wb3
  have Zb := Lib.hid Wb3.out.1.lt
  have Z2 := Lib.hid (Nat.lt_of_lt_of_le Z1.out B3.size)
  have Dab : Hid (g ≠ gb) := Lib.hid (by have := Z1.out; omega)
  have HLB := Lib.hid lb
  have HVB := Lib.hid vb
  have HGB : Hid (w.heap.size ≤ gb) := Lib.hid (by have := HB.out.size; omega)
  replace HB := Lib.hid (HB.out.trans (B3.mono HB.out.size))
  clear B3 p2 lb vb hgb Z1
  go_wp2_with fail
  refine (room_calls none 0 0 N 0 _ (Nv.nil _) (by omega) (by omega)).mono ?_
  rintro e w4 ⟨gx, Lx, rfl, hgx, lx, Wx4, vx, B4⟩
  replace W1 := Lib.hid (W1.out.below B4)
  replace Wb3 := Lib.hid (Wb3.out.below B4)
  have Wx4 := Lib.hid Wx4
  have Zx := Lib.hid Wx4.out.1.lt
  have Dax : Hid (g ≠ gx) := Lib.hid (by have := Z2.out; omega)
  have Dbx : Hid (gb ≠ gx) := Lib.hid (by have := Zb.out; omega)
  replace Z2 := Lib.hid (Nat.lt_of_lt_of_le Z2.out B4.size)
  replace Zb := Lib.hid (Nat.lt_of_lt_of_le Zb.out B4.size)
  have HLX := Lib.hid lx
  have HVX := Lib.hid vx
  have HGX : Hid (w.heap.size ≤ gx) := Lib.hid (by have := HB.out.size; omega)
  replace HB := Lib.hid (HB.out.trans (B4.mono HB.out.size))
  clear B4 lx vx hgx
  go_wp2_with fail
  refine (of_calls 1 (by omega) _).mono ?_
  intro e w5 P5
  obtain ⟨A5, n5, c5, rfl, p5, k5, B5⟩ := NatPost.cv (k := 1) P5 (by omega)
  replace W1 := Lib.hid (W1.out.below B5)
  replace Wb3 := Lib.hid (Wb3.out.below B5)
  replace Wx4 := Lib.hid (Wx4.out.below B5)
  replace Z2 := Lib.hid (Nat.lt_of_lt_of_le Z2.out B5.size)
  replace Zb := Lib.hid (Nat.lt_of_lt_of_le Zb.out B5.size)
  replace Zx := Lib.hid (Nat.lt_of_lt_of_le Zx.out B5.size)
  replace HB := Lib.hid (HB.out.trans (B5.mono HB.out.size))
  have hN0 : 1 ≤ N := by
    rcases Nat.eq_zero_or_pos N with h | h
    · have := hmN.out; rw [h] at this; omega
    · exact h
  clear B5 P5
  go_wp2_with fail
  refine (room_calls A5 n5 c5 N 1 _ p5.nv (by omega) (by omega)).mono ?_
  rintro e w6 ⟨gy, Ly, rfl, hgy, ly, Wy6, vy, B6⟩
  replace W1 := Lib.hid (W1.out.below B6)
  replace Wb3 := Lib.hid (Wb3.out.below B6)
  replace Wx4 := Lib.hid (Wx4.out.below B6)
  have Day : Hid (g ≠ gy) := Lib.hid (by have := Z2.out; omega)
  have Dby : Hid (gb ≠ gy) := Lib.hid (by have := Zb.out; omega)
  have Dxy : Hid (gx ≠ gy) := Lib.hid (by have := Zx.out; omega)
  replace Z2 := Lib.hid (Nat.lt_of_lt_of_le Z2.out B6.size)
  replace Zb := Lib.hid (Nat.lt_of_lt_of_le Zb.out B6.size)
  replace Zx := Lib.hid (Nat.lt_of_lt_of_le Zx.out B6.size)
  have HGY : Hid (w.heap.size ≤ gy) := Lib.hid (by have := HB.out.size; omega)
  replace HB := Lib.hid (HB.out.trans (B6.mono HB.out.size))
  have HS6 : Hid (w.heap.size ≤ w6.heap.size) := Lib.hid HB.out.size
  have P : Hid (∀ w7, w7 = w6.alloc (.cells #[.slice (some ⟨g, 0, none⟩) N N, .slice (some ⟨gb, 0, none⟩) N N, .slice (some ⟨gx, 0, none⟩) N N, .slice (some ⟨gy, 0, none⟩) N N, .bool true] 96) → WoPost w u m k (.returned (.pointer (some ⟨w6.heap.size, 0, none⟩))) w7) := Lib.hid (by
    rintro w7 rfl
    have B7 := zb0 w6 (.cells #[.slice (some ⟨g, 0, none⟩) N N, .slice (some ⟨gb, 0, none⟩) N N, .slice (some ⟨gx, 0, none⟩) N N, .slice (some ⟨gy, 0, none⟩) N N, .bool true] 96)
    have hlc : (cn 18446744073709551616 m).length = N := HN.out.symm
    refine ⟨w6.heap.size, N, rfl, ⟨N, g, gb, gx, gy, m, u % m, 0, 1, _, Lb, Lx, Ly, true, heap_alloc_new w6 _, ⟨HS6.out, ?_, ?_, ?_, ?_⟩, ⟨Dab.out, Dax.out, Day.out, Dbx.out, Dby.out, Dxy.out, hg, HGB.out, HGX.out, HGY.out, hlc, HLB.out, HLX.out, ly, Nat.le_refl _, by omega, W1.out.below B7, Wb3.out.below B7, Wx4.out.below B7, Wy6.below B7, ?_, ?_, HVX.out, vy⟩, Wm.start u m, ?_, HTOP.out, rfl⟩, hmN.out, hNk, by omega, HB.out.trans (B7.mono HS6.out)⟩
    · have := Z2.out; omega
    · have := Zb.out; omega
    · have := Zx.out; omega
    · have := Wy6.1.lt; omega
    · rw [List.take_of_length_le (by omega), ev_cn _ _ (by omega)]
    · rw [List.take_of_length_le (by have := HLB.out; omega)]; exact HVB.out
    · have := HUM.out; omega)
  clear B6 p5 ly vy hgy Wy6 HB
  go_wp2_with fail
  go_ret
  exact P.out _ rfl
end Go.Proofs.YtbcopicoldnahaaGreat
