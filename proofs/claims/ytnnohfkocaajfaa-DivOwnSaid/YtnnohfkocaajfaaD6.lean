/-
  The walk of DivOwn.
-/
import Derived.Test.YtnnohfkocaajfaaGcdF
import Derived.Test.YtnnohfkocaajfaaOwnA
import Derived.Test.YtnnohfkocaajfaaRefB
/-! The walk of DivOwn. -/
namespace Go.Proofs.Ytnnohfkocaajfaa
open Go.RowKit
set_option linter.unusedVariables false

/-- DivMod, whatever it answers: both may be written. -/
def DaPost (B : Nat) (w : World) (e : Ending) (w' : World) : Prop :=
  ∃ (A : Option Addr) (n c : Nat) (A' : Option Addr) (n' c' : Nat) (b : Bool), e = .returned (.tuple #[.slice A n c, .slice A' n' c', .bool b]) ∧ Wr1 B w' A n ∧ Wr1 B w' A' n' ∧ n ≤ 9223372036854775807 ∧ n' ≤ 9223372036854775807 ∧ Below w.heap.size w w'
theorem got_len {w w' : World} {t : TypeId} {A : Option Addr} {c : Nat} {zs : List Nat} (h : Got w w' t .u64 A c zs) : zs.length ≤ 9223372036854775807 := Nat.le_trans h.cap.1 (by have := h.cap.2; unfold maxLen at this; omega)
theorem dm_any {A B : Option Addr} {n m c d x y : Nat} {w : World} (hx : Nv w A n c x) (hy : Nv w B m d y) (hn : n ≤ 549755813888) (hm : m ≤ 549755813888) :
    Calls Try.prog 16 #[.slice A n c, .slice B m d] w (DaPost w.heap.size w) := by
  rcases Nat.eq_zero_or_pos y with rfl | h
  · refine (dm_none hx hy hn hm).mono ?_
    rintro e w' ⟨rfl, rfl⟩
    exact ⟨none, 0, 0, none, 0, 0, false, rfl, .inl rfl, .inl rfl, by omega, by omega, Below.refl _ _⟩
  · refine (dm_calls hx hy hn hm h).mono ?_
    rintro e w' ⟨A2, c2, A3, c3, rfl, G2, G3⟩
    exact ⟨A2, _, c2, A3, _, c3, true, rfl, Wr1.of_got G2 (Nat.le_refl _), Wr1.of_got G3 (Nat.le_refl _), got_len G2, got_len G3, G2.2⟩

set_option maxRecDepth 100000 in
set_option maxHeartbeats 2000000 in
theorem down_few (A B : Option Addr) (n m c d : Nat) (xs ys : List Nat) (w : World) (hx : Rd w .u64 A xs) (hy : Rd w .u64 B ys) (hxn : xs.length = n) (hyn : ys.length = m)
    (hc : n ≤ c) (hc' : c ≤ 9223372036854775807) (hd : m ≤ d) (hd' : d ≤ 9223372036854775807) (lx : Low 18446744073709551616 xs) (ly : Low 18446744073709551616 ys)
    (h1 : (n : Int) ≤ 10) (h2 : (m : Int) ≤ 10) :
    Calls Try.prog 5 #[.slice A n c, .slice B m d] w (TruePost w) := by
  have HX := Lib.hid hxn
  have HY := Lib.hid hyn
  clear hxn hyn
  have nv : ∀ {w' : World}, Below w.heap.size w w' → Nv w' A n c (ev 18446744073709551616 xs) ∧ Nv w' B m d (ev 18446744073709551616 ys) := fun hb => ⟨⟨xs, hx.below hb, HX.out, hc, hc', lx, rfl⟩, ⟨ys, hy.below hb, HY.out, hd, hd', ly, rfl⟩⟩
  go_enter Try.func5, Try.ntmps5
  go_wp2_with fail
  refine (dawake_calls _).mono ?_
  rintro e w1 ⟨rfl, B1⟩
  go_wp2_with (at_builtin; refine wpList_appm w1 w1 rfl (.tmp 31) (.tmp 32) _ rfl 34 .u64 Try.underlying23 info_u64 _ [] (by rfl) (OwnV.nil _ _ _) _ n c xs (hx.below B1) HX.out (by rfl) (by simp; omega) ?_)
  intro vx w2 ox
  go_wp2_with (at_builtin; refine wpList_appm w2 w2 rfl (.tmp 34) (.tmp 35) _ rfl 34 .u64 Try.underlying23 info_u64 _ [] (by rfl) (OwnV.nil _ _ _) _ m d ys (hy.below (bupw B1 ox.2)) HY.out (by rfl) (by simp; omega) ?_)
  intro vy w3 oy
  obtain ⟨Ax, cx, rfl, gx⟩ := ox.form
  obtain ⟨Ay, cy, rfl, gy⟩ := oy.form
  have B3 : Below w.heap.size w w3 := bupw (bupw B1 gx.2) gy.2
  have N3 := nv B3
  have X3 : Rd w3 .u64 Ax xs := gx.rd.below gy.2
  have Y3 : Rd w3 .u64 Ay ys := gy.rd
  clear gx gy ox oy B1
  go_wp2_with fail
  refine (dm_any N3.1 N3.2 (by omega) (by omega)).mono ?_
  rintro e w4 ⟨A4, n4, c4, A5, n5, c5, b45, rfl, W4, W5, l4, l5, b4⟩
  have N4 := nv (bupw B3 b4)
  clear N3
  go_wp2_with fail
  refine (gcd_calls N4.1 N4.2 (by omega) (by omega)).mono ?_
  rintro e w5 ⟨A6, c6, rfl, g6⟩
  generalize cn 18446744073709551616 (Nat.gcd (ev 18446744073709551616 xs) (ev 18446744073709551616 ys)) = z6 at g6 ⊢
  have b5 := g6.2
  have N5 := nv (bupw (bupw B3 b4) b5)
  have W6 := Wr1.of_got (B := w3.heap.size) g6 b4.size
  have l6 := got_len g6
  have W4' := W4.below b5
  have W5' := W5.below b5
  clear N4 W4 W5 g6
  go_wp2_with fail
  refine (small_calls (x := 3) N5.1 (by omega) (by omega) (by omega)).mono ?_
  rintro e w6 ⟨A7, c7, rfl, g7⟩
  generalize cn 18446744073709551616 (ev 18446744073709551616 xs / 3) = z7 at g7 ⊢
  generalize ev 18446744073709551616 xs % 3 = r7
  have b6 := g7.2
  have W7 := Wr1.of_got (B := w3.heap.size) g7 (Nat.le_trans b4.size b5.size)
  have l7 := got_len g7
  have W4'' := W4'.below b6
  have W5'' := W5'.below b6
  have W6' := W6.below b6
  have b36 : Below w3.heap.size w3 w6 := bupw (bupw b4 b5) b6
  clear N5 W4' W5' W6 g7 b4 b5 b6
  generalize z6.length = n6 at *
  generalize z7.length = n7 at *
  obtain ⟨L, hL⟩ : ∃ L : List (Option Addr × Nat), L = [(A4, n4), (A5, n5), (A6, n6), (A7, n7)] := ⟨_, rfl⟩
  have M0 : Bmps w3 L w6 := ⟨b36, fun p hp => by
    rw [hL] at hp
    simp only [List.mem_cons, List.not_mem_nil, or_false] at hp
    rcases hp with rfl | rfl | rfl | rfl
    · exact W4''
    · exact W5''
    · exact W6'
    · exact W7⟩
  have HL1 := Lib.hid (show (A4, n4) ∈ L by rw [hL]; simp)
  have HL2 := Lib.hid (show (A5, n5) ∈ L by rw [hL]; simp)
  have HL3 := Lib.hid (show (A6, n6) ∈ L by rw [hL]; simp)
  have HL4 := Lib.hid (show (A7, n7) ∈ L by rw [hL]; simp)
  clear hL W4'' W5'' W6' W7 b36 nv
  go_wp2_with fail
  go_loopw [14] (fun i wr => ∃ q : Nat, q ≤ n4 ∧ i = .int .i64 q ∧ Bmps w3 L wr) (fun i _ => n4 - (intOf i).toNat)
  case atStart => exact ⟨0, Nat.zero_le _, rfl, M0⟩
  case round =>
    clear M0
    obtain ⟨q1, hq1, rfl, M1⟩ := hrel
    by_cases hlt1 : q1 < n4
    · obtain ⟨g, x, hA1, cc, cf, hg⟩ := (M1.2 _ HL1.out).cell hlt1
      subst hA1
      go_wp2
      go_roundw
      case rel => exact ⟨q1 + 1, by omega, by go_num, M1.set hg _ _⟩
      case measure => simp [intOf]; omega
    · obtain rfl : q1 = n4 := by omega
      clear hlt1
      go_wp2_with fail
      go_loopw [15] (fun i wr => ∃ q : Nat, q ≤ n5 ∧ i = .int .i64 q ∧ Bmps w3 L wr) (fun i _ => n5 - (intOf i).toNat)
      case atStart => exact ⟨0, Nat.zero_le _, rfl, M1⟩
      case round =>
        clear M1
        obtain ⟨q2, hq2, rfl, M2⟩ := hrel
        by_cases hlt2 : q2 < n5
        · obtain ⟨g, x, hA2, cc, cf, hg⟩ := (M2.2 _ HL2.out).cell hlt2
          subst hA2
          go_wp2
          go_roundw
          case rel => exact ⟨q2 + 1, by omega, by go_num, M2.set hg _ _⟩
          case measure => simp [intOf]; omega
        · obtain rfl : q2 = n5 := by omega
          clear hlt2
          go_wp2_with fail
          go_loopw [16] (fun i wr => ∃ q : Nat, q ≤ n6 ∧ i = .int .i64 q ∧ Bmps w3 L wr) (fun i _ => n6 - (intOf i).toNat)
          case atStart => exact ⟨0, Nat.zero_le _, rfl, M2⟩
          case round =>
            clear M2
            obtain ⟨q3, hq3, rfl, M3⟩ := hrel
            by_cases hlt3 : q3 < n6
            · obtain ⟨g, x, hA3, cc, cf, hg⟩ := (M3.2 _ HL3.out).cell hlt3
              subst hA3
              go_wp2
              go_roundw
              case rel => exact ⟨q3 + 1, by omega, by go_num, M3.set hg _ _⟩
              case measure => simp [intOf]; omega
            · obtain rfl : q3 = n6 := by omega
              clear hlt3
              go_wp2_with fail
              go_loopw [17] (fun i wr => ∃ q : Nat, q ≤ n7 ∧ i = .int .i64 q ∧ Bmps w3 L wr) (fun i _ => n7 - (intOf i).toNat)
              case atStart => exact ⟨0, Nat.zero_le _, rfl, M3⟩
              case round =>
                clear M3
                obtain ⟨q4, hq4, rfl, M4⟩ := hrel
                by_cases hlt4 : q4 < n7
                · obtain ⟨g, x, hA4, cc, cf, hg⟩ := (M4.2 _ HL4.out).cell hlt4
                  subst hA4
                  go_wp2
                  go_roundw
                  case rel => exact ⟨q4 + 1, by omega, by go_num, M4.set hg _ _⟩
                  case measure => simp [intOf]; omega
                · obtain rfl : q4 = n7 := by omega
                  clear hlt4
                  go_wp2_with fail
                  have bw : Below w3.heap.size w3 wr := M4.1
                  have X6 := X3.below bw
                  have Y6 := Y3.below bw
                  have Bw := bupw B3 bw
                  have hxw := hx.below Bw
                  have hyw := hy.below Bw
                  clear M4 bw X3 Y3
                  refine (same_calls _ _ _ _ _ _ xs xs _ hxw X6 HX.out rfl (by omega) rfl).mono ?_
                  rintro e w9 ⟨rfl, b9⟩
                  have Y9 := Y6.below b9
                  have hy9 := hyw.below b9
                  have B9 := bupw Bw b9
                  clear X6 hxw Y6 hyw
                  go_wp2_with fail
                  refine (same_calls _ _ _ _ _ _ ys ys _ hy9 Y9 HY.out rfl (by omega) rfl).mono ?_
                  rintro e w10 ⟨rfl, b10⟩
                  have B10 := bupw B9 b10
                  go_wp2
                  go_ret
                  exact ⟨rfl, B10⟩

theorem down_calls (A B : Option Addr) (n m c d : Nat) (xs ys : List Nat) (w : World) (hx : Rd w .u64 A xs) (hy : Rd w .u64 B ys) (hxn : xs.length = n) (hyn : ys.length = m)
    (hc : n ≤ c) (hc' : c ≤ 9223372036854775807) (hd : m ≤ d) (hd' : d ≤ 9223372036854775807) (lx : Low 18446744073709551616 xs) (ly : Low 18446744073709551616 ys) :
    Calls Try.prog 5 #[.slice A n c, .slice B m d] w (TruePost w) := by
  have hW := Below.refl w.heap.size w
  by_cases h1 : (n : Int) ≤ 10
  · by_cases h2 : (m : Int) ≤ 10
    · exact down_few A B n m c d xs ys w hx hy hxn hyn hc hc' hd hd' lx ly h1 h2
    · clear hxn hyn
      go_enter Try.func5, Try.ntmps5
      go_wp2_with fail
      refine (dawake_calls _).mono ?_
      rintro e w1 ⟨rfl, B1⟩
      replace hW := hW.trans (B1.mono hW.size)
      go_wp2_with fail
      refine (dawake_calls _).mono ?_
      rintro e w2 ⟨rfl, B2⟩
      replace hW := hW.trans (B2.mono hW.size)
      go_wp2
      go_ret
      exact ⟨rfl, hW⟩

  · clear hxn hyn
    go_enter Try.func5, Try.ntmps5
    go_wp2_with fail
    refine (dawake_calls _).mono ?_
    rintro e w1 ⟨rfl, B1⟩
    replace hW := hW.trans (B1.mono hW.size)
    go_wp2_with fail
    refine (dawake_calls _).mono ?_
    rintro e w2 ⟨rfl, B2⟩
    replace hW := hW.trans (B2.mono hW.size)
    go_wp2
    go_ret
    exact ⟨rfl, hW⟩

end Go.Proofs.Ytnnohfkocaajfaa
