/-
  The walk of MulOwn.
-/
import Derived.Test.YthpohkklggabpaaHeapA
import Derived.Test.YthpohkklggabpaaRefB
import Derived.Test.YthpohkklggabpaaRules
namespace Go.Proofs.Ythpohkklggabpaa
open Go.RowKit
set_option linter.unusedVariables false

theorem bupw {a b c : World} (h : Below a.heap.size a b) (k : Below b.heap.size b c) : Below a.heap.size a c := h.trans (k.mono h.size)
/-- The words of a slice may be written: they lie in one block of words from B on. -/
def Wr1 (B : Nat) (w : World) (A : Option Addr) (n : Nat) : Prop :=
  n = 0 ∨ ∃ (g : Nat) (cs : Array Value), A = some ⟨g, 0, none⟩ ∧ B ≤ g ∧ w.heap[g]? = some (.cells cs 45 (0, 0)) ∧ ∀ j, j < n → ∃ x : Int, cs[j]? = some (.int .u64 x)
theorem Wr1.of_got {B : Nat} {wi wj : World} {A : Option Addr} {c : Nat} {zs : List Nat} (h : Got wi wj 45 .u64 A c zs) (hB : B ≤ wi.heap.size) : Wr1 B wj A zs.length := by
  rcases h.1.2 with ⟨h3, h4⟩ | ⟨g, cap, cur, hv, hg, hh, hnc, hcm, hcs, htake⟩
  · exact .inl h4
  · injection hv with hA h5 h6
    subst hA
    refine .inr ⟨g, cur, rfl, by omega, hh, fun j hj => ?_⟩
    have h9 : (cur.toList.take (zs.length * 1))[j]? = some (.int .u64 (nth zs j)) := by rw [htake]; exact vs_get hj
    rw [List.getElem?_take, if_pos (by omega), Array.getElem?_toList] at h9
    exact ⟨_, h9⟩
theorem Wr1.below {B : Nat} {w w' : World} {A : Option Addr} {n : Nat} (h : Wr1 B w A n) (hb : Below w.heap.size w w') : Wr1 B w' A n := by
  rcases h with h | ⟨g, cs, h1, h2, h3, h4⟩
  · exact .inl h
  · exact .inr ⟨g, cs, h1, h2, (hb.block g (Array.getElem?_eq_some_iff.1 h3).1).trans h3, h4⟩
theorem Wr1.cell {B : Nat} {w : World} {A : Option Addr} {n k : Nat} (h : Wr1 B w A n) (hk : k < n) : ∃ (g : Nat) (x : Int), A = some ⟨g, 0, none⟩ ∧ w.cell? ⟨g, k, none⟩ = some (.int .u64 x) ∧ w.frozen? ⟨g, k, none⟩ = false ∧ B ≤ g := by
  rcases h with h | ⟨g, cs, h1, h2, h3, h4⟩
  · omega
  · obtain ⟨x, hx⟩ := h4 k hk
    exact ⟨g, x, h1, by rw [cell_of_row w g k cs _ (0, 0) h3, hx], frozen_of_row w g k cs _ h3, h2⟩
theorem Wr1.set {B : Nat} {w : World} {A : Option Addr} {n : Nat} (h : Wr1 B w A n) (g k : Nat) (x : Int) : Wr1 B (w.setCell ⟨g, k, none⟩ (.int .u64 x)) A n := by
  rcases h with h | ⟨g', cs, h1, h2, h3, h4⟩
  · exact .inl h
  · by_cases hg : g' = g
    · subst hg
      refine .inr ⟨g', _, h1, h2, heap_setCell_same w g' k cs _ _ h3, fun j hj => ?_⟩
      obtain ⟨y, hy⟩ := h4 j hj
      by_cases hjk : k = j
      · subst hjk
        have hlt : k < cs.size := (Array.getElem?_eq_some_iff.1 hy).1
        exact ⟨x, by simp [hlt]⟩
      · exact ⟨y, by rw [Array.getElem?_setIfInBounds_ne hjk]; exact hy⟩
    · exact .inr ⟨g', cs, h1, h2, (Below.heap_setCell w ⟨g, k, none⟩ _ g' hg).trans h3, h4⟩
/-- In the loops that write. -/
def Bmp (W : World) (A B : Option Addr) (n m : Nat) (wr : World) : Prop := Below W.heap.size W wr ∧ Wr1 W.heap.size wr A n ∧ Wr1 W.heap.size wr B m
theorem Bmp.set {W wr : World} {A B : Option Addr} {n m : Nat} (h : Bmp W A B n m wr) {g : Nat} (hg : W.heap.size ≤ g) (k : Nat) (x : Int) : Bmp W A B n m (wr.setCell ⟨g, k, none⟩ (.int .u64 x)) :=
  ⟨h.1.setCell hg _, h.2.1.set g k x, h.2.2.set g k x⟩

theorem ent_old {w : World} {A : Option Addr} {n c v : Nat} (h : Nv w A n c v) : Ent.ok w.heap.size w ⟨A, n, c, v⟩ := by
  refine ⟨h, fun ad ha hn => .inl ?_⟩
  obtain ⟨xs, h1, h2, _⟩ := h
  obtain ⟨ad', e, hl, _⟩ := h1 (by simp only at hn; omega)
  simp only at ha
  rw [e] at ha
  obtain rfl := Option.some.inj ha
  exact hl

theorem ent_old' {w w' : World} {A : Option Addr} {n c v : Nat} (h : Nv w A n c v) (hs : w.heap.size ≤ w'.heap.size) (h' : Nv w' A n c v) : Ent.ok w'.heap.size w' ⟨A, n, c, v⟩ := ent_old h'
theorem lrow_one {w : World} {r : Ent} : LRow (w.alloc (.cells #[.slice r.A r.n r.c] 23)) (some ⟨w.heap.size, 0, none⟩) [r] := fun _ => by
  refine ⟨_, rfl, by simp, fun j hj => ?_⟩
  rw [add_lit0, cell_of_row _ w.heap.size j _ _ (0, 0) (heap_alloc_new w _)]
  obtain rfl : j = 0 := by simp at hj; omega
  rfl
theorem lrow_two {w : World} {r s : Ent} : LRow (w.alloc (.cells #[.slice r.A r.n r.c, .slice s.A s.n s.c] 23)) (some ⟨w.heap.size, 0, none⟩) [r, s] := fun _ => by
  refine ⟨_, rfl, by simp, fun j hj => ?_⟩
  rw [add_lit0, cell_of_row _ w.heap.size j _ _ (0, 0) (heap_alloc_new w _)]
  match j, hj with
  | 0, _ => rfl
  | 1, _ => rfl

set_option maxRecDepth 100000 in
set_option maxHeartbeats 2000000 in
theorem mown_few (A B : Option Addr) (n m c d : Nat) (xs ys : List Nat) (w : World) (hx : Rd w .u64 A xs) (hy : Rd w .u64 B ys) (hxn : xs.length = n) (hyn : ys.length = m)
    (hc : n ≤ c) (hc' : c ≤ 9223372036854775807) (hd : m ≤ d) (hd' : d ≤ 9223372036854775807) (lx : Low 18446744073709551616 xs) (ly : Low 18446744073709551616 ys)
    (h1 : (n : Int) ≤ 30) (h2 : (m : Int) ≤ 30) :
    Calls Try.prog 8 #[.slice A n c, .slice B m d] w (TruePost w) := by
  have HX := Lib.hid hxn
  have HY := Lib.hid hyn
  clear hxn hyn
  have nv : ∀ {w' : World}, Below w.heap.size w w' → Nv w' A n c (ev 18446744073709551616 xs) ∧ Nv w' B m d (ev 18446744073709551616 ys) := fun hb => ⟨⟨xs, hx.below hb, HX.out, hc, hc', lx, rfl⟩, ⟨ys, hy.below hb, HY.out, hd, hd', ly, rfl⟩⟩
  go_enter Try.func8, Try.ntmps8
  go_wp2_with fail
  refine (mawake_calls _).mono ?_
  rintro e w1 ⟨rfl, B1⟩
  go_wp2_with (at_builtin; refine wpList_appm w1 w1 rfl (.tmp 27) (.tmp 28) _ rfl 45 .u64 Try.underlying23 info_u64 _ [] (by rfl) (OwnV.nil _ _ _) _ n c xs (hx.below B1) HX.out (by rfl) (by simp; omega) ?_)
  intro vx w2 ox
  go_wp2_with (at_builtin; refine wpList_appm w2 w2 rfl (.tmp 30) (.tmp 31) _ rfl 45 .u64 Try.underlying23 info_u64 _ [] (by rfl) (OwnV.nil _ _ _) _ m d ys (hy.below (bupw B1 ox.2)) HY.out (by rfl) (by simp; omega) ?_)
  intro vy w3 oy
  obtain ⟨Ax, cx, rfl, gx⟩ := ox.form
  obtain ⟨Ay, cy, rfl, gy⟩ := oy.form
  have B3 : Below w.heap.size w w3 := bupw (bupw B1 gx.2) gy.2
  have N3 := nv B3
  have X3 : Rd w3 .u64 Ax xs := gx.rd.below gy.2
  have Y3 : Rd w3 .u64 Ay ys := gy.rd
  clear gx gy ox oy
  go_wp2_with fail
  refine (mmulc_v N3.1 N3.2 (by omega) (by omega)).mono ?_
  rintro e w4 ⟨A4, n4, c4, rfl, p4, k4, b4⟩
  have B4 := bupw B3 b4
  go_wp2_with fail
  obtain ⟨wa, hwa⟩ : ∃ wa, wa = w4.alloc (.cells #[.slice A n c, .slice B m d] 23) := ⟨_, rfl⟩
  have ba : Below w4.heap.size w4 wa := by rw [hwa]; exact (Below.refl _ _).alloc (Nat.le_refl _) _
  have Ba := bupw B4 ba
  have Na := nv Ba
  have la : LRow wa (some ⟨w4.heap.size, 0, none⟩) [⟨A, n, c, ev 18446744073709551616 xs⟩, ⟨B, m, d, ev 18446744073709551616 ys⟩] := by rw [hwa]; exact lrow_two (r := ⟨A, n, c, ev 18446744073709551616 xs⟩) (s := ⟨B, m, d, ev 18446744073709551616 ys⟩)
  have ea : EntsOk wa.heap.size wa [⟨A, n, c, ev 18446744073709551616 xs⟩, ⟨B, m, d, ev 18446744073709551616 ys⟩] := fun r hr => by
    simp only [List.mem_cons, List.not_mem_nil, or_false] at hr
    rcases hr with rfl | rfl
    · exact ent_old Na.1
    · exact ent_old Na.2
  rw [← hwa]
  clear hwa
  refine (product_calls (n := 2) (N := 60) la (by rfl) ea (by omega) (by simp [wtV]; omega) (by omega)).mono ?_
  rintro e w5 hq
  have hq2 : CvPost (ev 18446744073709551616 xs * ev 18446744073709551616 ys) 60 wa e w5 := by
    have e1 : prodV [⟨A, n, c, ev 18446744073709551616 xs⟩, ⟨B, m, d, ev 18446744073709551616 ys⟩] = ev 18446744073709551616 xs * ev 18446744073709551616 ys := by simp [prodV]
    rw [e1] at hq
    refine hq.cv ?_
    have h3 : ev 18446744073709551616 xs * ev 18446744073709551616 ys < 18446744073709551616 ^ n * 18446744073709551616 ^ m := Nat.mul_lt_mul'' Na.1.lt Na.2.lt
    rw [← Nat.pow_add] at h3
    exact Nat.lt_of_lt_of_le h3 (pow_big (by omega))
  obtain ⟨A5, n5, c5, rfl, p5, k5, b5⟩ := hq2
  have B5 := bupw Ba b5
  have P5 := p4.below (bupw ba b5)
  have X5 := X3.below (bupw (bupw b4 ba) b5)
  have Y5 := Y3.below (bupw (bupw b4 ba) b5)
  have N5 := nv B5
  clear hq la ea Na N3 X3 Y3 p4
  go_wp2_with fail
  refine (pow_yes (k := 1) N5.1 (by omega) (by omega) (above_words N5.1 30 1 (by omega) (Nat.le_refl _) (by omega))).mono ?_
  rintro e w6 ⟨A6, c6, rfl, g6⟩
  generalize cn 18446744073709551616 (ev 18446744073709551616 xs ^ 1) = z6 at g6 ⊢
  have b56 := g6.2
  have B6 := bupw B5 b56
  have N6 := nv B6
  go_wp2_with fail
  obtain ⟨wb, hwb⟩ : ∃ wb, wb = w6.alloc (.cells #[.slice B m d] 23) := ⟨_, rfl⟩
  have bb : Below w6.heap.size w6 wb := by rw [hwb]; exact (Below.refl _ _).alloc (Nat.le_refl _) _
  have Bb := bupw B6 bb
  have Nb := nv Bb
  have lb : LRow wb (some ⟨w6.heap.size, 0, none⟩) [⟨B, m, d, ev 18446744073709551616 ys⟩] := by rw [hwb]; exact lrow_one (r := ⟨B, m, d, ev 18446744073709551616 ys⟩)
  have eb : EntsOk wb.heap.size wb [⟨B, m, d, ev 18446744073709551616 ys⟩] := fun r hr => by
    simp only [List.mem_cons, List.not_mem_nil, or_false] at hr
    subst hr
    exact ent_old Nb.2
  rw [← hwb]
  clear hwb
  refine (product_calls (n := 1) (N := 60) lb (by rfl) eb (by omega) (by simp [wtV]; omega) (by omega)).mono ?_
  rintro e w7 ⟨A7, c7, rfl, g7⟩
  generalize cn 18446744073709551616 (prodV [⟨B, m, d, ev 18446744073709551616 ys⟩]) = z7 at g7 ⊢
  have b57 : Below w5.heap.size w5 w7 := bupw (bupw b56 bb) g7.2
  have M : Bmp w5 A6 A7 z6.length z7.length w7 :=
    ⟨b57, (Wr1.of_got g6 (Nat.le_refl _)).below (bupw bb g7.2), Wr1.of_got g7 (Nat.le_trans b56.size bb.size)⟩
  have m6 : z6.length ≤ 9223372036854775807 := Nat.le_trans g6.cap.1 (by have := g6.cap.2; unfold maxLen at this; omega)
  have m7 : z7.length ≤ 9223372036854775807 := Nat.le_trans g7.cap.1 (by have := g7.cap.2; unfold maxLen at this; omega)
  generalize z6.length = n6 at M m6 ⊢
  generalize z7.length = n7 at M m7 ⊢
  clear lb eb g6 g7 Nb N6 b56 bb B6 Bb b57
  go_wp2
  go_loopw [12] (fun i wr => ∃ q : Nat, q ≤ n6 ∧ i = .int .i64 q ∧ Bmp w5 A6 A7 n6 n7 wr) (fun i _ => n6 - (intOf i).toNat)
  case atStart => exact ⟨0, Nat.zero_le _, rfl, M⟩
  case round =>
    obtain ⟨q, hq, rfl, M1⟩ := hrel
    by_cases hlt : q < n6
    · obtain ⟨g, x, rfl, cc, cf, hg⟩ := M1.2.1.cell hlt
      go_wp2
      go_roundw
      case rel => exact ⟨q + 1, by omega, by go_num, M1.set hg _ _⟩
      case measure => simp [intOf]; omega
    · obtain rfl : q = n6 := by omega
      clear M
      go_wp2
      go_loopw [13] (fun i wr => ∃ t : Nat, t ≤ n7 ∧ i = .int .i64 t ∧ Bmp w5 A6 A7 q n7 wr) (fun i _ => n7 - (intOf i).toNat)
      case atStart => exact ⟨0, Nat.zero_le _, rfl, M1⟩
      case round =>
        clear M1
        obtain ⟨t, ht, rfl, M1⟩ := hrel
        by_cases hlt2 : t < n7
        · obtain ⟨g, x, rfl, cc, cf, hg⟩ := M1.2.2.cell hlt2
          go_wp2
          go_roundw
          case rel => exact ⟨t + 1, by omega, by go_num, M1.set hg _ _⟩
          case measure => simp [intOf]; omega
        · obtain rfl : t = n7 := by omega
          have bw : Below w5.heap.size w5 wr := M1.1
          have P6 := P5.below bw
          have p6 := p5.below bw
          have X6 := X5.below bw
          have Y6 := Y5.below bw
          have Bw := bupw B5 bw
          have hxw := hx.below Bw
          have hyw := hy.below Bw
          clear P5 p5 X5 Y5 N5 M1 bw
          go_wp2_with fail
          refine (same_v P6 p6 rfl).mono ?_
          rintro e w8 ⟨rfl, b8⟩
          have X8 := X6.below b8
          have Y8 := Y6.below b8
          have hx8 := hxw.below b8
          have hy8 := hyw.below b8
          have B8 := bupw Bw b8
          clear P6 p6 X6 Y6 hxw hyw
          go_wp2_with fail
          refine (same_calls _ _ _ _ _ _ xs xs _ hx8 X8 HX.out rfl (by omega) rfl).mono ?_
          rintro e w9 ⟨rfl, b9⟩
          have Y9 := Y8.below b9
          have hy9 := hy8.below b9
          have B9 := bupw B8 b9
          clear X8 Y8 hx8 hy8
          go_wp2_with fail
          refine (same_calls _ _ _ _ _ _ ys ys _ hy9 Y9 HY.out rfl (by omega) rfl).mono ?_
          rintro e w10 ⟨rfl, b10⟩
          have B10 := bupw B9 b10
          go_wp2
          go_ret
          exact ⟨rfl, B10⟩
theorem mown_calls (A B : Option Addr) (n m c d : Nat) (xs ys : List Nat) (w : World) (hx : Rd w .u64 A xs) (hy : Rd w .u64 B ys) (hxn : xs.length = n) (hyn : ys.length = m)
    (hc : n ≤ c) (hc' : c ≤ 9223372036854775807) (hd : m ≤ d) (hd' : d ≤ 9223372036854775807) (lx : Low 18446744073709551616 xs) (ly : Low 18446744073709551616 ys) :
    Calls Try.prog 8 #[.slice A n c, .slice B m d] w (TruePost w) := by
  by_cases h1 : (n : Int) ≤ 30
  · by_cases h2 : (m : Int) ≤ 30
    · exact mown_few A B n m c d xs ys w hx hy hxn hyn hc hc' hd hd' lx ly h1 h2
    · have hW := Below.refl w.heap.size w
      clear hxn hyn
      go_enter Try.func8, Try.ntmps8
      go_wp2_with fail
      refine (mawake_calls _).mono ?_
      rintro e w1 ⟨rfl, B1⟩
      replace hW := hW.trans (B1.mono hW.size)
      go_wp2_with fail
      refine (mawake_calls _).mono ?_
      rintro e w2 ⟨rfl, B2⟩
      replace hW := hW.trans (B2.mono hW.size)
      go_wp2
      go_ret
      exact ⟨rfl, hW⟩
  · have hW := Below.refl w.heap.size w
    clear hxn hyn
    go_enter Try.func8, Try.ntmps8
    go_wp2_with fail
    refine (mawake_calls _).mono ?_
    rintro e w1 ⟨rfl, B1⟩
    replace hW := hW.trans (B1.mono hW.size)
    go_wp2_with fail
    refine (mawake_calls _).mono ?_
    rintro e w2 ⟨rfl, B2⟩
    replace hW := hW.trans (B2.mono hW.size)
    go_wp2
    go_ret
    exact ⟨rfl, hW⟩
end Go.Proofs.Ythpohkklggabpaa
