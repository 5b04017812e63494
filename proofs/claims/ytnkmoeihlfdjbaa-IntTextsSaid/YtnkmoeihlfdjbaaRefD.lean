/-
  The reference of layer 4: numerals digit by digit.
-/
import Derived.Test.YtnkmoeihlfdjbaaE2
import Derived.Test.YtnkmoeihlfdjbaaRefC
import Derived.Test.YtnkmoeihlfdjbaaRefB
import Derived.Deep.RegionHeld3
/-! The reference's Parse. -/
namespace Go.Proofs.Ytnkmoeihlfdjbaa
open Go.RowKit
set_option linter.unusedVariables false

theorem hv_pre_lt {s : ByteArray} (hd : Dig (bys s)) {k : Nat} (hk : k < s.size) : hv ((bys s).take (k + 1)) < 10 ^ (k + 1) := by
  have h1 := hv_lt (hd.take (k + 1))
  rwa [List.length_take, Nat.min_eq_left (by rw [bys_length]; omega)] at h1
/-- A slice of one number that is built. -/
theorem blk_one {w : World} {t : TypeId} {K : IntKind} (x : Nat) : Blk (w.alloc (.cells #[.int K x] t)) w.heap.size t K [x] := heap_alloc_new w _
theorem dv_ten {w : World} {t : TypeId} : Dv (w.alloc (.cells #[.int .i64 10] t)) (some ⟨w.heap.size, 0, none⟩) 1 1 10 := by
  have e : cn 65536 10 = [10] := by decide
  exact ⟨by rw [e]; exact (blk_one (K := .i64) 10).rd0, by rw [e]; rfl, Nat.le_refl _, by omega⟩
/-- One digit, trimmed. -/
theorem dv_dig {w : World} {g x : Nat} {t : TypeId} (h : Blk w g t .i64 [x]) (hx : x < 65536) : Dv w (some ⟨g, 0, none⟩) (sl [x]) 1 x := by
  have e : [x].take (sl [x]) = cn 65536 x := by
    have := cn_ev 65536 (by omega) [x] (by intro k hk; simp at hk; subst hk; simpa [nth] using hx)
    rw [← this]; simp [ev]
  have e2 : sl [x] ≤ 1 := sl_le [x]
  refine ⟨by rw [← e]; exact h.rd0.take _, by rw [← e]; simp; omega, e2, by omega⟩
theorem rtrim_one {w : World} {g x : Nat} {t : TypeId} (h : Blk w g t .i64 [x]) :
    Calls Try.prog 80 #[.slice (some ⟨g, 0, none⟩) 1 1] w fun e w' => e = .returned (.slice (some ⟨g, 0, none⟩) (sl [x]) 1) ∧ w = w' :=
  rtrim_calls _ 1 1 [x] w h.rd0 rfl (Nat.le_refl _) (by omega)

theorem Blk.up {w w' : World} {g : Nat} {t : TypeId} {K : IntKind} {xs : List Nat} (h : Blk w g t K xs) (hb : Below w.heap.size w w') : Blk w' g t K xs := h.below hb h.lt
theorem blk_two {w : World} {o : Obj} {t : TypeId} {K : IntKind} (x : Nat) : Blk ((w.alloc o).alloc (.cells #[.int K x] t)) (w.heap.size + 1) t K [x] := by
  have := blk_one (w := w.alloc o) (t := t) (K := K) x
  simpa using this
theorem dv_ten2 {w : World} {o : Obj} {t : TypeId} : Dv ((w.alloc o).alloc (.cells #[.int .i64 10] t)) (some ⟨w.heap.size + 1, 0, none⟩) 1 1 10 := by
  have := dv_ten (w := w.alloc o) (t := t)
  simpa using this
theorem ba (w : World) (o : Obj) : Below w.heap.size w (w.alloc o) := (Below.refl _ _).alloc (Nat.le_refl _) o
theorem bd1 (w : World) (o : Obj) : Below w.heap.size w (w.alloc o).drew := bup' (ba w o) (below_drew _)
theorem bd2 (w : World) (o o' : Obj) : Below w.heap.size w ((w.alloc o).alloc o').drew := bup' (bup' (ba w o) (ba _ o')) (below_drew _)
theorem dvt1 {w : World} {t : TypeId} : Dv (w.alloc (.cells #[.int .i64 10] t)).drew (some ⟨w.heap.size, 0, none⟩) 1 1 10 := dv_ten.below (below_drew _)
theorem dvt2 {w : World} {o : Obj} {t : TypeId} : Dv ((w.alloc (.cells #[.int .i64 10] t)).alloc o).drew (some ⟨w.heap.size, 0, none⟩) 1 1 10 := (dv_ten.below (ba _ o)).below (below_drew _)
theorem dvt3 {w : World} {o : Obj} {t : TypeId} : Dv ((w.alloc o).alloc (.cells #[.int .i64 10] t)).drew (some ⟨w.heap.size + 1, 0, none⟩) 1 1 10 := dv_ten2.below (below_drew _)
theorem bk2 {w : World} {o : Obj} {t : TypeId} {x : Nat} : Blk ((w.alloc o).alloc (.cells #[.int .i64 x] t)).drew (w.heap.size + 1) t .i64 [x] := (blk_two x).drew
theorem bk3 {w : World} {o : Obj} {t : TypeId} {x : Nat} : Blk ((w.alloc (.cells #[.int .i64 x] t)).alloc o).drew w.heap.size t .i64 [x] := ((blk_one x).alloc o).drew

set_option maxHeartbeats 2000000 in
theorem rparse_calls (s : ByteArray) (hd : Dig (bys s)) (hs : s.size ≤ 20000) (w : World) :
    Calls Try.prog 76 #[.string s] w (DvPost (hv (bys s)) s.size w) := by
  go_enter Try.func76, Try.ntmps76
  go_wp2
  go_loopw [3, 4] (fun x i wr => ∃ (A : Option Addr) (n c k : Nat), k ≤ s.size ∧ i = .int .i64 k ∧ x = .slice A n c ∧ Dv wr A n c (hv ((bys s).take k)) ∧ n ≤ k ∧ Below w.heap.size w wr) (fun _ i _ => s.size - (intOf i).toNat)
  case atStart => exact ⟨none, 0, 0, 0, Nat.zero_le _, rfl, rfl, Dv.nil w, Nat.le_refl _, Below.refl _ _⟩
  case round =>
    obtain ⟨A, n, c, k, hk, rfl, rfl, hx, hn, hb⟩ := hrel
    by_cases hlt : k < s.size
    · obtain ⟨h1, h2, h3, h4⟩ := hv_pre hd hlt
      have h5 : hv ((bys s).take (k + 1)) < 65536 ^ (k + 1) := Nat.lt_of_lt_of_le (hv_pre_lt hd hlt) (Nat.pow_le_pow_left (by omega) _)
      have e := bys_at s hlt
      have H5 := Lib.hid h5
      have H2 := Lib.hid h2
      generalize hv ((bys s).take k) = X at *
      obtain ⟨d, hd1⟩ : ∃ d, nth (bys s) k = d + 48 := ⟨nth (bys s) k - 48, by omega⟩
      have hd10 : d < 10 := by omega
      rw [hd1] at e H2
      rw [Nat.add_sub_cancel] at H2
      have ez : IntKind.i64.wrap (IntKind.i64.wrap ((d : Int) + 48) - 48) = (d : Int) := by
        rw [IntWalk.i64_in ((d : Int) + 48) (by omega), show ((d : Int) + 48 - 48) = (d : Int) from by omega]; exact IntWalk.i64_in _ (by omega)
      have HB := Lib.hid hb
      clear h1 h2 h3 h4 h5 hd1 hb
      go_wp2_with fail
      go_region_held3 (fun _ => True) (exact trivial) (first
        | (go_at_call 59; refine (rmul_v (x := X) (y := 10) (hx.below (by first | exact bd1 _ _ | exact bd2 _ _ _)) (by first | exact dvt1 | exact dvt2 | exact dvt3) (by omega) (by omega)).mono ?_; rintro e w5 ⟨A5, n5, c5, rfl, p5, k5, B5⟩; have C5 := bup' (bup' HB.out (by first | exact bd1 _ _ | exact bd2 _ _ _)) B5)
        | (go_at_call 80; refine (rtrim_one (x := d) (by first | exact blk_one d | exact bk2.up B5 | exact bk3.up B5)).mono ?_; rintro e w' ⟨rfl, rfl⟩)
        | (go_at_call 55; refine (radd_v (x := X * 10) (y := d) (by first | exact p5 | exact p5.below (ba _ _)) (dv_dig (x := d) (by first | exact blk_one d | exact bk2.up B5 | exact bk3.up B5) (by omega)) (by omega) (by have := sl_le [d]; simp at this; omega)).mono ?_; rintro e w6 ⟨A6, n6, c6, rfl, p6, k6, B6⟩; have C6 := bup' (by first | exact C5 | exact bup' C5 (ba _ _)) B6))
      all_goals
        have q6 : Dv w6 A6 n6 c6 (hv ((bys s).take (k + 1))) := by
          have e6 : X * 10 + d = hv ((bys s).take (k + 1)) := by have := H2.out; omega
          rw [← e6]; exact p6
        have P6 := Lib.hid (And.intro q6 (And.intro (q6.len H5.out) C6))
        clear q6 p6 p5 C6 C5 B6 B5 k5 k6 ez hx e
        go_wp2
        go_roundw
        case rel => exact ⟨A6, n6, c6, k + 1, by omega, by go_num, rfl, P6.out.1, P6.out.2.1, P6.out.2.2⟩
        case measure => simp [intOf]; omega
    · have hks : k = s.size := by omega
      rw [bys_all s hks] at hx
      have P := Lib.hid (And.intro hx (And.intro (show n ≤ s.size by omega) hb))
      clear hx hb hks
      go_wp2
      go_ret
      exact ⟨A, n, c, rfl, P.out⟩
end Go.Proofs.Ytnkmoeihlfdjbaa
