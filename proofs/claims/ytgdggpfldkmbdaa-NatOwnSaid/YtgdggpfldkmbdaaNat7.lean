/-
  Contract: nat.Sub.
-/
import Derived.Test.YtgdggpfldkmbdaaNat6
import Derived.Shelf.Spec.BitsCarry
namespace Go.Proofs.Ytgdggpfldkmbdaa
open Go.RowKit

theorem sub64_run (x y c : Nat) (hc : c ≤ 1) (w : World) :
    (callFunc 31 #[.int .u64 x, .int .u64 y, .int .u64 c]).run Try.prog w =
      .ok (.value (.tuple #[.int .u64 (((x + 18446744073709551616 - y - c) % 18446744073709551616 : Nat) : Int), .int .u64 ((if x < y + c then 1 else 0 : Nat) : Int)])) w := by
  rw [run_callFunc_extern Try.func31 (by kernel_rfl) (by kernel_rfl) (by kernel_rfl) (e := sub64Entry) (by kernel_rfl), run_sub64 x y c hc]
  rfl
theorem sub64_pair (x y c : Nat) (hx : x < 18446744073709551616) (hy : y < 18446744073709551616) (hc : c ≤ 1) :
    ∃ s o : Nat, (∀ w, (callFunc 31 #[.int .u64 x, .int .u64 y, .int .u64 c]).run Try.prog w = .ok (.value (.tuple #[.int .u64 (s : Int), .int .u64 (o : Int)])) w) ∧
      s + y + c = x + 18446744073709551616 * o ∧ s < 18446744073709551616 ∧ o ≤ 1 := by
  refine ⟨_, _, sub64_run x y c hc, ?_, by omega, ?_⟩ <;> split <;> omega
theorem sub64_pair0 (x c : Nat) (hx : x < 18446744073709551616) (hc : c ≤ 1) :
    ∃ s o : Nat, (∀ w, (callFunc 31 #[.int .u64 x, .int .u64 0, .int .u64 c]).run Try.prog w = .ok (.value (.tuple #[.int .u64 (s : Int), .int .u64 (o : Int)])) w) ∧
      s + 0 + c = x + 18446744073709551616 * o ∧ s < 18446744073709551616 ∧ o ≤ 1 :=
  sub64_pair x 0 c hx (by omega) hc

/-- What nat.Sub answers: the difference and true, or nothing and false. -/
def SubPost (x y : Nat) (w : World) (e : Ending) (w' : World) : Prop :=
  ∃ A c zs, e = .returned (.tuple #[.slice A (List.length zs) c, .bool (decide (y ≤ x))]) ∧ Got w w' 37 .u64 A c zs ∧ zs = if y ≤ x then cn 18446744073709551616 (x - y) else []
theorem SubPost.no {x y : Nat} {w w' : World} (h : x < y) (hb : Below w.heap.size w w') : SubPost x y w (.returned (.tuple #[.slice none 0 0, .bool false])) w' :=
  ⟨none, 0, [], by rw [decide_eq_false (by omega)]; rfl, Got.nil' _ _ hb, by rw [if_neg (by omega)]⟩
theorem SubPost.yes {x y g n : Nat} {w w' : World} {zs : List Nat} (h : y ≤ x ∧ ev 18446744073709551616 zs = x - y) (hb : Blk w' g 37 .u64 zs) (hg : w.heap.size ≤ g) (hw : Below w.heap.size w w') (hn : zs.length = n) (hm : n ≤ 9223372036854775807)
    (hl : Low 18446744073709551616 zs) : SubPost x y w (.returned (.tuple #[.slice (some ⟨g, 0, none⟩) (sl zs) n, .bool true])) w' := by
  subst hn
  refine ⟨_, _, cn 18446744073709551616 (x - y), ?_, h.2 ▸ got_trim (by omega) hb hg hw hm hl, by rw [if_pos h.1]⟩
  rw [decide_eq_true h.1, sl_len _ (by omega) hl, h.2]

/-- The loops of nat.Sub: k words are done. -/
def SubRel (w : World) (xs ys : List Nat) (n k : Nat) (s : Value) (wr : World) : Prop :=
  ∃ (c r : Nat) (zs : List Nat), Subbing 18446744073709551616 xs ys zs k c ∧ s = .int .u64 c ∧ k + r = n ∧ Blk wr w.heap.size 37 .u64 (zs ++ List.replicate r 0) ∧ Below w.heap.size w wr
theorem SubRel.next {w wr : World} {xs ys zs : List Nat} {n k c r d c' : Nat} {s : Value} (ha : Subbing 18446744073709551616 xs ys zs k c)
    (hn : k + (r + 1) = n) (hb : Blk wr w.heap.size 37 .u64 (zs ++ List.replicate (r + 1) 0)) (hw : Below w.heap.size w wr)
    (hd : d < 18446744073709551616) (hc : c' ≤ 1) (he : d + nth ys k + c = nth xs k + 18446744073709551616 * c') (hs : s = .int .u64 (c' : Int)) :
    SubRel w xs ys n (k + 1) s (wr.setCell ⟨w.heap.size, k, none⟩ (.int .u64 (d : Int))) := by
  have h := hb.set zs.length d
  rw [set_end, ha.1] at h
  exact ⟨_, r, _, ha.step hd hc he, hs, by omega, h, hw.setCell (Nat.le_refl _) _⟩

set_option maxHeartbeats 400000 in
theorem sub_calls (A B : Option Addr) (n m c d : Nat) (xs ys : List Nat) (w : World) (hx : Rd w .u64 A xs) (hy : Rd w .u64 B ys) (hxn : xs.length = n) (hyn : ys.length = m)
    (hc : n ≤ c) (hc' : c ≤ 9223372036854775807) (hd : m ≤ d) (hd' : d ≤ 9223372036854775807) (lx : Low 18446744073709551616 xs) (ly : Low 18446744073709551616 ys)
    (bx : n ≤ 1099511627776) :
    Calls Try.prog 13 #[.slice A n c, .slice B m d] w (SubPost (ev 18446744073709551616 xs) (ev 18446744073709551616 ys) w) := by
  have sx : sl xs ≤ n := hxn ▸ sl_le xs
  have sy : sl ys ≤ m := hyn ▸ sl_le ys
  have HX := Lib.hid hxn
  have HY := Lib.hid hyn
  clear hxn hyn
  by_cases h : sl xs < sl ys
  · have e := cmp_len (by omega) lx ly h
    have E := Lib.hid e
    clear e
    go_enter Try.func13, Try.ntmps13
    go_wp2_with fail
    refine (trim_calls _ _ _ xs _ hx HX.out (by omega) (by omega)).mono ?_
    rintro e w' ⟨rfl, rfl⟩
    go_wp2_with fail
    refine (trim_calls _ _ _ ys _ hy HY.out (by omega) (by omega)).mono ?_
    rintro e w' ⟨rfl, rfl⟩
    go_wp2
    go_ret2
    exact SubPost.no E.out (Below.refl _ _)
  · rw [← ev_take_sl _ xs, ← ev_take_sl _ ys]
    obtain ⟨us, hus⟩ : ∃ us, us = xs.take (sl xs) := ⟨_, rfl⟩
    obtain ⟨vs, hvs⟩ : ∃ vs, vs = ys.take (sl ys) := ⟨_, rfl⟩
    have hux : Rd w .u64 A us := hus ▸ hx.take _
    have hvy : Rd w .u64 B vs := hvs ▸ hy.take _
    have lu : Low 18446744073709551616 us := hus ▸ lx.take _
    have lv : Low 18446744073709551616 vs := hvs ▸ ly.take _
    have eu : sl xs = us.length := by rw [hus]; simp [Nat.min_eq_left (sl_le xs)]
    have el : sl ys = vs.length := by rw [hvs]; simp [Nat.min_eq_left (sl_le ys)]
    rw [← hus, ← hvs]
    have hle : vs.length ≤ us.length := by omega
    have hmx : us.length ≤ 1099511627776 := by omega
    have EU := Lib.hid eu
    have EL := Lib.hid el
    clear hus hvs eu el h
    go_enter Try.func13, Try.ntmps13
    go_wp2_with fail
    refine (trim_calls _ _ _ xs _ hx HX.out (by omega) (by omega)).mono ?_
    rintro e w' ⟨rfl, rfl⟩
    go_wp2_with fail
    refine (trim_calls _ _ _ ys _ hy HY.out (by omega) (by omega)).mono ?_
    rintro e w' ⟨rfl, rfl⟩
    rw [EU.out, EL.out]
    clear hx hy lx ly sx sy HX HY hc hc' hd hd' bx EU EL
    go_wp2_with (at_make; refine wpList_make_blk _ rfl _ _ 23 rfl 37 .u64 8 Try.underlying23 info_u64 _ _ _ _ us.length rfl rfl (by omega) (by omega) (by omega) (by omega) ?_)
    intro w1 hb1 hw1 hz1
    have HZ := Lib.hid hz1
    clear hz1
    go_wp2
    go_loopw [7, 25] (fun s i wr => ∃ k : Nat, k ≤ vs.length ∧ i = .int .i64 k ∧ SubRel w us vs us.length k s wr) (fun _ i _ => vs.length - (intOf i).toNat)
    case atStart => exact ⟨0, Nat.zero_le _, rfl, 0, us.length, [], Subbing.start _ _ _, rfl, by omega, hb1, hw1⟩
    case round =>
      obtain ⟨k, hk, rfl, cr, r, zs, ha, rfl, hkr, hb, hw⟩ := hrel
      by_cases hlt : k < vs.length
      · obtain ⟨r, rfl⟩ : ∃ q, r = q + 1 := ⟨r - 1, by omega⟩
        obtain ⟨ad, rfl, _, c1⟩ := (hux.below hw).at (k := k) (by omega)
        obtain ⟨ae, rfl, _, c2⟩ := (hvy.below hw).at (k := k) hlt
        have cs := hb.cell (j := k) (by simp [ha.1])
        have cf := hb.free k
        obtain ⟨s1, o1, f1, f2, f3, f4⟩ := sub64_pair (nth us k) (nth vs k) cr (lu.any (by omega) k) (lv.any (by omega) k) ha.2.2.1
        have HA := Lib.hid ha
        have HK := Lib.hid hkr
        have F2 := Lib.hid f2
        clear ha hkr f2
        go_wp2_with fail
        go_roundw
        case rel => exact ⟨k + 1, by omega, by go_num, SubRel.next HA.out HK.out hb hw f3 f4 F2.out rfl⟩
        case measure => simp [intOf]; omega
      · obtain rfl : k = vs.length := by omega
        clear hlt
        go_wp2
        go_loopw [7, 10] (fun s i wr => ∃ k : Nat, vs.length ≤ k ∧ k ≤ us.length ∧ i = .int .i64 k ∧ SubRel w us vs us.length k s wr) (fun _ i _ => us.length - (intOf i).toNat)
        case atStart => exact ⟨vs.length, Nat.le_refl _, by omega, rfl, cr, r, zs, ha, rfl, hkr, hb, hw⟩
        case round =>
          clear ha hkr hb hw
          obtain ⟨k, hk0, hk, rfl, cr, r, zs, ha, rfl, hkr, hb, hw⟩ := hrel
          by_cases hlt : k < us.length
          · obtain ⟨r, rfl⟩ : ∃ q, r = q + 1 := ⟨r - 1, by omega⟩
            obtain ⟨ad, rfl, _, c1⟩ := (hux.below hw).at (k := k) (by omega)
            have cs := hb.cell (j := k) (by simp [ha.1])
            have cf := hb.free k
            obtain ⟨s1, o1, f1, f2, f3, f4⟩ := sub64_pair0 (nth us k) cr (lu.any (by omega) k) ha.2.2.1
            have h0 : nth vs k = 0 := nth_ge hk0
            rw [← h0] at f2
            have HA := Lib.hid ha
            have HK := Lib.hid hkr
            have F2 := Lib.hid f2
            clear ha hkr f2 h0
            go_wp2_with fail
            go_roundw
            case rel => exact ⟨k + 1, by omega, by omega, by go_num, SubRel.next HA.out HK.out hb hw f3 f4 F2.out rfl⟩
            case measure => simp [intOf]; omega
          · obtain rfl : k = us.length := by omega
            obtain rfl : r = 0 := by omega
            simp only [List.replicate_zero, List.append_nil] at hb
            rcases Nat.eq_zero_or_pos cr with rfl | hpos
            · have hf := ha.fits (Nat.le_refl _) hk0
              have HF := Lib.hid hf
              have hn := ha.1
              have HN := Lib.hid hn
              have lz := ha.2.1
              clear ha hkr hlt hf hn
              go_wp2_with fail
              refine (trim_calls _ _ _ zs _ hb.rd0 HN.out (Nat.le_refl _) (by omega)).mono ?_
              rintro e w' ⟨rfl, rfl⟩
              go_wp2
              go_ret2
              exact SubPost.yes HF.out hb (Nat.le_refl _) hw HN.out (by omega) lz
            · obtain rfl : cr = 1 := by have := ha.2.2.1; omega
              have hf := ha.lacks (Nat.le_refl _) hk0
              have HF := Lib.hid hf
              clear ha hkr hlt hf hpos
              go_wp2
              go_ret2
              exact SubPost.no HF.out hw
end Go.Proofs.Ytgdggpfldkmbdaa
