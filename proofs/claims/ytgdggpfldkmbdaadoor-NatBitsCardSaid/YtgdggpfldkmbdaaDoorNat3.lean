/-
  Contract: nat.Add.
-/
import Derived.Test.YtgdggpfldkmbdaaDoorNat2
import Derived.Deep.DeepCutAuto
import Derived.Laws.Externs
namespace Go.Proofs.YtgdggpfldkmbdaaDoor
open Go.RowKit

theorem info_u64 : (Tryd.prog.info? 29).map (fun i => (i.zero, i.size, i.bytes)) = some (some (.int .u64 0), 1, 8) := by kernel_rfl

theorem add64_run (x y c : Nat) (hc : c ≤ 1) (w : World) :
    (callFunc 25 #[.int .u64 x, .int .u64 y, .int .u64 c]).run Tryd.prog w =
      .ok (.value (.tuple #[.int .u64 (((x + y + c) % 18446744073709551616 : Nat) : Int), .int .u64 (((x + y + c) / 18446744073709551616 : Nat) : Int)])) w := by
  rw [run_callFunc_extern Tryd.func25 (by kernel_rfl) (by kernel_rfl) (by kernel_rfl) (e := add64Entry) (by kernel_rfl), run_add64 x y c (by omega) (by omega) (by omega) (by omega)]
  simp only [Result.andThen]
  congr 5 <;> omega

theorem add64_run0 (x c : Nat) (hc : c ≤ 1) (w : World) :
    (callFunc 25 #[.int .u64 x, .int .u64 0, .int .u64 c]).run Tryd.prog w =
      .ok (.value (.tuple #[.int .u64 (((x + c) % 18446744073709551616 : Nat) : Int), .int .u64 (((x + c) / 18446744073709551616 : Nat) : Int)])) w :=
  add64_run x 0 c hc w

/-- What nat.Add answers. -/
def NatPost (v : Nat) (w : World) (e : Ending) (w' : World) : Prop :=
  ∃ A c, e = .returned (.slice A (cn 18446744073709551616 v).length c) ∧ Got w w' 29 .u64 A c (cn 18446744073709551616 v)

theorem nat_end {w w' : World} {g v n : Nat} {zs : List Nat} (hb : Blk w' g 29 .u64 zs) (hg : w.heap.size ≤ g) (hw : Below w.heap.size w w') (hn : zs.length = n) (hm : n ≤ 9223372036854775807) (hl : Low 18446744073709551616 zs) (hv : ev 18446744073709551616 zs = v) :
    NatPost v w (.returned (.slice (some ⟨g, 0, none⟩) (sl zs) n)) w' := by
  subst hn hv
  exact ⟨_, _, by rw [sl_len _ (by omega) hl], got_trim (by omega) hb hg hw hm hl⟩

/-- Behind the exchange: the longer one, and the shorter one. -/
def AddCut (w : World) (F : Nat → Nat → Prop) (va vb : Value) (wx : World) : Prop :=
  ∃ (A B : Option Addr) (c d : Nat) (xs ys : List Nat), va = .slice A xs.length c ∧ vb = .slice B ys.length d ∧ Rd w .u64 A xs ∧ Rd w .u64 B ys ∧ ys.length ≤ xs.length ∧ xs.length ≤ 1099511627776 ∧
    Low 18446744073709551616 xs ∧ Low 18446744073709551616 ys ∧ F (ev 18446744073709551616 xs) (ev 18446744073709551616 ys) ∧ wx = w

theorem AddCut.mk {w : World} {A B : Option Addr} {c d : Nat} {xs ys : List Nat} (hx : Rd w .u64 A xs) (hy : Rd w .u64 B ys) (h : sl ys ≤ sl xs) (hm : sl xs ≤ 1099511627776)
    (lx : Low 18446744073709551616 xs) (ly : Low 18446744073709551616 ys) {F : Nat → Nat → Prop} (hS : F (ev 18446744073709551616 xs) (ev 18446744073709551616 ys)) :
    AddCut w F (.slice A (sl xs) c) (.slice B (sl ys) d) w := by
  have ex : (xs.take (sl xs)).length = sl xs := by simp [Nat.min_eq_left (sl_le xs)]
  have ey : (ys.take (sl ys)).length = sl ys := by simp [Nat.min_eq_left (sl_le ys)]
  exact ⟨A, B, c, d, xs.take (sl xs), ys.take (sl ys), by rw [ex], by rw [ey], hx.take _, hy.take _, by rw [ex, ey]; exact h, by rw [ex]; exact hm, lx.take _, ly.take _, by rw [ev_take_sl, ev_take_sl]; exact hS, rfl⟩

/-- The loops of nat.Add: k words are done. -/
def AddRel (w : World) (xs ys : List Nat) (n k : Nat) (s : Value) (wr : World) : Prop :=
  ∃ (c r : Nat) (zs : List Nat), Adding 18446744073709551616 xs ys zs k c ∧ s = .int .u64 c ∧ k + r = n ∧ Blk wr w.heap.size 29 .u64 (zs ++ List.replicate (r + 1) 0) ∧ Below w.heap.size w wr

theorem AddRel.next {w wr : World} {xs ys zs : List Nat} {n k c r : Nat} {s : Value} (lx : Low 18446744073709551616 xs) (ly : Low 18446744073709551616 ys) (ha : Adding 18446744073709551616 xs ys zs k c)
    (hn : k + (r + 1) = n) (hb : Blk wr w.heap.size 29 .u64 (zs ++ List.replicate (r + 1 + 1) 0)) (hw : Below w.heap.size w wr)
    (hs : s = .int .u64 (((nth xs k + nth ys k + c) / 18446744073709551616 : Nat) : Int)) :
    AddRel w xs ys n (k + 1) s (wr.setCell ⟨w.heap.size, k, none⟩ (.int .u64 (((nth xs k + nth ys k + c) % 18446744073709551616 : Nat) : Int))) := by
  have h := hb.set zs.length ((nth xs k + nth ys k + c) % 18446744073709551616)
  rw [set_end, ha.1] at h
  exact ⟨_, r, _, ha.step (by omega) lx ly, hs, by omega, h, hw.setCell (Nat.le_refl _) _⟩

set_option maxHeartbeats 400000 in
theorem add_calls (A B : Option Addr) (n m c d : Nat) (xs ys : List Nat) (w : World) (hx : Rd w .u64 A xs) (hy : Rd w .u64 B ys) (hxn : xs.length = n) (hyn : ys.length = m)
    (hc : n ≤ c) (hc' : c ≤ 9223372036854775807) (hd : m ≤ d) (hd' : d ≤ 9223372036854775807) (lx : Low 18446744073709551616 xs) (ly : Low 18446744073709551616 ys)
    (bx : n ≤ 1099511627776) (bY : m ≤ 1099511627776) :
    Calls Tryd.prog 16 #[.slice A n c, .slice B m d] w (NatPost (ev 18446744073709551616 xs + ev 18446744073709551616 ys) w) := by
  have sx : sl xs ≤ n := hxn ▸ sl_le xs
  have sy : sl ys ≤ m := hyn ▸ sl_le ys
  have HX := Lib.hid hxn
  have HY := Lib.hid hyn
  clear hxn hyn
  go_enter Tryd.func16, Tryd.ntmps16
  go_wp2_with fail
  refine (trim_calls _ _ _ xs _ hx HX.out (by omega) (by omega)).mono ?_
  rintro e w' ⟨rfl, rfl⟩
  go_wp2_with fail
  refine (trim_calls _ _ _ ys _ hy HY.out (by omega) (by omega)).mono ?_
  rintro e w' ⟨rfl, rfl⟩
  go_upto_if 18 with fail
  go_cut [0, 1] (AddCut w (fun x y => x + y = ev 18446744073709551616 xs + ev 18446744073709551616 ys))
  case first =>
    by_cases h : sl xs < sl ys
    · go_wp2
      go_meet
      exact AddCut.mk hy hx (by omega) (by omega) ly lx (Nat.add_comm _ _)
    · go_wp2
      go_meet
      exact AddCut.mk hx hy (by omega) (by omega) lx ly rfl
  case rest =>
    clear hx hy lx ly sx sy HX HY hc hc' hd hd' bx bY
    obtain ⟨A, B, c, d, xs, ys, rfl, rfl, hx, hy, hle, hmx, lx, ly, hS, rfl⟩ := hcut
    have HS := Lib.hid hS
    clear hS
    go_wp2_with (at_make; refine wpList_make_blk _ rfl _ _ 23 rfl 29 .u64 8 Tryd.underlying23 info_u64 _ _ _ _ (xs.length + 1) rfl rfl (by omega) (by omega) (by omega) (by omega) ?_)
    intro w1 hb1 hw1 hz1
    have HZ := Lib.hid hz1
    clear hz1
    go_wp2
    go_loopw [6, 27] (fun s i wr => ∃ k : Nat, k ≤ ys.length ∧ i = .int .i64 k ∧ AddRel wc xs ys xs.length k s wr) (fun _ i _ => ys.length - (intOf i).toNat)
    case atStart => exact ⟨0, Nat.zero_le _, rfl, 0, xs.length, [], Adding.start _ _ _, rfl, by omega, hb1, hw1⟩
    case round =>
      obtain ⟨k, hk, rfl, cr, r, zs, ha, rfl, hkr, hb, hw⟩ := hrel
      by_cases hlt : k < ys.length
      · obtain ⟨r, rfl⟩ : ∃ q, r = q + 1 := ⟨r - 1, by omega⟩
        obtain ⟨ad, rfl, _, c1⟩ := (hx.below hw).at (k := k) (by omega)
        obtain ⟨ae, rfl, _, c2⟩ := (hy.below hw).at (k := k) hlt
        have cs := hb.cell (j := k) (by simp [ha.1])
        have cf := hb.free k
        have hadd := add64_run (nth xs k) (nth ys k) cr ha.2.2.1
        have HA := Lib.hid ha
        have HK := Lib.hid hkr
        clear ha hkr
        go_wp2_with fail
        go_roundw
        case rel => exact ⟨k + 1, by omega, by go_num, AddRel.next lx ly HA.out HK.out hb hw rfl⟩
        case measure => simp [intOf]; omega
      · obtain rfl : k = ys.length := by omega
        clear hlt
        go_wp2
        go_loopw [6, 9] (fun s i wr => ∃ k : Nat, ys.length ≤ k ∧ k ≤ xs.length ∧ i = .int .i64 k ∧ AddRel wc xs ys xs.length k s wr) (fun _ i _ => xs.length - (intOf i).toNat)
        case atStart => exact ⟨ys.length, Nat.le_refl _, by omega, rfl, cr, r, zs, ha, rfl, hkr, hb, hw⟩
        case round =>
          clear ha hkr hb hw
          obtain ⟨k, hk0, hk, rfl, cr, r, zs, ha, rfl, hkr, hb, hw⟩ := hrel
          by_cases hlt : k < xs.length
          · obtain ⟨r, rfl⟩ : ∃ q, r = q + 1 := ⟨r - 1, by omega⟩
            obtain ⟨ad, rfl, _, c1⟩ := (hx.below hw).at (k := k) (by omega)
            have cs := hb.cell (j := k) (by simp [ha.1])
            have cf := hb.free k
            have hadd := add64_run0 (nth xs k) cr ha.2.2.1
            have h0 : nth ys k = 0 := nth_ge hk0
            have HA := Lib.hid ha
            have HK := Lib.hid hkr
            have H0 := Lib.hid h0
            clear ha hkr h0
            go_wp2_with fail
            go_roundw
            case rel =>
              have hn := AddRel.next (s := .int .u64 (((nth xs k + nth ys k + cr) / 18446744073709551616 : Nat) : Int)) lx ly HA.out HK.out hb hw rfl
              rw [H0.out, Nat.add_zero] at hn
              exact ⟨k + 1, by omega, by omega, by go_num, hn⟩
            case measure => simp [intOf]; omega
          · obtain rfl : k = xs.length := by omega
            obtain rfl : r = 0 := by omega
            have cs := hb.cell (j := xs.length) (by simp [ha.1])
            have cf := hb.free xs.length
            have hb2 := hb.set zs.length cr
            rw [set_end, ha.1] at hb2
            obtain ⟨s1, s2, s3⟩ := ha.stop (by omega) (Nat.le_refl _) hk0
            have S2 := Lib.hid s2
            have S3 := Lib.hid s3
            clear s2 s3 ha hkr hlt hb
            go_wp2_with fail
            simp only [List.replicate_zero, List.append_nil] at hb2
            refine (trim_calls _ _ _ (zs ++ [cr]) _ hb2.rd0 S3.out (Nat.le_refl _) (by omega)).mono ?_
            rintro e w' ⟨rfl, rfl⟩
            go_wp2
            go_ret
            exact nat_end hb2 (Nat.le_refl _) (hw.setCell (Nat.le_refl _) _) S3.out (by omega) s1 (S2.out.trans HS.out)
end Go.Proofs.YtgdggpfldkmbdaaDoor
