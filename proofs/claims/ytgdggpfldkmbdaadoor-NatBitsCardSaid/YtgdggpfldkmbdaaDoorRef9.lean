/-
  The reference of layer 1: Half.
-/
import Derived.Test.YtgdggpfldkmbdaaDoorRef8
namespace Go.Proofs.YtgdggpfldkmbdaaDoor
open Go.RowKit

theorem half_drop {xs : List Nat} (lx : Low 65536 xs) {s : Nat} (hs : s ≤ xs.length) (t : Nat) : ev 65536 (xs.drop s) / 2 ^ t = ev 65536 xs / 2 ^ (16 * s + t) := by
  rw [pow16, ← Nat.div_div_eq_div_mul]
  congr 1
  rw [ev_split 65536 xs s hs, Nat.add_mul_div_left _ _ (Nat.pow_pos (by omega)), Nat.div_eq_of_lt (pre_lt lx (by omega) s), Nat.zero_add]

set_option maxHeartbeats 1000000 in
theorem rhalf_calls (A : Option Addr) (n c k s u : Nat) (xs : List Nat) (w : World) (hr : Rd w .i64 A xs) (hn : xs.length = n) (hc : n ≤ c) (bn : n ≤ 1099511627776) (lx : Low 65536 xs) (hk : k ≤ 9223372036854775807) (hs : (k : Int) / 16 = (s : Int)) (hu : (k : Int) % 16 = (u : Int)) :
    Calls Tryd.prog 9 #[.slice A n c, .int .i64 k] w (DgPost (ev 65536 xs / 2 ^ k) w) := by
  have HN := Lib.hid hn
  have hk2 : k = 16 * s + u := by omega
  have hu2 : u < 16 := by omega
  have HK2 := Lib.hid hk2
  by_cases h0 : n ≤ s
  · have e1 : ev 65536 xs / 2 ^ k = 0 := by
      have h1 := ev_lt lx
      have h2 := pow_dig (hn ▸ h0)
      rw [hk2, pow16, ← Nat.div_div_eq_div_mul, Nat.div_eq_of_lt (Nat.lt_of_lt_of_le h1 h2), Nat.zero_div]
    have E1 := Lib.hid e1
    clear hn hk2 e1
    go_enter Tryd.func9, Tryd.ntmps9
    go_wp2
    go_ret
    refine ⟨none, 0, by rw [E1.out]; rfl, ?_⟩
    rw [E1.out]
    exact Got.nil _ _ _
  · have h1 : s < n := by omega
    obtain ⟨ad, rfl, _, _⟩ := hr.at (k := s) (by omega)
    obtain ⟨m, hm⟩ : ∃ m, m = n - s := ⟨_, rfl⟩
    have hm' : (n : Int) - (s : Int) = (m : Int) := by omega
    have hcs : ¬ c = s := by omega
    have hrd : Rd w .i64 (some (ad.add s)) (xs.drop s) := hr.drop s
    have hdl : (xs.drop s).length = n - s := by simp [hn]
    have HDL := Lib.hid hdl
    have he0 := half_drop lx (s := s) (by omega) 0
    have HE := Lib.hid he0
    have hle : s ≤ xs.length := by omega
    clear hn hk2 h0 hdl he0 hm hm'
    go_enter Tryd.func9, Tryd.ntmps9
    go_wp2_with (at_builtin; refine wpList_appm w w rfl _ _ _ rfl 3 .i64 Tryd.underlying25 info_i64 _ [] (by rfl) (OwnV.nil _ _ _) _ (n - s) _ (xs.drop s) hrd HDL.out (by rfl) (by simp; omega) ?_)
    intro v1 w1 ho1
    have hrow : Row w w1 v1 (ev 65536 xs / 2 ^ (16 * s + 0)) n := ⟨xs.drop s, ho1, lx.drop s, by rw [← HE.out]; simp, by rw [HDL.out]; omega⟩
    have HR := Lib.hid hrow
    clear ho1 hrow
    go_wp2
    go_loopw [5, 6] (fun v i wr => ∃ t : Nat, t ≤ u ∧ i = .int .i64 t ∧ Row w wr v (ev 65536 xs / 2 ^ (16 * s + t)) n) (fun _ i _ => u - (intOf i).toNat)
    case atStart => exact ⟨0, Nat.zero_le _, rfl, HR.out⟩
    case round =>
      obtain ⟨t, ht, rfl, zs, ho, lz, hz, hzl⟩ := hrel
      by_cases hlt2 : t < u
      · obtain ⟨A2, c2, rfl, hg⟩ := ho.form
        have HZ := Lib.hid hz
        clear hz
        go_wp2_with fail
        refine (half_calls _ _ _ zs _ hg.rd rfl (by omega) lz).mono ?_
        rintro e w2 ⟨A3, c3, ys, rfl, hg3, hyl, ly, hy⟩
        have hrow : Row w w2 (.slice A3 ys.length c3) (ev 65536 xs / 2 ^ (16 * s + (t + 1))) n :=
          ⟨ys, OwnV.of_got hg3 hg.2, ly, by rw [hy, HZ.out, Nat.div_div_eq_div_mul, ← Nat.pow_succ]; rfl, by omega⟩
        have HR2 := Lib.hid hrow
        clear hrow hy hyl
        go_wp2
        go_roundw
        case rel => exact ⟨t + 1, by omega, by go_num, HR2.out⟩
        case measure => simp [intOf]; omega
      · obtain rfl : t = u := by omega
        have hx2 : ev 65536 zs = ev 65536 xs / 2 ^ k := by rw [hz, HK2.out]
        have HX2 := Lib.hid hx2
        clear hx2 hz hlt2
        go_wp2_with fail
        refine (rtrim_end ho lz HX2.out).mono ?_
        rintro e w' ⟨⟨A1, c1, rfl, hg⟩, rfl⟩
        go_wp2
        go_ret
        exact ⟨A1, c1, rfl, hg⟩
end Go.Proofs.YtgdggpfldkmbdaaDoor
