/-
  Contract: nat.Shr.
-/
import Derived.Test.YtgdggpfldkmbdaaNat10
namespace Go.Proofs.Ytgdggpfldkmbdaa
open Go.RowKit

/-- The word that is left at place j, of a number shifted down by 64 s + u. -/
def dnw (xs : List Nat) (s u j : Nat) : Nat := nth xs (s + j) / 2 ^ u + (nth xs (s + j + 1) * 2 ^ (64 - u)) % 18446744073709551616
/-- The words of a number shifted down. -/
def dn (xs : List Nat) (s u : Nat) : List Nat := (List.range (xs.length - s)).map (dnw xs s u)
theorem dn_length (xs : List Nat) (s u : Nat) : (dn xs s u).length = xs.length - s := by simp [dn]
theorem dn_nth {xs : List Nat} {s u j : Nat} (h : j < xs.length - s) : nth (dn xs s u) j = dnw xs s u j := by simp [dn, nth, List.getD, h]
theorem split_word (u : Nat) (hu : u < 64) : (18446744073709551616 : Nat) = 2 ^ u * 2 ^ (64 - u) := by rw [← Nat.pow_add, Nat.add_sub_cancel' (by omega)]
/-- One word shifted down: what comes from the word above. -/
theorem dn_word {x y u : Nat} (hx : x < 18446744073709551616) (hu : u < 64) :
    (x / 2 ^ u ||| (y * 2 ^ (64 - u)) % 18446744073709551616) = x / 2 ^ u + (y * 2 ^ (64 - u)) % 18446744073709551616 ∧ x / 2 ^ u + (y * 2 ^ (64 - u)) % 18446744073709551616 < 18446744073709551616 ∧
    (y * 2 ^ (64 - u)) % 18446744073709551616 = (y % 2 ^ u) * 2 ^ (64 - u) ∧ x / 2 ^ u < 18446744073709551616 := by
  have e := split_word u hu
  have hp : 0 < 2 ^ u := Nat.pow_pos (by omega)
  have e1 : (y * 2 ^ (64 - u)) % 18446744073709551616 = (y % 2 ^ u) * 2 ^ (64 - u) := by rw [e, Nat.mul_mod_mul_right]
  have e2 : x / 2 ^ u < 2 ^ (64 - u) := (Nat.div_lt_iff_lt_mul hp).2 (by rw [Nat.mul_comm, ← e]; exact hx)
  have e3 : y % 2 ^ u < 2 ^ u := Nat.mod_lt _ hp
  have e4 : x / 2 ^ u ≤ x := Nat.div_le_self _ _
  rw [e1]
  refine ⟨?_, ?_, rfl, by omega⟩
  · rw [Nat.or_comm, Nat.mul_comm, Nat.add_comm, Nat.two_pow_add_eq_or_of_lt e2]
  · have : (y % 2 ^ u + 1) * 2 ^ (64 - u) ≤ 2 ^ u * 2 ^ (64 - u) := Nat.mul_le_mul_right _ e3
    rw [Nat.add_mul, Nat.one_mul, ← e] at this
    omega
theorem dn_low {xs : List Nat} (lx : Low 18446744073709551616 xs) {s u : Nat} (hu : u < 64) : Low 18446744073709551616 (dn xs s u) := fun j hj => by
  rw [dn_length] at hj
  rw [dn_nth hj]
  exact (dn_word (lx.any (by omega) _) hu).2.1
theorem dn_pre {xs : List Nat} (lx : Low 18446744073709551616 xs) {s u : Nat} (hu : u < 64) : ∀ k, k ≤ xs.length - s →
    pre 18446744073709551616 (dn xs s u) k * 2 ^ u + nth xs s % 2 ^ u = pre 18446744073709551616 (xs.drop s) k + 18446744073709551616 ^ k * (nth xs (s + k) % 2 ^ u) := by
  intro k
  induction k with
  | zero => intro _; simp [pre_zero]
  | succ k ih =>
    intro hk
    have h1 := ih (by omega)
    obtain ⟨_, _, h2, _⟩ := dn_word (x := nth xs (s + k)) (y := nth xs (s + k + 1)) (lx.any (by omega) _) hu
    have h3 := Nat.mod_add_div (nth xs (s + k)) (2 ^ u)
    have e := split_word u hu
    rw [pre_succ, pre_succ, dn_nth (by omega), nth_drop, Nat.pow_succ]
    unfold dnw
    rw [h2, ← Nat.add_assoc s k 1]
    generalize nth xs (s + k + 1) % 2 ^ u = r1 at *
    generalize nth xs (s + k) / 2 ^ u = q at *
    generalize nth xs (s + k) % 2 ^ u = r0 at *
    generalize nth xs s % 2 ^ u = rr at *
    rw [← h3]
    generalize (18446744073709551616 : Nat) ^ k = p at *
    generalize (2 : Nat) ^ (64 - u) = v at *
    generalize (18446744073709551616 : Nat) = b at *
    generalize (2 : Nat) ^ u = t at *
    subst e
    grind
theorem dn_ev {xs : List Nat} (lx : Low 18446744073709551616 xs) {s u : Nat} (hu : u < 64) (hs : s ≤ xs.length) : ev 18446744073709551616 (dn xs s u) = ev 18446744073709551616 xs / 2 ^ (64 * s + u) := by
  have h := dn_pre lx hu (xs.length - s) (Nat.le_refl _)
  rw [show s + (xs.length - s) = xs.length from by omega, nth_ge (Nat.le_refl _), Nat.zero_mod, Nat.mul_zero, Nat.add_zero] at h
  rw [pre_ge _ (by rw [dn_length]; exact Nat.le_refl _), pre_ge _ (by simp)] at h
  have e1 := ev_split 18446744073709551616 xs s hs
  have e2 := pre_lt lx (by omega) s
  have hp : 0 < 2 ^ u := Nat.pow_pos (by omega)
  have e3 : nth xs s % 2 ^ u < 2 ^ u := Nat.mod_lt _ hp
  rw [two_word, ← Nat.div_div_eq_div_mul]
  have e4 : ev 18446744073709551616 xs / 18446744073709551616 ^ s = ev 18446744073709551616 (xs.drop s) := by
    rw [e1, Nat.add_mul_div_left _ _ (Nat.pow_pos (by omega)), Nat.div_eq_of_lt e2, Nat.zero_add]
  rw [e4, ← h, Nat.mul_comm, Nat.mul_add_div hp, Nat.div_eq_of_lt e3, Nat.add_zero]

theorem set_back (L : List Nat) (t : Nat) (ht : t < L.length) : (List.replicate (t + 1) 0 ++ L.drop (t + 1)).set t (nth L t) = List.replicate t 0 ++ L.drop t := by
  rw [List.replicate_succ', List.append_assoc, List.set_append_right _ _ (by simp)]
  simp [drop_nth ht]

/-- The loop of nat.Shr: the words from t on are done. -/
def DnRel (w : World) (xs : List Nat) (s u t : Nat) (q : Value) (wr : World) : Prop :=
  q = .int .u64 (((nth xs (s + t) * 2 ^ (64 - u)) % 18446744073709551616 : Nat) : Int) ∧ Blk wr w.heap.size 37 .u64 (List.replicate t 0 ++ (dn xs s u).drop t) ∧ Below w.heap.size w wr
theorem dn_value {x u c : Nat} (hx : x < 18446744073709551616) (hu : u < 64) (y : Nat) (hc : c = (y * 2 ^ (64 - u)) % 18446744073709551616) :
    bits .or .u64 ((x : Int) / 2 ^ u) (c : Int) = ((x / 2 ^ u + (y * 2 ^ (64 - u)) % 18446744073709551616 : Nat) : Int) := by
  subst hc
  obtain ⟨h1, h2, h3, h4⟩ := dn_word (y := y) hx hu
  have e : (x : Int) / 2 ^ u = ((x / 2 ^ u : Nat) : Int) := by
    rw [Int.natCast_ediv, Int.natCast_pow]
    rfl
  rw [e, or_u64 _ _ h4 (by omega), h1]
theorem up_carry (x u : Nat) : IntKind.u64.wrap ((x : Int) * 2 ^ (64 - u)) = (((x * 2 ^ (64 - u)) % 18446744073709551616 : Nat) : Int) := by
  rw [IntKind.wrap_u64, Int.natCast_emod, Int.natCast_mul, Int.natCast_pow]
  rfl
theorem DnRel.next {w wr : World} {xs : List Nat} {s u t c : Nat} (lx : Low 18446744073709551616 xs) (hu : u < 64) (ht : t < xs.length - s) (hc : c = (nth xs (s + (t + 1)) * 2 ^ (64 - u)) % 18446744073709551616)
    (hb : Blk wr w.heap.size 37 .u64 (List.replicate (t + 1) 0 ++ (dn xs s u).drop (t + 1))) (hw : Below w.heap.size w wr) :
    DnRel w xs s u t (.int .u64 (IntKind.u64.wrap ((nth xs (s + t) : Int) * 2 ^ (64 - u)))) (wr.setCell ⟨w.heap.size, t, none⟩ (.int .u64 (bits .or .u64 ((nth xs (s + t) : Int) / 2 ^ u) (c : Int)))) := by
  rw [dn_value (lx.any (by omega) _) hu _ hc, up_carry]
  have h := hb.set t (nth (dn xs s u) t)
  rw [set_back _ _ (by rw [dn_length]; exact ht), dn_nth ht] at h
  exact ⟨rfl, h, hw.setCell (Nat.le_refl _) _⟩

set_option maxHeartbeats 400000 in
theorem shr_calls (A : Option Addr) (n c : Nat) (xs : List Nat) (k s u : Nat) (w : World) (hx : Rd w .u64 A xs) (hxn : xs.length = n)
    (hc : n ≤ c) (hc' : c ≤ 9223372036854775807) (lx : Low 18446744073709551616 xs) (bx : n ≤ 1099511627776) (hk : k ≤ 9223372036854775807) (hs : (k : Int) / 64 = (s : Int)) (hu : (k : Int) % 64 = (u : Int)) :
    Calls Try.prog 24 #[.slice A n c, .int .i64 k] w (TwoPost (ev 18446744073709551616 xs / 2 ^ k) w) := by
  have sx : sl xs ≤ n := hxn ▸ sl_le xs
  have HX := Lib.hid hxn
  have hk2 : k = 64 * s + u := by omega
  have hub : u < 64 := by omega
  have e := ev_take_sl 18446744073709551616 xs
  obtain ⟨us, hus⟩ : ∃ us, us = xs.take (sl xs) := ⟨_, rfl⟩
  have hux : Rd w .u64 A us := hus ▸ hx.take _
  have lu : Low 18446744073709551616 us := hus ▸ lx.take _
  have eu : sl xs = us.length := by rw [hus]; simp [Nat.min_eq_left (sl_le xs)]
  have ev1 : ev 18446744073709551616 us / 2 ^ (64 * s + u) = ev 18446744073709551616 xs / 2 ^ k := by rw [hus, e, hk2]
  have hmx : us.length ≤ 1099511627776 := by omega
  have EU := Lib.hid eu
  have EV := Lib.hid ev1
  have HK2 := Lib.hid hk2
  clear hxn e hus eu ev1 hk2
  by_cases h0 : us.length ≤ s
  · have e1 : ev 18446744073709551616 us / 2 ^ (64 * s + u) = 0 := by
      have h1 := ev_lt lu
      have h2 := pow_big h0
      rw [two_word, ← Nat.div_div_eq_div_mul, Nat.div_eq_of_lt (Nat.lt_of_lt_of_le h1 h2), Nat.zero_div]
    have E1 := Lib.hid (EV.out.symm.trans e1)
    clear e1
    go_enter Try.func24, Try.ntmps24
    go_wp2_with fail
    refine (trim_calls _ _ _ xs _ hx HX.out (by omega) (by omega)).mono ?_
    rintro e w' ⟨rfl, rfl⟩
    rw [EU.out]
    go_wp2
    go_ret2
    exact TwoPost.nil _ E1.out
  · have h1 : s < us.length := by omega
    have hdl := dn_length us s u
    have HDL := Lib.hid hdl
    obtain ⟨m, hm⟩ : ∃ m, m = us.length - s := ⟨_, rfl⟩
    have hm' : (us.length : Int) - (s : Int) = (m : Int) := by omega
    have HM := Lib.hid hm
    have hml : m ≤ us.length := by omega
    clear h0 hdl hm
    go_enter Try.func24, Try.ntmps24
    go_wp2_with fail
    refine (trim_calls _ _ _ xs _ hx HX.out (by omega) (by omega)).mono ?_
    rintro e w' ⟨rfl, rfl⟩
    rw [EU.out]
    go_wp2_with (at_make; refine wpList_make_blk _ rfl _ _ 23 rfl 37 .u64 8 Try.underlying23 info_u64 _ _ _ _ m rfl rfl (by omega) (by omega) (by omega) (by omega) ?_)
    intro w1 hb1 hw1 hz1
    have HZ := Lib.hid hz1
    have HM' := Lib.hid hm'
    clear hz1 hm'
    go_wp2
    go_loopw [9, 10] (fun q i wr => ∃ t : Nat, t ≤ m ∧ i = .int .i64 (((s + t : Nat) : Int) - 1) ∧ DnRel w us s u t q wr) (fun _ i _ => (intOf i + 1).toNat)
    case atStart => exact ⟨m, Nat.le_refl _, by have := HM.out; go_num, by rw [nth_ge (by have := HM.out; omega), Nat.zero_mul]; rfl, by rw [List.drop_eq_nil_of_le (by rw [HDL.out, HM.out]; exact Nat.le_refl _), List.append_nil]; exact hb1, hw1⟩
    case round =>
      obtain ⟨t, ht, rfl, rfl, hb, hw⟩ := hrel
      rcases Nat.eq_zero_or_pos t with rfl | hpos
      · have hv := (dn_ev lu hub (by omega)).trans EV.out
        have HV := Lib.hid hv
        have lz := dn_low lu (s := s) hub
        simp only [List.replicate_zero, List.nil_append, List.drop_zero] at hb
        clear hv
        go_wp2_with fail
        refine (trim_calls _ _ _ (dn us s u) _ hb.rd0 (HDL.out.trans HM.out.symm) (Nat.le_refl _) (by omega)).mono ?_
        rintro e w' ⟨rfl, rfl⟩
        go_wp2
        go_ret2
        exact two_end hb (Nat.le_refl _) hw (HDL.out.trans HM.out.symm) (by omega) lz HV.out
      · obtain ⟨t, rfl⟩ : ∃ q, t = q + 1 := ⟨t - 1, by omega⟩
        have hmm := HM.out
        obtain ⟨ad, rfl, hadb, c0⟩ := hux.at (k := s + t) (by omega)
        have c1 := (hw.cell (p := ad.add (s + t)) (by rw [add_block]; exact hadb)).trans c0
        have c2 : ∀ v, (wr.setCell ⟨w.heap.size, t, none⟩ v).cell? (ad.add (s + t)) = some (.int .u64 (nth us (s + t))) := fun v =>
          (World.cell?_setCell_other wr ⟨w.heap.size, t, none⟩ (ad.add (s + t)) v (fun e => by have h9 := congrArg Addr.block e; rw [add_block] at h9; simp at h9; omega)).trans c1
        have cs := hb.cell (j := t) (by simp; omega)
        have cf := hb.free t
        have hx1 := lu.any (by omega) (s + t)
        obtain ⟨cr, hcr⟩ : ∃ cr, cr = (nth us (s + (t + 1)) * 2 ^ (64 - u)) % 18446744073709551616 := ⟨_, rfl⟩
        have hcl : cr < 18446744073709551616 := by omega
        have i1 : (((s + (t + 1) : Nat) : Int) - 1) = ((s + t : Nat) : Int) := by omega
        rw [← hcr, i1]
        have HCR := Lib.hid hcr
        have i2 : ((s + t : Nat) : Int) - (s : Int) = (t : Int) := by omega
        have tm : t < m := by omega
        have tm2 : t < us.length - s := by omega
        clear hcr i1 hmm c0
        go_wp2_with fail
        go_roundw
        case rel => exact ⟨t, by omega, by go_num, DnRel.next lu hub tm2 HCR.out hb hw⟩
        case measure => simp [intOf]; omega
end Go.Proofs.Ytgdggpfldkmbdaa
