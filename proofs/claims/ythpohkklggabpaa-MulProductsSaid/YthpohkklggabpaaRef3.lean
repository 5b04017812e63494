/-
  The reference of layer 1: Carried, Add.
-/
import Derived.Test.YthpohkklggabpaaRef2
namespace Go.Proofs.Ythpohkklggabpaa
open Go.RowKit

/-- Digits of any size that are being carried: k are done, c is the carry, of n digits. -/
def Carrying (ds zs : List Nat) (n k c : Nat) : Prop :=
  zs.length = k ∧ Low 65536 zs ∧ ev 65536 zs + 65536 ^ k * c = pre 65536 ds k ∧ k ≤ n + 3 ∧ c ≤ 2199023255552 ∧ (k = n + 1 → c ≤ 33554432) ∧ (k = n + 2 → c ≤ 512) ∧ (k = n + 3 → c = 0)
theorem Carrying.start (ds : List Nat) (n : Nat) : Carrying ds [] n 0 0 := ⟨rfl, Low.nil _, by simp [ev, pre_zero], by omega, by omega, by omega, by omega, by omega⟩
theorem Carrying.step {ds zs : List Nat} {n k c : Nat} (hd : Low 1099511627776 ds) (hn : ds.length = n) (h : Carrying ds zs n k c) (hk : k < n ∨ 0 < c) :
    Carrying ds (zs ++ [(c + nth ds k) % 65536]) n (k + 1) ((c + nth ds k) / 65536) := by
  obtain ⟨h1, h2, h3, h4, h5, h6, h7, h8⟩ := h
  have hdk := hd.any (by omega) k
  have h0 : n ≤ k → nth ds k = 0 := fun h => nth_ge (by omega)
  refine ⟨by simp [h1], h2.snoc (by omega), ?_, by omega, by omega, ?_, ?_, ?_⟩
  · rw [ev_snoc, pre_succ, h1, ← h3, Nat.pow_succ]
    have e := Nat.mod_add_div (c + nth ds k) 65536
    generalize (c + nth ds k) % 65536 = r at *
    generalize (c + nth ds k) / 65536 = q at *
    generalize 65536 ^ k = p
    grind
  all_goals (intro hh; omega)
theorem Carrying.stop {ds zs : List Nat} {n k : Nat} (hn : ds.length = n) (h : Carrying ds zs n k 0) (hk : n ≤ k) : ev 65536 zs = ev 65536 ds := by
  obtain ⟨h1, h2, h3, _⟩ := h
  rw [pre_ge _ (by omega)] at h3
  simpa using h3
/-- Behind def, for the walk: what Carrying gives of the sizes. -/
theorem Carrying.sizes {ds zs : List Nat} {n k c : Nat} (h : Carrying ds zs n k c) : k ≤ n + 3 ∧ c ≤ 2199023255552 ∧ zs.length = k ∧ (k = n + 3 → c = 0) := ⟨h.2.2.2.1, h.2.2.2.2.1, h.1, h.2.2.2.2.2.2.2⟩

set_option maxHeartbeats 400000 in
theorem carried_calls (A : Option Addr) (n c : Nat) (ds : List Nat) (w : World) (hr : Rd w .i64 A ds) (hn : ds.length = n) (bn : n ≤ 4398046511101) (hd : Low 1099511627776 ds) :
    Calls Try.prog 30 #[.slice A n c] w (DgPost (ev 65536 ds) w) := by
  have HN := Lib.hid hn
  clear hn
  go_enter Try.func30, Try.ntmps30
  go_wp2
  go_loopw [3, 4, 5] (fun v q i wr => ∃ (k x : Nat) (zs : List Nat), i = .int .i64 k ∧ q = .int .i64 x ∧ Carrying ds zs n k x ∧ OwnV w wr 3 .i64 v zs) (fun _ _ i _ => n + 3 - (intOf i).toNat)
  case atStart => exact ⟨0, 0, [], rfl, rfl, Carrying.start _ _, OwnV.nil _ _ _⟩
  case round =>
    obtain ⟨k, x, zs, rfl, rfl, hC, ho⟩ := hrel
    obtain ⟨s1, s2, s3, s4⟩ := hC.sizes
    have S3 := Lib.hid s3
    have hC' := Lib.hid hC
    have hl : zs.length ≤ 4398046511104 := by omega
    have hdk := hd.any (by omega) k
    clear hC s3
    by_cases hlt : k < n
    · go_wp2_with (first | (go_at_call 45; refine (at_calls _ _ _ k ds _ (hr.below ho.2) HN.out).mono ?_; rintro e w' ⟨rfl, rfl⟩) | (at_builtin; refine wpList_app1 w wr rfl _ _ _ rfl 3 .i64 Try.underlying25 info_i64 _ zs (by rfl) ho _ ((x + nth ds k) % 65536) (by omega) (by rfl) hl ?_))
      intro v1 w1 ho1
      have hst := hC'.out.step hd HN.out (.inl hlt)
      have hSt := Lib.hid hst
      clear ho hst s4
      go_wp2
      go_roundw
      case rel => exact ⟨k + 1, (x + nth ds k) / 65536, _, by go_num, by go_num, hSt.out, ho1⟩
      case measure => simp [intOf]; omega
    · rcases Nat.eq_zero_or_pos x with rfl | hpos
      · have e := Carrying.stop HN.out hC'.out (by omega)
        have E := Lib.hid e
        have lz := hC'.out.2.1
        clear e s4
        go_wp2_with fail
        refine (rtrim_end ho lz E.out).mono ?_
        rintro e w' ⟨⟨A1, c1, rfl, hg⟩, rfl⟩
        go_wp2
        go_ret
        exact ⟨A1, c1, rfl, hg⟩
      · have hk3 : k < n + 3 := by omega
        have hst := hC'.out.step hd HN.out (.inr hpos)
        have hSt := Lib.hid hst
        clear hst s4
        go_wp2_with (first | (go_at_call 45; refine (at_calls _ _ _ k ds _ (hr.below ho.2) HN.out).mono ?_; rintro e w' ⟨rfl, rfl⟩) | (at_builtin; refine wpList_app1 w wr rfl _ _ _ rfl 3 .i64 Try.underlying25 info_i64 _ zs (by rfl) ho _ ((x + nth ds k) % 65536) (by omega) (by rfl) hl ?_))
        intro v1 w1 ho1
        clear ho
        go_wp2
        go_roundw
        case rel => exact ⟨k + 1, (x + nth ds k) / 65536, _, by go_num, by go_num, hSt.out, ho1⟩
        case measure => simp [intOf]; omega

/-- Sums digit by digit: k are done. -/
def Summing (xs ys zs : List Nat) (k : Nat) : Prop := zs.length = k ∧ Low 1099511627776 zs ∧ ev 65536 zs = pre 65536 xs k + pre 65536 ys k
theorem Summing.start (xs ys : List Nat) : Summing xs ys [] 0 := ⟨rfl, Low.nil _, by simp [ev, pre_zero]⟩
theorem Summing.step {xs ys zs : List Nat} {k : Nat} (hx : Low 549755813888 xs) (hy : Low 549755813888 ys) (h : Summing xs ys zs k) : Summing xs ys (zs ++ [nth xs k + nth ys k]) (k + 1) := by
  obtain ⟨h1, h2, h3⟩ := h
  have := hx.any (by omega) k
  have := hy.any (by omega) k
  refine ⟨by simp [h1], h2.snoc (by omega), ?_⟩
  rw [ev_snoc, pre_succ, pre_succ, h1, h3]
  grind
theorem Summing.stop {xs ys zs : List Nat} {k : Nat} (h : Summing xs ys zs k) (hx : xs.length ≤ k) (hy : ys.length ≤ k) : ev 65536 zs = ev 65536 xs + ev 65536 ys := by
  rw [h.2.2, pre_ge _ hx, pre_ge _ hy]
theorem Low.wide {b c : Nat} {xs : List Nat} (h : Low b xs) (hbc : b ≤ c) : Low c xs := fun k hk => by have := h k hk; omega

theorem DgPost.of_get {v : Nat} {w w1 w' : World} {e : Ending} (h : DgPost v w1 e w') (hb : Below w.heap.size w w1) : DgPost v w e w' := by
  obtain ⟨A, c, he, hg⟩ := h
  exact ⟨A, c, he, Got.of_own hg.1 hb.size (hb.trans (hg.2.mono hb.size))⟩

set_option maxHeartbeats 400000 in
theorem radd_calls (A B : Option Addr) (n m c d : Nat) (xs ys : List Nat) (w : World) (hx : Rd w .i64 A xs) (hy : Rd w .i64 B ys) (hxn : xs.length = n) (hyn : ys.length = m) (bn : n ≤ 4398046511101) (bm : m ≤ 4398046511101)
    (lx : Low 549755813888 xs) (ly : Low 549755813888 ys) :
    Calls Try.prog 29 #[.slice A n c, .slice B m d] w (DgPost (ev 65536 xs + ev 65536 ys) w) := by
  have HX := Lib.hid hxn
  have HY := Lib.hid hyn
  clear hxn hyn
  go_enter Try.func29, Try.ntmps29
  go_wp2
  go_loopw [5, 6] (fun v i wr => ∃ (k : Nat) (zs : List Nat), k ≤ max n m ∧ i = .int .i64 k ∧ Summing xs ys zs k ∧ OwnV w wr 3 .i64 v zs) (fun _ i _ => max n m - (intOf i).toNat)
  case atStart => exact ⟨0, [], Nat.zero_le _, rfl, Summing.start _ _, OwnV.nil _ _ _⟩
  case round =>
    obtain ⟨k, zs, hk, rfl, hS, ho⟩ := hrel
    have hl2 : zs.length ≤ 4398046511101 := by have := hS.1; omega
    have hl : zs.length ≤ 4398046511104 := by omega
    have hx1 := lx.any (by omega) k
    have hy1 := ly.any (by omega) k
    by_cases hlt : k < n ∨ k < m
    · have hst := hS.step lx ly
      have hSt := Lib.hid hst
      have hkm : k < max n m := by omega
      clear hS hst
      by_cases h1 : k < n
      all_goals
        have h2 : k < n ∨ k < m := hlt
        clear hlt
        by_cases h3 : k < m
        all_goals first
          | (exfalso; omega)
          | (clear h2
             go_wp2_with (first | (go_at_call_of 45 (Value.slice A n c); refine (at_calls _ _ _ k xs _ (hx.below ho.2) HX.out).mono ?_; rintro e w' ⟨rfl, rfl⟩) | (go_at_call 45; refine (at_calls _ _ _ k ys _ (hy.below ho.2) HY.out).mono ?_; rintro e w' ⟨rfl, rfl⟩) | (at_builtin; refine wpList_app1 w wr rfl _ _ _ rfl 3 .i64 Try.underlying25 info_i64 _ zs (by rfl) ho _ (nth xs k + nth ys k) (by omega) (by rfl) hl ?_))
             intro v1 w1 ho1
             clear ho
             go_wp2
             go_roundw
             case rel => exact ⟨k + 1, _, by omega, by go_num, hSt.out, ho1⟩
             case measure => simp [intOf]; omega)
    · have h1 : ¬ k < n := by omega
      have h2 : ¬ k < m := by omega
      have e := hS.stop (by have := HX.out; omega) (by have := HY.out; omega)
      have E := Lib.hid e
      have lz := hS.2.1
      obtain ⟨A2, c2, rfl, hg⟩ := ho.form
      clear e hlt hS
      go_wp2_with fail
      refine (carried_calls _ _ _ zs _ hg.rd rfl (by omega) lz).mono ?_
      rintro e w' hp
      obtain ⟨A1, c1, rfl, hg1⟩ := DgPost.of_get (w := w) hp hg.2
      rw [E.out] at hg1
      rw [E.out]
      go_wp2
      go_ret
      exact ⟨A1, c1, rfl, hg1⟩
end Go.Proofs.Ythpohkklggabpaa
