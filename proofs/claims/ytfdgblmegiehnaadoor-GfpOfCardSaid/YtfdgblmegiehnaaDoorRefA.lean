/-
  The reference of layer 1 but for halving: contracts by value (Cv, Dv).
-/
import Derived.Test.YtfdgblmegiehnaaDoorNatA
import Derived.Deep.RegionLaw
import Derived.IntWalk
/-! The reference of layer 1: a row of digits that a call owns, one append more; Trim, at. -/
namespace Go.Proofs.YtfdgblmegiehnaaDoor
open Go.RowKit

/-- v is a row of the call's own (made since w0) that reads as zs; what was there is as it was. -/
def OwnV (w0 w : World) (t : TypeId) (K : IntKind) (v : Value) (zs : List Nat) : Prop :=
  w.ownsRow w0.heap.size t 1 v zs.length (vs K zs) ∧ Below w0.heap.size w0 w
theorem OwnV.nil (w : World) (t : TypeId) (K : IntKind) : OwnV w w t K (.slice none 0 0) [] := ⟨World.ownsRow_nil w _ _ _, Below.refl _ _⟩
theorem OwnV.form {w0 w : World} {t : TypeId} {K : IntKind} {v : Value} {zs : List Nat} (h : OwnV w0 w t K v zs) : ∃ A c, v = .slice A zs.length c ∧ Got w0 w t K A c zs := by
  obtain ⟨h1, h2⟩ := h
  rcases h1.2 with ⟨rfl, h0⟩ | ⟨g, cap, cur, rfl, _⟩
  · refine ⟨none, 0, by rw [h0], ?_, h2⟩
    rw [h0]; rw [h0] at h1; exact h1
  · exact ⟨_, _, rfl, h1, h2⟩
theorem OwnV.below {w0 w w' : World} {t : TypeId} {K : IntKind} {v : Value} {zs : List Nat} (h : OwnV w0 w t K v zs) (hb : Below w.heap.size w w') : OwnV w0 w' t K v zs := by
  obtain ⟨h1, h2⟩ := h
  refine ⟨?_, h2.trans (hb.mono h2.size)⟩
  exact h1.kept (row := none) ⟨hb.os, hb.tape, hb.output, hb.size, fun k hk _ => hb.block k hk⟩ (by cases hv : v.ownBlock <;> simp)
theorem OwnV.drewN {w0 w : World} {t : TypeId} {K : IntKind} {v : Value} {zs : List Nat} (h : OwnV w0 w t K v zs) (q : Nat) : OwnV w0 (w.drewN q) t K v zs := h.below (Sees.below ⟨q, rfl⟩ _)

/-- One append of one number, to a row of the call's own. -/
theorem wpList_app1 {P : Program} (w0 wr : World) {ops : Array Oper} {rest : List Oper} {o : Oper} {a : Act} {Q : Exit → Act → World → Prop} (hgd : o.guard = none) (s x : Operand) (t : TypeId)
    (ho : o.op = .call { callee := .builtin .append, args := #[s, x], argTypes := #[t, t] })
    (e : TypeId) (K : IntKind) (ht : P.underlying t = some (.slice e)) (hinfo : (P.info? e).map (fun i => (i.zero, i.size, i.bytes)) = some (some (.int K 0), 1, 8))
    (v : Value) (zs : List Nat) (hs : a.eval s = v) (hown : OwnV w0 wr e K v zs) (y : Int) (d : Nat) (hy : y = (d : Int))
    (hx : a.eval x = .slice (some ⟨wr.heap.size, 0, none⟩) 1 1) (hlen : zs.length ≤ 4398046511104)
    (h : ∀ v' w', OwnV w0 w' e K v' (zs ++ [d]) → wpList P ops Q rest (a.put o.dst v') w') :
    wpList P ops Q (o :: rest) a (wr.alloc (.cells #[.int K y] e)) := by
  subst hy
  obtain ⟨i, hi, hz0, hz1, hz2⟩ := info_parts hinfo
  obtain ⟨h1, h2⟩ := hown
  have hb := h2.size
  refine wpList_append_own (P := P) _ hgd s x t ho w0.heap.size e i (.int K 0) 1 8 ht hi hz0 hz1 hz2 rfl (by omega) v zs.length (vs K zs) hs (h1.alloc _) ⟨wr.heap.size, 0, none⟩ 1 1 [.int K (d : Int)] hx rfl ?_ ?_ (by unfold maxLen; omega) (by omega) (by simp; omega) ?_
  · intro j u hu
    match j, hu with
    | 0, hu =>
      simp at hu
      subst hu
      simp [Addr.add]
  · intro u hu
    simp at hu
    subst hu
    rfl
  · intro v' w' o1 o2 _
    refine h v' w' ⟨?_, (h2.alloc hb _).grown o2 (by simp; omega) (fun k hk => (h1.lt k hk).1)⟩
    rw [vs_append, List.length_append]
    exact o1

theorem info_i64 : (Tryd.prog.info? 3).map (fun i => (i.zero, i.size, i.bytes)) = some (some (.int .i64 0), 1, 8) := by kernel_rfl

set_option maxHeartbeats 400000 in
theorem rtrim_calls (A : Option Addr) (n c : Nat) (xs : List Nat) (w : World) (hr : Rd w .i64 A xs) (hn : xs.length = n) (hc : n ≤ c) (hm : c ≤ 9223372036854775807) :
    Calls Tryd.prog 66 #[.slice A n c] w fun e w' => e = .returned (.slice A (sl xs) c) ∧ w = w' := by
  subst hn
  go_enter Tryd.func66, Tryd.ntmps66
  go_wp2
  go_loop [3] (fun n => ∃ k : Nat, k ≤ xs.length ∧ Zs xs k ∧ n = .int .i64 k) (fun n => (intOf n).toNat)
  case atStart => exact ⟨xs.length, Nat.le_refl _, fun j hj => nth_ge hj, rfl⟩
  case round =>
    obtain ⟨k, hk, hz, rfl⟩ := hrel
    by_cases h0 : k = 0
    · subst h0
      have e : sl xs = 0 := sl_eq hz (.inl rfl)
      have E := Lib.hid e
      clear e
      go_wp2
      go_ret
      exact ⟨by rw [E.out]; rfl, rfl⟩
    · obtain ⟨m, rfl⟩ : ∃ m, k = m + 1 := ⟨k - 1, by omega⟩
      obtain ⟨ad, rfl, _, hcell⟩ := hr.at (k := m) (by omega)
      by_cases hx : nth xs m = 0
      · rw [hx] at hcell
        have hz' : Zs xs m := fun j hj => by
          rcases Nat.eq_or_lt_of_le hj with rfl | h
          · exact hx
          · exact hz j h
        have H := Lib.hid hx
        clear hx h0
        go_wp2
        go_round
        case rel => exact ⟨m, by omega, hz', by go_num⟩
        case measure => simp [intOf]
      · have e : sl xs = m + 1 := sl_eq hz (.inr hx)
        have E := Lib.hid e
        have hb : (((nth xs m : Nat) : Int) == 0) = false := by rw [beq_eq_false_iff_ne]; omega
        clear e h0 hx
        go_wp2
        go_ret
        exact ⟨by rw [E.out]; rfl, rfl⟩

theorem at_calls (A : Option Addr) (n c k : Nat) (xs : List Nat) (w : World) (hr : Rd w .i64 A xs) (hn : xs.length = n) :
    Calls Tryd.prog 71 #[.slice A n c, .int .i64 k] w fun e w' => e = .returned (.int .i64 (nth xs k)) ∧ w = w' := by
  by_cases h : k < n
  · obtain ⟨ad, rfl, _, hcell⟩ := hr.at (k := k) (by omega)
    have HN := Lib.hid hn
    clear hn
    go_enter Tryd.func71, Tryd.ntmps71
    go_wp2
    go_ret
    exact ⟨rfl, rfl⟩
  · have e : nth xs k = 0 := nth_ge (by omega)
    have E := Lib.hid e
    clear e hn
    go_enter Tryd.func71, Tryd.ntmps71
    go_wp2
    go_ret
    exact ⟨by rw [E.out]; rfl, rfl⟩

/-- What a function of the reference answers: the digits of v. -/
def DgPost (v : Nat) (w : World) (e : Ending) (w' : World) : Prop :=
  ∃ A c, e = .returned (.slice A (cn 65536 v).length c) ∧ Got w w' 3 .i64 A c (cn 65536 v)
theorem rtrim_end {w w' : World} {v : Value} {zs : List Nat} {x : Nat} (h : OwnV w w' 3 .i64 v zs) (hl : Low 65536 zs) (hx : ev 65536 zs = x) :
    Calls Tryd.prog 66 #[v] w' fun e w'' => DgPost x w e w'' ∧ w' = w'' := by
  obtain ⟨A, c, rfl, hg⟩ := h.form
  have hc := hg.cap
  refine (rtrim_calls A _ c zs w' hg.rd rfl hc.1 (by have := hc.2; unfold maxLen at this; omega)).mono ?_
  rintro e w'' ⟨rfl, rfl⟩
  subst hx
  refine ⟨⟨A, c, by rw [sl_len 65536 (by omega) hl], ?_, hg.2⟩, rfl⟩
  have e := cn_ev 65536 (by omega) zs hl
  rw [e, vs_take]
  have el : (zs.take (sl zs)).length = sl zs := by simp [Nat.min_eq_left (sl_le zs)]
  rw [el]
  refine own_take hg.1 (sl_le zs) ?_
  rcases hg.1.2 with ⟨h1, _⟩ | ⟨g, cap, cur, hv, _⟩
  · injection h1 with _ _ h3; exact .inr h3
  · injection hv with h1; exact .inl (by rw [h1]; simp)
end Go.Proofs.YtfdgblmegiehnaaDoor

/-! The reference of layer 1: From, the digits of words. -/
namespace Go.Proofs.YtfdgblmegiehnaaDoor
open Go.RowKit

/-- The digits of i words, and k digits of the next one, of which x is left. -/
def Splits (xs D : List Nat) (i k x : Nat) : Prop :=
  D.length = 4 * i + k ∧ Low 65536 D ∧ ev 65536 D + 65536 ^ (4 * i + k) * x = pre 18446744073709551616 xs i + 18446744073709551616 ^ i * nth xs i ∧ x = nth xs i / 65536 ^ k
def Splat (xs D : List Nat) (i : Nat) : Prop := D.length = 4 * i ∧ Low 65536 D ∧ ev 65536 D = pre 18446744073709551616 xs i
theorem pow_word (i : Nat) : (18446744073709551616 : Nat) ^ i = 65536 ^ (4 * i) := by
  rw [Nat.pow_mul]
theorem Splat.start (xs : List Nat) : Splat xs [] 0 := ⟨rfl, Low.nil _, by simp [ev, pre_zero]⟩
theorem Splat.begin {xs D : List Nat} {i : Nat} (h : Splat xs D i) : Splits xs D i 0 (nth xs i) := by
  obtain ⟨h1, h2, h3⟩ := h
  exact ⟨by omega, h2, by rw [h3, Nat.add_zero, pow_word], by simp⟩
theorem Splits.step {xs D : List Nat} {i k x : Nat} (h : Splits xs D i k x) : Splits xs (D ++ [x % 65536]) i (k + 1) (x / 65536) := by
  obtain ⟨h1, h2, h3, h4⟩ := h
  refine ⟨by simp [h1]; omega, h2.snoc (by omega), ?_, ?_⟩
  · rw [ev_snoc, h1, ← h3, ← Nat.add_assoc (4 * i) k 1, Nat.pow_succ]
    have e := Nat.mod_add_div x 65536
    generalize x % 65536 = r at *
    generalize x / 65536 = q at *
    generalize 65536 ^ (4 * i + k) = p
    subst e
    grind
  · rw [h4, Nat.div_div_eq_div_mul, Nat.pow_succ]
theorem Splits.stop {xs D : List Nat} {i x : Nat} (hx : nth xs i < 18446744073709551616) (h : Splits xs D i 4 x) : Splat xs D (i + 1) := by
  obtain ⟨h1, h2, h3, h4⟩ := h
  have h0 : x = 0 := by rw [h4]; exact Nat.div_eq_of_lt (by simpa using hx)
  subst h0
  exact ⟨by omega, h2, by rw [pre_succ]; simpa using h3⟩

set_option maxHeartbeats 400000 in
theorem from_calls (A : Option Addr) (n c : Nat) (xs : List Nat) (w : World) (hr : Rd w .u64 A xs) (hn : xs.length = n) (bn : n ≤ 1099511627775) (lx : Low 18446744073709551616 xs) :
    Calls Tryd.prog 50 #[.slice A n c] w (DgPost (ev 18446744073709551616 xs) w) := by
  have HN := Lib.hid hn
  clear hn
  go_enter Tryd.func50, Tryd.ntmps50
  go_wp2
  go_loopw [3, 4] (fun v i wr => ∃ (k : Nat) (D : List Nat), k ≤ n ∧ i = .int .i64 k ∧ Splat xs D k ∧ OwnV w wr 3 .i64 v D) (fun _ i _ => n - (intOf i).toNat)
  case atStart => exact ⟨0, [], Nat.zero_le _, rfl, Splat.start _, OwnV.nil _ _ _⟩
  case round =>
    obtain ⟨i, D, hi, rfl, hs, ho⟩ := hrel
    by_cases hlt : i < n
    · obtain ⟨ad, rfl, _, hcell⟩ := (hr.below ho.2).at (k := i) (by have := HN.out; omega)
      have hS := Lib.hid hs
      clear hs
      obtain ⟨wo, rfl⟩ : ∃ wo : World, wo = wr := ⟨_, rfl⟩
      go_wp2
      go_loopw [3, 5, 6] (fun v x k wr => ∃ (j y : Nat) (E : List Nat), j ≤ 4 ∧ k = .int .i64 j ∧ x = .int .u64 y ∧ Splits xs E i j y ∧ OwnV w wr 3 .i64 v E) (fun _ _ k _ => 4 - (intOf k).toNat)
      case atStart => exact ⟨0, nth xs i, D, by omega, rfl, rfl, hS.out.begin, ho⟩
      case round =>
        clear ho
        obtain ⟨j, y, E, hj, rfl, rfl, hsp, ho⟩ := hrel
        by_cases hlt2 : j < 4
        · have hSp := Lib.hid hsp
          have hy : y < 18446744073709551616 := by have := hsp.2.2.2; have h2 := lx.any (by omega) i; have := Nat.div_le_self (nth xs i) (65536 ^ j); omega
          have hl : E.length ≤ 4398046511104 := by have := hsp.1; omega
          clear hsp
          go_wp2_with (at_builtin; refine wpList_app1 w wr rfl _ _ _ rfl 3 .i64 Tryd.underlying58 info_i64 _ E (by rfl) ho _ (y % 65536) (by omega) (by rfl) hl ?_)
          intro v1 w1 ho1
          clear ho
          go_wp2
          go_roundw
          case rel => exact ⟨j + 1, y / 65536, E ++ [y % 65536], by omega, by go_num, by go_num, hSp.out.step, ho1⟩
          case measure => simp [intOf]; omega
        · obtain rfl : j = 4 := by omega
          have hst := Splits.stop (lx.any (by omega) i) hsp
          have hSt := Lib.hid hst
          clear hsp hst hlt2
          go_wp2
          go_roundw
          case rel => exact ⟨i + 1, E, by omega, by go_num, hSt.out, ho⟩
          case measure => simp [intOf]; omega
    · obtain rfl : i = n := by omega
      have e : ev 65536 D = ev 18446744073709551616 xs := by rw [hs.2.2, ← HN.out, pre_len]
      have E := Lib.hid e
      have hl := hs.2.1
      clear hs e hlt
      go_wp2_with fail
      refine (rtrim_end ho hl E.out).mono ?_
      rintro e w' ⟨⟨A1, c1, rfl, hg⟩, rfl⟩
      go_wp2
      go_ret
      exact ⟨A1, c1, rfl, hg⟩
end Go.Proofs.YtfdgblmegiehnaaDoor

/-! The reference of layer 1: Carried, Add. -/
namespace Go.Proofs.YtfdgblmegiehnaaDoor
open Go.RowKit

/-- Digits of any size that are being carried: k are done, c is the carry, of n digits. -/
def Carrying (ds zs : List Nat) (n k c : Nat) : Prop :=
  zs.length = k ∧ Low 65536 zs ∧ ev 65536 zs + 65536 ^ k * c = pre 65536 ds k ∧ k ≤ n + 3 ∧ c ≤ 2199023255552 ∧ (k = n + 1 → c ≤ 33554432) ∧ (k = n + 2 → c ≤ 512) ∧ (k = n + 3 → c = 0)
theorem Carrying.start (ds : List Nat) (n : Nat) : Carrying ds [] n 0 0 := ⟨rfl, Low.nil _, by simp [ev, pre_zero], by omega, by omega, by omega, by omega, by omega⟩
theorem Carrying.step {ds zs : List Nat} {n k c : Nat} (hd : Low 1099511627776 ds) (hn : ds.length = n) (h : Carrying ds zs n k c) (hk : k < n ∨ 0 < c) :
    Carrying ds (zs ++ [(c + nth ds k) % 65536]) n (k + 1) ((c + nth ds k) / 65536) := by
  obtain ⟨h1, h2, h3, h4, h5, h6, h7, h8⟩ := h
  have hdk := hd.any (by omega) k
  have h0 : n ≤ k → nth ds k = 0 := fun h => nth_ge (by omega)
  refine ⟨by simp [h1], h2.snoc (by omega), ?_, by omega, by omega, ?_, ?_, ?_⟩
  · rw [ev_snoc, pre_succ, h1, ← h3, Nat.pow_succ]
    have e := Nat.mod_add_div (c + nth ds k) 65536
    generalize (c + nth ds k) % 65536 = r at *
    generalize (c + nth ds k) / 65536 = q at *
    generalize 65536 ^ k = p
    grind
  all_goals (intro hh; omega)
theorem Carrying.stop {ds zs : List Nat} {n k : Nat} (hn : ds.length = n) (h : Carrying ds zs n k 0) (hk : n ≤ k) : ev 65536 zs = ev 65536 ds := by
  obtain ⟨h1, h2, h3, _⟩ := h
  rw [pre_ge _ (by omega)] at h3
  simpa using h3
/-- Behind def, for the walk: what Carrying gives of the sizes. -/
theorem Carrying.sizes {ds zs : List Nat} {n k c : Nat} (h : Carrying ds zs n k c) : k ≤ n + 3 ∧ c ≤ 2199023255552 ∧ zs.length = k ∧ (k = n + 3 → c = 0) := ⟨h.2.2.2.1, h.2.2.2.2.1, h.1, h.2.2.2.2.2.2.2⟩

set_option maxHeartbeats 400000 in
theorem carried_calls (A : Option Addr) (n c : Nat) (ds : List Nat) (w : World) (hr : Rd w .i64 A ds) (hn : ds.length = n) (bn : n ≤ 4398046511101) (hd : Low 1099511627776 ds) :
    Calls Tryd.prog 72 #[.slice A n c] w (DgPost (ev 65536 ds) w) := by
  have HN := Lib.hid hn
  clear hn
  go_enter Tryd.func72, Tryd.ntmps72
  go_wp2
  go_loopw [3, 4, 5] (fun v q i wr => ∃ (k x : Nat) (zs : List Nat), i = .int .i64 k ∧ q = .int .i64 x ∧ Carrying ds zs n k x ∧ OwnV w wr 3 .i64 v zs) (fun _ _ i _ => n + 3 - (intOf i).toNat)
  case atStart => exact ⟨0, 0, [], rfl, rfl, Carrying.start _ _, OwnV.nil _ _ _⟩
  case round =>
    obtain ⟨k, x, zs, rfl, rfl, hC, ho⟩ := hrel
    obtain ⟨s1, s2, s3, s4⟩ := hC.sizes
    have S3 := Lib.hid s3
    have hC' := Lib.hid hC
    have hl : zs.length ≤ 4398046511104 := by omega
    have hdk := hd.any (by omega) k
    clear hC s3
    by_cases hlt : k < n
    · go_wp2_with (first | (go_at_call 71; refine (at_calls _ _ _ k ds _ (hr.below ho.2) HN.out).mono ?_; rintro e w' ⟨rfl, rfl⟩) | (at_builtin; refine wpList_app1 w wr rfl _ _ _ rfl 3 .i64 Tryd.underlying58 info_i64 _ zs (by rfl) ho _ ((x + nth ds k) % 65536) (by omega) (by rfl) hl ?_))
      intro v1 w1 ho1
      have hst := hC'.out.step hd HN.out (.inl hlt)
      have hSt := Lib.hid hst
      clear ho hst s4
      go_wp2
      go_roundw
      case rel => exact ⟨k + 1, (x + nth ds k) / 65536, _, by go_num, by go_num, hSt.out, ho1⟩
      case measure => simp [intOf]; omega
    · rcases Nat.eq_zero_or_pos x with rfl | hpos
      · have e := Carrying.stop HN.out hC'.out (by omega)
        have E := Lib.hid e
        have lz := hC'.out.2.1
        clear e s4
        go_wp2_with fail
        refine (rtrim_end ho lz E.out).mono ?_
        rintro e w' ⟨⟨A1, c1, rfl, hg⟩, rfl⟩
        go_wp2
        go_ret
        exact ⟨A1, c1, rfl, hg⟩
      · have hk3 : k < n + 3 := by omega
        have hst := hC'.out.step hd HN.out (.inr hpos)
        have hSt := Lib.hid hst
        clear hst s4
        go_wp2_with (first | (go_at_call 71; refine (at_calls _ _ _ k ds _ (hr.below ho.2) HN.out).mono ?_; rintro e w' ⟨rfl, rfl⟩) | (at_builtin; refine wpList_app1 w wr rfl _ _ _ rfl 3 .i64 Tryd.underlying58 info_i64 _ zs (by rfl) ho _ ((x + nth ds k) % 65536) (by omega) (by rfl) hl ?_))
        intro v1 w1 ho1
        clear ho
        go_wp2
        go_roundw
        case rel => exact ⟨k + 1, (x + nth ds k) / 65536, _, by go_num, by go_num, hSt.out, ho1⟩
        case measure => simp [intOf]; omega

/-- Sums digit by digit: k are done. -/
def Summing (xs ys zs : List Nat) (k : Nat) : Prop := zs.length = k ∧ Low 1099511627776 zs ∧ ev 65536 zs = pre 65536 xs k + pre 65536 ys k
theorem Summing.start (xs ys : List Nat) : Summing xs ys [] 0 := ⟨rfl, Low.nil _, by simp [ev, pre_zero]⟩
theorem Summing.step {xs ys zs : List Nat} {k : Nat} (hx : Low 549755813888 xs) (hy : Low 549755813888 ys) (h : Summing xs ys zs k) : Summing xs ys (zs ++ [nth xs k + nth ys k]) (k + 1) := by
  obtain ⟨h1, h2, h3⟩ := h
  have := hx.any (by omega) k
  have := hy.any (by omega) k
  refine ⟨by simp [h1], h2.snoc (by omega), ?_⟩
  rw [ev_snoc, pre_succ, pre_succ, h1, h3]
  grind
theorem Summing.stop {xs ys zs : List Nat} {k : Nat} (h : Summing xs ys zs k) (hx : xs.length ≤ k) (hy : ys.length ≤ k) : ev 65536 zs = ev 65536 xs + ev 65536 ys := by
  rw [h.2.2, pre_ge _ hx, pre_ge _ hy]
theorem Low.wide {b c : Nat} {xs : List Nat} (h : Low b xs) (hbc : b ≤ c) : Low c xs := fun k hk => by have := h k hk; omega

theorem DgPost.of_get {v : Nat} {w w1 w' : World} {e : Ending} (h : DgPost v w1 e w') (hb : Below w.heap.size w w1) : DgPost v w e w' := by
  obtain ⟨A, c, he, hg⟩ := h
  exact ⟨A, c, he, Got.of_own hg.1 hb.size (hb.trans (hg.2.mono hb.size))⟩

set_option maxHeartbeats 400000 in
theorem radd_calls (A B : Option Addr) (n m c d : Nat) (xs ys : List Nat) (w : World) (hx : Rd w .i64 A xs) (hy : Rd w .i64 B ys) (hxn : xs.length = n) (hyn : ys.length = m) (bn : n ≤ 4398046511101) (bm : m ≤ 4398046511101)
    (lx : Low 549755813888 xs) (ly : Low 549755813888 ys) :
    Calls Tryd.prog 62 #[.slice A n c, .slice B m d] w (DgPost (ev 65536 xs + ev 65536 ys) w) := by
  have HX := Lib.hid hxn
  have HY := Lib.hid hyn
  clear hxn hyn
  go_enter Tryd.func62, Tryd.ntmps62
  go_wp2
  go_loopw [5, 6] (fun v i wr => ∃ (k : Nat) (zs : List Nat), k ≤ max n m ∧ i = .int .i64 k ∧ Summing xs ys zs k ∧ OwnV w wr 3 .i64 v zs) (fun _ i _ => max n m - (intOf i).toNat)
  case atStart => exact ⟨0, [], Nat.zero_le _, rfl, Summing.start _ _, OwnV.nil _ _ _⟩
  case round =>
    obtain ⟨k, zs, hk, rfl, hS, ho⟩ := hrel
    have hl2 : zs.length ≤ 4398046511101 := by have := hS.1; omega
    have hl : zs.length ≤ 4398046511104 := by omega
    have hx1 := lx.any (by omega) k
    have hy1 := ly.any (by omega) k
    by_cases hlt : k < n ∨ k < m
    · have hst := hS.step lx ly
      have hSt := Lib.hid hst
      have hkm : k < max n m := by omega
      clear hS hst
      by_cases h1 : k < n
      all_goals
        have h2 : k < n ∨ k < m := hlt
        clear hlt
        by_cases h3 : k < m
        all_goals first
          | (exfalso; omega)
          | (clear h2
             go_wp2_with (first | (go_at_call_of 71 (Value.slice A n c); refine (at_calls _ _ _ k xs _ (hx.below ho.2) HX.out).mono ?_; rintro e w' ⟨rfl, rfl⟩) | (go_at_call 71; refine (at_calls _ _ _ k ys _ (hy.below ho.2) HY.out).mono ?_; rintro e w' ⟨rfl, rfl⟩) | (at_builtin; refine wpList_app1 w wr rfl _ _ _ rfl 3 .i64 Tryd.underlying58 info_i64 _ zs (by rfl) ho _ (nth xs k + nth ys k) (by omega) (by rfl) hl ?_))
             intro v1 w1 ho1
             clear ho
             go_wp2
             go_roundw
             case rel => exact ⟨k + 1, _, by omega, by go_num, hSt.out, ho1⟩
             case measure => simp [intOf]; omega)
    · have h1 : ¬ k < n := by omega
      have h2 : ¬ k < m := by omega
      have e := hS.stop (by have := HX.out; omega) (by have := HY.out; omega)
      have E := Lib.hid e
      have lz := hS.2.1
      obtain ⟨A2, c2, rfl, hg⟩ := ho.form
      clear e hlt hS
      go_wp2_with fail
      refine (carried_calls _ _ _ zs _ hg.rd rfl (by omega) lz).mono ?_
      rintro e w' hp
      obtain ⟨A1, c1, rfl, hg1⟩ := DgPost.of_get (w := w) hp hg.2
      rw [E.out] at hg1
      rw [E.out]
      go_wp2
      go_ret
      exact ⟨A1, c1, rfl, hg1⟩
end Go.Proofs.YtfdgblmegiehnaaDoor

/-! The reference of layer 1: Cmp, Sub. -/
namespace Go.Proofs.YtfdgblmegiehnaaDoor
open Go.RowKit

set_option maxHeartbeats 400000 in
theorem rcmp_calls (A B : Option Addr) (n m c d : Nat) (xs ys : List Nat) (w : World) (hx : Rd w .i64 A xs) (hy : Rd w .i64 B ys) (hxn : xs.length = n) (hyn : ys.length = m)
    (hc : n ≤ c) (hc' : c ≤ 9223372036854775807) (hd : m ≤ d) (hd' : d ≤ 9223372036854775807) (lx : Low 65536 xs) (ly : Low 65536 ys) :
    Calls Tryd.prog 64 #[.slice A n c, .slice B m d] w fun e w' => e = .returned (.int .i64 (cmpN (ev 65536 xs) (ev 65536 ys))) ∧ Sees w w' := by
  have bx : sl xs ≤ n := hxn ▸ sl_le xs
  have bY : sl ys ≤ m := hyn ▸ sl_le ys
  have HX := Lib.hid hxn
  have HY := Lib.hid hyn
  clear hxn hyn
  rcases Nat.lt_trichotomy (sl xs) (sl ys) with hlt | heq | hlt
  · have e := cmpN_lt (cmp_len (by omega) lx ly hlt)
    have E := Lib.hid e
    clear e
    have f1 : ¬ (sl xs = sl ys) := by omega
    go_enter Tryd.func64, Tryd.ntmps64
    go_wp2_with fail
    refine (rtrim_calls _ _ _ xs _ hx HX.out (by omega) (by omega)).mono ?_
    rintro e w' ⟨rfl, rfl⟩
    go_wp2_with fail
    refine (rtrim_calls _ _ _ ys _ hy HY.out (by omega) (by omega)).mono ?_
    rintro e w' ⟨rfl, rfl⟩
    go_wp2
    go_ret
    exact ⟨by rw [E.out]; rfl, Sees.refl _⟩
  · have E := Lib.hid heq
    have X := Lib.hid (show (sl ys : Nat) = sl xs from heq.symm)
    clear heq
    go_enter Tryd.func64, Tryd.ntmps64
    go_wp2_with fail
    refine (rtrim_calls _ _ _ xs _ hx HX.out (by omega) (by omega)).mono ?_
    rintro e w' ⟨rfl, rfl⟩
    go_wp2_with fail
    refine (rtrim_calls _ _ _ ys _ hy HY.out (by omega) (by omega)).mono ?_
    rintro e w' ⟨rfl, rfl⟩
    rw [X.out]
    go_wp2
    go_loopw [7] (fun i wr => ∃ k : Nat, k ≤ sl xs ∧ Sm xs ys k (sl xs) ∧ i = .int .i64 ((k : Int) - 1) ∧ Sees w wr) (fun i _ => (intOf i + 1).toNat)
    case atStart => exact ⟨sl xs, Nat.le_refl _, fun j h1 h2 => by omega, rfl, Sees.refl _⟩
    case round =>
      obtain ⟨k, hk, hs, rfl, hw⟩ := hrel
      rcases Nat.eq_zero_or_pos k with rfl | hpos
      · have e := cmpN_eq (cmp_same (b := 65536) E.out hs)
        have E2 := Lib.hid e
        clear e
        go_wp2
        go_ret
        exact ⟨by rw [E2.out]; rfl, hw⟩
      · obtain ⟨i, rfl⟩ : ∃ i, k = i + 1 := ⟨k - 1, by omega⟩
        obtain ⟨ad, rfl, _, c1⟩ := (hw.rd hx).at (k := i) (by have := HX.out; omega)
        obtain ⟨ae, rfl, _, c2⟩ := (hw.rd hy).at (k := i) (by have := HY.out; have := X.out; omega)
        rw [show (((i + 1 : Nat) : Int) - 1) = (i : Int) from by omega]
        have hi : i < sl xs := by omega
        have u1 := lx.any (by omega) i
        have u2 := ly.any (by omega) i
        rcases Nat.lt_trichotomy (nth xs i) (nth ys i) with h1 | h1 | h1
        · have e := cmpN_lt (cmp_digit (b := 65536) (by omega) lx E.out hi hs h1)
          have E2 := Lib.hid e
          clear e hs
          go_wp2
          go_quiet (fail)
          go_wp2
          go_ret
          exact ⟨by rw [E2.out]; rfl, hw.more _⟩
        · have hs' : Sm xs ys i (sl xs) := fun j h2 h3 => by
            rcases Nat.eq_or_lt_of_le h2 with rfl | h
            · exact h1
            · exact hs j h h3
          have b1 : ¬ (nth xs i < nth ys i) := by omega
          have b2 : ¬ (nth ys i < nth xs i) := by omega
          clear h1 hs
          go_wp2
          go_quiet (fail)
          obtain ⟨w1, hw1⟩ : ∃ w1, w1 = wr.drewN nq := ⟨_, rfl⟩
          have hs1 : Sees w w1 := hw1 ▸ hw.more nq
          have c3 : w1.cell? (ad.add i) = some (.int .i64 (nth xs i)) := by rw [hw1]; exact c1
          have c4 : w1.cell? (ae.add i) = some (.int .i64 (nth ys i)) := by rw [hw1]; exact c2
          rw [← hw1]
          clear hw1 c1 c2 hw
          go_wp2
          go_quiet (fail)
          go_wp2
          go_roundw
          case rel => exact ⟨i, by omega, hs', rfl, hs1.more _⟩
          case measure => simp [intOf]
        · have hs2 : Sm ys xs (i + 1) (sl ys) := fun j h2 h3 => (hs j h2 (by have := E.out; omega)).symm
          have e := cmpN_gt (cmp_digit (b := 65536) (by omega) ly X.out (by have := E.out; omega) hs2 h1)
          have E2 := Lib.hid e
          have b2 : ¬ (nth xs i < nth ys i) := by omega
          clear e hs hs2
          go_wp2
          go_quiet (fail)
          obtain ⟨w1, hw1⟩ : ∃ w1, w1 = wr.drewN nq := ⟨_, rfl⟩
          have hs1 : Sees w w1 := hw1 ▸ hw.more nq
          have c3 : w1.cell? (ad.add i) = some (.int .i64 (nth xs i)) := by rw [hw1]; exact c1
          have c4 : w1.cell? (ae.add i) = some (.int .i64 (nth ys i)) := by rw [hw1]; exact c2
          rw [← hw1]
          clear hw1 c1 c2 hw
          go_wp2
          go_quiet (fail)
          go_wp2
          go_ret
          exact ⟨by rw [E2.out]; rfl, hs1.more _⟩
  · have e := cmpN_gt (cmp_len (by omega) ly lx hlt)
    have E := Lib.hid e
    clear e
    have f1 : ¬ (sl xs = sl ys) := by omega
    have f2 : ¬ (sl xs < sl ys) := by omega
    go_enter Tryd.func64, Tryd.ntmps64
    go_wp2_with fail
    refine (rtrim_calls _ _ _ xs _ hx HX.out (by omega) (by omega)).mono ?_
    rintro e w' ⟨rfl, rfl⟩
    go_wp2_with fail
    refine (rtrim_calls _ _ _ ys _ hy HY.out (by omega) (by omega)).mono ?_
    rintro e w' ⟨rfl, rfl⟩
    go_wp2
    go_ret
    exact ⟨by rw [E.out]; rfl, Sees.refl _⟩

/-- The digit that is left, and the borrow. -/
theorem sub_digit {x y c : Nat} (hx : x < 65536) (hy : y < 65536) (hc : c ≤ 1) :
    ((y + c ≤ x ∧ 0 ≤ (x : Int) - y - c ∧ (x : Int) - y - c = ((x - y - c : Nat) : Int)) ∨ (x < y + c ∧ (x : Int) - y - c < 0 ∧ (x : Int) - y - c + 65536 = ((x + 65536 - y - c : Nat) : Int))) := by omega

set_option maxHeartbeats 400000 in
theorem rsub_calls (A B : Option Addr) (n m c d : Nat) (xs ys : List Nat) (w : World) (hx : Rd w .i64 A xs) (hy : Rd w .i64 B ys) (hxn : xs.length = n) (hyn : ys.length = m) (bn : n ≤ 4398046511101)
    (lx : Low 65536 xs) (ly : Low 65536 ys) (hle : ev 65536 ys ≤ ev 65536 xs) (hmn : m ≤ n) :
    Calls Tryd.prog 65 #[.slice A n c, .slice B m d] w (DgPost (ev 65536 xs - ev 65536 ys) w) := by
  have HX := Lib.hid hxn
  have HY := Lib.hid hyn
  have HL := Lib.hid hle
  clear hxn hyn hle
  go_enter Tryd.func65, Tryd.ntmps65
  go_wp2
  go_loopw [5, 6, 7] (fun v q i wr => ∃ (k x : Nat) (zs : List Nat), k ≤ n ∧ i = .int .i64 k ∧ q = .int .i64 x ∧ Subbing 65536 xs ys zs k x ∧ OwnV w wr 3 .i64 v zs) (fun _ _ i _ => n - (intOf i).toNat)
  case atStart => exact ⟨0, 0, [], Nat.zero_le _, rfl, rfl, Subbing.start _ _ _, OwnV.nil _ _ _⟩
  case round =>
    obtain ⟨k, x, zs, hk, rfl, rfl, hS, ho⟩ := hrel
    have hl : zs.length ≤ 4398046511104 := by have := hS.1; omega
    have hxc := hS.2.2.1
    by_cases hlt : k < n
    · have u1 := lx.any (by omega) k
      have u2 := ly.any (by omega) k
      obtain ⟨ad, rfl, _, c1⟩ := (hx.below ho.2).at (k := k) (by have := HX.out; omega)
      have hy' := hy.below ho.2
      rcases sub_digit u1 u2 hxc with ⟨g1, g2, g3⟩ | ⟨g1, g2, g3⟩
      · have hst := hS.step (s := nth xs k - nth ys k - x) (c' := 0) (by omega) (by omega) (by omega)
        have hSt := Lib.hid hst
        have G3 := Lib.hid g3
        clear hS hst g3
        go_wp2
        go_quiet ((go_at_call 71; exact quiet_same (at_calls _ _ _ k ys _ (hy'.drewN _) HY.out)))
        obtain ⟨w1, hw1⟩ : ∃ w1, w1 = wr.drewN nq := ⟨_, rfl⟩
        have ho1 : OwnV w w1 3 .i64 _ zs := hw1 ▸ ho.drewN nq
        rw [← hw1]
        clear hw1 ho c1
        go_wp2_with (at_builtin; refine wpList_app1 w w1 rfl _ _ _ rfl 3 .i64 Tryd.underlying58 info_i64 _ zs (by rfl) ho1 _ (nth xs k - nth ys k - x) G3.out (by rfl) hl ?_)
        intro v2 w2 ho2
        clear ho1
        go_wp2
        go_roundw
        case rel => exact ⟨k + 1, 0, _, by omega, by go_num, rfl, hSt.out, ho2⟩
        case measure => simp [intOf]; omega
      · have hst := hS.step (s := nth xs k + 65536 - nth ys k - x) (c' := 1) (by omega) (by omega) (by omega)
        have hSt := Lib.hid hst
        have G3 := Lib.hid g3
        clear hS hst g3
        go_wp2
        go_quiet ((go_at_call 71; exact quiet_same (at_calls _ _ _ k ys _ (hy'.drewN _) HY.out)))
        obtain ⟨w1, hw1⟩ : ∃ w1, w1 = wr.drewN nq := ⟨_, rfl⟩
        have ho1 : OwnV w w1 3 .i64 _ zs := hw1 ▸ ho.drewN nq
        rw [← hw1]
        clear hw1 ho c1
        go_wp2_with (at_builtin; refine wpList_app1 w w1 rfl _ _ _ rfl 3 .i64 Tryd.underlying58 info_i64 _ zs (by rfl) ho1 _ (nth xs k + 65536 - nth ys k - x) G3.out (by rfl) hl ?_)
        intro v2 w2 ho2
        clear ho1
        go_wp2
        go_roundw
        case rel => exact ⟨k + 1, 1, _, by omega, by go_num, rfl, hSt.out, ho2⟩
        case measure => simp [intOf]; omega
    · obtain rfl : k = n := by omega
      have hx0 : x = 0 := by
        rcases Nat.eq_zero_or_pos x with h | h
        · exact h
        · obtain rfl : x = 1 := by omega
          have := hS.lacks (by have := HX.out; omega) (by have := HY.out; omega)
          have := HL.out
          omega
      subst hx0
      have e := (hS.fits (by have := HX.out; omega) (by have := HY.out; omega)).2
      have E := Lib.hid e
      have lz := hS.2.1
      clear e hlt hS
      go_wp2_with fail
      refine (rtrim_end ho lz E.out).mono ?_
      rintro e w' ⟨⟨A1, c1, rfl, hg⟩, rfl⟩
      go_wp2
      go_ret
      exact ⟨A1, c1, rfl, hg⟩
end Go.Proofs.YtfdgblmegiehnaaDoor

/-! The reference of layer 1: To, Same; quincunxlaw01.is. -/
namespace Go.Proofs.YtfdgblmegiehnaaDoor
open Go.RowKit

theorem pre_cons (b : Nat) (xs : List Nat) (k : Nat) : pre b xs (k + 1) = nth xs 0 + b * pre b (xs.drop 1) k := by
  cases xs with
  | nil => simp [pre, ev, nth]
  | cons x xs => simp [pre, ev, nth]
theorem pre_add (b : Nat) (xs : List Nat) (i k : Nat) : pre b xs (i + k) = pre b xs i + b ^ i * pre b (xs.drop i) k := by
  induction k with
  | zero => simp [pre_zero]
  | succ k ih => rw [← Nat.add_assoc, pre_succ, pre_succ, ih, nth_drop, Nat.pow_add]; grind

/-- The word of four digits from i on, its digits from s on. -/
def hor (ds : List Nat) (i s : Nat) : Nat := pre 65536 (ds.drop (i + s)) (4 - s)
theorem hor_four (ds : List Nat) (i : Nat) : hor ds i 4 = 0 := by simp [hor, pre_zero]
theorem hor_step (ds : List Nat) (i s : Nat) (hs : s < 4) : hor ds i s = nth ds (i + s) + 65536 * hor ds i (s + 1) := by
  unfold hor
  rw [show 4 - s = (4 - (s + 1)) + 1 from by omega, pre_cons, nth_drop, List.drop_drop]
  rfl
theorem hor_lt {ds : List Nat} (h : Low 65536 ds) (i s : Nat) (hs : 1 ≤ s) : hor ds i s < 281474976710656 := by
  have h1 := pre_lt (h.drop (i + s)) (by omega) (4 - s)
  have h2 : (65536 : Nat) ^ (4 - s) ≤ 65536 ^ 3 := Nat.pow_le_pow_right (by omega) (by omega)
  unfold hor
  have e : (65536 : Nat) ^ 3 = 281474976710656 := by decide
  omega
theorem hor_word {ds : List Nat} (h : Low 65536 ds) (i : Nat) : hor ds i 0 < 18446744073709551616 := by
  have h1 := pre_lt (h.drop i) (by omega) 4
  have e : (65536 : Nat) ^ 4 = 18446744073709551616 := by decide
  unfold hor
  rw [e] at h1
  exact h1

/-- The words of q fours of digits. -/
def Joining (ds W : List Nat) (q : Nat) : Prop := W.length = q ∧ Low 18446744073709551616 W ∧ ev 18446744073709551616 W = pre 65536 ds (4 * q)
theorem Joining.start (ds : List Nat) : Joining ds [] 0 := ⟨rfl, Low.nil _, by simp [ev, pre_zero]⟩
theorem Joining.step {ds W : List Nat} {q : Nat} (hd : Low 65536 ds) (h : Joining ds W q) : Joining ds (W ++ [hor ds (4 * q) 0]) (q + 1) := by
  obtain ⟨h1, h2, h3⟩ := h
  refine ⟨by simp [h1], h2.snoc (hor_word hd _), ?_⟩
  rw [ev_snoc, h1, h3, show 4 * (q + 1) = 4 * q + 4 from by omega, pre_add, pow_word]
  rfl
theorem Joining.stop {ds W : List Nat} {q : Nat} (h : Joining ds W q) (hq : ds.length ≤ 4 * q) : ev 18446744073709551616 W = ev 65536 ds := by
  rw [h.2.2, pre_ge _ hq]

/-- The length in a slot. -/
def lenOf : Value → Nat | .slice _ k _ => k | _ => 0

theorem quiet_bool {w w' : World} {b : Bool} {e : Ending} (h : e = .returned (.bool b) ∧ Sees w w') : e = .returned (.bool b) ∧ Below w.heap.size w w' := ⟨h.1, h.2.below _⟩

end Go.Proofs.YtfdgblmegiehnaaDoor

/-! Contracts by value: canonical words, canonical digits; what the reference and package nat answer. -/
namespace Go.Proofs.YtfdgblmegiehnaaDoor
open Go.RowKit

/-- The slice (A, n, c) reads as the canonical words of v. -/
def Cv (w : World) (A : Option Addr) (n c v : Nat) : Prop :=
  Rd w .u64 A (cn 18446744073709551616 v) ∧ (cn 18446744073709551616 v).length = n ∧ n ≤ c ∧ c ≤ 9223372036854775807
theorem Cv.below {w w' : World} {A : Option Addr} {n c v : Nat} (h : Cv w A n c v) (hb : Below w.heap.size w w') : Cv w' A n c v := ⟨h.1.below hb, h.2⟩
theorem Cv.nv {w : World} {A : Option Addr} {n c v : Nat} (h : Cv w A n c v) : Nv w A n c v := ⟨_, h.1, h.2.1, h.2.2.1, h.2.2.2, cn_low _ _ (by omega), ev_cn _ _ (by omega)⟩
/-- The slice (A, n, c) reads as the canonical digits of v. -/
def Dv (w : World) (A : Option Addr) (n c v : Nat) : Prop :=
  Rd w .i64 A (cn 65536 v) ∧ (cn 65536 v).length = n ∧ n ≤ c ∧ c ≤ 9223372036854775807
theorem Dv.below {w w' : World} {A : Option Addr} {n c v : Nat} (h : Dv w A n c v) (hb : Below w.heap.size w w') : Dv w' A n c v := ⟨h.1.below hb, h.2⟩
theorem Dv.nil (w : World) : Dv w none 0 0 0 := ⟨Rd.nil _ _ _, rfl, Nat.le_refl _, by omega⟩

def CvPost (v k : Nat) (w : World) (e : Ending) (w' : World) : Prop :=
  ∃ A n c, e = .returned (.slice A n c) ∧ Cv w' A n c v ∧ n ≤ k ∧ Below w.heap.size w w'
theorem NatPost.cv {v k : Nat} {w w' : World} {e : Ending} (h : NatPost v w e w') (hk : v < 18446744073709551616 ^ k) : CvPost v k w e w' := by
  obtain ⟨A, c, rfl, hg⟩ := h
  have hc := hg.cap
  exact ⟨A, _, c, rfl, ⟨hg.rd, rfl, hc.1, by have := hc.2; unfold maxLen at this; omega⟩, cn_len_of_lt _ _ _ (by omega) hk, hg.2⟩
def DvPost (v k : Nat) (w : World) (e : Ending) (w' : World) : Prop :=
  ∃ A n c, e = .returned (.slice A n c) ∧ Dv w' A n c v ∧ n ≤ k ∧ Below w.heap.size w w'
theorem DgPost.dv {v k : Nat} {w w' : World} {e : Ending} (h : DgPost v w e w') (hk : v < 65536 ^ k) : DvPost v k w e w' := by
  obtain ⟨A, c, rfl, hg⟩ := h
  have hc := hg.cap
  exact ⟨A, _, c, rfl, ⟨hg.rd, rfl, hc.1, by have := hc.2; unfold maxLen at this; omega⟩, cn_len_of_lt _ _ _ (by omega) hk, hg.2⟩
theorem Dv.lt {w : World} {A : Option Addr} {n c v : Nat} (h : Dv w A n c v) : v < 65536 ^ n := by
  have := cn_len_lt 65536 v (by omega)
  rwa [h.2.1] at this
theorem Cv.lt {w : World} {A : Option Addr} {n c v : Nat} (h : Cv w A n c v) : v < 18446744073709551616 ^ n := h.nv.lt
theorem pow_dig {n k : Nat} (h : n ≤ k) : (65536 : Nat) ^ n ≤ 65536 ^ k := Nat.pow_le_pow_right (by omega) h

theorem addc_v {A B : Option Addr} {n m c d x y : Nat} {w : World} (hx : Nv w A n c x) (hy : Nv w B m d y) (hn : n ≤ 1099511627776) (hm : m ≤ 1099511627776) :
    Calls Tryd.prog 38 #[.slice A n c, .slice B m d] w (CvPost (x + y) (max n m + 1) w) := by
  have l1 := hx.lt
  have l2 := hy.lt
  obtain ⟨xs, h1, h2, h3, h4, h5, rfl⟩ := hx
  obtain ⟨ys, g1, g2, g3, g4, g5, rfl⟩ := hy
  refine (add_calls A B n m c d xs ys w h1 g1 h2 g2 h3 h4 g3 g4 h5 g5 hn hm).mono fun _ _ h => h.cv ?_
  have p1 := pow_big (Nat.le_max_left n m)
  have p2 := pow_big (Nat.le_max_right n m)
  rw [Nat.pow_succ]
  omega
theorem mulc_v {A B : Option Addr} {n m c d x y : Nat} {w : World} (hx : Nv w A n c x) (hy : Nv w B m d y) (hn : n ≤ 1099511627776) (hm : m ≤ 1099511627776) :
    Calls Tryd.prog 55 #[.slice A n c, .slice B m d] w (CvPost (x * y) (n + m) w) := by
  have l1 := hx.lt
  have l2 := hy.lt
  obtain ⟨xs, h1, h2, h3, h4, h5, rfl⟩ := hx
  obtain ⟨ys, g1, g2, g3, g4, g5, rfl⟩ := hy
  refine (mul_calls A B n m c d xs ys w h1 g1 h2 g2 h3 h4 g3 g4 h5 g5 hn hm).mono fun _ _ h => h.cv ?_
  rw [Nat.pow_add]
  exact Nat.mul_lt_mul'' l1 l2
theorem normc_v {A : Option Addr} {n c x : Nat} {w : World} (hx : Nv w A n c x) (hn : n ≤ 1099511627776) :
    Calls Tryd.prog 58 #[.slice A n c] w (CvPost x n w) := by
  have l1 := hx.lt
  obtain ⟨xs, h1, h2, h3, h4, h5, rfl⟩ := hx
  exact (norm_calls A n c xs w h1 h2 h3 h4 h5 hn).mono fun _ _ h => h.cv l1
def SubCv (x y : Nat) (k : Nat) (w : World) (e : Ending) (w' : World) : Prop :=
  ∃ A n c, e = .returned (.tuple #[.slice A n c, .bool true]) ∧ Cv w' A n c (x - y) ∧ n ≤ k ∧ Below w.heap.size w w'
theorem subc_yes {A B : Option Addr} {n m c d x y : Nat} {w : World} (hx : Nv w A n c x) (hy : Nv w B m d y) (hn : n ≤ 1099511627776) (h : y ≤ x) :
    Calls Tryd.prog 39 #[.slice A n c, .slice B m d] w (SubCv x y n w) := by
  have l1 := hx.lt
  obtain ⟨xs, h1, h2, h3, h4, h5, rfl⟩ := hx
  obtain ⟨ys, g1, g2, g3, g4, g5, rfl⟩ := hy
  refine (sub_calls A B n m c d xs ys w h1 g1 h2 g2 h3 h4 g3 g4 h5 g5 hn).mono ?_
  rintro e w' ⟨A', c', zs, rfl, hg, hz⟩
  rw [if_pos h] at hz
  subst hz
  have hc := hg.cap
  rw [decide_eq_true h]
  exact ⟨A', _, c', rfl, ⟨hg.rd, rfl, hc.1, by have := hc.2; unfold maxLen at this; omega⟩, cn_len_of_lt _ _ _ (by omega) (by omega), hg.2⟩
theorem sub_no {A B : Option Addr} {n m c d x y : Nat} {w : World} (hx : Nv w A n c x) (hy : Nv w B m d y) (hn : n ≤ 1099511627776) (h : x < y) :
    Calls Tryd.prog 39 #[.slice A n c, .slice B m d] w fun e w' => (∃ A c, e = .returned (.tuple #[.slice A 0 c, .bool false])) ∧ Below w.heap.size w w' := by
  obtain ⟨xs, h1, h2, h3, h4, h5, rfl⟩ := hx
  obtain ⟨ys, g1, g2, g3, g4, g5, rfl⟩ := hy
  refine (sub_calls A B n m c d xs ys w h1 g1 h2 g2 h3 h4 g3 g4 h5 g5 hn).mono ?_
  rintro e w' ⟨A', c', zs, rfl, hg, hz⟩
  rw [if_neg (by omega)] at hz
  subst hz
  rw [decide_eq_false (by omega)]
  exact ⟨⟨A', c', rfl⟩, hg.2⟩

theorem from_v {A : Option Addr} {n c x : Nat} {w : World} (hx : Nv w A n c x) (hn : n ≤ 1099511627775) :
    Calls Tryd.prog 50 #[.slice A n c] w (DvPost x (4 * n) w) := by
  have l1 := hx.lt
  obtain ⟨xs, h1, h2, h3, h4, h5, rfl⟩ := hx
  exact (from_calls A n c xs w h1 h2 hn h5).mono fun _ _ h => h.dv (by rwa [pow_word] at l1)
theorem rcmp_v {A B : Option Addr} {n m c d x y : Nat} {r : Int} {w : World} (hx : Dv w A n c x) (hy : Dv w B m d y) (h : cmpN x y = r) :
    Calls Tryd.prog 64 #[.slice A n c, .slice B m d] w fun e w' => e = .returned (.int .i64 r) ∧ Below w.heap.size w w' := by
  refine (rcmp_calls A B n m c d _ _ w hx.1 hy.1 hx.2.1 hy.2.1 hx.2.2.1 hx.2.2.2 hy.2.2.1 hy.2.2.2 (cn_low _ _ (by omega)) (cn_low _ _ (by omega))).mono ?_
  rintro e w' ⟨rfl, hs⟩
  rw [ev_cn _ _ (by omega), ev_cn _ _ (by omega), h]
  exact ⟨rfl, hs.below _⟩
theorem radd_v {A B : Option Addr} {n m c d x y : Nat} {w : World} (hx : Dv w A n c x) (hy : Dv w B m d y) (hn : n ≤ 4398046511101) (hm : m ≤ 4398046511101) :
    Calls Tryd.prog 62 #[.slice A n c, .slice B m d] w (DvPost (x + y) (max n m + 1) w) := by
  have l1 := hx.lt
  have l2 := hy.lt
  refine (radd_calls A B n m c d _ _ w hx.1 hy.1 hx.2.1 hy.2.1 hn hm ((cn_low _ _ (by omega)).wide (by omega)) ((cn_low _ _ (by omega)).wide (by omega))).mono fun e w' h => ?_
  rw [ev_cn _ _ (by omega), ev_cn _ _ (by omega)] at h
  refine h.dv ?_
  have p1 := pow_dig (Nat.le_max_left n m)
  have p2 := pow_dig (Nat.le_max_right n m)
  rw [Nat.pow_succ]
  omega
theorem rsub_v {A B : Option Addr} {n m c d x y : Nat} {w : World} (hx : Dv w A n c x) (hy : Dv w B m d y) (hn : n ≤ 4398046511101) (h : y ≤ x) :
    Calls Tryd.prog 65 #[.slice A n c, .slice B m d] w (DvPost (x - y) n w) := by
  have l1 := hx.lt
  refine (rsub_calls A B n m c d _ _ w hx.1 hy.1 hx.2.1 hy.2.1 hn (cn_low _ _ (by omega)) (cn_low _ _ (by omega)) (by rw [ev_cn _ _ (by omega), ev_cn _ _ (by omega)]; exact h) (by rw [← hx.2.1, ← hy.2.1]; exact cn_len_mono _ _ _ (by omega) h)).mono fun e w' h => ?_
  rw [ev_cn _ _ (by omega), ev_cn _ _ (by omega)] at h
  exact h.dv (by omega)
end Go.Proofs.YtfdgblmegiehnaaDoor

/-! The reference of layer 1: Mul. -/
namespace Go.Proofs.YtfdgblmegiehnaaDoor
open Go.RowKit

theorem OwnV.alloc {w0 w : World} {t : TypeId} {K : IntKind} {v : Value} {zs : List Nat} (h : OwnV w0 w t K v zs) (o : Obj) : OwnV w0 (w.alloc o) t K v zs := h.below ((Below.refl _ _).alloc (Nat.le_refl _) o)
theorem OwnV.drew {w0 w : World} {t : TypeId} {K : IntKind} {v : Value} {zs : List Nat} (h : OwnV w0 w t K v zs) : OwnV w0 w.drew t K v zs := h.drewN 1

/-- One append of one number, as one step of a region that draws its order. -/
theorem step_app1 {P : Program} (w0 : World) {wr : World} {ops : Array Oper} {o : Oper} {a : Act} {Kc : Act → World → Prop} {Q : Exit → Act → World → Prop} {E : Prop} (hgd : o.guard = none) (s x : Operand) (t : TypeId)
    (ho : o.op = .call { callee := .builtin .append, args := #[s, x], argTypes := #[t, t] })
    (e : TypeId) (K : IntKind) (ht : P.underlying t = some (.slice e)) (hinfo : (P.info? e).map (fun i => (i.zero, i.size, i.bytes)) = some (some (.int K 0), 1, 8))
    (v : Value) (zs : List Nat) (hs : a.eval s = v) (hown : OwnV w0 wr e K v zs) (y : Int) (d : Nat) (hy : y = (d : Int))
    (hx : a.eval x = .slice (some ⟨wr.heap.size, 0, none⟩) 1 1) (hlen : zs.length ≤ 4398046511104)
    (h : ∀ v' w', OwnV w0 w' e K v' (zs ++ [d]) → Kc (a.put o.dst v') w') :
    if Region.wanted o (yielded ops a.tmps) = true then Oper.wp P o a (wr.alloc (.cells #[.int K y] e)).drew Kc Q else E := by
  have hw : Region.wanted o (yielded ops a.tmps) = true := by simp [Region.wanted, hgd]
  rw [if_pos hw]
  subst hy
  obtain ⟨i, hi, hz0, hz1, hz2⟩ := info_parts hinfo
  obtain ⟨h1, h2⟩ := hown.drew
  have hb := h2.size
  refine wp_append_own (P := P) _ s x t ho w0.heap.size e i (.int K 0) 1 8 ht hi hz0 hz1 hz2 rfl (by omega) v zs.length (vs K zs) hs ((h1.alloc _)) ⟨wr.heap.size, 0, none⟩ 1 1 [.int K (d : Int)] hx rfl ?_ ?_ (by unfold maxLen; omega) (by omega) (by simp; simp at hb; omega) ?_
  · intro j u hu
    match j, hu with
    | 0, hu =>
      simp at hu
      subst hu
      simp [Addr.add]
  · intro u hu
    simp at hu
    subst hu
    rfl
  · intro v' w' o1 o2 _
    refine h v' w' ⟨?_, (h2.alloc hb _).grown o2 (by simp; simp at hb; omega) (fun k hk => (h1.lt k hk).1)⟩
    rw [vs_append, List.length_append]
    exact o1

/-- A line of a product: i noughts, and k products with the digit y. -/
def Lining (xs L : List Nat) (y i k : Nat) : Prop := L.length = i + k ∧ Low 1099511627776 L ∧ ev 65536 L = 65536 ^ i * (pre 65536 xs k * y)
theorem Lining.start (xs : List Nat) (y i : Nat) : Lining xs (List.replicate i 0) y i 0 := ⟨by simp, Low.replicate _ _ (by omega), by rw [ev_replicate, pre_zero]; simp⟩
theorem Lining.step {xs L : List Nat} {y i k : Nat} (hx : Low 65536 xs) (hy : y < 65536) (h : Lining xs L y i k) : Lining xs (L ++ [nth xs k * y]) y i (k + 1) := by
  obtain ⟨h1, h2, h3⟩ := h
  have hb := hx.any (by omega) k
  have h4 : nth xs k * y ≤ 65535 * 65535 := Nat.mul_le_mul (by omega) (by omega)
  refine ⟨by simp [h1]; omega, h2.snoc (by omega), ?_⟩
  rw [ev_snoc, h1, h3, pre_succ, Nat.pow_add]
  grind
theorem Lining.stop {xs L : List Nat} {y i k : Nat} (h : Lining xs L y i k) (hk : xs.length ≤ k) : ev 65536 L = 65536 ^ i * (ev 65536 xs * y) := by
  rw [h.2.2, pre_ge _ hk]
theorem zeros_snoc (j : Nat) : List.replicate j 0 ++ [0] = List.replicate (j + 1) (0 : Nat) := by
  rw [List.replicate_succ']

theorem prod_step {p x y : Nat} (xs ys : List Nat) (i : Nat) (hp : p = x * pre 65536 ys i) (hy : y = nth ys i) (hx : ev 65536 xs = x) : p + 65536 ^ i * (ev 65536 xs * y) = x * pre 65536 ys (i + 1) := by
  subst hp hy hx
  rw [pre_succ]
  grind

set_option maxHeartbeats 1000000 in
theorem rmul_calls (A B : Option Addr) (n m c d x y : Nat) (w : World) (hx : Dv w A n c x) (hy : Dv w B m d y) (hn : n ≤ 1099511627776) (hm : m ≤ 1099511627776) :
    Calls Tryd.prog 67 #[.slice A n c, .slice B m d] w (DvPost (x * y) (n + m) w) := by
  obtain ⟨hrx, hxn, _, _⟩ := hx
  obtain ⟨hry, hyn, _, _⟩ := hy
  have hex := ev_cn 65536 x (by omega)
  have hey := ev_cn 65536 y (by omega)
  have lx := cn_low 65536 x (by omega)
  have ly := cn_low 65536 y (by omega)
  generalize cn 65536 x = xs at *
  generalize cn 65536 y = ys at *
  have hxlt := ev_lt lx
  rw [hex, hxn] at hxlt
  have HX := Lib.hid hxn
  have HY := Lib.hid hyn
  have EX := Lib.hid hex
  have EY := Lib.hid hey
  have HXL := Lib.hid hxlt
  clear hxn hyn hex hey hxlt
  have hlen : ∀ i, x * pre 65536 ys i < 65536 ^ (n + i) := fun i => by
    rw [Nat.pow_add]
    exact Nat.mul_lt_mul'' HXL.out (pre_lt ly (by omega) i)
  have HLEN := Lib.hid hlen
  clear hlen
  go_enter Tryd.func67, Tryd.ntmps67
  go_wp2
  go_loopw [5, 6] (fun v i wr => ∃ (k a e : Nat) (D : Option Addr), k ≤ m ∧ i = .int .i64 k ∧ v = .slice D a e ∧ Dv wr D a e (x * pre 65536 ys k) ∧ Below w.heap.size w wr) (fun _ i _ => m - (intOf i).toNat)
  case atStart => exact ⟨0, 0, 0, none, Nat.zero_le _, rfl, rfl, by rw [pre_zero, Nat.mul_zero]; exact Dv.nil _, Below.refl _ _⟩
  case round =>
    obtain ⟨i, a, e, D, hi, rfl, rfl, hv, hw⟩ := hrel
    by_cases hlt : i < m
    · obtain ⟨wo, rfl⟩ : ∃ wo : World, wo = wr := ⟨_, rfl⟩
      have u2 := ly.any (by omega) i
      go_wp2
      go_loopw [7, 8] (fun v k wr => ∃ j : Nat, j ≤ i ∧ k = .int .i64 j ∧ OwnV wo wr 3 .i64 v (List.replicate j 0)) (fun _ k _ => i - (intOf k).toNat)
      case atStart => exact ⟨0, Nat.zero_le _, rfl, OwnV.nil _ _ _⟩
      case round =>
        obtain ⟨j, hj, rfl, ho⟩ := hrel
        by_cases hlt2 : j < i
        · go_wp2_with (at_builtin; refine wpList_app1 wo wr rfl _ _ _ rfl 3 .i64 Tryd.underlying58 info_i64 _ (List.replicate j 0) (by rfl) ho _ 0 rfl (by rfl) (by simp; omega) ?_)
          intro v1 w1 ho1
          clear ho
          go_wp2
          go_roundw
          case rel => exact ⟨j + 1, by omega, by go_num, by rw [zeros_snoc] at ho1; exact ho1⟩
          case measure => simp [intOf]; omega
        · obtain rfl : j = i := by omega
          clear hlt2
          go_wp2
          go_loopw [7, 9] (fun v k wr => ∃ (t : Nat) (L : List Nat), t ≤ n ∧ k = .int .i64 t ∧ Lining xs L (nth ys j) j t ∧ OwnV wo wr 3 .i64 v L) (fun _ k _ => n - (intOf k).toNat)
          case atStart => exact ⟨0, _, Nat.zero_le _, rfl, Lining.start _ _ _, ho⟩
          case round =>
            clear ho
            obtain ⟨t, L, ht, rfl, hL, ho⟩ := hrel
            have hll : L.length ≤ 2199023255552 := by have := hL.1; omega
            have hl : L.length ≤ 4398046511104 := by omega
            by_cases hlt3 : t < n
            · have u1 := lx.any (by omega) t
              have hp : nth xs t * nth ys j ≤ 65535 * 65535 := Nat.mul_le_mul (by omega) (by omega)
              obtain ⟨ad, rfl, _, c1⟩ := (hrx.below (hw.trans (ho.2.mono hw.size))).at (k := t) (by have := HX.out; omega)
              obtain ⟨ae, rfl, _, c2⟩ := (hry.below (hw.trans (ho.2.mono hw.size))).at (k := j) (by have := HY.out; omega)
              have hst := hL.step lx u2
              have hSt := Lib.hid hst
              have p1 : 0 ≤ ((nth xs t : Nat) : Int) * ((nth ys j : Nat) : Int) := by rw [← Int.natCast_mul]; omega
              have p2 : ((nth xs t : Nat) : Int) * ((nth ys j : Nat) : Int) ≤ 4294836225 := by rw [← Int.natCast_mul]; omega
              have hwr : IntKind.i64.wrap (((nth xs t : Nat) : Int) * ((nth ys j : Nat) : Int)) = ((nth xs t * nth ys j : Nat) : Int) := by rw [IntWalk.i64_in _ (by omega), Int.natCast_mul]
              have HWR := Lib.hid hwr
              clear hL hst hp hwr
              go_wp2
              go_region_law (refine step_app1 wo rfl _ _ _ rfl 3 .i64 Tryd.underlying58 info_i64 _ L (by rfl) ho _ (nth xs t * nth ys j) HWR.out (by rfl) hl ?_; intro v2 w2 ho2)
              all_goals
                clear ho
                go_wp2
                go_roundw
                case rel => exact ⟨t + 1, _, by omega, by go_num, hSt.out, ho2⟩
                case measure => simp [intOf]; omega
            · obtain rfl : t = n := by omega
              have e1 := hL.stop (by have := HX.out; omega)
              have E1 := Lib.hid e1
              have lL := hL.2.1
              have hv' := hv.below ho.2
              have hw' := hw.trans (ho.2.mono hw.size)
              obtain ⟨A2, c2, rfl, hg⟩ := ho.form
              have e2 := prod_step xs ys j rfl rfl EX.out
              have E2 := Lib.hid e2
              have hL2 : ev 65536 L < 65536 ^ (t + j + 1) := by
                rw [E1.out, show t + j + 1 = j + (t + 1) from by omega, Nat.pow_add 65536 j (t + 1), Nat.pow_succ 65536 t]
                refine Nat.mul_lt_mul_of_pos_left (Nat.mul_lt_mul'' ?_ u2) (Nat.pow_pos (by omega))
                rw [EX.out]; exact HXL.out
              have HL2 := Lib.hid hL2
              have ha : a ≤ t + j := by rw [← hv.2.1]; exact cn_len_of_lt _ _ _ (by omega) (HLEN.out j)
              clear hlt3 hL e1 e2 hL2 ho
              go_wp2_with fail
              refine (carried_calls _ _ _ L _ hg.rd rfl (by omega) lL).mono ?_
              rintro e w1 hp
              obtain ⟨A3, n3, c3, rfl, h3, k3, b3⟩ := hp.dv HL2.out
              have hv2 := hv'.below b3
              have hw2 := hw'.trans (b3.mono hw'.size)
              clear hp
              go_wp2_with fail
              refine (radd_v hv2 h3 (by omega) (by omega)).mono ?_
              rintro e w2 ⟨A4, n4, c4, rfl, h4, k4, b4⟩
              have hw3 := hw2.trans (b4.mono hw2.size)
              rw [E1.out, E2.out] at h4
              clear hv hv' hv2 h3
              go_wp2
              go_roundw
              case rel => exact ⟨j + 1, n4, c4, A4, by omega, by go_num, rfl, h4, hw3⟩
              case measure => simp [intOf]; omega
    · obtain rfl : i = m := by omega
      have e1 : pre 65536 ys i = y := by rw [pre_ge _ (by have := HY.out; omega), EY.out]
      rw [e1] at hv
      have ha : a ≤ n + i := by
        have h0 := HLEN.out i
        rw [e1] at h0
        rw [← hv.2.1]; exact cn_len_of_lt _ _ _ (by omega) h0
      clear e1 hlt
      go_wp2
      go_ret
      exact ⟨D, a, e, rfl, hv, ha, hw⟩
end Go.Proofs.YtfdgblmegiehnaaDoor

namespace Go.Proofs.YtfdgblmegiehnaaDoor
open Go.RowKit
theorem rmul_v {A B : Option Addr} {n m c d x y : Nat} {w : World} (hx : Dv w A n c x) (hy : Dv w B m d y) (hn : n ≤ 1099511627776) (hm : m ≤ 1099511627776) :
    Calls Tryd.prog 67 #[.slice A n c, .slice B m d] w (DvPost (x * y) (n + m) w) := rmul_calls A B n m c d x y w hx hy hn hm
end Go.Proofs.YtfdgblmegiehnaaDoor
