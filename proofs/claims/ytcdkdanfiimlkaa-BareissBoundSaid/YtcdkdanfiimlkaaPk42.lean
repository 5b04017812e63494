/-
  RootA
-/
import Derived.Test.YtcdkdanfiimlkaaPk26
import Derived.Test.YtcdkdanfiimlkaaPk35

/-! Contracts: div.rootOfWord, shiftUp, newton, Root. -/
namespace Go.Proofs.Ytcdkdanfiimlkaa
open Go.RowKit
set_option linter.unusedVariables false

/-- The mean of a number and the quotient by it, rounded down, is never below the root. -/
theorem isq_newton {x r : Nat} (hr : 0 < r) : x < ((r + x / r) / 2 + 1) * ((r + x / r) / 2 + 1) := by
  have h1 := Nat.div_add_mod x r
  have h2 := Nat.mod_lt x hr
  generalize x / r = q at *
  generalize x % r = s at *
  have h3 : r + q + 1 ≤ 2 * ((r + q) / 2 + 1) := by omega
  generalize (r + q) / 2 + 1 = m at *
  have h4 : (r + q + 1) * (r + q + 1) ≤ (2 * m) * (2 * m) := Nat.mul_le_mul h3 h3
  have h5 : 4 * (r * (q + 1)) ≤ (r + q + 1) * (r + q + 1) := by
    rcases Nat.le_total r (q + 1) with h | h
    · obtain ⟨d, hd⟩ := Nat.exists_eq_add_of_le h
      have e : r + q + 1 = r + (r + d) := by omega
      rw [e, hd]
      have : (r + (r + d)) * (r + (r + d)) = 4 * (r * (r + d)) + d * d := by grind
      omega
    · obtain ⟨d, hd⟩ := Nat.exists_eq_add_of_le h
      have e : r + q + 1 = (q + 1 + d) + (q + 1) := by omega
      rw [e, hd]
      have : (q + 1 + d + (q + 1)) * (q + 1 + d + (q + 1)) = 4 * ((q + 1 + d) * (q + 1)) + d * d := by grind
      omega
  have h6 : x < r * (q + 1) := by rw [Nat.mul_add, Nat.mul_one]; omega
  have h7 : (2 * m) * (2 * m) = 4 * (m * m) := by grind
  omega

/-- The root of a word. -/
def RwPost (x : Nat) (w : World) (e : Ending) (w' : World) : Prop := ∃ r : Nat, e = .returned (.int .u64 (r : Int)) ∧ r ≤ 4294967296 ∧ Hid (r * r ≤ x ∧ x < (r + 1) * (r + 1)) ∧ w = w'
theorem rw_zero (w : World) : Calls Try.prog 135 #[.int .u64 0] w (RwPost 0 w) := by
  go_enter Try.func135, Try.ntmps135
  go_wp2_with fail
  go_ret
  exact ⟨0, rfl, by omega, Lib.hid ⟨by omega, by omega⟩, rfl⟩
theorem rw_start {x : Nat} (hx : x < 18446744073709551616) : ∃ j, j = (bl x + 1) / 2 ∧ j ≤ 32 ∧ x < (2 ^ j + 1) * (2 ^ j + 1) ∧ 2 ^ j ≤ 4294967296 ∧ 0 < 2 ^ j := by
  have hb : bl x ≤ 64 := bl_le.2 (by omega)
  have h1 := bl_le.1 (Nat.le_refl (bl x))
  refine ⟨(bl x + 1) / 2, rfl, by omega, ?_, Nat.pow_le_pow_right (by omega) (show (bl x + 1) / 2 ≤ 32 by omega), Nat.pow_pos (by omega)⟩
  have h2 : 2 ^ bl x ≤ 2 ^ ((bl x + 1) / 2) * 2 ^ ((bl x + 1) / 2) := by rw [← Nat.pow_add]; exact Nat.pow_le_pow_right (by omega) (by omega)
  have h3 : 2 ^ ((bl x + 1) / 2) * 2 ^ ((bl x + 1) / 2) ≤ (2 ^ ((bl x + 1) / 2) + 1) * (2 ^ ((bl x + 1) / 2) + 1) := Nat.mul_le_mul (by omega) (by omega)
  omega

set_option maxHeartbeats 1000000 in
theorem rw_calls (x : Nat) (hx : x < 18446744073709551616) (w : World) : Calls Try.prog 135 #[.int .u64 x] w (RwPost x w) := by
  rcases Nat.eq_zero_or_pos x with rfl | h0
  · exact rw_zero w
  · obtain ⟨j, hj, hj32, hst, h32, hp⟩ := rw_start hx
    obtain ⟨R, hR⟩ : ∃ R, R = 2 ^ j := ⟨_, rfl⟩
    have hb : bl x ≤ 64 := bl_le.2 (by omega)
    have b1 : ((x : Int) == 0) = false := by rw [beq_eq_false_iff_ne]; omega
    have v1 : ((bl x : Int) + 1) / 2 = (j : Int) := by omega
    have v3 : IntKind.u64.wrap (2 ^ j) = (R : Int) := by
      have : ((2 : Int) ^ j) = ((2 ^ j : Nat) : Int) := by rw [Int.natCast_pow]; rfl
      rw [this, ← hR, IntKind.wrap_u64]; omega
    have v2 : IntKind.u64.wrap (1 * 2 ^ j) = (R : Int) := by rw [Int.one_mul]; exact v3
    rw [← hR] at hst h32 hp
    have HST := Lib.hid hst
    clear hj hst hR
    go_enter Try.func135, Try.ntmps135
    go_wp2_with fail
    refine (len64_calls _ hx _).mono ?_
    rintro e w' ⟨rfl, rfl⟩
    go_wp2_with fail
    clear v1 v2 v3
    go_loopg [3] R (fun g s3 wr => w = wr ∧ s3 = .int .u64 (g : Int) ∧ 0 < g ∧ g ≤ 4294967296 ∧ Hid (x < (g + 1) * (g + 1)))
    case atStart => exact ⟨rfl, rfl, hp, h32, HST⟩
    case round =>
      obtain ⟨rfl, rfl, hg, hg32, hin⟩ := hrel
      obtain ⟨q, hq⟩ : ∃ q, q = x / gk := ⟨_, rfl⟩
      have e1 : (x : Int) / (gk : Int) = (q : Int) := by rw [hq]; rfl
      have hqx : q ≤ x := by rw [hq]; exact Nat.div_le_self _ _
      have b2 : ((gk : Int) == 0) = false := by rw [beq_eq_false_iff_ne]; omega
      have b3 : ¬ (gk = 0) := by omega
      by_cases hlt : q < gk
      · obtain ⟨r2, hr2⟩ : ∃ r2, r2 = (gk + q) / 2 := ⟨_, rfl⟩
        have E2 := Lib.hid (show ((gk : Int) + (q : Int)) / 2 = (r2 : Int) by omega)
        have hn : Hid (x < (r2 + 1) * (r2 + 1)) := Lib.hid (by rw [hr2, hq]; exact isq_newton hg)
        have hr0 : 0 < r2 := by
          rcases Nat.eq_zero_or_pos r2 with h | h
          · have := hn.out; rw [h] at this; omega
          · exact h
        have hlt2 : r2 < gk := by omega
        have HL := Lib.hid hlt2
        have h32' : r2 ≤ 4294967296 := by omega
        clear hq hr2 hin
        go_wp2_with fail
        go_roundg r2
        case rel => exact ⟨rfl, by rw [E2.out], hr0, h32', hn⟩
        case measure => exact HL.out
      · have hle : Hid (gk * gk ≤ x) := Lib.hid (by
          have h1 := Nat.div_mul_le_self x gk
          have h2 : gk * gk ≤ q * gk := Nat.mul_le_mul_right _ (by omega)
          rw [← hq] at h1
          omega)
        clear hq
        go_wp2_with fail
        go_ret
        exact ⟨gk, rfl, hg32, Lib.hid ⟨hle.out, hin.out⟩, rfl⟩

/-- A number, of at most k words. -/
def NumPost (v k : Nat) (w : World) (e : Ending) (w' : World) : Prop := ∃ A n c, e = .returned (.slice A n c) ∧ Nv w' A n c v ∧ n ≤ k ∧ Below w.heap.size w w'
theorem OwnV.nv {w0 w : World} {v : Value} {zs : List Nat} (h : OwnV w0 w 80 .u64 v zs) (hl : Low 18446744073709551616 zs) : ∃ A c, v = .slice A zs.length c ∧ Nv w A zs.length c (ev 18446744073709551616 zs) := by
  obtain ⟨A, c, rfl, g⟩ := h.form
  have hc := g.cap
  exact ⟨A, c, rfl, _, g.rd, rfl, hc.1, by have := hc.2; unfold maxLen at this; omega, hl, rfl⟩

set_option maxHeartbeats 1000000 in
theorem shiftup_calls {A : Option Addr} {n c x k : Nat} {w : World} (hx : Nv w A n c x) (hn : n ≤ 1099511627776) (hk : k ≤ 70368744177664) :
    Calls Try.prog 138 #[.slice A n c, .int .i64 k] w (NumPost (x * 2 ^ k) (n + 1 + k / 64) w) := by
  have lx := hx.lt
  obtain ⟨xs, h1, h2, h3, h4, h5, rfl⟩ := hx
  obtain ⟨s, hs⟩ : ∃ s, s = k / 64 := ⟨_, rfl⟩
  obtain ⟨t, ht⟩ : ∃ t, t = k % 64 := ⟨_, rfl⟩
  have v1 : (k : Int) / 64 = (s : Int) := by omega
  have v2 : (k : Int) % 64 = (t : Int) := by omega
  have hkst : k = 64 * s + t := by omega
  have ht64 : t < 64 := by omega
  have hs2 : s ≤ 1099511627776 := by omega
  have HX := Lib.hid h2
  have hlen : (cn 18446744073709551616 (ev 18446744073709551616 xs * 2 ^ t)).length ≤ n + 1 := cn_len_of_lt _ _ _ (by omega) (by
    rw [Nat.pow_succ]
    refine Nat.lt_of_lt_of_le (Nat.mul_lt_mul_of_pos_right lx (Nat.pow_pos (by omega))) (Nat.mul_le_mul_left _ ?_)
    exact Nat.le_of_lt (Nat.lt_of_le_of_lt (Nat.pow_le_pow_right (by omega) (show t ≤ 63 by omega)) (by decide)))
  have hval : Hid (∀ zs : List Nat, ev 18446744073709551616 zs = ev 18446744073709551616 xs * 2 ^ t → ev 18446744073709551616 (List.replicate s 0 ++ zs) = ev 18446744073709551616 xs * 2 ^ k) := Lib.hid (fun zs hz => by
    rw [ev_append, ev_replicate, hz, List.length_replicate, hkst, two_word, Nat.zero_add, ← Nat.mul_assoc, Nat.mul_comm (18446744073709551616 ^ s), Nat.mul_assoc])
  rw [← hs]
  clear hs ht hkst h2
  have vt : (t : Int) / 64 = ((0 : Nat) : Int) := by omega
  have vt2 : (t : Int) % 64 = (t : Int) := by omega
  have VT := Lib.hid vt
  have VT2 := Lib.hid vt2
  clear vt vt2
  go_enter Try.func138, Try.ntmps138
  go_wp2_with fail
  refine (shl_calls _ n c xs t 0 t _ h1 HX.out h3 h4 h5 hn (by omega) VT.out VT2.out).mono ?_
  rintro e w2 ⟨A2, c2, rfl, G2⟩
  have r2 := G2.rd
  have hw2 := G2.2
  have low2 := cn_low 18446744073709551616 (ev 18446744073709551616 xs * 2 ^ t) (by omega)
  have hv2 := Lib.hid (hval.out _ (ev_cn 18446744073709551616 (ev 18446744073709551616 xs * 2 ^ t) (by omega)))
  clear G2 hval
  generalize cn 18446744073709551616 (ev 18446744073709551616 xs * 2 ^ t) = ds at *
  go_wp2_with (at_make; refine wpList_make_blk _ rfl _ _ 26 rfl 80 .u64 8 Try.underlying26 info_u64 _ _ _ _ s rfl rfl (by omega) (by omega) (by omega) (by omega) ?_)
  intro w3 hb3 hw3 hz3
  have HZ3 := Lib.hid hz3
  clear hz3
  have o3 : OwnV w w3 80 .u64 (.slice (some ⟨w2.heap.size, 0, none⟩) s s) (List.replicate s 0) := by
    have ho := hb3.owns (base := w.heap.size) (n := s) hw2.size (by simp) (by simp; unfold maxLen; omega)
    rw [List.length_replicate, List.take_of_length_le (by simp)] at ho
    exact ⟨by rw [List.length_replicate]; exact ho, hw2.trans (hw3.mono hw2.size)⟩
  have r3 := r2.below hw3
  clear r2 hb3 hw3
  go_wp2_with (refine wpList_appm w w3 rfl (.tmp 16) (.tmp 17) _ rfl 80 .u64 Try.underlying26 info_u64 _ _ rfl o3 A2 ds.length c2 ds r3 rfl rfl (by simp; omega) ?_)
  intro v4 w4 o4
  obtain ⟨A4, c4, rfl, nv4⟩ := o4.nv ((Low.replicate _ _ (by omega)).append low2)
  rw [hv2.out] at nv4
  have hw4 := o4.2
  have hl4 : (List.replicate s 0 ++ ds).length ≤ n + 1 + s := by simp; omega
  generalize (List.replicate s 0 ++ ds).length = l4 at *
  clear o3 o4 r3
  go_wp2_with fail
  go_ret
  exact ⟨_, _, _, rfl, nv4, hl4, hw4⟩

theorem shr_v {A : Option Addr} {n c x k : Nat} {w : World} (hx : Nv w A n c x) (hn : n ≤ 1099511627776) (hk : k ≤ 9223372036854775807) :
    Calls Try.prog 136 #[.slice A n c, .int .i64 k] w (TwoCv (x / 2 ^ k) n w) := by
  have l1 := hx.lt
  obtain ⟨xs, h1, h2, h3, h4, h5, rfl⟩ := hx
  exact (shr_calls A n c xs k (k / 64) (k % 64) w h1 h2 h3 h4 h5 hn hk (by omega) (by omega)).mono fun _ _ k => k.cv (div_lt_pow l1)
theorem newton_v {A B : Option Addr} {n m c d x y : Nat} {w : World} (hx : Nv w A n c x) (hy : Nv w B m d y) (hn : n ≤ 549755813887) (hm : m ≤ 549755813887) (h : 0 < y) :
    Calls Try.prog 137 #[.slice A n c, .slice B m d] w (CvPost ((y + x / y) / 2) (max m n + 1) w) := by
  have hW := Below.refl w.heap.size w
  go_enter Try.func137, Try.ntmps137
  go_wp2_with fail
  refine (dm_v hx hy (by omega) (by omega) h).mono ?_
  rintro e w1 ⟨A1, n1, c1, A2, n2, c2, rfl, pq, pr, k1, k2, B1⟩
  replace hy := hy.below B1
  replace hW := hW.trans (B1.mono hW.size)
  clear pr
  go_wp2_with fail
  refine (addc_v hy pq.nv (by omega) (by omega)).mono ?_
  rintro e w2 ⟨A3, n3, c3, rfl, ps, k3, B2⟩
  replace hW := hW.trans (B2.mono hW.size)
  clear pq
  go_wp2_with fail
  refine (shr_v (k := 1) ps.nv (by omega) (by omega)).mono ?_
  rintro e w3 ⟨A4, n4, c4, rfl, pt, k4, B3⟩
  replace hW := hW.trans (B3.mono hW.size)
  rw [Nat.pow_one] at pt
  have hk : n4 ≤ max m n + 1 := by omega
  clear ps
  go_wp2_with fail
  go_ret
  exact ⟨_, _, _, rfl, pt, hk, hW⟩
theorem word_v {A : Option Addr} {n c x : Nat} {w : World} (hx : Nv w A n c x) :
    Calls Try.prog 134 #[.slice A n c] w (WordPost x w) := by
  obtain ⟨xs, h1, h2, h3, h4, h5, rfl⟩ := hx
  exact word_calls A n c xs w h1 h2 h3 h4 h5

/-- What Root answers: the root and the rest. -/
def RtPost (v k : Nat) (w : World) (e : Ending) (w' : World) : Prop :=
  ∃ (A : Option Addr) (n c : Nat) (A' : Option Addr) (n' c' r : Nat), e = .returned (.tuple #[.slice A n c, .slice A' n' c']) ∧ Hid (r * r ≤ v ∧ v < (r + 1) * (r + 1)) ∧ Cv w' A n c r ∧ Cv w' A' n' c' (v - r * r) ∧ n ≤ k ∧ n' ≤ k ∧ Below w.heap.size w w'
def RootOk (v : Nat) : Prop := ∀ (A : Option Addr) (n c : Nat) (w : World), Nv w A n c v → n ≤ 1000 → Calls Try.prog 122 #[.slice A n c] w (RtPost v n w)
theorem Cv.len {w : World} {A : Option Addr} {n c v K : Nat} (h : Cv w A n c v) (hv : v < 18446744073709551616 ^ K) : n ≤ K := by rw [← h.2.1]; exact cn_len_of_lt _ _ _ (by omega) hv
theorem nbits_v {A : Option Addr} {n c x : Nat} {w : World} (hx : Nv w A n c x) (hn : n ≤ 1099511627776) :
    Calls Try.prog 84 #[.slice A n c] w fun e w' => e = .returned (.int .i64 (bl x)) ∧ w = w' := by
  obtain ⟨xs, h1, h2, h3, h4, h5, rfl⟩ := hx
  exact bits_calls A n c xs w h1 h2 h3 h4 h5 hn

theorem sq_le {r v : Nat} (h : r * r ≤ v) : r ≤ v := by
  rcases Nat.eq_zero_or_pos r with h0 | h0
  · omega
  · exact Nat.le_trans (Nat.le_mul_of_pos_right r h0) h

set_option maxHeartbeats 1000000 in
theorem root_word {v : Nat} (hv : v < 18446744073709551616) : RootOk v := by
  intro A n c w hx hn
  have hW := Below.refl w.heap.size w
  have LV := Lib.hid hx.lt
  go_enter Try.func122, Try.ntmps122
  go_wp2_with fail
  refine (word_v hx).mono ?_
  rintro e w' ⟨⟨_, rfl⟩ | ⟨h, rfl⟩, rfl⟩
  · go_wp2_with fail
    refine (rw_calls v hv _).mono ?_
    rintro e w' ⟨r, rfl, hr, hR, rfl⟩
    go_wp2_with fail
    refine (ofc_v r (by omega) _).mono ?_
    rintro e w1 ⟨A1, n1, c1, rfl, p1, k1, B1⟩
    replace hW := hW.trans (B1.mono hW.size)
    have hrr : r * r ≤ v := hR.out.1
    have e1 : IntKind.u64.wrap ((r : Int) * (r : Int)) = ((r * r : Nat) : Int) := by rw [← Int.natCast_mul, IntKind.wrap_u64]; omega
    obtain ⟨q, hq⟩ : ∃ q, q = r * r := ⟨_, rfl⟩
    rw [← hq] at e1 hrr
    obtain ⟨d, hd⟩ : ∃ d, d = v - q := ⟨_, rfl⟩
    have e2 : (v : Int) - (q : Int) = (d : Int) := by omega
    have e3 : IntKind.u64.wrap ((v : Int) - (q : Int)) = (d : Int) := by rw [IntKind.wrap_u64]; omega
    have hdB : d < 18446744073709551616 := by omega
    have HD := Lib.hid (show d = v - r * r by rw [← hq]; exact hd)
    clear hq hd hx
    go_wp2_with fail
    refine (ofc_v d hdB _).mono ?_
    rintro e w2 ⟨A2, n2, c2, rfl, p2, k2, B2⟩
    replace hW := hW.trans (B2.mono hW.size)
    replace p1 := p1.below B2
    rw [HD.out] at p2
    have P : Hid (RtPost v n w (.returned (.tuple #[.slice A1 n1 c1, .slice A2 n2 c2])) w2) := Lib.hid ⟨_, _, _, _, _, _, r, rfl, hR, p1, p2, p1.len (Nat.lt_of_le_of_lt (sq_le hR.out.1) LV.out), p2.len (Nat.lt_of_le_of_lt (Nat.sub_le _ _) LV.out), hW⟩
    clear p1 p2 hW e1 e2 e3
    go_wp2_with fail
    go_ret2
    exact P.out
  · exfalso; omega

theorem root_half {v : Nat} (hv : 18446744073709551616 ≤ v) : v / 2 ^ (2 * (bl v / 4)) < v := by
  have hb : 65 ≤ bl v := by
    rcases Nat.lt_or_ge (bl v) 65 with h | h
    · have := bl_le.1 (show bl v ≤ 64 by omega)
      omega
    · exact h
  refine Nat.div_lt_self (by omega) ?_
  exact Nat.one_lt_two_pow (by omega)

set_option maxRecDepth 100000 in
set_option maxHeartbeats 4000000 in
theorem root_big {v : Nat} (hv : 18446744073709551616 ≤ v) (ih : ∀ u, u < v → RootOk u) : RootOk v := by
  intro A n c w hx hn
  have hW := Below.refl w.heap.size w
  have lv := hx.lt
  have LV := Lib.hid lv
  have hbn : bl v ≤ 64 * n := bl_le.2 (by rw [Nat.pow_mul]; exact lv)
  have hlt := root_half hv
  have HLT := Lib.hid hlt
  have HV := Lib.hid hv
  obtain ⟨b, hb⟩ : ∃ b, b = bl v := ⟨_, rfl⟩
  obtain ⟨low, hlow⟩ : ∃ low, low = b / 4 := ⟨_, rfl⟩
  rw [← hb] at hbn
  have v1 : (b : Int) / 4 = (low : Int) := by omega
  have v2 : low ≤ 16 * n := by omega
  have v3 : 2 * (low : Int) = ((2 * low : Nat) : Int) := by omega
  have HB := Lib.hid hb
  have HLO := Lib.hid hlow
  obtain ⟨low2, hlow2⟩ : ∃ q, q = 2 * low := ⟨_, rfl⟩
  have v4 : 2 * (low : Int) = (low2 : Int) := by omega
  have v5 : low2 ≤ 32 * n := by omega
  have HL2 := Lib.hid hlow2
  clear lv hlt hv hb hlow v3 hlow2
  go_enter Try.func122, Try.ntmps122
  go_wp2_with fail
  refine (word_v hx).mono ?_
  rintro e w' ⟨⟨h, rfl⟩ | ⟨h, rfl⟩, rfl⟩
  · exfalso; have := HV.out; omega
  clear h
  go_wp2_with fail
  refine (nbits_v hx (by omega)).mono ?_
  rintro e w' ⟨rfl, rfl⟩
  rw [← HB.out]
  go_wp2_with fail
  refine (shr_v hx (by omega) (by omega)).mono ?_
  rintro e w1 ⟨A1, n1, c1, rfl, p1, k1, B1⟩
  replace hx := hx.below B1
  replace hW := hW.trans (B1.mono hW.size)
  have hlt : v / 2 ^ low2 < v := by rw [HL2.out, HLO.out, HB.out]; exact HLT.out
  have HLT2 := Lib.hid hlt
  clear hlt
  go_wp2_with fail
  refine (ih _ HLT2.out A1 n1 c1 _ p1.nv (by omega)).mono ?_
  rintro e w2 ⟨A2, n2, c2, A3, n3, c3, h, rfl, _, ph, _, k2, _, B2⟩
  replace hx := hx.below B2
  replace hW := hW.trans (B2.mono hW.size)
  clear p1
  go_wp2_with fail
  refine (ofc_v 1 (by omega) _).mono ?_
  rintro e w3 ⟨A4, n4, c4, rfl, p4, k4, B3⟩
  replace hx := hx.below B3
  replace ph := ph.below B3
  replace hW := hW.trans (B3.mono hW.size)
  go_wp2_with fail
  refine (addc_v ph.nv p4.nv (by omega) (by omega)).mono ?_
  rintro e w4 ⟨A5, n5, c5, rfl, p5, k5, B4⟩
  replace hx := hx.below B4
  replace hW := hW.trans (B4.mono hW.size)
  clear ph p4
  have k5' : n5 ≤ n + 2 := by omega
  go_wp2_with fail
  refine (shiftup_calls (k := low) p5.nv (by omega) (by omega)).mono ?_
  rintro e w5 ⟨A6, n6, c6, rfl, p6, k6, B5⟩
  replace hx := hx.below B5
  replace hW := hW.trans (B5.mono hW.size)
  clear p5
  have k6' : n6 ≤ 2 * n + 4 := by omega
  have hy : 0 < (h + 1) * 2 ^ low := Nat.mul_pos (by omega) (Nat.pow_pos (by omega))
  go_wp2_with fail
  refine (newton_v hx p6 (by omega) (by omega) hy).mono ?_
  rintro e w6 ⟨A7, n7, c7, rfl, p7, k7, B6⟩
  replace hx := hx.below B6
  replace hW := hW.trans (B6.mono hW.size)
  have hin := isq_newton (x := v) hy
  obtain ⟨m, hm⟩ : ∃ m, m = ((h + 1) * 2 ^ low + v / ((h + 1) * 2 ^ low)) / 2 := ⟨_, rfl⟩
  rw [← hm] at p7 hin
  have HIN := Lib.hid hin
  have k7' : n7 ≤ 2 * n + 5 := by omega
  have hmB := p7.lt
  have hmB2 : m < 18446744073709551616 ^ (2 * n + 5) := Nat.lt_of_lt_of_le hmB (pow_big k7')
  have HMB := Lib.hid hmB2
  clear p6 hy hin hm hmB hmB2 k5 k6 k7 v1 v4
  go_wp2_with fail
  go_loopg [12] m (fun g s12 wr => g ≤ m ∧ Hid (v < (g + 1) * (g + 1)) ∧ Below w.heap.size w wr ∧ Nv wr A n c v ∧ ∃ A n c, s12 = .slice A n c ∧ Cv wr A n c g)
  case atStart => exact ⟨Nat.le_refl _, HIN, hW, hx, _, _, _, rfl, p7⟩
  case round =>
    clear hW hx p7
    obtain ⟨hgm, hin, hW, hx, A8, n8, c8, rfl, p8⟩ := hrel
    have k8 : n8 ≤ 2 * n + 5 := p8.len (Nat.lt_of_le_of_lt hgm HMB.out)
    go_wp2_with fail
    refine (squarec_v p8.nv (by omega)).mono ?_
    rintro e w9 ⟨A9, n9, c9, rfl, p9, k9, B9⟩
    replace hx := hx.below B9
    replace p8 := p8.below B9
    replace hW := hW.trans (B9.mono hW.size)
    by_cases hsq : gk * gk ≤ v
    · have HSQ := Lib.hid hsq
      clear hsq
      go_wp2_with fail
      refine (subc_yes hx p9.nv (by omega) HSQ.out).mono ?_
      rintro e w10 ⟨A10, n10, c10, rfl, p10, k10, B10⟩
      replace p8 := p8.below B10
      replace hW := hW.trans (B10.mono hW.size)
      have P : Hid (RtPost v n w (.returned (.tuple #[.slice A8 n8 c8, .slice A10 n10 c10])) w10) :=
        Lib.hid ⟨_, _, _, _, _, _, gk, rfl, Lib.hid ⟨HSQ.out, hin.out⟩, p8, p10, p8.len (Nat.lt_of_le_of_lt (sq_le HSQ.out) LV.out), k10, hW⟩
      clear p8 p9 p10 hW
      go_wp2_with fail
      go_ret2
      exact P.out
    · have HSQ := Lib.hid (show v < gk * gk by omega)
      have hg0 : 0 < gk := by
        rcases Nat.eq_zero_or_pos gk with h0 | h0
        · rw [h0] at hsq; omega
        · exact h0
      clear hsq
      go_wp2_with fail
      refine (sub_no hx p9.nv (by omega) HSQ.out).mono ?_
      rintro e w10 ⟨⟨A10, c10, rfl⟩, B10⟩
      replace hx := hx.below B10
      replace p8 := p8.below B10
      replace hW := hW.trans (B10.mono hW.size)
      clear p9
      go_wp2_with fail
      refine (ofc_v 1 (by omega) _).mono ?_
      rintro e w11 ⟨A11, n11, c11, rfl, p11, k11, B11⟩
      replace hx := hx.below B11
      replace p8 := p8.below B11
      replace hW := hW.trans (B11.mono hW.size)
      go_wp2_with fail
      refine (subc_yes p8.nv p11.nv (by omega) hg0).mono ?_
      rintro e w12 ⟨A12, n12, c12, rfl, p12, k12, B12⟩
      replace hx := hx.below B12
      replace hW := hW.trans (B12.mono hW.size)
      have hn : Hid (v < (gk - 1 + 1) * (gk - 1 + 1)) := Lib.hid (by rw [Nat.sub_add_cancel hg0]; exact HSQ.out)
      clear p8 p11 hin
      go_wp2_with fail
      go_roundg (gk - 1)
      case rel => exact ⟨by omega, hn, hW, hx, _, _, _, rfl, p12⟩
      case measure => omega
theorem root_ok (v : Nat) : RootOk v := by
  induction v using Nat.strongRecOn with
  | _ v ih =>
    rcases Nat.lt_or_ge v 18446744073709551616 with h | h
    · exact root_word h
    · exact root_big h ih
end Go.Proofs.Ytcdkdanfiimlkaa
