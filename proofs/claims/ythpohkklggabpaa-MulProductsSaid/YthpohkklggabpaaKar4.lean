/-
  Contracts: mul.karatsuba for all lengths, mul.mulPiece, mul.Mul, mul.Square.
-/
import Derived.Test.YthpohkklggabpaaKar3
import Derived.Deep.DeepCutAuto
import Derived.Deep.RegionHeld3
namespace Go.Proofs.Ythpohkklggabpaa
open Go.RowKit
set_option linter.unusedVariables false

theorem kar_all (n : Nat) : KarOk n := by
  induction n using Nat.strongRecOn with
  | _ n ih =>
    rcases Nat.lt_or_ge n 40 with hn | hn
    · exact kar_short hn
    · intro g p h r kr cp cr ca cb N A B zs rs xs ys w K
      obtain ⟨ad, rfl, _, _⟩ := K.xa (by rw [K.xl]; omega)
      obtain ⟨bd, rfl, _, _⟩ := K.yb (by rw [K.yl]; omega)
      intro HN h1 h2 h3 h4 h5 h6 h7 h8 h9
      exact kar_long hn ih _ _ g p h r kr cp cr ca cb N ad bd zs rs xs ys w K HN h1 h2 h3 h4 h5 h6 h7 h8 h9 rfl rfl

/-- A product is answered in new memory, of at most k words. -/
def PiPost (v k : Nat) (w : World) (e : Ending) (w' : World) : Prop :=
  ∃ A c us, e = .returned (.slice A (List.length us) c) ∧ Hid (ev 18446744073709551616 us = v) ∧ us.length ≤ k ∧ us.length ≤ c ∧ c ≤ 9223372036854775807 ∧ Low 18446744073709551616 us ∧ Rd w' .u64 A us ∧ (∀ ad, A = some ad → w.heap.size ≤ ad.block) ∧ Below w.heap.size w w'
/-- mul.Mul, at numbers the shorter one of which has at most k words. -/
def MulOk (k : Nat) : Prop := ∀ (A B : Option Addr) (n m c d : Nat) (xs ys : List Nat) (w : World), Rd w .u64 A xs → Rd w .u64 B ys → xs.length = n → ys.length = m →
  n ≤ c → c ≤ 9223372036854775807 → m ≤ d → d ≤ 9223372036854775807 → Low 18446744073709551616 xs → Low 18446744073709551616 ys → n ≤ 1099511627776 → m ≤ 1099511627776 → min n m ≤ k →
  Calls Try.prog 12 #[.slice A n c, .slice B m d] w (NatPost (ev 18446744073709551616 xs * ev 18446744073709551616 ys) w)

theorem Got.block' {wi wj : World} {t : TypeId} {A : Option Addr} {c : Nat} {zs : List Nat} (h : Got wi wj t .u64 A c zs) : ∀ ad, A = some ad → wi.heap.size ≤ ad.block ∧ ad.block < wj.heap.size := by
  intro ad ha
  subst ha
  exact h.1.lt ad.block rfl

theorem Rd.shift {w : World} {K : IntKind} {A : Option Addr} {xs ys : List Nat} (h : Rd w K A xs) (e : xs = ys) : Rd w K A ys := e ▸ h
theorem wb_made {w : World} {g : Nat} {t : TypeId} {n : Nat} (h : Blk w g t .u64 (List.replicate n 0)) : Wb w g t (List.replicate n 0) := ⟨h, Low.replicate _ _ (by omega)⟩

set_option maxHeartbeats 400000 in
theorem piece_calls {m : Nat} (ih : ∀ k, k < m → MulOk k) (A B : Option Addr) (n c d : Nat) (xs ys : List Nat) (w : World) (hx : Rd w .u64 A xs) (hy : Rd w .u64 B ys) (hxn : xs.length = n) (hyn : ys.length = m)
    (hc : n ≤ c) (hc' : c ≤ 9223372036854775807) (hd : m ≤ d) (hd' : d ≤ 9223372036854775807) (lx : Low 18446744073709551616 xs) (ly : Low 18446744073709551616 ys) (bn : n ≤ m) (bm : m ≤ 1099511627776) :
    Calls Try.prog 28 #[.slice A n c, .slice B m d] w (PiPost (ev 18446744073709551616 xs * ev 18446744073709551616 ys) (n + m) w) := by
  have HX := Lib.hid hxn
  have HY := Lib.hid hyn
  clear hxn hyn
  rcases Nat.lt_or_ge n m with hlt | hge
  · have hb : ev 18446744073709551616 xs * ev 18446744073709551616 ys < 18446744073709551616 ^ (n + m) := by
      have h1 := ev_lt lx
      have h2 := ev_lt ly
      rw [HX.out] at h1
      rw [HY.out] at h2
      rw [Nat.pow_add]
      exact Nat.mul_lt_mul'' h1 h2
    have HB := Lib.hid hb
    clear hb
    go_enter Try.func28, Try.ntmps28
    go_wp2_with fail
    refine (ih n hlt B A m n d c ys xs _ hy hx HY.out HX.out hd hd' hc hc' ly lx bm (by omega) (by omega)).mono ?_
    rintro e w1 ⟨A1, c1, rfl, hg⟩
    have hcp := hg.cap
    have P : Hid (PiPost (ev 18446744073709551616 xs * ev 18446744073709551616 ys) (n + m) w (.returned (.slice A1 (cn 18446744073709551616 (ev 18446744073709551616 ys * ev 18446744073709551616 xs)).length c1)) w1) :=
      ⟨A1, c1, _, rfl, by show _ = _; rw [ev_cn _ _ (by omega), Nat.mul_comm], by rw [Nat.mul_comm]; exact cn_len_of_lt _ _ _ (by omega) HB.out, hcp.1, by have := hcp.2; unfold maxLen at this; omega, cn_low _ _ (by omega), hg.rd, fun ad ha => (hg.block' ad ha).1, hg.2⟩
    clear hg hcp
    go_wp2
    go_ret
    exact P.out
  · obtain rfl : n = m := by omega
    clear bn hge
    go_enter Try.func28, Try.ntmps28
    go_wp2_with (at_make; refine wpList_make_blk _ rfl _ _ 23 rfl 45 .u64 8 Try.underlying23 info_u64 _ _ _ _ (2 * n) rfl rfl (by omega) (by omega) (by omega) (by omega) ?_)
    intro w1 hb1 hw1 hz1
    have H1 := Lib.hid hz1
    clear hz1
    go_wp2_with (at_make; refine wpList_make_blk _ rfl _ _ 23 rfl 45 .u64 8 Try.underlying23 info_u64 _ _ _ _ (3 * n) rfl rfl (by omega) (by omega) (by omega) (by omega) ?_)
    intro w2 hb2 hw2 hz2
    have H2 := Lib.hid hz2
    clear hz2
    have hb3 := hb1.below hw2 hb1.lt
    have hwA : Below w.heap.size w w2 := hw1.trans (hw2.mono hw1.size)
    have kin : KarIn w2 n w.heap.size 0 w1.heap.size 0 (3 * n) A B (List.replicate (2 * n) 0) (List.replicate (3 * n) 0) xs ys := by
      have e1 := H1.out
      have fr : ∀ (g q : Nat) (C : Option Addr) (zs : List Nat), w.heap.size ≤ g → Rd w .u64 C zs → Off (Seg g 0 q) C zs.length := by
        intro g q C zs hg hr ad ha j hj hs
        obtain ⟨ad', e', hl, _⟩ := hr (by omega)
        rw [e'] at ha
        obtain rfl := Option.some.inj ha
        have := hs.1
        rw [add_block] at this
        omega
      refine ⟨Ar.of_wb (wb_made hb3), by simp, Ar.of_wb (wb_made hb2), by simp, by omega, by omega, hx.below hwA, HX.out, hy.below hwA, HY.out, lx, ly, ?_, ?_, ?_, ?_⟩
      · rw [← HX.out]; exact fr _ _ _ _ (by omega) hx
      · rw [← HX.out]; exact fr _ _ _ _ (by omega) hx
      · rw [← HY.out]; exact fr _ _ _ _ (by omega) hy
      · rw [← HY.out]; exact fr _ _ _ _ (by omega) hy
    have KI := Lib.hid kin
    clear kin hb1 hb2 hb3
    go_wp2_with fail
    refine (kar_all n w.heap.size 0 w1.heap.size 0 (3 * n) (2 * n) (3 * n) c d (2 * n) A B _ _ xs ys _ KI.out rfl (by omega) (by omega) (by omega) (by omega) hc hc' hd hd' bm).mono ?_
    rintro e w3 ⟨rfl, us, ul, uv, ua, ut⟩
    have P : Hid (PiPost (ev 18446744073709551616 xs * ev 18446744073709551616 ys) (n + n) w (.returned (.slice (some ⟨w.heap.size, 0, none⟩) (2 * n) (2 * n))) w3) := by
      have e1 := H1.out
      refine ⟨_, _, us, by rw [ul.out], uv, by rw [ul.out]; omega, by rw [ul.out]; omega, by omega, ua.low, ua.rd, fun ad ha => by obtain rfl := Option.some.inj ha; exact Nat.le_refl _, hwA.trans (ut.below (by have := hwA.size; omega) fun a ha => ?_)⟩
      unfold KarS Seg at ha
      omega
    clear ul uv ua ut
    go_wp2
    go_ret
    exact P.out
end Go.Proofs.Ythpohkklggabpaa
