/-
  Contract: mul.karatsuba.
-/
import Derived.Test.YthpohkklggabpaaKar2
import Derived.Test.YthpohkklggabpaaNat6
import Derived.StillTailTactics
import Derived.BigQuiet
import Derived.IntWalk
import Derived.Deep.QuietTactic
import Derived.Outline
namespace Go.Proofs.Ythpohkklggabpaa
open Go.RowKit
set_option linter.unusedVariables false

/-- What karatsuba writes: the product, and the room. -/
def KarS (g p m h r kr : Nat) (a : Addr) : Prop := Seg g p m a ∨ Seg h r kr a
/-- What karatsuba is handed: an area for the product, one for room, and two numbers of n words that lie in neither. -/
structure KarIn (w : World) (n g p h r kr : Nat) (A B : Option Addr) (zs rs xs ys : List Nat) : Prop where
  pz : Ar w g p 45 zs
  pl : zs.length = 2 * n
  rz : Ar w h r 45 rs
  rl : rs.length = kr
  rk : 3 * n ≤ kr
  apart : g ≠ h ∨ p + 2 * n ≤ r ∨ r + kr ≤ p
  xa : Rd w .u64 A xs
  xl : xs.length = n
  yb : Rd w .u64 B ys
  yl : ys.length = n
  lx : Low 18446744073709551616 xs
  ly : Low 18446744073709551616 ys
  oxp : Off (Seg g p (2 * n)) A n
  oxr : Off (Seg h r kr) A n
  oyp : Off (Seg g p (2 * n)) B n
  oyr : Off (Seg h r kr) B n
/-- What karatsuba leaves. -/
def KarPost (w : World) (n g p h r kr v : Nat) (e : Ending) (w' : World) : Prop :=
  e = .returned (.tuple #[]) ∧ ∃ us : List Nat, Hid (us.length = 2 * n) ∧ Hid (ev 18446744073709551616 us = v) ∧ Ar w' g p 45 us ∧ Tch (KarS g p (2 * n) h r kr) w w'
def KarOk (n : Nat) : Prop := ∀ (g p h r kr cp cr ca cb N : Nat) (A B : Option Addr) (zs rs xs ys : List Nat) (w : World), KarIn w n g p h r kr A B zs rs xs ys → Hid (2 * n = N) →
  N ≤ cp → cp ≤ 9223372036854775807 → kr ≤ cr → cr ≤ 9223372036854775807 → n ≤ ca → ca ≤ 9223372036854775807 → n ≤ cb → cb ≤ 9223372036854775807 → n ≤ 1099511627776 →
  Calls Try.prog 44 #[.slice (some ⟨g, p, none⟩) N cp, .slice A n ca, .slice B n cb, .slice (some ⟨h, r, none⟩) kr cr] w (KarPost w n g p h r kr (ev 18446744073709551616 xs * ev 18446744073709551616 ys))

theorem KarIn.lt {w : World} {n g p h r kr : Nat} {A B : Option Addr} {zs rs xs ys : List Nat} (k : KarIn w n g p h r kr A B zs rs xs ys) : ev 18446744073709551616 xs * ev 18446744073709551616 ys < 18446744073709551616 ^ (2 * n) := by
  have h1 := ev_lt k.lx
  have h2 := ev_lt k.ly
  rw [k.xl] at h1
  rw [k.yl] at h2
  rw [Nat.two_mul, Nat.pow_add]
  exact Nat.mul_lt_mul'' h1 h2

/-- Short numbers. -/
theorem kar_short {n : Nat} (hn : n < 40) : KarOk n := by
  intro g p h r kr cp cr ca cb N A B zs rs xs ys w k hN h1 h2 h3 h4 h5 h6 h7 h8 h9
  have hv := k.lt
  have HV := Lib.hid hv
  clear hv
  have K := Lib.hid k
  clear k
  have hle : ∀ v : Nat, v < 18446744073709551616 ^ (2 * n) → (cn 18446744073709551616 v).length ≤ 2 * n := fun v hv => cn_len_of_lt _ _ _ (by omega) hv
  have HLE := Lib.hid hle
  clear hle
  have HD := hN
  go_enter Try.func44, Try.ntmps44
  go_wp2_with fail
  refine (mul_calls A B n n ca cb xs ys _ K.out.xa K.out.yb K.out.xl K.out.yl h5 h6 h7 h8 K.out.lx K.out.ly h9 h9).mono ?_
  rintro e w1 ⟨A1, c1, rfl, hg⟩
  have hr := hg.rd
  have hb := hg.2
  go_wp2_with fail
  refine (fill_calls g p cp _ c1 A1 zs (cn 18446744073709551616 (ev 18446744073709551616 xs * ev 18446744073709551616 ys)) N _ (K.out.pz.below hb) (by rw [K.out.pl, HD.out]) hr rfl (cn_low _ _ (by omega)) (by rw [← HD.out]; exact HLE.out _ HV.out) h1 h2).mono ?_
  rintro e w2 ⟨rfl, har, ht, hz⟩
  go_wp2
  go_end0
  have hl : (cn 18446744073709551616 (ev 18446744073709551616 xs * ev 18446744073709551616 ys)).length ≤ N := by rw [← HD.out]; exact HLE.out _ HV.out
  refine ⟨rfl, _, by show _ = _; rw [HD.out]; simp; omega, ?_, har, ((Tch.of_below _ hb).trans ht).mono fun a _ ha => ?_⟩
  · show ev _ _ = _
    rw [ev_append, ev_replicate, ev_cn _ _ (by omega)]
    omega
  · rw [HD.out]
    exact .inl ha

theorem KarIn.below {w w' : World} {n g p h r kr : Nat} {A B : Option Addr} {zs rs xs ys : List Nat} (k : KarIn w n g p h r kr A B zs rs xs ys) (hb : Below w.heap.size w w') : KarIn w' n g p h r kr A B zs rs xs ys :=
  { k with pz := k.pz.below hb, rz := k.rz.below hb, xa := k.xa.below hb, yb := k.yb.below hb }
theorem below_drewN (w : World) (q : Nat) : Below w.heap.size w (w.drewN q) := ⟨rfl, rfl, rfl, Nat.le_refl _, fun _ _ => rfl⟩
theorem below_drew (w : World) : Below w.heap.size w w.drew := ⟨rfl, rfl, rfl, Nat.le_refl _, fun _ _ => rfl⟩

section
variable {w w' : World} {n half D N g p h r kr : Nat} {A B : Addr} {zs rs xs ys us vs : List Nat}
theorem KarIn.rest (K : KarIn w n g p h r kr (some A) (some B) zs rs xs ys) (hN : 2 * n = N) (T : Tch (KarS g p N h r kr) w w') :
    ∃ zs' rs', zs'.length = N ∧ rs'.length = kr ∧ Ar w' g p 45 zs' ∧ Ar w' h r 45 rs' ∧ Rd w' .u64 (some A) xs ∧ Rd w' .u64 (some B) ys := by
  subst hN
  obtain ⟨zs', z1, z2⟩ := K.pz.any T
  obtain ⟨rs', r1, r2⟩ := K.rz.any T
  exact ⟨zs', rs', by rw [z1, K.pl], by rw [r1, K.rl], z2, r2, K.xa.tch T (by rw [K.xl]; exact K.oxp.or K.oxr), K.yb.tch T (by rw [K.yl]; exact K.oyp.or K.oyr)⟩
theorem KarIn.cross (K : KarIn w n g p h r kr (some A) (some B) zs rs xs ys) (hN : 2 * n = N) (hD : D = 2 * half) (hn : 40 ≤ n) (M : half + half ≤ n + 1) (T : Tch (KarS g p N h r kr) w w') (ua : Ar w' g p 45 us) (ul : us.length = half)
    (va : Ar w' g (p + half) 45 vs) (vl : vs.length = half) : ∃ zs' rs', KarIn w' half h r h (r + D) (kr - D) (some ⟨g, p, none⟩) (some ⟨g, p + half, none⟩) zs' rs' us vs := by
  obtain ⟨zs', rs', z1, r1, z2, r2, _, _⟩ := K.rest hN T
  have a := K.apart
  have b := K.rk
  exact ⟨rs'.take D, rs'.drop D, r2.take D (by omega), by simp; omega, r2.drop D (by omega), by simp; omega, by omega, by omega, ua.rd, ul, va.rd, vl, ua.low, va.low,
    Off.seg_lit (by omega), Off.seg_lit (by omega), Off.seg_lit (by omega), Off.seg_lit (by omega)⟩
theorem KarIn.low (K : KarIn w n g p h r kr (some A) (some B) zs rs xs ys) (hN : 2 * n = N) (hD : D = 2 * half) (hn : 40 ≤ n) (M : half + half ≤ n + 1) (T : Tch (KarS g p N h r kr) w w') :
    ∃ zs' rs', KarIn w' half g p h (r + D) (kr - D) (some A) (some B) zs' rs' (xs.take half) (ys.take half) := by
  obtain ⟨zs', rs', z1, r1, z2, r2, x2, y2⟩ := K.rest hN T
  have a := K.apart
  have b := K.rk
  have c := K.xl
  have d := K.yl
  exact ⟨zs'.take D, rs'.drop D, z2.take D (by omega), by simp; omega, r2.drop D (by omega), by simp; omega, by omega, by omega, x2.take _, by simp; omega, y2.take _, by simp; omega, K.lx.take _, K.ly.take _,
    (K.oxp.take (by omega)).mono fun a ha => by unfold Seg at *; omega, (K.oxr.take (by omega)).mono fun a ha => by unfold Seg at *; omega, (K.oyp.take (by omega)).mono fun a ha => by unfold Seg at *; omega, (K.oyr.take (by omega)).mono fun a ha => by unfold Seg at *; omega⟩
theorem KarIn.high (K : KarIn w n g p h r kr (some A) (some B) zs rs xs ys) (hN : 2 * n = N) (hD : D = 2 * half) (hn : 40 ≤ n) (M : half + half ≤ n + 1) (T : Tch (KarS g p N h r kr) w w') :
    ∃ zs' rs', KarIn w' (n - half) g (p + D) h (r + D) (kr - D) (some (A.add half)) (some (B.add half)) zs' rs' (xs.drop half) (ys.drop half) := by
  obtain ⟨zs', rs', z1, r1, z2, r2, x2, y2⟩ := K.rest hN T
  have a := K.apart
  have b := K.rk
  have c := K.xl
  have d := K.yl
  exact ⟨zs'.drop D, rs'.drop D, z2.drop D (by omega), by simp; omega, r2.drop D (by omega), by simp; omega, by omega, by omega, x2.drop _, by simp; omega, y2.drop _, by simp; omega, K.lx.drop _, K.ly.drop _,
    (K.oxp.drop (k := half) (by omega)).mono fun a ha => by unfold Seg at *; omega, (K.oxr.drop (k := half) (by omega)).mono fun a ha => by unfold Seg at *; omega, (K.oyp.drop (k := half) (by omega)).mono fun a ha => by unfold Seg at *; omega, (K.oyr.drop (k := half) (by omega)).mono fun a ha => by unfold Seg at *; omega⟩
end

theorem kar_mid (x0 x1 y0 y1 : Nat) {b1 b2 : Bool} (h1 : decide (x0 < x1) = b1) (h2 : decide (y0 < y1) = b2) :
    if (b1 ^^ b2) = true then x0 * y0 + x1 * y1 + ((x0 - x1) + (x1 - x0)) * ((y0 - y1) + (y1 - y0)) = x0 * y1 + x1 * y0
    else x0 * y0 + x1 * y1 = x0 * y1 + x1 * y0 + ((x0 - x1) + (x1 - x0)) * ((y0 - y1) + (y1 - y0)) := by
  subst h1 h2
  rcases Nat.lt_or_ge x0 x1 with hx | hx
  · obtain ⟨d, rfl⟩ : ∃ d, x1 = x0 + d := ⟨x1 - x0, by omega⟩
    have e1 : (x0 - (x0 + d)) + (x0 + d - x0) = d := by omega
    rw [e1, decide_eq_true hx]
    rcases Nat.lt_or_ge y0 y1 with hy | hy
    · obtain ⟨f, rfl⟩ : ∃ f, y1 = y0 + f := ⟨y1 - y0, by omega⟩
      have e2 : (y0 - (y0 + f)) + (y0 + f - y0) = f := by omega
      rw [e2, decide_eq_true hy]
      simp
      grind
    · obtain ⟨f, rfl⟩ : ∃ f, y0 = y1 + f := ⟨y0 - y1, by omega⟩
      have e2 : (y1 + f - y1) + (y1 - (y1 + f)) = f := by omega
      rw [e2, decide_eq_false (by omega)]
      simp
      grind
  · obtain ⟨d, rfl⟩ : ∃ d, x0 = x1 + d := ⟨x0 - x1, by omega⟩
    have e1 : (x1 + d - x1) + (x1 - (x1 + d)) = d := by omega
    rw [e1, decide_eq_false (by omega)]
    rcases Nat.lt_or_ge y0 y1 with hy | hy
    · obtain ⟨f, rfl⟩ : ∃ f, y1 = y0 + f := ⟨y1 - y0, by omega⟩
      have e2 : (y0 - (y0 + f)) + (y0 + f - y0) = f := by omega
      rw [e2, decide_eq_true hy]
      simp
      grind
    · obtain ⟨f, rfl⟩ : ∃ f, y0 = y1 + f := ⟨y0 - y1, by omega⟩
      have e2 : (y1 + f - y1) + (y1 - (y1 + f)) = f := by omega
      rw [e2, decide_eq_false (by omega)]
      simp
      grind

/-- Behind the middle's sign. -/
def KarMid (w1 : World) (g p N h r kr D m : Nat) (ls hs : List Nat) (v : Value) (wx : World) : Prop :=
  ∃ ms : List Nat, Hid (ms.length = D + 1) ∧ Hid (ev 18446744073709551616 ms = m) ∧ Ar wx h (r + D) 45 ms ∧ Ar wx g p 45 ls ∧ Ar wx g (p + D) 45 hs ∧ Tch (KarS g p N h r kr) w1 wx
theorem kar_parts {b half n D : Nat} {xs ys : List Nat} (hb : 2 ≤ b) (hx : xs.length = n) (hy : ys.length = n) (lx : Low b xs) (ly : Low b ys) (h1 : n ≤ half + half) (h2 : half ≤ n) (hD : D = 2 * half) :
    ev b (xs.take half) * ev b (ys.take half) + ev b (xs.drop half) * ev b (ys.drop half) < b ^ (D + 1) ∧
    ev b (xs.take half) * ev b (ys.drop half) + ev b (xs.drop half) * ev b (ys.take half) < b ^ (D + 1) ∧
    ev b xs * ev b ys = (ev b (xs.take half) * ev b (ys.take half) + b ^ D * (ev b (xs.drop half) * ev b (ys.drop half))) + b ^ half * (ev b (xs.take half) * ev b (ys.drop half) + ev b (xs.drop half) * ev b (ys.take half)) := by
  have p : ∀ {zs : List Nat}, zs.length = n → Low b zs → ev b (zs.take half) < b ^ half ∧ ev b (zs.drop half) < b ^ half ∧ ev b zs = ev b (zs.take half) + b ^ half * ev b (zs.drop half) := by
    intro zs hz lz
    have a1 := ev_lt (lz.take half)
    have a2 := ev_lt (lz.drop half)
    have a3 : b ^ (zs.take half).length ≤ b ^ half := Nat.pow_le_pow_right (by omega) (by simp; omega)
    have a4 : b ^ (zs.drop half).length ≤ b ^ half := Nat.pow_le_pow_right (by omega) (by simp; omega)
    have a5 := ev_split b zs half (by omega)
    exact ⟨by omega, by omega, a5⟩
  obtain ⟨x1, x2, x3⟩ := p hx lx
  obtain ⟨y1, y2, y3⟩ := p hy ly
  have e1 : b ^ D = b ^ half * b ^ half := by rw [hD, Nat.two_mul, Nat.pow_add]
  have e2 : b ^ (D + 1) = b ^ half * b ^ half * b := by rw [Nat.pow_succ, e1]
  have q : ∀ {u v : Nat}, u < b ^ half → v < b ^ half → u * v < b ^ half * b ^ half := fun hu hv => Nat.mul_lt_mul'' hu hv
  have q1 := q x1 y1
  have q2 := q x2 y2
  have q3 := q x1 y2
  have q4 := q x2 y1
  have e3 : b ^ half * b ^ half * 2 ≤ b ^ half * b ^ half * b := Nat.mul_le_mul_left _ hb
  refine ⟨by omega, by omega, ?_⟩
  rw [x3, y3, e1]
  grind
theorem kar_top {b half D N v : Nat} {ls hs ms : List Nat} (hl : ls.length = D) (hh : half ≤ D) (hN : half ≤ N) (h0 : ev b ls + b ^ D * ev b hs + b ^ half * ev b ms = v) (hv : v < b ^ N) (hb : 0 < b) :
    ev b (ls.drop half ++ hs) + ev b ms < b ^ (N - half) ∧ ∀ fs : List Nat, ev b fs = ev b (ls.drop half ++ hs) + ev b ms → ev b (ls.take half ++ fs) = v := by
  have e1 := ev_split b ls half (by omega)
  have e2 : ev b (ls.drop half ++ hs) = ev b (ls.drop half) + b ^ (D - half) * ev b hs := by rw [ev_append]; simp [hl]
  have e3 : b ^ D = b ^ half * b ^ (D - half) := by rw [← Nat.pow_add]; congr 1; omega
  have e4 : b ^ N = b ^ half * b ^ (N - half) := by rw [← Nat.pow_add]; congr 1; omega
  have e5 : v = ev b (ls.take half) + b ^ half * (ev b (ls.drop half ++ hs) + ev b ms) := by
    rw [← h0, e1, e2, e3]
    show pre b ls half + _ + _ + _ = pre b ls half + _
    grind
  constructor
  · rw [e4] at hv
    refine Nat.lt_of_mul_lt_mul_left (a := b ^ half) ?_
    omega
  · intro fs hf
    rw [ev_append, hf, e5]
    have : (ls.take half).length = half := by simp; omega
    rw [this]

set_option maxRecDepth 100000 in
set_option maxHeartbeats 1600000 in
theorem kar_long {n : Nat} (hn : 40 ≤ n) (ih : ∀ m, m < n → KarOk m) (b1 b2 : Bool) (g p h r kr cp cr ca cb N : Nat) (A B : Addr) (zs rs xs ys : List Nat) (w : World) (K : KarIn w n g p h r kr (some A) (some B) zs rs xs ys)
    (HN : Hid (2 * n = N)) (h1 : N ≤ cp) (h2 : cp ≤ 9223372036854775807) (h3 : kr ≤ cr) (h4 : cr ≤ 9223372036854775807) (h5 : n ≤ ca) (h6 : ca ≤ 9223372036854775807) (h7 : n ≤ cb) (h8 : cb ≤ 9223372036854775807) (h9 : n ≤ 1099511627776)
    (hb1 : decide (ev 18446744073709551616 (xs.take ((n + 1) / 2)) < ev 18446744073709551616 (xs.drop ((n + 1) / 2))) = b1) (hb2 : decide (ev 18446744073709551616 (ys.take ((n + 1) / 2)) < ev 18446744073709551616 (ys.drop ((n + 1) / 2))) = b2) :
    Calls Try.prog 44 #[.slice (some ⟨g, p, none⟩) N cp, .slice (some A) n ca, .slice (some B) n cb, .slice (some ⟨h, r, none⟩) kr cr] w (KarPost w n g p h r kr (ev 18446744073709551616 xs * ev 18446744073709551616 ys)) := by
  generalize hE : (n + 1) / 2 = half at hb1 hb2
  have hh : ((n : Int) + 1) / 2 = (half : Int) := by omega
  have hh1 : half + half ≤ n + 1 := by omega
  have hh2 : n ≤ half + half := by omega
  obtain ⟨D, hD⟩ : ∃ D : Nat, D = 2 * half := ⟨_, rfl⟩
  have hd : (2 : Int) * (half : Int) = (D : Int) := by omega
  have hrk := K.rk
  have hN := HN.out
  have k1 : half ≤ N := by omega
  have k2 : D ≤ N := by omega
  have k3 : D < kr := by omega
  have k4 : D < cr := by omega
  have k5 : half ≤ n := by omega
  have k6 : half ≤ ca := by omega
  have k7 : half ≤ cb := by omega
  have k8 : half ≤ D := by omega
  have k9 : D ≤ cp := by omega
  have k10 : half ≤ cp := by omega
  have m1 : ¬ ca = half := by omega
  have m2 : ¬ cb = half := by omega
  have m3 : ¬ cp = half := by omega
  have m4 : ¬ cp = D := by omega
  have m5 : ¬ cr = D := by omega
  have hw : IntKind.i64.wrap (D : Int) = (D : Int) := IntWalk.i64_in _ (by omega)
  have HW := Lib.hid hw
  clear hw
  have HD := Lib.hid hD
  have HM := Lib.hid hh1
  have HM2 := Lib.hid hh2
  have MS := Lib.hid (And.intro m1 (And.intro m2 (And.intro m3 (And.intro m4 m5))))
  obtain ⟨bx, hbx⟩ : ∃ bx, bx = (b1 ^^ b2) := ⟨_, rfl⟩
  have HBX := Lib.hid hbx
  have HB1 := Lib.hid hb1
  have HB2 := Lib.hid hb2
  clear hN hD hE hb1 hb2 hbx
  go_enter Try.func44, Try.ntmps44
  go_wp2_with fail
  rw [hh]
  have HH := Lib.hid hh
  clear hh
  go_quiet (fail)
  go_wp2_with fail
  have B0 := below_drewN w nq
  generalize w.drewN nq = w0 at B0 ⊢
  go_still_tail 9, (by kernel_rfl)
  change wpList _ _ _ _ _ w0.drew
  replace B0 := B0.trans ((below_drew w0).mono B0.size)
  generalize w0.drew = w1 at B0 ⊢
  have K1 := Lib.hid (K.below B0)
  go_wp2_with fail
  clear m1 m2 m3 m4 m5
  refine (distance_calls g p cp half ca (n - half) (ca - half) (some A) (some (A.add half)) (zs.take half) (xs.take half) (xs.drop half) _ (K1.out.pz.take half (by have := K1.out.pl; omega)) (by have := K1.out.pl; simp; omega)
    (K1.out.xa.take half) (by have := K1.out.xl; simp; omega) (K1.out.xa.drop half) (by have := K1.out.xl; simp; omega) (K1.out.lx.take _) (K1.out.lx.drop _) (by omega) k10 (by omega)
    ((K1.out.oxp.drop (by omega)).mono fun a ha => ⟨ha.1, ha.2.1, by have := ha.2.2; omega⟩)).mono ?_
  rintro e w2 ⟨us, rfl, ul, uv, ua, ut, uz⟩
  rw [HB1.out]
  have UL := Lib.hid ul
  have UZ := Lib.hid uz
  clear ul uz
  go_wp2_with fail
  obtain ⟨m1, m2, m3, m4, m5⟩ := MS.out
  have hw := HW.out
  have hdh : D - half = half := by have := HD.out; omega
  go_still_tail 11, (by kernel_rfl)
  clear hw hdh m1 m2 m3 m4 m5
  change wpList _ _ _ _ _ w2.drew
  have B2 := below_drew w2
  generalize w2.drew = w3 at B2 ⊢
  have T3 : Tch (KarS g p N h r kr) w1 w3 := (ut.trans (Tch.of_below _ B2)).mono fun a _ ha => .inl ⟨ha.1, ha.2.1, by have := ha.2.2; omega⟩
  have ua3 := ua.below B2
  have pv : Ar w3 g (p + half) 45 ((zs.drop half).take half) := (K1.out.pz.sub half half (by have := K1.out.pl; omega)).tch (ut.trans (Tch.of_below _ B2)) fun j hj hs => by have := hs.2.2; simp only at this; omega
  have ob : Off (KarS g p N h r kr) (some B) n := by rw [← HN.out]; exact K1.out.oyp.or K1.out.oyr
  have ob1 : Off (KarS g p N h r kr) (some B) (ys.take half).length := ob.take (by have := K1.out.yl; simp; omega)
  have ob2 : Off (KarS g p N h r kr) (some (B.add half)) (ys.drop half).length := ob.drop (k := half) (by have := K1.out.yl; simp; omega)
  go_wp2_with fail
  refine (distance_calls g (p + half) (cp - half) half cb (n - half) (cb - half) (some B) (some (B.add half)) ((zs.drop half).take half) (ys.take half) (ys.drop half) _ pv (by have := K1.out.pl; simp; omega)
    ((K1.out.yb.take half).tch T3 ob1) (by have := K1.out.yl; simp; omega) ((K1.out.yb.drop half).tch T3 ob2) (by have := K1.out.yl; simp; omega) (K1.out.ly.take _) (K1.out.ly.drop _) (by omega) (by omega) (by omega)
    ((K1.out.oyp.drop (by omega)).mono fun a ha => ⟨ha.1, by have := ha.2.1; omega, by have := ha.2.2; omega⟩)).mono ?_
  rintro e w4 ⟨vs, rfl, vl, vv, va, vt, vz⟩
  rw [HB2.out]
  have VL := Lib.hid vl
  have VZ := Lib.hid vz
  clear vl vz
  go_upto_if 55 with fail
  go_cut [10] (fun v wx => v = .bool bx ∧ wx = w4)
  case first =>
    cases b2
    · have e : bx = b1 := by rw [HBX.out]; simp
      subst e
      go_wp2
      go_meet
      exact ⟨rfl, rfl⟩
    · have e : bx = !b1 := by rw [HBX.out]; simp
      have E := Lib.hid e
      clear e
      go_wp2
      go_meet
      exact ⟨by rw [E.out], rfl⟩
  case rest =>
    obtain ⟨rfl, rfl⟩ := hcut
    have T4 : Tch (KarS g p N h r kr) w1 wc := T3.trans (vt.mono fun a _ ha => by unfold KarS Seg at *; omega)
    have ua4 : Ar wc g p 45 us := ua3.tch vt fun j hj hs => by have h1 := UL.out; have := hs.2.1; simp only at this; omega
    clear ua3 pv ob ob1 ob2 T3 ua ut vt B2
    go_wp2_with fail
    obtain ⟨m1, m2, m3, m4, m5⟩ := MS.out
    have hw := HW.out
    have hdh : D - half = half := by have := HD.out; omega
    go_still_tail 10, (by kernel_rfl)
    clear hw hdh m1 m2 m3 m4 m5
    change wpList _ _ _ _ _ wc.drew
    have B5 := below_drew wc
    generalize wc.drew = w5 at B5 ⊢
    have T5 := T4.trans (Tch.of_below (KarS g p N h r kr) B5)
    obtain ⟨z1, r1, k1⟩ := K1.out.cross HN.out HD.out hn HM.out T5 (ua4.below B5) UL.out (va.below B5) VL.out
    clear ua4 va B5 T4
    go_wp2_with fail
    refine (ih half (by omega) h r h (r + D) (kr - D) cr (cr - D) cp (cp - half) D _ _ z1 r1 us vs _ k1 HD.out.symm (by omega) (by omega) (by omega) (by omega) (by omega) (by omega) (by omega) (by omega) (by omega)).mono ?_
    rintro e w6 ⟨rfl, cs, cl, cv, ca6, ct⟩
    clear k1 z1 r1
    have T6 := T5.trans (ct.mono fun a _ ha => by unfold KarS Seg at *; omega)
    clear ct T5
    go_wp2_with fail
    obtain ⟨m1, m2, m3, m4, m5⟩ := MS.out
    have hw := HW.out
    go_quiet (fail)
    clear hw m1 m2 m3 m4 m5
    have B6 := below_drewN w6 nq
    generalize w6.drewN nq = w7 at B6 ⊢
    go_wp2_with fail
    obtain ⟨m1, m2, m3, m4, m5⟩ := MS.out
    go_still_tail 8, (by kernel_rfl)
    clear m1 m2 m3 m4 m5
    change wpList _ _ _ _ _ w7.drew
    replace B6 := B6.trans ((below_drew w7).mono B6.size)
    generalize w7.drew = w8 at B6 ⊢
    have ca8 := ca6.below B6
    have T8 := T6.trans (Tch.of_below (KarS g p N h r kr) B6)
    clear ca6 T6 B6
    obtain ⟨z1, r1, k1⟩ := K1.out.low HN.out HD.out hn HM.out T8
    go_wp2_with fail
    refine (ih half (by omega) g p h (r + D) (kr - D) cp (cr - D) ca cb D _ _ z1 r1 (xs.take half) (ys.take half) _ k1 HD.out.symm (by omega) (by omega) (by omega) (by omega) (by omega) (by omega) (by omega) (by omega) (by omega)).mono ?_
    rintro e w9 ⟨rfl, ls, ll, lv, la9, lt⟩
    clear k1 z1 r1
    have T9 := T8.trans (lt.mono fun a _ ha => by have := HD.out; have := HN.out; unfold KarS Seg at *; omega)
    have ca9 : Ar w9 h r 45 cs := ca8.tch lt fun j hj hs => by have e1 := cl.out; have e2 := HD.out; have e3 := HN.out; have e4 := K1.out.apart; unfold KarS Seg at hs; simp only at hs; omega
    clear lt T8 ca8
    go_wp2_with fail
    obtain ⟨m1, m2, m3, m4, m5⟩ := MS.out
    go_still_tail 8, (by kernel_rfl)
    clear m1 m2 m3 m4 m5
    change wpList _ _ _ _ _ w9.drew
    have B9 := below_drew w9
    generalize w9.drew = w10 at B9 ⊢
    have ca10 := ca9.below B9
    have la10 := la9.below B9
    have T10 := T9.trans (Tch.of_below (KarS g p N h r kr) B9)
    clear ca9 la9 T9 B9
    obtain ⟨z1, r1, k1⟩ := K1.out.high HN.out HD.out hn HM.out T10
    go_wp2_with fail
    refine (ih (n - half) (by omega) g (p + D) h (r + D) (kr - D) (cp - D) (cr - D) (ca - half) (cb - half) (N - D) _ _ z1 r1 (xs.drop half) (ys.drop half) _ k1 (by show _ = _; have := HD.out; have := HN.out; omega) (by omega) (by omega) (by omega) (by omega) (by omega) (by omega) (by omega) (by omega) (by omega)).mono ?_
    rintro e w11 ⟨rfl, hs, hl, hv, ha11, ht⟩
    clear k1 z1 r1
    have T11 := T10.trans (ht.mono fun a _ ha => by have := HD.out; have := HN.out; unfold KarS Seg at *; omega)
    have ca11 : Ar w11 h r 45 cs := ca10.tch ht fun j hj hs => by have e1 := cl.out; have e2 := HD.out; have e3 := HN.out; have e4 := K1.out.apart; unfold KarS Seg at hs; simp only at hs; omega
    have la11 : Ar w11 g p 45 ls := la10.tch ht fun j hj hs => by have e1 := ll.out; have e2 := HD.out; have e3 := HN.out; have e4 := K1.out.apart; unfold KarS Seg at hs; simp only at hs; omega
    clear ht T10 ca10 la10
    have Q := Lib.hid (kar_parts (by omega) K1.out.xl K1.out.yl K1.out.lx K1.out.ly HM2.out k5 HD.out)
    obtain ⟨z1, r1, -, rl1, -, ra1, -, -⟩ := K1.out.rest HN.out T11
    have RL := Lib.hid rl1
    clear rl1
    go_wp2_with fail
    refine (fill_calls h (r + D) (cr - D) D cp (some ⟨g, p, none⟩) ((r1.drop D).take (D + 1)) ls (D + 1) _ (ra1.sub D (D + 1) (by have := RL.out; omega)) (by have := RL.out; simp; omega) la11.rd (by have := ll.out; have := HD.out; omega) la11.low (by omega) (by omega) (by omega)).mono ?_
    rintro e w12 ⟨rfl, fa, ft, fz⟩
    clear fz ra1
    have T12 := T11.trans (ft.mono fun a _ ha => by have := RL.out; have := K1.out.rk; have := HD.out; have := HN.out; unfold KarS Seg at *; omega)
    have ca12 : Ar w12 h r 45 cs := ca11.tch ft fun j hj hs => by have e1 := cl.out; have e2 := HD.out; unfold Seg at hs; simp only at hs; omega
    have la12 : Ar w12 g p 45 ls := la11.tch ft fun j hj hs => by have e1 := ll.out; have e2 := HD.out; have e3 := HN.out; have e4 := K1.out.apart; have e5 := K1.out.rk; unfold Seg at hs; simp only at hs; omega
    have ha12 : Ar w12 g (p + D) 45 hs := ha11.tch ft fun j hj hs => by have e1 := hl.out; have e2 := HD.out; have e3 := HN.out; have e4 := K1.out.apart; have e5 := K1.out.rk; unfold Seg at hs; simp only at hs; omega
    clear ft T11 ca11 la11 ha11
    have fl : Hid ((ls ++ List.replicate (D + 1 - ls.length) 0).length = D + 1) := by show _ = _; have := ll.out; have := HD.out; simp; omega
    have fv : Hid (ev 18446744073709551616 (ls ++ List.replicate (D + 1 - ls.length) 0) = ev 18446744073709551616 ls) := by show _ = _; rw [ev_append, ev_replicate]; omega
    generalize ls ++ List.replicate (D + 1 - ls.length) 0 = ms at fa fl fv
    go_wp2_with fail
    refine (addto_calls h (r + D) (cr - D) (N - D) (cp - D) (some ⟨g, p + D, none⟩) ms hs (D + 1) _ fa fl.out ha12.rd (by have := hl.out; have := HD.out; have := HN.out; omega) (Off.seg_lit (by have e2 := HD.out; have e3 := HN.out; have e4 := K1.out.apart; have e5 := K1.out.rk; omega)) ha12.low (by have := HD.out; have := HN.out; have := HM2.out; omega) (by omega)
      (by rw [fv.out, lv.out, hv.out]; exact Q.out.1)).mono ?_
    rintro e w13 ⟨ns, rfl, nl, nv, na, nt, nz⟩
    rw [fl.out] at nl nt
    rw [fv.out, lv.out, hv.out] at nv
    have NL := Lib.hid nl
    have NV := Lib.hid nv
    clear nl nv nz fl fv fa ms
    have T13 := T12.trans (nt.mono fun a _ ha => by have := RL.out; have := K1.out.rk; have := HD.out; have := HN.out; unfold KarS Seg at *; omega)
    have ca13 : Ar w13 h r 45 cs := ca12.tch nt fun j hj hs => by have e1 := cl.out; have e2 := HD.out; unfold Seg at hs; simp only at hs; omega
    have la13 : Ar w13 g p 45 ls := la12.tch nt fun j hj hs => by have e1 := ll.out; have e2 := HD.out; have e3 := HN.out; have e4 := K1.out.apart; have e5 := K1.out.rk; unfold Seg at hs; simp only at hs; omega
    have ha13 : Ar w13 g (p + D) 45 hs := ha12.tch nt fun j hj hs => by have e1 := hl.out; have e2 := HD.out; have e3 := HN.out; have e4 := K1.out.apart; have e5 := K1.out.rk; unfold Seg at hs; simp only at hs; omega
    clear nt T12 ca12 la12 ha12
    have MM := Lib.hid (kar_mid (ev 18446744073709551616 (xs.take half)) (ev 18446744073709551616 (xs.drop half)) (ev 18446744073709551616 (ys.take half)) (ev 18446744073709551616 (ys.drop half)) HB1.out HB2.out)
    obtain ⟨m1, m2, m3, m4, m5⟩ := MS.out
    go_upto_if 106 with fail
    clear m1 m2 m3 m4 m5
    go_cut [10] (KarMid w1 g p N h r kr D (ev 18446744073709551616 (xs.take half) * ev 18446744073709551616 (ys.drop half) + ev 18446744073709551616 (xs.drop half) * ev 18446744073709551616 (ys.take half)) ls hs)
    case first =>
      have cv' : Hid (ev 18446744073709551616 cs = ((ev 18446744073709551616 (xs.take half) - ev 18446744073709551616 (xs.drop half)) + (ev 18446744073709551616 (xs.drop half) - ev 18446744073709551616 (xs.take half))) * ((ev 18446744073709551616 (ys.take half) - ev 18446744073709551616 (ys.drop half)) + (ev 18446744073709551616 (ys.drop half) - ev 18446744073709551616 (ys.take half)))) := by show _ = _; rw [cv.out, uv.out, vv.out]
      cases bx
      case true =>
        have M1 := MM.out
        rw [if_pos HBX.out.symm, ← cv'.out] at M1
        have M2 := Lib.hid M1
        clear M1
        go_wp2_with fail
        refine (addto_calls h (r + D) (cr - D) D cr (some ⟨h, r, none⟩) ns cs (D + 1) _ na NL.out ca13.rd (by have := cl.out; have := HD.out; omega) (Off.seg_lit (by omega)) ca13.low (by omega) (by omega) (by rw [NV.out, M2.out]; exact Q.out.2.1)).mono ?_
        rintro e w14 ⟨ms, rfl, ml, mv, ma, mt, mz⟩
        rw [NL.out] at ml mt
        rw [NV.out, M2.out] at mv
        have P : Hid (KarMid w1 g p N h r kr D (ev 18446744073709551616 (xs.take half) * ev 18446744073709551616 (ys.drop half) + ev 18446744073709551616 (xs.drop half) * ev 18446744073709551616 (ys.take half)) ls hs (.bool true) w14) := by
          refine ⟨ms, ml, mv, ma, la13.tch mt fun j hj hs => ?_, ha13.tch mt fun j hj hs => ?_, T13.trans (mt.mono fun a _ ha => ?_)⟩
          · have e1 := ll.out; have e2 := HD.out; have e3 := HN.out; have e4 := K1.out.apart; have e5 := K1.out.rk; unfold Seg at hs; simp only at hs; omega
          · have e1 := hl.out; have e2 := HD.out; have e3 := HN.out; have e4 := K1.out.apart; have e5 := K1.out.rk; unfold Seg at hs; simp only at hs; omega
          · have := RL.out; have := K1.out.rk; have := HD.out; have := HN.out; unfold KarS Seg at *; omega
        clear ml mv ma mt mz
        go_wp2
        go_meet
        exact P.out
      case false =>
        have M1 := MM.out
        rw [if_neg (by rw [← HBX.out]; decide), ← cv'.out] at M1
        have M2 := Lib.hid M1
        clear M1
        go_wp2_with fail
        refine (subfrom_calls h (r + D) (cr - D) D cr (some ⟨h, r, none⟩) ns cs (D + 1) _ na NL.out ca13.rd (by have := cl.out; have := HD.out; omega) (Off.seg_lit (by omega)) ca13.low (by omega) (by omega)).mono ?_
        rintro e w14 ⟨c, ms, rfl, mc, ml, mv, ma, mt, mz⟩
        rw [NL.out] at ml mt mv
        have P : Hid (KarMid w1 g p N h r kr D (ev 18446744073709551616 (xs.take half) * ev 18446744073709551616 (ys.drop half) + ev 18446744073709551616 (xs.drop half) * ev 18446744073709551616 (ys.take half)) ls hs (.bool false) w14) := by
          refine ⟨ms, ml, ?_, ma, la13.tch mt fun j hj hs => ?_, ha13.tch mt fun j hj hs => ?_, T13.trans (mt.mono fun a _ ha => ?_)⟩
          · have f1 := mv.out
            rw [NV.out, M2.out] at f1
            have f2 := ev_lt ma.low
            rw [ml] at f2
            rcases Nat.eq_zero_or_pos c with rfl | hc
            · show _ = _
              omega
            · obtain rfl : c = 1 := by omega
              exfalso
              omega
          · have e1 := ll.out; have e2 := HD.out; have e3 := HN.out; have e4 := K1.out.apart; have e5 := K1.out.rk; unfold Seg at hs; simp only at hs; omega
          · have e1 := hl.out; have e2 := HD.out; have e3 := HN.out; have e4 := K1.out.apart; have e5 := K1.out.rk; unfold Seg at hs; simp only at hs; omega
          · have := RL.out; have := K1.out.rk; have := HD.out; have := HN.out; unfold KarS Seg at *; omega
        clear ml mv ma mt mz
        go_wp2
        go_meet
        exact P.out
    case rest =>
      clear T13 ca13 la13 ha13 na NV NL ns
      obtain ⟨ms, ml, mv, ma, la, ha, T⟩ := hcut
      have fj := la.join ha (by have := ll.out; have := HD.out; omega)
      have fl : Hid ((ls ++ hs).length = N) := by show _ = _; have := ll.out; have := hl.out; have := HD.out; have := HN.out; simp; omega
      have V : Hid (ev 18446744073709551616 ls + 18446744073709551616 ^ D * ev 18446744073709551616 hs + 18446744073709551616 ^ half * ev 18446744073709551616 ms = ev 18446744073709551616 xs * ev 18446744073709551616 ys) := by show _ = _; rw [lv.out, hv.out, mv.out, Q.out.2.2]
      have hlt := K1.out.lt
      rw [HN.out] at hlt
      have U := Lib.hid (kar_top (N := N) (by have := ll.out; have := HD.out; omega) k8 k1 V.out hlt (by omega))
      clear hlt
      have fd : Hid ((ls ++ hs).drop half = ls.drop half ++ hs) := by show _ = _; rw [List.drop_append_of_le_length (by have := ll.out; have := HD.out; omega)]
      have ft : Hid ((ls ++ hs).take half = ls.take half) := by show _ = _; rw [List.take_append_of_le_length (by have := ll.out; have := HD.out; omega)]
      have oS : Hid ((ls.drop half ++ hs).length = N - half) := by show _ = _; have e1 := fl.out; rw [List.length_append] at e1 ⊢; rw [List.length_drop]; have e2 := ll.out; omega
      have f1 := fj.drop half (by rw [fl.out]; exact k1)
      have f2 := fj.take half (by rw [fl.out]; exact k1)
      rw [fd.out] at f1
      rw [ft.out] at f2
      clear fj
      obtain ⟨m1, m2, m3, m4, m5⟩ := MS.out
      go_wp2_with fail
      clear m1 m2 m3 m4 m5
      refine (addto_calls g (p + half) (cp - half) (D + 1) (cr - D) (some ⟨h, r + D, none⟩) (ls.drop half ++ hs) ms (N - half) _ f1 oS.out ma.rd ml.out (Off.seg_lit (by have e2 := HD.out; have e3 := HN.out; have e4 := K1.out.apart; have e5 := K1.out.rk; omega)) ma.low
        (by have e2 := HD.out; have e3 := HN.out; have := HM.out; omega) (by omega) U.out.1).mono ?_
      rintro e w15 ⟨os, rfl, ol, ov, oa, ot, oz⟩
      have P : Hid (KarPost w n g p h r kr (ev 18446744073709551616 xs * ev 18446744073709551616 ys) (.returned (.tuple #[])) w15) := by
        have e2 := HD.out
        have e3 := HN.out
        have e4 := ll.out
        have f3 := f2.tch ot fun j hj hs => by have := hs.2.1; simp at hj; simp only at this; omega
        have f4 := f3.join oa (by simp; omega)
        refine ⟨rfl, _, ?_, U.out.2 os ov, f4, ?_⟩
        · show _ = _
          rw [List.length_append, ol, oS.out]
          simp
          omega
        · rw [e3]
          rw [oS.out] at ot
          refine ((Tch.of_below (KarS g p N h r kr) B0).trans T).trans (ot.mono fun a _ ha => ?_)
          unfold KarS Seg at *
          omega
      clear ol ov oa ot oz
      go_wp2
      go_end0
      exact P.out
end Go.Proofs.Ythpohkklggabpaa
