/-
  mul.joinAll over the heap of naturals.
-/
import Derived.Test.YthpohkklggabpaaPile5
import Derived.Deep.LoopGhost
namespace Go.Proofs.Ythpohkklggabpaa
open Go.RowKit
set_option linter.unusedVariables false

/-- The product of all. -/
def prodV : List Ent → Nat
  | [] => 1
  | r :: R => r.v * prodV R
/-- The words of all. -/
def wtV : List Ent → Nat
  | [] => 0
  | r :: R => r.n + wtV R
theorem prodV_perm {R R' : List Ent} (h : R.Perm R') : prodV R = prodV R' := by
  induction h with
  | nil => rfl
  | cons r _ ih => simp only [prodV, ih]
  | swap r s R => simp only [prodV]; rw [← Nat.mul_assoc, ← Nat.mul_assoc, Nat.mul_comm s.v]
  | trans _ _ ih1 ih2 => exact ih1.trans ih2
theorem wtV_perm {R R' : List Ent} (h : R.Perm R') : wtV R = wtV R' := by
  induction h with
  | nil => rfl
  | cons r _ ih => simp only [wtV, ih]
  | swap r s R => simp only [wtV]; omega
  | trans _ _ ih1 ih2 => exact ih1.trans ih2

/-- In the loop of joinAll: k factors are left, of the product v, of at most N words. -/
def JnRel (b : Nat) (w : World) (p v N k : Nat) (wr : World) : Prop :=
  ∃ R : List Ent, R.length = k ∧ 0 < k ∧ k ≤ 1048576 ∧ Pile b wr p R ∧ EntsOk b wr R ∧ prodV R = v ∧ wtV R ≤ N ∧ Hup b w wr
def JoinPost (b : Nat) (w : World) (v : Nat) (e : Ending) (w' : World) : Prop := ∃ w2, Hup b w w2 ∧ NatPost v w2 e w'
/-- A product that was just made, as an entry. -/
theorem NatPost.ent {b v N : Nat} {w w' : World} {e : Ending} (h : NatPost v w e w') (hb : b ≤ w.heap.size) (hN : v < 18446744073709551616 ^ N) : ∃ r : Ent, e = .returned (.slice r.A r.n r.c) ∧ r.ok b w' ∧ r.v = v ∧ r.n ≤ N ∧ Below w.heap.size w w' := by
  obtain ⟨A, c, rfl, hg⟩ := h
  have hc := hg.cap
  refine ⟨⟨A, (cn 18446744073709551616 v).length, c, v⟩, rfl, ⟨⟨_, hg.rd, rfl, hc.1, by have := hc.2; unfold maxLen at this; omega, cn_low _ _ (by omega), ev_cn _ _ (by omega)⟩, fun ad ha hn => ?_⟩, rfl, cn_len_of_lt _ _ _ (by omega) hN, hg.2⟩
  rcases hg.1.2 with ⟨h1, h2⟩ | ⟨g, cap, cur, hv, hg', hh, _⟩
  · simp only at hn
    omega
  · injection hv with h1
    simp only at ha
    rw [h1] at ha
    obtain rfl := Option.some.inj ha
    exact .inr ⟨_, _, hh⟩

set_option maxHeartbeats 1000000 in
theorem join_calls {b p N : Nat} {R : List Ent} {w : World} (h : Pile b w p R) (ho : EntsOk b w R) (hR : R.length ≤ 1048576) (hN : wtV R ≤ N) (hN2 : N ≤ 1099511627776) (hbw : b ≤ w.heap.size) :
    Calls Try.prog 38 #[.func (.func 39) #[.pointer (some ⟨p, 0, none⟩)] #[], .func (.func 40) #[.pointer (some ⟨p, 0, none⟩)] #[], .func (.func 41) #[.pointer (some ⟨p, 0, none⟩)] #[]] w (JoinPost b w (prodV R)) := by
  rcases Nat.eq_zero_or_pos R.length with h0 | hpos
  · have hv : prodV R = 1 := by rw [List.eq_nil_of_length_eq_zero h0]; rfl
    have HV := Lib.hid hv
    have H0 := Lib.hid h0
    clear h0 hv
    go_enter Try.func38, Try.ntmps38
    go_wp2_with fail
    refine (plen_calls h).mono ?_
    rintro e w1 ⟨rfl, rfl⟩
    rw [H0.out]
    go_wp2_with fail
    refine (of_calls 1 (by omega) _).mono ?_
    rintro e w2 ⟨A, c, rfl, hg⟩
    have P : Hid (JoinPost b w (prodV R) (.returned (.slice A (cn 18446744073709551616 1).length c)) w2) := ⟨w, Hup.refl _ _, by rw [HV.out]; exact ⟨A, c, rfl, hg⟩⟩
    clear hg
    go_wp2
    go_ret
    exact P.out
  · have hne : (((R.length : Nat) : Int) == 0) = false := by rw [beq_eq_false_iff_ne]; omega
    go_enter Try.func38, Try.ntmps38
    go_wp2_with fail
    refine (plen_calls h).mono ?_
    rintro e w1 ⟨rfl, rfl⟩
    go_wp2
    go_loopg [] R.length (fun k wr => JnRel b w p (prodV R) N k wr)
    case atStart => exact ⟨R, rfl, hpos, hR, h, ho, rfl, hN, Hup.refl _ _⟩
    case round =>
      obtain ⟨R1, hk, hp1, hk2, h1, o1, v1, n1, k1⟩ := hrel
      have hb1 : b ≤ wr.heap.size := Nat.le_trans hbw k1.1.size
      have hl1 : R1.length ≤ 1048576 := by omega
      have HK := Lib.hid hk
      have V1 := Lib.hid v1
      clear hk v1
      by_cases hgt : 1 < R1.length
      · go_wp2_with fail
        refine (plen_calls h1).mono ?_
        rintro e w1 ⟨rfl, rfl⟩
        go_wp2_with fail
        refine (take_calls h1 o1 (by omega) (by omega)).mono ?_
        rintro e w2 ⟨r, R2, he, p1, h2, k2⟩
        obtain rfl : e = .returned (.slice r.A r.n r.c) := he
        have hl2 : R2.length + 1 = R1.length := p1.length_eq
        have o2 := (o1.perm p1).hup k2
        have o2' : EntsOk b w2 R2 := fun x hx => o2 x (List.mem_cons_of_mem _ hx)
        go_wp2_with fail
        refine (take_calls h2 o2' (by omega) (by omega)).mono ?_
        rintro e w3 ⟨s, R3, he, p2, h3, k3⟩
        obtain rfl : e = .returned (.slice s.A s.n s.c) := he
        have hl3 : R3.length + 1 = R2.length := p2.length_eq
        have o3 := (o2'.perm p2).hup k3
        have or : r.ok b w3 := (o2 r List.mem_cons_self).hup k3
        have os : s.ok b w3 := o3 s List.mem_cons_self
        have e1 := wtV_perm p1
        have e2 := wtV_perm p2
        have e3 := prodV_perm p1
        have e4 := prodV_perm p2
        simp only [wtV] at e1 e2
        simp only [prodV] at e3 e4
        have hb3 : b ≤ w3.heap.size := Nat.le_trans hb1 (Nat.le_trans k2.1.size k3.1.size)
        have hlt : r.v * s.v < 18446744073709551616 ^ (r.n + s.n) := by
          rw [Nat.pow_add]
          exact Nat.mul_lt_mul'' or.1.lt os.1.lt
        have HLT := Lib.hid hlt
        have hrn : r.n + s.n + wtV R3 = wtV R1 := by omega
        have hrv : r.v * s.v * prodV R3 = prodV R1 := by rw [← e3, ← e4, Nat.mul_assoc]
        have HRN := Lib.hid hrn
        have HRV := Lib.hid hrv
        have hr1 : r.n ≤ 1099511627776 := by omega
        have hr2 : s.n ≤ 1099511627776 := by omega
        have L2 := Lib.hid hl2
        have L3 := Lib.hid hl3
        clear hl2 hl3 e1 e2 e3 e4 hlt hrn hrv o2 o2' h1 o1 h2
        go_wp2_with fail
        refine (mmul_v or.1 os.1 hr1 hr2).mono ?_
        rintro e w4 hm
        obtain ⟨t, rfl, ot, tv, tn, tb⟩ := hm.ent hb3 HLT.out
        have TV := Lib.hid tv
        have h4 := h3.below tb
        have k4 : Hup b w3 w4 := Hup.of_below tb hb3
        have o4 : EntsOk b w4 (R3 ++ [t]) := fun x hx => by
          rcases List.mem_append.1 hx with hx | hx
          · exact (o3 x (List.mem_cons_of_mem _ hx)).hup k4
          · simp only [List.mem_singleton] at hx
            subst hx
            exact ot
        clear hm tv h3 or os o3 ot
        go_wp2_with fail
        refine (put_calls h4 o4 (by have := L2.out; have := L3.out; omega) (Nat.le_trans hb3 tb.size)).mono ?_
        rintro e w5 ⟨rfl, R5, p5, h5, k5⟩
        have p6 := p5.trans (List.perm_append_singleton t R3)
        have J : Hid (JnRel b w p (prodV R) N (R1.length - 1) w5) := by
          refine ⟨R5, ?_, by omega, by omega, h5, (o4.perm p5).hup k5, ?_, ?_, k1.trans (k2.trans (k3.trans (k4.trans k5)))⟩
          · have e1 := p6.length_eq
            have e2 := L2.out
            have e3 := L3.out
            rw [List.length_cons] at e1
            omega
          · rw [prodV_perm p6]
            simp only [prodV]
            rw [TV.out, HRV.out, V1.out]
          · rw [wtV_perm p6]
            simp only [wtV]
            have := HRN.out
            omega
        clear h5 k5 p5 p6 o4 h4
        go_wp2
        go_roundg (R1.length - 1)
        case measure => have := HK.out; omega
        case rel => exact J.out
      · have h11 : R1.length = 1 := by have := HK.out; omega
        have H11 := Lib.hid h11
        go_wp2_with fail
        refine (plen_calls h1).mono ?_
        rintro e w1 ⟨rfl, rfl⟩
        rw [H11.out]
        go_wp2_with fail
        refine (take_calls h1 o1 (by have := H11.out; omega) (by have := H11.out; omega)).mono ?_
        rintro e w2 ⟨r, R2, he, p1, h2, k2⟩
        obtain rfl : e = .returned (.slice r.A r.n r.c) := he
        have hl2 : R2.length + 1 = R1.length := p1.length_eq
        have h20 : R2 = [] := List.eq_nil_of_length_eq_zero (by omega)
        subst h20
        have or := ((o1.perm p1).hup k2) r List.mem_cons_self
        have e1 := wtV_perm p1
        have e3 := prodV_perm p1
        simp only [wtV] at e1
        simp only [prodV, Nat.mul_one] at e3
        have hrv : r.v = prodV R := by rw [e3, V1.out]
        have HRV := Lib.hid hrv
        have hr1 : r.n ≤ 1099511627776 := by omega
        obtain ⟨xs, x1, x2, x3, x4, x5, x6⟩ := or.1
        have X2 := Lib.hid x2
        have X6 := Lib.hid x6
        clear h11 hl2 e1 e3 hrv x2 x6
        go_wp2_with fail
        refine (norm_calls r.A r.n r.c xs _ x1 X2.out x3 x4 x5 hr1).mono ?_
        rintro e w3 hn
        rw [X6.out, HRV.out] at hn
        obtain ⟨A, c, rfl, hg⟩ := hn
        have P : Hid (JoinPost b w (prodV R) (.returned (.slice A (cn 18446744073709551616 (prodV R)).length c)) w3) := ⟨w2, k1.trans k2, A, c, rfl, hg⟩
        clear hg
        go_wp2
        go_ret
        exact P.out
end Go.Proofs.Ythpohkklggabpaa
