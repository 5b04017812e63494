/-
  container/heap over the heap of naturals: up, Init, Pop, Push; mul.pile's take and put.
-/
import Derived.Test.YthpohkklggabpaaPile4
namespace Go.Proofs.Ythpohkklggabpaa
open Go.RowKit
set_option linter.unusedVariables false

/-- What is left in some order; nothing is answered. -/
def PermPost0 (b : Nat) (w : World) (p : Nat) (R : List Ent) (e : Ending) (w' : World) : Prop := e = .returned (.tuple #[]) ∧ PermRel b w p R w'
set_option maxHeartbeats 800000 in
theorem hup_calls {b p i : Nat} {R : List Ent} {w : World} (h : Pile b w p R) (ho : EntsOk b w R) (hi : i < R.length) (hR : R.length ≤ 1099511627776) :
    Calls Try.prog 57 #[.iface 55 (.pointer (some ⟨p, 0, none⟩)), .int .i64 i] w (PermPost0 b w p R) := by
  have ml := meth_less p
  have ms := meth_swap p
  go_enter Try.func57, Try.ntmps57
  go_wp2
  go_loopw [1] (fun v wr => ∃ j : Nat, j < R.length ∧ v = .int .i64 j ∧ PermRel b w p R wr) (fun v _ => (intOf v).toNat)
  case atStart => exact ⟨i, hi, rfl, PermRel.refl h⟩
  case round =>
    obtain ⟨j, hj, rfl, R1, hp1, h1, k1⟩ := hrel
    have hl1 : R1.length = R.length := hp1.length_eq
    have ho1 := (ho.perm hp1).hup k1
    have HL := Lib.hid hl1
    clear hl1
    rcases Nat.eq_zero_or_pos j with rfl | hpos
    · go_wp2
      go_end0
      exact ⟨rfl, R1, hp1, h1, k1⟩
    · obtain ⟨I, hI⟩ : ∃ I : Nat, ((j : Int) - 1) / 2 = (I : Int) := ⟨(j - 1) / 2, by omega⟩
      have n1 : I < j := by omega
      have hne : (((I : Nat) : Int) == (j : Int)) = false := by rw [beq_eq_false_iff_ne]; omega
      go_wp2_with fail
      refine (pless_calls h1 ho1 (i := j) (k := I) (by rw [HL.out]; omega) (by rw [HL.out]; omega) (by rw [HL.out]; omega)).mono ?_
      rintro e w3 ⟨t, rfl, s3⟩
      have h3 := s3.pile h1
      have k3 := k1.trans (s3.hup (b := b))
      clear h1 ho1 k1 s3
      cases t
      · go_wp2
        go_end0
        exact ⟨rfl, R1, hp1, h3, k3⟩
      · go_wp2_with fail
        refine (pswap_calls h3 (i := I) (k := j) (by rw [HL.out]; omega) (by rw [HL.out]; omega) (by rw [HL.out]; omega)).mono ?_
        rintro e w4 ⟨rfl, h4, k4⟩
        have hr : Hid (PermRel b w p R w4) := ⟨_, (swp_perm _ _ _ _ _).trans hp1, h4, k3.trans k4⟩
        clear h4 k4
        go_wp2
        go_roundw
        case rel => exact ⟨I, by omega, rfl, hr.out⟩
        case measure => simp [intOf]; omega

set_option maxHeartbeats 400000 in
theorem hinit_calls {b p : Nat} {R : List Ent} {w : World} (h : Pile b w p R) (ho : EntsOk b w R) (hR : R.length ≤ 1099511627776) :
    Calls Try.prog 49 #[.iface 55 (.pointer (some ⟨p, 0, none⟩))] w (PermPost0 b w p R) := by
  have ml := meth_len p
  obtain ⟨m, hm⟩ : ∃ m : Nat, (R.length : Int) / 2 = (m : Int) := ⟨R.length / 2, by omega⟩
  have hm2 : m ≤ R.length := by omega
  go_enter Try.func49, Try.ntmps49
  go_wp2_with fail
  refine (plen_calls h).mono ?_
  rintro e w1 ⟨rfl, rfl⟩
  go_wp2
  go_loopw [3] (fun v wr => ∃ j : Nat, j ≤ m ∧ v = .int .i64 ((j : Int) - 1) ∧ PermRel b w p R wr) (fun v _ => (intOf v + 1).toNat)
  case atStart => exact ⟨m, Nat.le_refl _, rfl, PermRel.refl h⟩
  case round =>
    obtain ⟨j, hj, rfl, R1, hp1, h1, k1⟩ := hrel
    have hl1 : R1.length = R.length := hp1.length_eq
    have ho1 := (ho.perm hp1).hup k1
    have HL := Lib.hid hl1
    clear hl1
    rcases Nat.eq_zero_or_pos j with rfl | hpos
    · go_wp2
      go_end0
      exact ⟨rfl, R1, hp1, h1, k1⟩
    · obtain ⟨j, rfl⟩ : ∃ i, j = i + 1 := ⟨j - 1, by omega⟩
      have hj1 : (((j + 1 : Nat) : Int) - 1) = (j : Int) := by omega
      go_wp2_with fail
      refine (hdown_calls h1 ho1 (i := j) (n := R.length) (by rw [HL.out]; omega) (by rw [HL.out]; omega) (by rw [HL.out]; omega)).mono ?_
      rintro e w3 ⟨⟨t, rfl⟩, hr⟩
      have hr2 := Lib.hid (PermRel.trans hp1 k1 hr)
      clear hr h1 k1 ho1
      go_wp2
      go_roundw
      case rel => exact ⟨j, by omega, rfl, hr2.out⟩
      case measure => simp [intOf] <;> omega

/-- One is taken out. -/
def TakePost (b : Nat) (w : World) (p : Nat) (R : List Ent) (f : Value → Value) (e : Ending) (w' : World) : Prop :=
  ∃ (r : Ent) (R' : List Ent), e = .returned (f (.slice r.A r.n r.c)) ∧ (r :: R').Perm R ∧ Pile b w' p R' ∧ Hup b w w'
set_option maxHeartbeats 400000 in
theorem hpop_calls {b p : Nat} {R : List Ent} {w : World} (h : Pile b w p R) (ho : EntsOk b w R) (hR : R.length ≤ 1099511627776) (hpos : 0 < R.length) :
    Calls Try.prog 51 #[.iface 55 (.pointer (some ⟨p, 0, none⟩))] w (TakePost b w p R (.iface 23)) := by
  have ml := meth_len p
  have ms := meth_swap p
  have mp := meth_pop p
  obtain ⟨m, hm⟩ : ∃ m : Nat, (R.length : Int) - 1 = (m : Int) := ⟨R.length - 1, by omega⟩
  have hm2 : m < R.length := by omega
  go_enter Try.func51, Try.ntmps51
  go_wp2_with fail
  refine (plen_calls h).mono ?_
  rintro e w1 ⟨rfl, rfl⟩
  go_wp2_with fail
  refine (pswap_calls h (i := 0) (k := m) (by omega) (by omega) (by omega)).mono ?_
  rintro e w2 ⟨rfl, h2, k2⟩
  have hp2 := swp_perm R 0 m hpos hm2
  have hl2 : (swp R 0 m hpos hm2).length = R.length := hp2.length_eq
  generalize swp R 0 m hpos hm2 = R2 at *
  have ho2 := (ho.perm hp2).hup k2
  have HL := Lib.hid hl2
  clear hl2
  go_wp2_with fail
  refine (hdown_calls h2 ho2 (i := 0) (n := m) (by omega) (by rw [HL.out]; omega) (by rw [HL.out]; omega)).mono ?_
  rintro e w3 ⟨⟨t, rfl⟩, R3, hp3, h3, k3⟩
  have hl3 : R3.length = R.length := hp3.length_eq.trans HL.out
  have hne : R3 ≠ [] := fun e => by rw [e] at hl3; simp at hl3; omega
  have hsp := (List.dropLast_concat_getLast hne).symm
  have hd : R3.dropLast.length = m := by simp; omega
  generalize R3.getLast hne = r at hsp
  generalize R3.dropLast = R4 at hsp hd
  subst hsp
  have HD := Lib.hid hd
  clear hd hl3 hne
  go_wp2_with fail
  refine (ppop_calls h3 (by rw [HD.out]; omega)).mono ?_
  rintro e w4 ⟨rfl, h4, k4⟩
  have P : Hid (TakePost b w p R (.iface 23) (.returned (.iface 23 r.val)) w4) :=
    ⟨r, R4, rfl, (List.perm_append_singleton r R4).symm.trans (hp3.trans hp2), h4, k2.trans (k3.trans k4)⟩
  clear h4 k4
  go_wp2
  go_ret
  exact P.out

set_option maxHeartbeats 400000 in
theorem hpush_calls {b p : Nat} {R : List Ent} {r : Ent} {w : World} (h : Pile b w p R) (ho : EntsOk b w (R ++ [r])) (hR : R.length < 1099511627776) (hbw : b ≤ w.heap.size) :
    Calls Try.prog 52 #[.iface 55 (.pointer (some ⟨p, 0, none⟩)), .iface 23 (.slice r.A r.n r.c)] w (PermPost0 b w p (R ++ [r])) := by
  have ml := meth_len p
  have mp := meth_push p
  have hl : ((R ++ [r]).length : Int) - 1 = (R.length : Int) := by simp
  have hl2 : (R ++ [r]).length = R.length + 1 := by simp
  have HL := Lib.hid hl2
  clear hl2
  go_enter Try.func52, Try.ntmps52
  go_wp2_with fail
  refine (ppush_calls h (by omega) hbw).mono ?_
  rintro e w2 ⟨rfl, h2, k2⟩
  go_wp2_with fail
  refine (plen_calls h2).mono ?_
  rintro e w3 ⟨rfl, rfl⟩
  rw [HL.out]
  have ho2 := ho.hup k2
  go_wp2_with fail
  refine (hup_calls h2 ho2 (i := R.length) (by rw [HL.out]; omega) (by rw [HL.out]; omega)).mono ?_
  rintro e w4 ⟨rfl, hr⟩
  have hr2 := Lib.hid (PermRel.trans (List.Perm.refl _) k2 hr)
  clear hr
  go_wp2
  go_end0
  exact ⟨rfl, hr2.out⟩

theorem take_calls {b p : Nat} {R : List Ent} {w : World} (h : Pile b w p R) (ho : EntsOk b w R) (hR : R.length ≤ 1099511627776) (hpos : 0 < R.length) :
    Calls Try.prog 40 #[.pointer (some ⟨p, 0, none⟩)] w (TakePost b w p R id) := by
  have hta := assert_nat
  go_enter Try.func40, Try.ntmps40
  go_wp2_with fail
  refine (hpop_calls h ho hR hpos).mono ?_
  rintro e w1 ⟨r, R', rfl, h1, h2, h3⟩
  go_wp2
  go_ret
  exact ⟨r, R', rfl, h1, h2, h3⟩
theorem put_calls {b p : Nat} {R : List Ent} {r : Ent} {w : World} (h : Pile b w p R) (ho : EntsOk b w (R ++ [r])) (hR : R.length < 1099511627776) (hbw : b ≤ w.heap.size) :
    Calls Try.prog 41 #[.pointer (some ⟨p, 0, none⟩), .slice r.A r.n r.c] w (PermPost0 b w p (R ++ [r])) := by
  go_enter Try.func41, Try.ntmps41
  go_wp2_with fail
  refine (hpush_calls h ho hR hbw).mono ?_
  rintro e w1 ⟨rfl, h1⟩
  go_wp2
  go_end0
  exact ⟨rfl, h1⟩
end Go.Proofs.Ythpohkklggabpaa
