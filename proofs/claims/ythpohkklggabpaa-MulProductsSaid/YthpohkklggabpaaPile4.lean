/-
  container/heap over the heap of naturals: down, up, Init, Pop, Push.
-/
import Derived.Test.YthpohkklggabpaaPile3
namespace Go.Proofs.Ythpohkklggabpaa
open Go.RowKit
set_option linter.unusedVariables false

theorem meth_len (p : Nat) (w : World) : (method 198 55 (.pointer (some ⟨p, 0, none⟩)) "Len").run Try.prog w = .ok (39, .pointer (some ⟨p, 0, none⟩)) w := by kernel_rfl
theorem meth_less (p : Nat) (w : World) : (method 198 55 (.pointer (some ⟨p, 0, none⟩)) "Less").run Try.prog w = .ok (75, .pointer (some ⟨p, 0, none⟩)) w := by kernel_rfl
theorem meth_swap (p : Nat) (w : World) : (method 198 55 (.pointer (some ⟨p, 0, none⟩)) "Swap").run Try.prog w = .ok (78, .pointer (some ⟨p, 0, none⟩)) w := by kernel_rfl
theorem meth_pop (p : Nat) (w : World) : (method 198 55 (.pointer (some ⟨p, 0, none⟩)) "Pop").run Try.prog w = .ok (76, .pointer (some ⟨p, 0, none⟩)) w := by kernel_rfl
theorem meth_push (p : Nat) (w : World) : (method 198 55 (.pointer (some ⟨p, 0, none⟩)) "Push").run Try.prog w = .ok (77, .pointer (some ⟨p, 0, none⟩)) w := by kernel_rfl

/-- What is left in some order. -/
def PermRel (b : Nat) (w : World) (p : Nat) (R : List Ent) (w' : World) : Prop :=
  ∃ R' : List Ent, R'.Perm R ∧ Pile b w' p R' ∧ Hup b w w'
def PermPost (b : Nat) (w : World) (p : Nat) (R : List Ent) (e : Ending) (w' : World) : Prop := (∃ t : Bool, e = .returned (.bool t)) ∧ PermRel b w p R w'
theorem swp_perm (R : List Ent) (i k : Nat) (hi : i < R.length) (hk : k < R.length) : (swp R i k hi hk).Perm R := by
  unfold swp
  exact List.set_set_perm hi hk
theorem PermRel.refl {b p : Nat} {R : List Ent} {w : World} (h : Pile b w p R) : PermRel b w p R w := ⟨R, List.Perm.refl _, h, Hup.refl _ _⟩
theorem PermRel.trans {b p : Nat} {R R1 : List Ent} {w w1 w2 : World} (h1 : R1.Perm R) (k1 : Hup b w w1) (h2 : PermRel b w1 p R1 w2) : PermRel b w p R w2 := by
  obtain ⟨R2, a, c, d⟩ := h2
  exact ⟨R2, a.trans h1, c, k1.trans d⟩
theorem EntsOk.perm {b : Nat} {w : World} {R R' : List Ent} (h : EntsOk b w R) (k : R'.Perm R) : EntsOk b w R' := fun r hr => h r (k.subset hr)

theorem Sees.hup {b : Nat} {w w' : World} (h : Sees w w') : Hup b w w' := by
  obtain ⟨q, rfl⟩ := h
  exact Hup.drewN _ _ _
theorem Sees.pile {b p : Nat} {R : List Ent} {w w' : World} (h : Sees w w') (k : Pile b w p R) : Pile b w' p R := by
  obtain ⟨q, rfl⟩ := h
  exact k
set_option maxHeartbeats 800000 in
theorem hdown_calls {b p i n : Nat} {R : List Ent} {w : World} (h : Pile b w p R) (ho : EntsOk b w R) (hi : i ≤ R.length) (hn : n ≤ R.length) (hR : R.length ≤ 1099511627776) :
    Calls Try.prog 56 #[.iface 55 (.pointer (some ⟨p, 0, none⟩)), .int .i64 i, .int .i64 n] w (PermPost b w p R) := by
  have ml := meth_less p
  have ms := meth_swap p
  go_enter Try.func56, Try.ntmps56
  go_wp2
  go_loopw [7] (fun v wr => ∃ j : Nat, j ≤ R.length ∧ v = .int .i64 j ∧ PermRel b w p R wr) (fun v _ => R.length - (intOf v).toNat)
  case atStart => exact ⟨i, hi, rfl, PermRel.refl h⟩
  case round =>
    obtain ⟨j, hj, rfl, R1, hp1, h1, k1⟩ := hrel
    have hl1 : R1.length = R.length := hp1.length_eq
    have ho1 := (ho.perm hp1).hup k1
    have HL := Lib.hid hl1
    clear hl1
    obtain ⟨J1, hJ1⟩ : ∃ J : Nat, (2 : Int) * (j : Int) + 1 = (J : Int) := ⟨2 * j + 1, by omega⟩
    obtain ⟨J2, hJ2⟩ : ∃ J : Nat, (J1 : Int) + 1 = (J : Int) := ⟨J1 + 1, by omega⟩
    have n1 : j < J1 := by omega
    have n2 : J1 < J2 := by omega
    have n3 : J2 ≤ 4398046511104 := by omega
    by_cases hge : J1 < n
    · by_cases h2 : J2 < n
      · go_wp2_with fail
        refine (pless_calls h1 ho1 (i := J2) (k := J1) (by rw [HL.out]; omega) (by rw [HL.out]; omega) (by rw [HL.out]; omega)).mono ?_
        rintro e w2 ⟨t, rfl, s2⟩
        cases t
        · have h2' := (s2).pile h1
          have ho2 := ho1.hup (s2).hup
          have k2 := k1.trans ((s2).hup (b := b))
          have g1 : J1 < n := by omega
          have g2 : j < J1 := by omega
          clear h1 ho1 k1
          go_wp2_with fail
          refine (pless_calls h2' ho2 (i := J1) (k := j) (by rw [HL.out]; omega) (by rw [HL.out]; omega) (by rw [HL.out]; omega)).mono ?_
          rintro e w3 ⟨t, rfl, s3⟩
          have h3 := s3.pile h2'
          have ho3 := ho2.hup s3.hup
          have k3 := k2.trans (s3.hup (b := b))
          clear h2' ho2 k2 s3
          cases t
          · go_wp2
            go_ret
            exact ⟨⟨_, rfl⟩, R1, hp1, h3, k3⟩
          · go_wp2_with fail
            refine (pswap_calls h3 (i := j) (k := J1) (by rw [HL.out]; omega) (by rw [HL.out]; omega) (by rw [HL.out]; omega)).mono ?_
            rintro e w4 ⟨rfl, h4, k4⟩
            have hr : Hid (PermRel b w p R w4) := ⟨_, (swp_perm _ _ _ _ _).trans hp1, h4, k3.trans k4⟩
            clear h4 k4
            go_wp2
            go_roundw
            case rel => exact ⟨J1, by omega, rfl, hr.out⟩
            case measure => simp [intOf]; omega
        · have h2' := (s2).pile h1
          have ho2 := ho1.hup (s2).hup
          have k2 := k1.trans ((s2).hup (b := b))
          have g1 : J2 < n := by omega
          have g2 : j < J2 := by omega
          clear h1 ho1 k1
          go_wp2_with fail
          refine (pless_calls h2' ho2 (i := J2) (k := j) (by rw [HL.out]; omega) (by rw [HL.out]; omega) (by rw [HL.out]; omega)).mono ?_
          rintro e w3 ⟨t, rfl, s3⟩
          have h3 := s3.pile h2'
          have ho3 := ho2.hup s3.hup
          have k3 := k2.trans (s3.hup (b := b))
          clear h2' ho2 k2 s3
          cases t
          · go_wp2
            go_ret
            exact ⟨⟨_, rfl⟩, R1, hp1, h3, k3⟩
          · go_wp2_with fail
            refine (pswap_calls h3 (i := j) (k := J2) (by rw [HL.out]; omega) (by rw [HL.out]; omega) (by rw [HL.out]; omega)).mono ?_
            rintro e w4 ⟨rfl, h4, k4⟩
            have hr : Hid (PermRel b w p R w4) := ⟨_, (swp_perm _ _ _ _ _).trans hp1, h4, k3.trans k4⟩
            clear h4 k4
            go_wp2
            go_roundw
            case rel => exact ⟨J2, by omega, rfl, hr.out⟩
            case measure => simp [intOf]; omega
      · have h2' := (Sees.refl wr).pile h1
        have ho2 := ho1.hup (Sees.refl wr).hup
        have k2 := k1.trans ((Sees.refl wr).hup (b := b))
        have g1 : J1 < n := by omega
        have g2 : j < J1 := by omega
        clear h1 ho1 k1
        go_wp2_with fail
        refine (pless_calls h2' ho2 (i := J1) (k := j) (by rw [HL.out]; omega) (by rw [HL.out]; omega) (by rw [HL.out]; omega)).mono ?_
        rintro e w3 ⟨t, rfl, s3⟩
        have h3 := s3.pile h2'
        have ho3 := ho2.hup s3.hup
        have k3 := k2.trans (s3.hup (b := b))
        clear h2' ho2 k2 s3
        cases t
        · go_wp2
          go_ret
          exact ⟨⟨_, rfl⟩, R1, hp1, h3, k3⟩
        · go_wp2_with fail
          refine (pswap_calls h3 (i := j) (k := J1) (by rw [HL.out]; omega) (by rw [HL.out]; omega) (by rw [HL.out]; omega)).mono ?_
          rintro e w4 ⟨rfl, h4, k4⟩
          have hr : Hid (PermRel b w p R w4) := ⟨_, (swp_perm _ _ _ _ _).trans hp1, h4, k3.trans k4⟩
          clear h4 k4
          go_wp2
          go_roundw
          case rel => exact ⟨J1, by omega, rfl, hr.out⟩
          case measure => simp [intOf]; omega
    · go_wp2
      go_ret
      exact ⟨⟨_, rfl⟩, R1, hp1, h1, k1⟩
end Go.Proofs.Ythpohkklggabpaa
