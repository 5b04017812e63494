/-
  container/heap over the heap of classes (modn.pile): down, up, Init, Pop, Push; take and put.
-/
import Derived.Test.YtbcopicoldnahaaGreatCrtE
import Derived.RegionTactic
import Derived.BigRegion
import Derived.Deep.RegionHeld3
import Derived.Deep.RegionLaw
import Derived.Deep.LoopGhost
/-! container/heap over the heap of classes: down, up, Init, Pop, Push. -/
namespace Go.Proofs.YtbcopicoldnahaaGreat
open Go.RowKit
set_option linter.unusedVariables false

theorem meth_len (p : Nat) (w : World) : (method 262 43 (.pointer (some ⟨p, 0, none⟩)) "Len").run Tryz.prog w = .ok (31, .pointer (some ⟨p, 0, none⟩)) w := by kernel_rfl
theorem meth_less (p : Nat) (w : World) : (method 262 43 (.pointer (some ⟨p, 0, none⟩)) "Less").run Tryz.prog w = .ok (135, .pointer (some ⟨p, 0, none⟩)) w := by kernel_rfl
theorem meth_swap (p : Nat) (w : World) : (method 262 43 (.pointer (some ⟨p, 0, none⟩)) "Swap").run Tryz.prog w = .ok (138, .pointer (some ⟨p, 0, none⟩)) w := by kernel_rfl
theorem meth_pop (p : Nat) (w : World) : (method 262 43 (.pointer (some ⟨p, 0, none⟩)) "Pop").run Tryz.prog w = .ok (136, .pointer (some ⟨p, 0, none⟩)) w := by kernel_rfl
theorem meth_push (p : Nat) (w : World) : (method 262 43 (.pointer (some ⟨p, 0, none⟩)) "Push").run Tryz.prog w = .ok (137, .pointer (some ⟨p, 0, none⟩)) w := by kernel_rfl

/-- What is left in some order. -/
def CPermRel (b : Nat) (w : World) (p g : Nat) (R : List Cls) (q : Nat) (w' : World) : Prop :=
  ∃ R' : List Cls, R'.Perm R ∧ CPile b w' p g R' q ∧ Hc b w w'
def CPermPost (b : Nat) (w : World) (p g : Nat) (R : List Cls) (q : Nat) (e : Ending) (w' : World) : Prop := (∃ t : Bool, e = .returned (.bool t)) ∧ CPermRel b w p g R q w'
theorem cswp_perm (R : List Cls) (i k : Nat) (hi : i < R.length) (hk : k < R.length) : (cswp R i k hi hk).Perm R := by
  unfold cswp
  exact List.set_set_perm hi hk
theorem CPermRel.refl {b p g q : Nat} {R : List Cls} {w : World} (h : CPile b w p g R q) : CPermRel b w p g R q w := ⟨R, List.Perm.refl _, h, Hc.refl _ _⟩
theorem CPermRel.trans {b p g q : Nat} {R R1 : List Cls} {w w1 w2 : World} (h1 : R1.Perm R) (k1 : Hc b w w1) (h2 : CPermRel b w1 p g R1 q w2) : CPermRel b w p g R q w2 := by
  obtain ⟨R2, a, c, d⟩ := h2
  exact ⟨R2, a.trans h1, c, k1.trans d⟩
theorem ClsOk.perm {w : World} {R R' : List Cls} (h : ClsOk w R) (k : R'.Perm R) : ClsOk w R' := fun r hr => h r (k.subset hr)

theorem ClsOk.below {w w' : World} {R : List Cls} (h : ClsOk w R) (hb : Below w.heap.size w w') : ClsOk w' R := fun r hr => (h r hr).below hb
theorem ClsOk.hc {b : Nat} {w w' : World} {R : List Cls} (h : ClsOk w R) (k : Hc b w w') : ClsOk w' R := fun r hr => (h r hr).hc k
set_option maxRecDepth 100000 in
set_option maxHeartbeats 800000 in
theorem chdown_calls {b p g i n q : Nat} {R : List Cls} {w : World} (h : CPile b w p g R q) (ho : ClsOk w R) (hi : i ≤ R.length) (hn : n ≤ R.length) (hR : R.length ≤ 1000) (hb : b ≤ w.heap.size) :
    Calls Tryz.prog 66 #[.iface 43 (.pointer (some ⟨p, 0, none⟩)), .int .i64 i, .int .i64 n] w (CPermPost b w p g R q) := by
  have ml := meth_less p
  have ms := meth_swap p
  go_enter Tryz.func66, Tryz.ntmps66
  go_wp2
  go_loopw [7] (fun v wr => ∃ j : Nat, j ≤ R.length ∧ v = .int .i64 j ∧ CPermRel b w p g R q wr) (fun v _ => R.length - (intOf v).toNat)
  case atStart => exact ⟨i, hi, rfl, CPermRel.refl h⟩
  case round =>
    obtain ⟨j, hj, rfl, R1, hp1, h1, k1⟩ := hrel
    have hl1 : R1.length = R.length := hp1.length_eq
    have ho1 := (ho.perm hp1).hc k1
    have HL := Lib.hid hl1
    have hbr : b ≤ wr.heap.size := Nat.le_trans hb k1.1.size
    clear hl1
    obtain ⟨J1, hJ1⟩ : ∃ J : Nat, (2 : Int) * (j : Int) + 1 = (J : Int) := ⟨2 * j + 1, by omega⟩
    obtain ⟨J2, hJ2⟩ : ∃ J : Nat, (J1 : Int) + 1 = (J : Int) := ⟨J1 + 1, by omega⟩
    have n1 : j < J1 := by omega
    have n2 : J1 < J2 := by omega
    have n3 : J2 ≤ 4398046511104 := by omega
    by_cases hge : J1 < n
    · by_cases h2 : J2 < n
      · go_wp2_with fail
        refine (cless_calls h1 ho1 (i := J2) (k := J1) (by rw [HL.out]; omega) (by rw [HL.out]; omega) (by rw [HL.out]; omega)).mono ?_
        rintro e w2 ⟨t, rfl, s2⟩
        cases t
        · have h2' := h1.below s2
          have ho2 := ho1.below s2
          have k2 := k1.trans (Hc.of_below s2 hbr)
          have g1 : J1 < n := by omega
          have g2 : j < J1 := by omega
          clear h1 ho1 k1
          go_wp2_with fail
          refine (cless_calls h2' ho2 (i := J1) (k := j) (by rw [HL.out]; omega) (by rw [HL.out]; omega) (by rw [HL.out]; omega)).mono ?_
          rintro e w3 ⟨t, rfl, s3⟩
          have h3 := h2'.below s3
          have ho3 := ho2.below s3
          have k3 := k2.trans (Hc.of_below s3 (Nat.le_trans hb k2.1.size))
          clear h2' ho2 k2 s3
          cases t
          · go_wp2
            go_ret
            exact ⟨⟨_, rfl⟩, R1, hp1, h3, k3⟩
          · go_wp2_with fail
            refine (cswap_calls h3 (i := j) (k := J1) (by rw [HL.out]; omega) (by rw [HL.out]; omega) (by rw [HL.out]; omega) (Nat.le_trans hb k3.1.size)).mono ?_
            rintro e w4 ⟨rfl, h4, k4⟩
            have hr : Hid (CPermRel b w p g R q w4) := ⟨_, (cswp_perm _ _ _ _ _).trans hp1, h4, k3.trans k4⟩
            clear h4 k4
            go_wp2
            go_roundw
            case rel => exact ⟨J1, by omega, rfl, hr.out⟩
            case measure => simp [intOf]; omega
        · have h2' := h1.below s2
          have ho2 := ho1.below s2
          have k2 := k1.trans (Hc.of_below s2 hbr)
          have g1 : J2 < n := by omega
          have g2 : j < J2 := by omega
          clear h1 ho1 k1
          go_wp2_with fail
          refine (cless_calls h2' ho2 (i := J2) (k := j) (by rw [HL.out]; omega) (by rw [HL.out]; omega) (by rw [HL.out]; omega)).mono ?_
          rintro e w3 ⟨t, rfl, s3⟩
          have h3 := h2'.below s3
          have ho3 := ho2.below s3
          have k3 := k2.trans (Hc.of_below s3 (Nat.le_trans hb k2.1.size))
          clear h2' ho2 k2 s3
          cases t
          · go_wp2
            go_ret
            exact ⟨⟨_, rfl⟩, R1, hp1, h3, k3⟩
          · go_wp2_with fail
            refine (cswap_calls h3 (i := j) (k := J2) (by rw [HL.out]; omega) (by rw [HL.out]; omega) (by rw [HL.out]; omega) (Nat.le_trans hb k3.1.size)).mono ?_
            rintro e w4 ⟨rfl, h4, k4⟩
            have hr : Hid (CPermRel b w p g R q w4) := ⟨_, (cswp_perm _ _ _ _ _).trans hp1, h4, k3.trans k4⟩
            clear h4 k4
            go_wp2
            go_roundw
            case rel => exact ⟨J2, by omega, rfl, hr.out⟩
            case measure => simp [intOf]; omega
      · have h2' := h1.below (Below.refl _ _)
        have ho2 := ho1.below (Below.refl _ _)
        have k2 := k1.trans (Hc.of_below (Below.refl _ _) hbr)
        have g1 : J1 < n := by omega
        have g2 : j < J1 := by omega
        clear h1 ho1 k1
        go_wp2_with fail
        refine (cless_calls h2' ho2 (i := J1) (k := j) (by rw [HL.out]; omega) (by rw [HL.out]; omega) (by rw [HL.out]; omega)).mono ?_
        rintro e w3 ⟨t, rfl, s3⟩
        have h3 := h2'.below s3
        have ho3 := ho2.below s3
        have k3 := k2.trans (Hc.of_below s3 (Nat.le_trans hb k2.1.size))
        clear h2' ho2 k2 s3
        cases t
        · go_wp2
          go_ret
          exact ⟨⟨_, rfl⟩, R1, hp1, h3, k3⟩
        · go_wp2_with fail
          refine (cswap_calls h3 (i := j) (k := J1) (by rw [HL.out]; omega) (by rw [HL.out]; omega) (by rw [HL.out]; omega) (Nat.le_trans hb k3.1.size)).mono ?_
          rintro e w4 ⟨rfl, h4, k4⟩
          have hr : Hid (CPermRel b w p g R q w4) := ⟨_, (cswp_perm _ _ _ _ _).trans hp1, h4, k3.trans k4⟩
          clear h4 k4
          go_wp2
          go_roundw
          case rel => exact ⟨J1, by omega, rfl, hr.out⟩
          case measure => simp [intOf]; omega
    · go_wp2
      go_ret
      exact ⟨⟨_, rfl⟩, R1, hp1, h1, k1⟩
end Go.Proofs.YtbcopicoldnahaaGreat

/-! container/heap over the heap of classes: up, Init, Pop, Push; modn.pile's take and put. -/
namespace Go.Proofs.YtbcopicoldnahaaGreat
open Go.RowKit
set_option linter.unusedVariables false

/-- What is left in some order; nothing is answered. -/
def CPermPost0 (b : Nat) (w : World) (p g : Nat) (R : List Cls) (q : Nat) (e : Ending) (w' : World) : Prop := e = .returned (.tuple #[]) ∧ CPermRel b w p g R q w'
set_option maxRecDepth 100000 in
set_option maxHeartbeats 800000 in
theorem chup_calls {b p g i q : Nat} {R : List Cls} {w : World} (h : CPile b w p g R q) (ho : ClsOk w R) (hi : i < R.length) (hR : R.length ≤ 1000) (hb : b ≤ w.heap.size) :
    Calls Tryz.prog 92 #[.iface 43 (.pointer (some ⟨p, 0, none⟩)), .int .i64 i] w (CPermPost0 b w p g R q) := by
  have ml := meth_less p
  have ms := meth_swap p
  go_enter Tryz.func92, Tryz.ntmps92
  go_wp2
  go_loopw [1] (fun v wr => ∃ j : Nat, j < R.length ∧ v = .int .i64 j ∧ CPermRel b w p g R q wr) (fun v _ => (intOf v).toNat)
  case atStart => exact ⟨i, hi, rfl, CPermRel.refl h⟩
  case round =>
    obtain ⟨j, hj, rfl, R1, hp1, h1, k1⟩ := hrel
    have hl1 : R1.length = R.length := hp1.length_eq
    have ho1 := (ho.perm hp1).hc k1
    have HL := Lib.hid hl1
    have hbr : b ≤ wr.heap.size := Nat.le_trans hb k1.1.size
    clear hl1
    rcases Nat.eq_zero_or_pos j with rfl | hpos
    · go_wp2
      go_end0
      exact ⟨rfl, R1, hp1, h1, k1⟩
    · obtain ⟨I, hI⟩ : ∃ I : Nat, ((j : Int) - 1) / 2 = (I : Int) := ⟨(j - 1) / 2, by omega⟩
      have n1 : I < j := by omega
      have hne : (((I : Nat) : Int) == (j : Int)) = false := by rw [beq_eq_false_iff_ne]; omega
      go_wp2_with fail
      refine (cless_calls h1 ho1 (i := j) (k := I) (by rw [HL.out]; omega) (by rw [HL.out]; omega) (by rw [HL.out]; omega)).mono ?_
      rintro e w3 ⟨t, rfl, s3⟩
      have h3 := h1.below s3
      have k3 := k1.trans (Hc.of_below s3 hbr)
      clear h1 ho1 k1 s3
      cases t
      · go_wp2
        go_end0
        exact ⟨rfl, R1, hp1, h3, k3⟩
      · go_wp2_with fail
        refine (cswap_calls h3 (i := I) (k := j) (by rw [HL.out]; omega) (by rw [HL.out]; omega) (by rw [HL.out]; omega) (Nat.le_trans hb k3.1.size)).mono ?_
        rintro e w4 ⟨rfl, h4, k4⟩
        have hr : Hid (CPermRel b w p g R q w4) := ⟨_, (cswp_perm _ _ _ _ _).trans hp1, h4, k3.trans k4⟩
        clear h4 k4
        go_wp2
        go_roundw
        case rel => exact ⟨I, by omega, rfl, hr.out⟩
        case measure => simp [intOf]; omega

set_option maxRecDepth 100000 in
set_option maxHeartbeats 400000 in
theorem chinit_calls {b p g q : Nat} {R : List Cls} {w : World} (h : CPile b w p g R q) (ho : ClsOk w R) (hR : R.length ≤ 1000) (hb : b ≤ w.heap.size) :
    Calls Tryz.prog 36 #[.iface 43 (.pointer (some ⟨p, 0, none⟩))] w (CPermPost0 b w p g R q) := by
  have ml := meth_len p
  obtain ⟨m, hm⟩ : ∃ m : Nat, (R.length : Int) / 2 = (m : Int) := ⟨R.length / 2, by omega⟩
  have hm2 : m ≤ R.length := by omega
  go_enter Tryz.func36, Tryz.ntmps36
  go_wp2_with fail
  refine (clen_calls h).mono ?_
  rintro e w1 ⟨rfl, rfl⟩
  go_wp2
  go_loopw [3] (fun v wr => ∃ j : Nat, j ≤ m ∧ v = .int .i64 ((j : Int) - 1) ∧ CPermRel b w p g R q wr) (fun v _ => (intOf v + 1).toNat)
  case atStart => exact ⟨m, Nat.le_refl _, rfl, CPermRel.refl h⟩
  case round =>
    obtain ⟨j, hj, rfl, R1, hp1, h1, k1⟩ := hrel
    have hl1 : R1.length = R.length := hp1.length_eq
    have ho1 := (ho.perm hp1).hc k1
    have HL := Lib.hid hl1
    have hbr : b ≤ wr.heap.size := Nat.le_trans hb k1.1.size
    clear hl1
    rcases Nat.eq_zero_or_pos j with rfl | hpos
    · go_wp2
      go_end0
      exact ⟨rfl, R1, hp1, h1, k1⟩
    · obtain ⟨j, rfl⟩ : ∃ i, j = i + 1 := ⟨j - 1, by omega⟩
      have hj1 : (((j + 1 : Nat) : Int) - 1) = (j : Int) := by omega
      go_wp2_with fail
      refine (chdown_calls h1 ho1 (i := j) (n := R.length) (by rw [HL.out]; omega) (by rw [HL.out]; omega) (by rw [HL.out]; omega) hbr).mono ?_
      rintro e w3 ⟨⟨t, rfl⟩, hr⟩
      have hr2 := Lib.hid (CPermRel.trans hp1 k1 hr)
      clear hr h1 k1 ho1
      go_wp2
      go_roundw
      case rel => exact ⟨j, by omega, rfl, hr2.out⟩
      case measure => simp [intOf] <;> omega

/-- One is taken out. -/
def CTakePost (b : Nat) (w : World) (p g : Nat) (R : List Cls) (q : Nat) (f : Value → Value) (e : Ending) (w' : World) : Prop :=
  ∃ (r : Cls) (R' : List Cls), e = .returned (f (.agg #[.bool r.s, .slice r.A r.n r.c, .bool r.t, .slice r.B r.m r.d])) ∧ (r :: R').Perm R ∧ CPile b w' p g R' (q + 1) ∧ Hc b w w'
set_option maxRecDepth 100000 in
set_option maxHeartbeats 400000 in
theorem chpop_calls {b p g q : Nat} {R : List Cls} {w : World} (h : CPile b w p g R q) (ho : ClsOk w R) (hR : R.length ≤ 1000) (hb : b ≤ w.heap.size) (hpos : 0 < R.length) :
    Calls Tryz.prog 62 #[.iface 43 (.pointer (some ⟨p, 0, none⟩))] w (CTakePost b w p g R q (.iface 40)) := by
  have ml := meth_len p
  have ms := meth_swap p
  have mp := meth_pop p
  obtain ⟨m, hm⟩ : ∃ m : Nat, (R.length : Int) - 1 = (m : Int) := ⟨R.length - 1, by omega⟩
  have hm2 : m < R.length := by omega
  go_enter Tryz.func62, Tryz.ntmps62
  go_wp2_with fail
  refine (clen_calls h).mono ?_
  rintro e w1 ⟨rfl, rfl⟩
  go_wp2_with fail
  refine (cswap_calls h (i := 0) (k := m) (by omega) (by omega) (by omega) hb).mono ?_
  rintro e w2 ⟨rfl, h2, k2⟩
  have hp2 := cswp_perm R 0 m hpos hm2
  have hl2 : (cswp R 0 m hpos hm2).length = R.length := hp2.length_eq
  generalize cswp R 0 m hpos hm2 = R2 at *
  have ho2 := (ho.perm hp2).hc k2
  have HL := Lib.hid hl2
  clear hl2
  go_wp2_with fail
  refine (chdown_calls h2 ho2 (i := 0) (n := m) (by omega) (by rw [HL.out]; omega) (by rw [HL.out]; omega) (Nat.le_trans hb k2.1.size)).mono ?_
  rintro e w3 ⟨⟨t, rfl⟩, R3, hp3, h3, k3⟩
  have hl3 : R3.length = R.length := hp3.length_eq.trans HL.out
  have hne : R3 ≠ [] := fun e => by rw [e] at hl3; simp at hl3; omega
  have hsp := (List.dropLast_concat_getLast hne).symm
  have hd : R3.dropLast.length = m := by simp; omega
  generalize R3.getLast hne = r at hsp
  generalize R3.dropLast = R4 at hsp hd
  subst hsp
  have HD := Lib.hid hd
  clear hd hl3 hne
  go_wp2_with fail
  refine (cpop_calls h3 (by rw [HD.out]; omega) (Nat.le_trans hb (Nat.le_trans k2.1.size k3.1.size))).mono ?_
  rintro e w4 ⟨rfl, h4, k4⟩
  have P : Hid (CTakePost b w p g R q (.iface 40) (.returned (.iface 40 (.agg #[.bool r.s, .slice r.A r.n r.c, .bool r.t, .slice r.B r.m r.d]))) w4) :=
    ⟨r, R4, rfl, (List.perm_append_singleton r R4).symm.trans (hp3.trans hp2), h4, k2.trans (k3.trans k4)⟩
  clear h4 k4
  go_wp2
  go_ret
  exact P.out

set_option maxRecDepth 100000 in
set_option maxHeartbeats 400000 in
theorem chpush_calls {b p g q : Nat} {R : List Cls} {r : Cls} {w : World} (h : CPile b w p g R (q + 1)) (ho : ClsOk w (R ++ [r])) (hR : R.length < 1000) (hb : b ≤ w.heap.size) :
    Calls Tryz.prog 64 #[.iface 43 (.pointer (some ⟨p, 0, none⟩)), .iface 40 (.agg #[.bool r.s, .slice r.A r.n r.c, .bool r.t, .slice r.B r.m r.d])] w (CPermPost0 b w p g (R ++ [r]) q) := by
  have ml := meth_len p
  have mp := meth_push p
  have hl : ((R ++ [r]).length : Int) - 1 = (R.length : Int) := by simp
  have hl2 : (R ++ [r]).length = R.length + 1 := by simp
  have HL := Lib.hid hl2
  clear hl2
  go_enter Tryz.func64, Tryz.ntmps64
  go_wp2_with fail
  refine (cpush_calls h (by omega) hb).mono ?_
  rintro e w2 ⟨rfl, h2, k2⟩
  go_wp2_with fail
  refine (clen_calls h2).mono ?_
  rintro e w3 ⟨rfl, rfl⟩
  rw [HL.out]
  have ho2 := ho.hc k2
  go_wp2_with fail
  refine (chup_calls h2 ho2 (i := R.length) (by rw [HL.out]; omega) (by rw [HL.out]; omega) (Nat.le_trans hb k2.1.size)).mono ?_
  rintro e w4 ⟨rfl, hr⟩
  have hr2 := Lib.hid (CPermRel.trans (List.Perm.refl _) k2 hr)
  clear hr
  go_wp2
  go_end0
  exact ⟨rfl, hr2.out⟩

theorem CPile.lt {b p g q : Nat} {R : List Cls} {w : World} (h : CPile b w p g R q) : p < w.heap.size ∧ g < w.heap.size ∧ b ≤ p ∧ b ≤ g := by
  obtain ⟨cap, S, h, hS⟩ := h
  exact ⟨(Array.getElem?_eq_some_iff.1 h.1).1, (Array.getElem?_eq_some_iff.1 h.2.2.2.1).1, h.2.1, h.2.2.1⟩
theorem clput_other {w : World} {g k : Nat} {A B : Option Addr} {n c m d : Nat} {s t : Bool} (hk : k ≠ g) : (clput w g s A n c t B m d).heap[k]? = w.heap[k]? := by
  unfold clput
  rw [Below.heap_setCell _ _ _ k hk, Below.heap_setCell _ _ _ k hk, Below.heap_setCell _ _ _ k hk, Below.heap_setCell _ _ _ k hk]
theorem CPile.clput {b p g q rb : Nat} {R : List Cls} {w : World} {A B : Option Addr} {n c m d : Nat} {s t : Bool} (h : CPile b w p g R q) (h1 : p ≠ rb) (h2 : g ≠ rb) : CPile b (clput w rb s A n c t B m d) p g R q := by
  obtain ⟨cap, S, h, hS⟩ := h
  exact ⟨cap, S, ⟨(clput_other h1).trans h.1, h.2.1, h.2.2.1, (clput_other h2).trans h.2.2.2.1, h.2.2.2.2⟩, hS⟩
theorem now4 (s t : Bool) (A B : Option Addr) (n c m d : Nat) : NoW #[.bool s, .slice A n c, .bool t, .slice B m d] := fun i v hv m' e => by
  subst e
  match i with
  | 0 => simp at hv
  | 1 => simp at hv
  | 2 => simp at hv
  | 3 => simp at hv
  | i + 4 => simp at hv
theorem Blk4.new (w : World) (s t : Bool) (A B : Option Addr) (n c m d : Nat) : Blk4 (w.alloc (.cells #[.bool s, .slice A n c, .bool t, .slice B m d] 40)) w.heap.size :=
  ⟨_, rfl, now4 s t A B n c m d, heap_alloc_new w _⟩
theorem Cv.blk4 {w : World} {A A' B' : Option Addr} {n c n' c' m' d' g v : Nat} {s' t' : Bool} (h : Cv w A n c v) (hB : Blk4 w g) : Cv (clput w g s' A' n' c' t' B' m' d') A n c v := by
  obtain ⟨v0, v1, v2, v3, a0, a1, a2, a3, e0, e1, e2, e3⟩ := hB.cells
  refine (((h.other a0 e0).other (u := v1) ?_ e1).other (u := v2) ?_ e2).other (u := v3) ?_ e3
  · rw [World.cell?_setCell_other (h := by simp)]; exact a1
  · rw [World.cell?_setCell_other (h := by simp), World.cell?_setCell_other (h := by simp)]; exact a2
  · rw [World.cell?_setCell_other (h := by simp), World.cell?_setCell_other (h := by simp), World.cell?_setCell_other (h := by simp)]; exact a3
theorem zc_blk4 {w : World} {A A' B' : Option Addr} {n c n' c' m' d' g : Nat} {s s' t' : Bool} {z : Int} (h : Zc w s A n c z) (hB : Blk4 w g) : Zc (clput w g s' A' n' c' t' B' m' d') s A n c z := ⟨h.1.blk4 hB, h.2⟩
theorem Hc.clput {b g : Nat} {w : World} {A B : Option Addr} {n c m d : Nat} {s t : Bool} (hB : Blk4 w g) (hg : b ≤ g) : Hc b w (clput w g s A n c t B m d) :=
  ⟨below_clput (Below.refl _ _) hg, fun A' n' c' v h => h.blk4 hB, (((Shp.setCell w g 0 _ (fun m e => by cases e)).trans (Shp.setCell _ g 1 _ (fun m e => by cases e))).trans (Shp.setCell _ g 2 _ (fun m e => by cases e))).trans (Shp.setCell _ g 3 _ (fun m e => by cases e))⟩
theorem ctake_end {b p g q : Nat} {R R' : List Cls} {r : Cls} {w w1 w2 : World} (z0 : Below w.heap.size w w1) (h : CPile b w p g R q) (hb : b ≤ w.heap.size) (hp : (r :: R').Perm R) (h2 : CPile b w2 p g R' (q + 1)) (k : Hc b w1 w2) (hB : Blk4 w2 w.heap.size) :
    CTakePost b w p g R q id (.returned (.agg #[.bool r.s, .slice r.A r.n r.c, .bool r.t, .slice r.B r.m r.d])) (clput w2 w.heap.size r.s r.A r.n r.c r.t r.B r.m r.d) := by
  obtain ⟨l1, l2, _⟩ := h.lt
  exact ⟨r, R', rfl, hp, h2.clput (by omega) (by omega), ((Hc.of_below z0 hb).trans k).trans (Hc.clput hB hb)⟩
set_option maxRecDepth 100000 in
set_option maxHeartbeats 4000000 in
theorem ctake_calls {b p g q : Nat} {R : List Cls} {w : World} (h : CPile b w p g R q) (ho : ClsOk w R) (hR : R.length ≤ 1000) (hb : b ≤ w.heap.size) (hpos : 0 < R.length) :
    Calls Tryz.prog 32 #[.pointer (some ⟨p, 0, none⟩)] w (CTakePost b w p g R q id) := by
  have hta := assert_class
  obtain ⟨w1, hw1⟩ : ∃ w1, w1 = w.alloc (.cells #[.bool false, .slice none 0 0, .bool false, .slice none 0 0] 40) := ⟨_, rfl⟩
  have z0 : Below w.heap.size w w1 := by rw [hw1]; exact zba _ _
  have B0 : Blk4 w1 w.heap.size := by rw [hw1]; exact Blk4.new _ _ _ _ _ _ _ _ _
  have HW := Lib.hid hw1.symm
  clear hw1
  go_enter Tryz.func32, Tryz.ntmps32
  go_wp2_with fail
  rw [HW.out]
  refine (chpop_calls (h.below z0) (ho.below z0) hR (Nat.le_trans hb z0.size) hpos).mono ?_
  rintro e w2 ⟨r, R', rfl, h1, h2, h3⟩
  have Q := B0.shp h3.2.2
  obtain ⟨v0, v1, v2, v3, c0, c1, c2, c3, _⟩ := Q.cells
  have f0 := Q.free 0
  have f1 := Q.free 1
  have f2 := Q.free 2
  have f3 := Q.free 3
  have P := Lib.hid (ctake_end z0 h hb h1 h2 h3 Q)
  unfold clput at P
  clear h2 h3 Q B0
  go_wp2_with fail
  exact bodyPost_ret (v := .agg #[.bool r.s, .slice r.A r.n r.c, .bool r.t, .slice r.B r.m r.d]) (by simp [results, Tryz.results32, go_sem, c0, c1, c2, c3]) rfl P.out
set_option maxRecDepth 100000 in
theorem cput_calls {b p g q : Nat} {R : List Cls} {r : Cls} {w : World} (h : CPile b w p g R (q + 1)) (ho : ClsOk w (R ++ [r])) (hR : R.length < 1000) (hb : b ≤ w.heap.size) :
    Calls Tryz.prog 34 #[.pointer (some ⟨p, 0, none⟩), .agg #[.bool r.s, .slice r.A r.n r.c, .bool r.t, .slice r.B r.m r.d]] w (CPermPost0 b w p g (R ++ [r]) q) := by
  have z0 := zba w (.cells #[.bool r.s, .slice r.A r.n r.c, .bool r.t, .slice r.B r.m r.d] 40)
  go_enter Tryz.func34, Tryz.ntmps34
  go_wp2_with fail
  refine (chpush_calls (h.below z0) (ho.below z0) hR (Nat.le_trans hb z0.size)).mono ?_
  rintro e w1 ⟨rfl, h1⟩
  have h2 := Lib.hid (CPermRel.trans (List.Perm.refl _) (Hc.of_below z0 hb) h1)
  clear h1
  go_wp2
  go_end0
  exact ⟨rfl, h2.out⟩
end Go.Proofs.YtbcopicoldnahaaGreat
