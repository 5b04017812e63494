/-
  The reference's Next: the polynomial behind one, by counting.
-/
import Derived.Test.YthigedcpiglmnaaDoorFpR
import Derived.Test.YthigedcpiglmnaaDoorFpF
/-! The reference's Next. -/
namespace Go.Proofs.YthigedcpiglmnaaDoor
open Go.RowKit
set_option linter.unusedVariables false
set_option linter.unusedSimpArgs false

theorem pre_ext9 {p : Nat} {a b : List Nat} : ∀ k, (∀ j, j < k → nth a j = nth b j) → pre p a k = pre p b k
  | 0, _ => by rw [pre_zero, pre_zero]
  | k + 1, h => by rw [pre_succ, pre_succ, pre_ext9 k (fun j hj => h j (by omega)), h k (by omega)]
theorem pre_zeros9 {p : Nat} {a : List Nat} : ∀ k, (∀ j, j < k → nth a j = 0) → pre p a k = 0
  | 0, _ => pre_zero _ _
  | k + 1, h => by rw [pre_succ, pre_zeros9 k (fun j hj => h j (by omega)), h k (by omega)]; simp
theorem pre_top9 {p : Nat} (hp : 1 ≤ p) {b : List Nat} : ∀ i, (∀ j, j < i → nth b j = p - 1) → pre p b i + 1 = p ^ i
  | 0, _ => by rw [pre_zero]; rfl
  | i + 1, h => by
    have := pre_top9 hp i (fun j hj => h j (by omega))
    rw [pre_succ, h i (by omega), Nat.pow_succ, Nat.mul_sub, Nat.mul_one]
    have h1 : p ^ i ≤ p ^ i * p := Nat.le_mul_of_pos_right _ hp
    omega
theorem pre_next9 {p : Nat} (hp : 1 ≤ p) {b L : List Nat} {i : Nat} (h0 : ∀ j, j < i → nth L j = 0) (h1 : ∀ j, j < i → nth b j = p - 1) (h2 : nth L i = nth b i + 1) (h3 : ∀ j, i < j → nth L j = nth b j) : ∀ k, i < k → pre p L k = pre p b k + 1
  | 0, h => by omega
  | k + 1, h => by
    rw [pre_succ, pre_succ]
    rcases Nat.lt_or_ge i k with h4 | h4
    · rw [pre_next9 hp h0 h1 h2 h3 k h4, h3 k h4]; omega
    · obtain rfl : k = i := by omega
      have := pre_top9 hp k h1
      rw [pre_zeros9 k h0, h2, Nat.mul_add]; omega
def NxR (p k : Nat) (b b' : List Nat) (t : Bool) : Prop := (t = true → b'.length = k + 1 ∧ Low p b' ∧ nth b' k = 1 ∧ pre p b' k = pre p b k + 1) ∧ (t = false → pre p b k + 1 = p ^ k)
def NxMid (p i : Nat) (b L : List Nat) : Prop := (∀ j, j < i → nth L j = 0 ∧ nth b j = p - 1) ∧ ∀ j, i ≤ j → nth L j = nth b j
/-- What Next does. -/
def NxPost (p k : Nat) (b : List Nat) (w : World) (e : Ending) (w' : World) : Prop :=
  ∃ A n c t b', e = .returned (.tuple #[.slice A n c, .bool t]) ∧ (Lv w' A n c b' ∧ NxR p k b b' t) ∧ Below w.heap.size w w'
set_option maxRecDepth 100000 in
set_option maxHeartbeats 1000000 in
/-- The reference's Next. -/
theorem next_v {p c k : Nat} {A : Option Addr} {b : List Nat} {w : World} (h2 : 2 ≤ p) (h : p < 2147483648) (hx : Lv w A (k + 1) c b) (hk : k ≤ 1000) (hl : Low p b) (ht : nth b k = 1) :
    Calls Tryd.prog 37 #[.slice A (k + 1) c, .int .u64 (p : Int)] w (NxPost p k b w) := by
  have HN := Lib.hid hx.len
  have hrd := hx.rd
  have HL := Lib.hid hl
  have HT := Lib.hid ht
  have hcap := hx.cap
  have hle := hx.le
  clear hx hl ht
  go_enter Tryd.func37, Tryd.ntmps37
  go_wp2_with (at_builtin; refine wpList_appm w w rfl _ _ _ rfl 26 .u64 Tryd.underlying22 info_u64 _ [] (by rfl) (OwnV.nil _ _ _) A (k + 1) c b hrd HN.out (by rfl) (by simp; omega) ?_)
  intro v1 w1 ho1
  obtain ⟨A1, c1, rfl, hg⟩ := ho1.form
  have hc1 := hg.cap
  have hB1 := ho1.2
  rcases Wr.own ho1.1 with ⟨_, e0⟩ | ⟨g, rfl, hgw, hwr⟩
  · have := HN.out; rw [e0] at this; simp at this
  rw [HN.out] at hc1 ⊢
  have hc2 : c1 ≤ 9223372036854775807 := by have := hc1.2; unfold maxLen at this; omega
  have hc3 := hc1.1
  have HB : Hid (Wr w1 g b ∧ b.length = k + 1 ∧ NxMid p 0 b b ∧ Below w.heap.size w w1) := Lib.hid ⟨hwr, HN.out, ⟨fun j hj => by omega, fun j _ => rfl⟩, hB1⟩
  clear ho1 hg hc1 hB1 hwr hrd hcap
  go_wp2_with fail
  go_loopw [7] (fun s7 wr => ∃ (i : Nat) (L : List Nat), s7 = .int .i64 (i : Int) ∧ i ≤ k ∧ Hid (Wr wr g L ∧ L.length = k + 1 ∧ NxMid p i b L ∧ Below w.heap.size w wr)) (fun s7 _ => k - (intOf s7).toNat)
  case atStart => exact ⟨0, b, rfl, Nat.zero_le _, HB⟩
  case round =>
    clear HB
    obtain ⟨i, L, rfl, hi, HB⟩ := hrel
    obtain ⟨hw, hlen, ⟨h0, h1⟩, hW⟩ := HB.out
    have H0 := Lib.hid h0
    have H1 := Lib.hid h1
    clear HB h0 h1
    rcases Nat.lt_or_ge i k with hik | hik
    · obtain ⟨X, hX⟩ : ∃ X, nth L i = X := ⟨_, rfl⟩
      have hc0 := hw.cell (j := i) (by omega)
      have hf0 := hw.free i
      have hglt := hw.lt
      rw [hX] at hc0
      have hXb : nth b i = X := by rw [← H1.out i (Nat.le_refl _)]; exact hX
      have lX : X < p := by rw [← hXb]; exact HL.out.any (by omega) i
      have hw1 : IntKind.u64.wrap ((X : Int) + 1) = (X : Int) + 1 := by rw [IntKind.wrap_u64]; omega
      have hX1 : ((X + 1 : Nat) : Int) = (X : Int) + 1 := by omega
      have hiw : IntKind.i64.wrap ((i : Int) + 1) = ((i + 1 : Nat) : Int) := by rw [IntKind.wrap_i64]; omega
      have hil : (i : Int) + 1 < (k : Int) + 1 := by omega
      have HXb := Lib.hid hXb
      have HX := Lib.hid hX
      clear hX hXb
      by_cases hXp : X + 1 < p
      · have hXi : (X : Int) + 1 < (p : Int) := by omega
        have hs := hw.set i (X + 1)
        rw [hX1] at hs
        have hn1 : ∀ j, nth (L.set i (X + 1)) j = if j = i then X + 1 else nth L j := fun j => by
          split
          · rename_i e; subst e; exact nth_set_eq (by omega)
          · rename_i e; exact nth_set_ne (fun e2 => e e2.symm)
        have hlv : Lv (wr.setCell ⟨g, i, none⟩ (.int .u64 ((X : Int) + 1))) (some ⟨g, 0, none⟩) (k + 1) c1 (L.set i (X + 1)) := by
          have := Lv.wr hs (c := c1) (by rw [List.length_set]; omega) hc2 (Low.of_any fun j => by
            rw [hn1]; split
            · omega
            · rcases Nat.lt_or_ge j i with h5 | h5
              · rw [(H0.out j h5).1]; omega
              · rw [H1.out j h5]; have := HL.out.any (by omega) j; omega)
          rwa [List.length_set, hlen] at this
        have HQ : Hid (Lv (wr.setCell ⟨g, i, none⟩ (.int .u64 ((X : Int) + 1))) (some ⟨g, 0, none⟩) (k + 1) c1 (L.set i (X + 1)) ∧ NxR p k b (L.set i (X + 1)) true) := by
          refine Lib.hid ⟨hlv, fun _ => ⟨by rw [List.length_set]; exact hlen, Low.of_any fun j => ?_, ?_, ?_⟩, (fun e => nomatch e)⟩
          · rw [hn1]; split
            · exact hXp
            · rcases Nat.lt_or_ge j i with h5 | h5
              · rw [(H0.out j h5).1]; omega
              · rw [H1.out j h5]; exact HL.out.any (by omega) j
          · rw [hn1, if_neg (by omega), H1.out k (by omega)]; exact HT.out
          · refine pre_next9 (by omega) (fun j hj => ?_) (fun j hj => (H0.out j hj).2) ?_ (fun j hj => ?_) k hik
            · rw [hn1, if_neg (by omega)]; exact (H0.out j hj).1
            · rw [hn1, if_pos rfl, HXb.out]
            · rw [hn1, if_neg (by omega)]; exact H1.out j (by omega)
        have hWn : Below w.heap.size w (wr.setCell ⟨g, i, none⟩ (.int .u64 ((X : Int) + 1))) := hW.setCell (p := ⟨g, i, none⟩) hgw _
        clear hs hn1 hlv hw
        go_wp2_with fail
        exact bodyPost_ret (v := .tuple #[.slice (some ⟨g, 0, none⟩) (k + 1) c1, .bool true]) (by simp [results, Tryd.results37, go_sem]) rfl ⟨_, _, _, _, _, rfl, HQ.out, hWn⟩
      · have hXi : ¬ (X : Int) + 1 < (p : Int) := by omega
        have hs := hw.set i 0
        have hn1 : ∀ j, nth (L.set i 0) j = if j = i then 0 else nth L j := fun j => by
          split
          · rename_i e; subst e; exact nth_set_eq (by omega)
          · rename_i e; exact nth_set_ne (fun e2 => e e2.symm)
        have HN2 : Hid (Wr (wr.setCell ⟨g, i, none⟩ (.int .u64 0)) g (L.set i 0) ∧ (L.set i 0).length = k + 1 ∧ NxMid p (i + 1) b (L.set i 0) ∧ Below w.heap.size w (wr.setCell ⟨g, i, none⟩ (.int .u64 0))) := by
          refine Lib.hid ⟨hs, by rw [List.length_set]; exact hlen, ⟨fun j hj => ?_, fun j hj => ?_⟩, hW.setCell (p := ⟨g, i, none⟩) hgw _⟩
          · by_cases e : j = i
            · subst e; exact ⟨by rw [hn1, if_pos rfl], by rw [HXb.out]; omega⟩
            · rw [hn1, if_neg e]; exact H0.out j (by omega)
          · rw [hn1, if_neg (by omega)]; exact H1.out j (by omega)
        clear hs hn1 hw hW
        go_wp2_with fail
        go_roundw
        case rel => exact ⟨i + 1, _, by go_num, by omega, HN2.out⟩
        case measure => simp [intOf]; omega
    · obtain rfl : i = k := by omega
      have hil : ¬ ((i : Int) + 1 < (i : Int) + 1) := by omega
      have hiw : IntKind.i64.wrap ((i : Int) + 1) = ((i + 1 : Nat) : Int) := by rw [IntKind.wrap_i64]; omega
      have hlv : Lv wr (some ⟨g, 0, none⟩) (i + 1) c1 L := by
        have := Lv.wr hw (c := c1) (by omega) hc2 (Low.of_any fun j => by
          rcases Nat.lt_or_ge j i with h5 | h5
          · rw [(H0.out j h5).1]; omega
          · rw [H1.out j h5]; have := HL.out.any (by omega) j; omega)
        rwa [hlen] at this
      have HE := Lib.hid (pre_top9 (show 1 ≤ p by omega) i (fun j hj => (H0.out j hj).2))
      have HQ : Hid (Lv wr (some ⟨g, 0, none⟩) (i + 1) c1 L ∧ NxR p i b L false) := Lib.hid ⟨hlv, (fun e => nomatch e), fun _ => HE.out⟩
      clear hlv hw
      go_wp2_with fail
      exact bodyPost_ret (v := .tuple #[.slice (some ⟨g, 0, none⟩) (i + 1) c1, .bool false]) (by simp [results, Tryd.results37, go_sem]) rfl ⟨_, _, _, _, _, rfl, HQ.out, hW⟩
end Go.Proofs.YthigedcpiglmnaaDoor
