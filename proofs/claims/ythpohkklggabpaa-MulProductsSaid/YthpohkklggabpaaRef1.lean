/-
  The reference of layer 1: a row of digits that a call owns, one append more; Trim, at.
-/
import Derived.Test.YthpohkklggabpaaNat8
namespace Go.Proofs.Ythpohkklggabpaa
open Go.RowKit

/-- v is a row of the call's own (made since w0) that reads as zs; what was there is as it was. -/
def OwnV (w0 w : World) (t : TypeId) (K : IntKind) (v : Value) (zs : List Nat) : Prop :=
  w.ownsRow w0.heap.size t 1 v zs.length (vs K zs) ∧ Below w0.heap.size w0 w
theorem OwnV.nil (w : World) (t : TypeId) (K : IntKind) : OwnV w w t K (.slice none 0 0) [] := ⟨World.ownsRow_nil w _ _ _, Below.refl _ _⟩
theorem OwnV.form {w0 w : World} {t : TypeId} {K : IntKind} {v : Value} {zs : List Nat} (h : OwnV w0 w t K v zs) : ∃ A c, v = .slice A zs.length c ∧ Got w0 w t K A c zs := by
  obtain ⟨h1, h2⟩ := h
  rcases h1.2 with ⟨rfl, h0⟩ | ⟨g, cap, cur, rfl, _⟩
  · refine ⟨none, 0, by rw [h0], ?_, h2⟩
    rw [h0]; rw [h0] at h1; exact h1
  · exact ⟨_, _, rfl, h1, h2⟩
theorem OwnV.below {w0 w w' : World} {t : TypeId} {K : IntKind} {v : Value} {zs : List Nat} (h : OwnV w0 w t K v zs) (hb : Below w.heap.size w w') : OwnV w0 w' t K v zs := by
  obtain ⟨h1, h2⟩ := h
  refine ⟨?_, h2.trans (hb.mono h2.size)⟩
  exact h1.kept (row := none) ⟨hb.os, hb.tape, hb.output, hb.size, fun k hk _ => hb.block k hk⟩ (by cases hv : v.ownBlock <;> simp)
theorem OwnV.drewN {w0 w : World} {t : TypeId} {K : IntKind} {v : Value} {zs : List Nat} (h : OwnV w0 w t K v zs) (q : Nat) : OwnV w0 (w.drewN q) t K v zs := h.below (Sees.below ⟨q, rfl⟩ _)

/-- One append of one number, to a row of the call's own. -/
theorem wpList_app1 {P : Program} (w0 wr : World) {ops : Array Oper} {rest : List Oper} {o : Oper} {a : Act} {Q : Exit → Act → World → Prop} (hgd : o.guard = none) (s x : Operand) (t : TypeId)
    (ho : o.op = .call { callee := .builtin .append, args := #[s, x], argTypes := #[t, t] })
    (e : TypeId) (K : IntKind) (ht : P.underlying t = some (.slice e)) (hinfo : (P.info? e).map (fun i => (i.zero, i.size, i.bytes)) = some (some (.int K 0), 1, 8))
    (v : Value) (zs : List Nat) (hs : a.eval s = v) (hown : OwnV w0 wr e K v zs) (y : Int) (d : Nat) (hy : y = (d : Int))
    (hx : a.eval x = .slice (some ⟨wr.heap.size, 0, none⟩) 1 1) (hlen : zs.length ≤ 4398046511104)
    (h : ∀ v' w', OwnV w0 w' e K v' (zs ++ [d]) → wpList P ops Q rest (a.put o.dst v') w') :
    wpList P ops Q (o :: rest) a (wr.alloc (.cells #[.int K y] e)) := by
  subst hy
  obtain ⟨i, hi, hz0, hz1, hz2⟩ := info_parts hinfo
  obtain ⟨h1, h2⟩ := hown
  have hb := h2.size
  refine wpList_append_own (P := P) _ hgd s x t ho w0.heap.size e i (.int K 0) 1 8 ht hi hz0 hz1 hz2 rfl (by omega) v zs.length (vs K zs) hs (h1.alloc _) ⟨wr.heap.size, 0, none⟩ 1 1 [.int K (d : Int)] hx rfl ?_ ?_ (by unfold maxLen; omega) (by omega) (by simp; omega) ?_
  · intro j u hu
    match j, hu with
    | 0, hu =>
      simp at hu
      subst hu
      simp [Addr.add]
  · intro u hu
    simp at hu
    subst hu
    rfl
  · intro v' w' o1 o2 _
    refine h v' w' ⟨?_, (h2.alloc hb _).grown o2 (by simp; omega) (fun k hk => (h1.lt k hk).1)⟩
    rw [vs_append, List.length_append]
    exact o1

theorem info_i64 : (Try.prog.info? 3).map (fun i => (i.zero, i.size, i.bytes)) = some (some (.int .i64 0), 1, 8) := by kernel_rfl

set_option maxHeartbeats 400000 in
theorem rtrim_calls (A : Option Addr) (n c : Nat) (xs : List Nat) (w : World) (hr : Rd w .i64 A xs) (hn : xs.length = n) (hc : n ≤ c) (hm : c ≤ 9223372036854775807) :
    Calls Try.prog 24 #[.slice A n c] w fun e w' => e = .returned (.slice A (sl xs) c) ∧ w = w' := by
  subst hn
  go_enter Try.func24, Try.ntmps24
  go_wp2
  go_loop [3] (fun n => ∃ k : Nat, k ≤ xs.length ∧ Zs xs k ∧ n = .int .i64 k) (fun n => (intOf n).toNat)
  case atStart => exact ⟨xs.length, Nat.le_refl _, fun j hj => nth_ge hj, rfl⟩
  case round =>
    obtain ⟨k, hk, hz, rfl⟩ := hrel
    by_cases h0 : k = 0
    · subst h0
      have e : sl xs = 0 := sl_eq hz (.inl rfl)
      have E := Lib.hid e
      clear e
      go_wp2
      go_ret
      exact ⟨by rw [E.out]; rfl, rfl⟩
    · obtain ⟨m, rfl⟩ : ∃ m, k = m + 1 := ⟨k - 1, by omega⟩
      obtain ⟨ad, rfl, _, hcell⟩ := hr.at (k := m) (by omega)
      by_cases hx : nth xs m = 0
      · rw [hx] at hcell
        have hz' : Zs xs m := fun j hj => by
          rcases Nat.eq_or_lt_of_le hj with rfl | h
          · exact hx
          · exact hz j h
        have H := Lib.hid hx
        clear hx h0
        go_wp2
        go_round
        case rel => exact ⟨m, by omega, hz', by go_num⟩
        case measure => simp [intOf]
      · have e : sl xs = m + 1 := sl_eq hz (.inr hx)
        have E := Lib.hid e
        have hb : (((nth xs m : Nat) : Int) == 0) = false := by rw [beq_eq_false_iff_ne]; omega
        clear e h0 hx
        go_wp2
        go_ret
        exact ⟨by rw [E.out]; rfl, rfl⟩

theorem at_calls (A : Option Addr) (n c k : Nat) (xs : List Nat) (w : World) (hr : Rd w .i64 A xs) (hn : xs.length = n) :
    Calls Try.prog 45 #[.slice A n c, .int .i64 k] w fun e w' => e = .returned (.int .i64 (nth xs k)) ∧ w = w' := by
  by_cases h : k < n
  · obtain ⟨ad, rfl, _, hcell⟩ := hr.at (k := k) (by omega)
    have HN := Lib.hid hn
    clear hn
    go_enter Try.func45, Try.ntmps45
    go_wp2
    go_ret
    exact ⟨rfl, rfl⟩
  · have e : nth xs k = 0 := nth_ge (by omega)
    have E := Lib.hid e
    clear e hn
    go_enter Try.func45, Try.ntmps45
    go_wp2
    go_ret
    exact ⟨by rw [E.out]; rfl, rfl⟩

/-- What a function of the reference answers: the digits of v. -/
def DgPost (v : Nat) (w : World) (e : Ending) (w' : World) : Prop :=
  ∃ A c, e = .returned (.slice A (cn 65536 v).length c) ∧ Got w w' 3 .i64 A c (cn 65536 v)
theorem rtrim_end {w w' : World} {v : Value} {zs : List Nat} {x : Nat} (h : OwnV w w' 3 .i64 v zs) (hl : Low 65536 zs) (hx : ev 65536 zs = x) :
    Calls Try.prog 24 #[v] w' fun e w'' => DgPost x w e w'' ∧ w' = w'' := by
  obtain ⟨A, c, rfl, hg⟩ := h.form
  have hc := hg.cap
  refine (rtrim_calls A _ c zs w' hg.rd rfl hc.1 (by have := hc.2; unfold maxLen at this; omega)).mono ?_
  rintro e w'' ⟨rfl, rfl⟩
  subst hx
  refine ⟨⟨A, c, by rw [sl_len 65536 (by omega) hl], ?_, hg.2⟩, rfl⟩
  have e := cn_ev 65536 (by omega) zs hl
  rw [e, vs_take]
  have el : (zs.take (sl zs)).length = sl zs := by simp [Nat.min_eq_left (sl_le zs)]
  rw [el]
  refine own_take hg.1 (sl_le zs) ?_
  rcases hg.1.2 with ⟨h1, _⟩ | ⟨g, cap, cur, hv, _⟩
  · injection h1 with _ _ h3; exact .inr h3
  · injection hv with h1; exact .inl (by rw [h1]; simp)
end Go.Proofs.Ythpohkklggabpaa
