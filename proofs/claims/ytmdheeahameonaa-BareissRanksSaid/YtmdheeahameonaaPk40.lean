/-
  BarP BarQ
-/
import Derived.Test.YtmdheeahameonaaPk33
import Derived.Test.YtmdheeahameonaaPk37
import Derived.Deep.AppendLies

section
/-! Contracts of the reference: choices. -/
namespace Go.Proofs.Ytmdheeahameonaa
open Go.RowKit
set_option linter.unusedVariables false
set_option linter.unusedSimpArgs false

def ints' (ps : List Nat) : List Value := ps.map fun p : Nat => Value.int .i64 (p : Int)
/-- A list of ints, in a block of ints. -/
structure Iz (w : World) (A : Option Addr) (n c : Nat) (ps : List Nat) : Prop where
  len : ps.length = n
  le : n ≤ c
  cap : c ≤ 9223372036854775807
  at' : 0 < n → ∃ ad cs fr, A = some ad ∧ w.heap[ad.block]? = some (.cells cs 3 fr) ∧ ∀ j, j < n → w.cell? (ad.add j) = some (.int .i64 ((ps.getD j 0 : Nat) : Int))
theorem Iz.nil (w : World) : Iz w none 0 0 [] := ⟨rfl, Nat.le_refl _, by omega, fun h => by omega⟩
theorem Iz.lt {w : World} {A : Option Addr} {n c : Nat} {ps : List Nat} (h : Iz w A n c ps) (h0 : 0 < n) : ∃ ad, A = some ad ∧ ad.block < w.heap.size ∧ ∀ j, j < n → w.cell? (ad.add j) = some (.int .i64 ((ps.getD j 0 : Nat) : Int)) := by
  obtain ⟨ad, cs, fr, e, h1, h2⟩ := h.at' h0
  exact ⟨ad, e, (Array.getElem?_eq_some_iff.1 h1).1, h2⟩
theorem Iz.block {w w' : World} {A : Option Addr} {n c : Nat} {ps : List Nat} (h : Iz w A n c ps) (hb : ∀ (g : Nat) cs fr, w.heap[g]? = some (.cells cs 3 fr) → w'.heap[g]? = w.heap[g]?) : Iz w' A n c ps := ⟨h.len, h.le, h.cap, fun h0 => by
  obtain ⟨ad, cs, fr, e, h1, h2⟩ := h.at' h0
  have hk := hb _ _ _ h1
  exact ⟨ad, cs, fr, e, hk.trans h1, fun j hj => (World.cell?_of_block (by rw [add_block]; exact hk)).trans (h2 j hj)⟩⟩
theorem Iz.below {w w' : World} {A : Option Addr} {n c : Nat} {ps : List Nat} (h : Iz w A n c ps) (hb : Below w.heap.size w w') : Iz w' A n c ps := h.block fun g cs fr e => hb.block g (Array.getElem?_eq_some_iff.1 e).1
theorem row_type {w : World} {b s n g : Nat} {e : TypeId} {v : Value} {xs : List Value} (h : w.ownsRow b e s v n xs) (hg : v.ownBlock = some g) : ∃ cs, w.heap[g]? = some (.cells cs e (0, 0)) := by
  rcases h.2 with ⟨rfl, _⟩ | ⟨g', cap, cur, rfl, hb, hh, _⟩
  · cases hg
  · have e' : g' = g := by simpa [Value.ownBlock] using hg
    subst e'
    exact ⟨cur, hh⟩
/-- A row of another type has grown. -/
theorem Iz.grown {w w' : World} {A : Option Addr} {n c b s m : Nat} {ps : List Nat} {e : TypeId} {v : Value} {xs : List Value} (h : Iz w A n c ps) (ho : w.ownsRow b e s v m xs) (he : e ≠ 3) (hg : w.grownBy w' v.ownBlock) : Iz w' A n c ps := h.block fun g cs fr e1 => hg.block g (Array.getElem?_eq_some_iff.1 e1).1 fun e2 => by
  obtain ⟨cs', e3⟩ := row_type ho e2.symm
  rw [e1] at e3
  injection e3 with e3
  injection e3 with _ e4
  exact he e4.symm
theorem own_iz {w : World} {b n : Nat} {v : Value} {ps : List Nat} (h : w.ownsRow b 3 1 v n (ints' ps)) : ∃ A c, v = .slice A n c ∧ Iz w A n c ps := by
  have hl : ps.length = n := by have := h.1; simpa [ints'] using this
  rcases h.2 with ⟨rfl, rfl⟩ | ⟨g, cap, cur, rfl, hb, hh, hn, hm, hcs, ht⟩
  · exact ⟨none, 0, rfl, hl, Nat.le_refl _, by omega, fun h => by omega⟩
  · refine ⟨_, cap, rfl, hl, hn, by unfold maxLen at hm; omega, fun h0 => ⟨_, _, _, rfl, hh, fun j hj => ?_⟩⟩
    exact h.cells (g := g) rfl j _ (by simp [ints', List.getD, hl, hj])
theorem own_below {w w' : World} {b s n : Nat} {e : TypeId} {v : Value} {xs : List Value} (h : w.ownsRow b e s v n xs) (hb : Below w.heap.size w w') : w'.ownsRow b e s v n xs := h.kept (row := none) ⟨hb.os, hb.tape, hb.output, hb.size, fun k hk _ => hb.block k hk⟩ (by cases hv : v.ownBlock <;> simp)
theorem own_base {w : World} {b b' s n : Nat} {e : TypeId} {v : Value} {xs : List Value} (h : w.ownsRow b e s v n xs) (hb : b' ≤ b) : w.ownsRow b' e s v n xs := by
  refine ⟨h.1, ?_⟩
  rcases h.2 with h1 | ⟨g, cap, cur, h1, h2, h3⟩
  · exact .inl h1
  · exact .inr ⟨g, cap, cur, h1, Nat.le_trans hb h2, h3⟩
theorem info_int2 : (Try.prog.info? 3).map (fun i => (i.zero, i.size, i.bytes)) = some (some (.int .i64 0), 1, 8) := by kernel_rfl
theorem info_is : (Try.prog.info? 40).map (fun i => (i.zero, i.size, i.bytes)) = some (some (.slice none 0 0), 1, 24) := by kernel_rfl
/-- append of a list of ints. -/
theorem wpList_appIz {w : World} {ops : Array Oper} {rest : List Oper} {o : Oper} {a : Act} {Q : Exit → Act → World → Prop} (hgd : o.guard = none) (s x : Operand)
    (ho : o.op = .call { callee := .builtin .append, args := #[s, x], argTypes := #[40, 40] }) (base : Nat)
    (v : Value) (n : Nat) (ps : List Nat) (hs : a.eval s = v) (hown : w.ownsRow base 3 1 v n (ints' ps)) {A : Option Addr} {m c : Nat} {qs : List Nat} (hq : Iz w A m c qs)
    (hx : a.eval x = .slice A m c) (hlen : n + m ≤ 1099511627776) (hbase : base ≤ w.heap.size)
    (h : ∀ v' w', w'.ownsRow base 3 1 v' (n + m) (ints' (ps ++ qs)) → w.grownBy w' v.ownBlock → (v'.ownBlock = v.ownBlock ∨ v'.ownBlock = some w.heap.size) → wpList Try.prog ops Q rest (a.put o.dst v') w') : wpList Try.prog ops Q (o :: rest) a w := by
  obtain ⟨i, hi, hz0, hz1, hz2⟩ := info_parts info_int2
  rcases Nat.eq_zero_or_pos m with h0 | h0
  · subst h0
    obtain rfl : qs = [] := List.length_eq_zero_iff.1 hq.len
    rw [List.append_nil] at h
    cases A with
    | none =>
      have hr := run_append_nil (P := Try.prog) w (t := 40) (ty := o.type) Try.underlying40 hi hown c
      refine wpList_plain hgd fun K hK => ?_
      unfold Oper.wp execOp
      simp only [ho, resolve, invoke, builtin, Sem.run_bind, Sem.run_pure, Result.andThen_ok, List.map_toArray, List.map_cons, List.map_nil, hs, hx, hr]
      exact hK _ _ (h v w hown (World.grownBy.mk rfl rfl rfl (Nat.le_refl _) fun _ _ _ => rfl) (.inl rfl))
    | some ad =>
      obtain ⟨v', w', hr, h2, h3, -, h5⟩ := run_append_own_at (P := Try.prog) w base 40 o.type 3 i (.int .i64 0) 1 8 Try.underlying40 hi hz0 hz1 hz2 rfl (by omega) v n _ hown ad 0 c [] rfl (fun j u hu => by simp at hu) (fun u hu => by simp at hu) (by unfold maxLen; omega) (by omega) hbase
      refine wpList_plain hgd fun K hK => ?_
      unfold Oper.wp execOp
      simp only [ho, resolve, invoke, builtin, Sem.run_bind, Sem.run_pure, Result.andThen_ok, List.map_toArray, List.map_cons, List.map_nil, hs, hx, hr]
      rw [List.append_nil] at h2
      exact hK _ _ (h v' w' h2 h3 h5)
  · obtain ⟨ad, rfl, hlt, hc⟩ := hq.lt h0
    obtain ⟨v', w', hr, h2, h3, -, h5⟩ := run_append_own_at (P := Try.prog) w base 40 o.type 3 i (.int .i64 0) 1 8 Try.underlying40 hi hz0 hz1 hz2 rfl (by omega) v n _ hown ad m c (ints' qs) (by simp [ints', hq.len]) (fun j u hu => by
      have hj : j < qs.length := by
        rcases Nat.lt_or_ge j qs.length with h | h
        · exact h
        · rw [List.getElem?_eq_none (by simp [ints']; exact h)] at hu; cases hu
      have := hc j (by rw [← hq.len]; exact hj)
      simp [ints', hj] at hu
      subst hu
      simpa [List.getD, hj] using this) (fun u hu => by
      simp only [ints', List.mem_map] at hu
      obtain ⟨p, _, rfl⟩ := hu
      rfl) (by unfold maxLen; omega) (by omega) hbase
    refine wpList_plain hgd fun K hK => ?_
    unfold Oper.wp execOp
    simp only [ho, resolve, invoke, builtin, Sem.run_bind, Sem.run_pure, Result.andThen_ok, List.map_toArray, List.map_cons, List.map_nil, hs, hx, hr]
    rw [show ints' ps ++ ints' qs = ints' (ps ++ qs) by simp [ints']] at h2
    exact hK _ _ (h v' w' h2 h3 h5)
/-- append of one value of one cell, laid into a new block just now. -/
theorem wpList_appOne {wr : World} {ops : Array Oper} {rest : List Oper} {o : Oper} {a : Act} {Q : Exit → Act → World → Prop} (hgd : o.guard = none) (s x : Operand) (t e : TypeId) (zv : Value) (bytes : Nat)
    (ho : o.op = .call { callee := .builtin .append, args := #[s, x], argTypes := #[t, t] }) (ht : Try.prog.underlying t = some (.slice e)) (hinfo : (Try.prog.info? e).map (fun i => (i.zero, i.size, i.bytes)) = some (some zv, 1, bytes)) (hzs : zv.cells.size = 1) (hby : bytes ≤ 64) (base : Nat)
    (v : Value) (n : Nat) (xs : List Value) (hs : a.eval s = v) (hown : wr.ownsRow base e 1 v n xs) (u : Value) (h1 : u.oneCell' = true)
    (hx : a.eval x = .slice (some ⟨wr.heap.size, 0, none⟩) 1 1) (hlen : n ≤ 1048576) (hbase : base ≤ wr.heap.size)
    (h : ∀ v' w', w'.ownsRow base e 1 v' (n + 1) (xs ++ [u]) → (wr.alloc (.cells #[u] e)).grownBy w' v.ownBlock → (v'.ownBlock = v.ownBlock ∨ v'.ownBlock = some (wr.heap.size + 1)) → wpList Try.prog ops Q rest (a.put o.dst v') w') : wpList Try.prog ops Q (o :: rest) a (wr.alloc (.cells #[u] e)) := by
  obtain ⟨i, hi, hz0, hz1, hz2⟩ := info_parts hinfo
  have hone : Bx (wr.alloc (.cells #[u] e)) wr.heap.size e [u] := Bx.new wr e [u]
  obtain ⟨v', w', hr, h2, h3, -, h5⟩ := run_append_own_at (P := Try.prog) (wr.alloc (.cells #[u] e)) base t o.type e i zv 1 bytes ht hi hz0 hz1 hz2 hzs (by omega) v n xs (hown.alloc _) ⟨wr.heap.size, 0, none⟩ 1 1 [u] rfl (fun j y hy => by
    rw [add_lit0]
    match j, hy with
    | 0, hy => simp at hy; subst hy; exact hone.cell 0) (by simpa using h1) (by unfold maxLen; omega) (by have : (n + 1) * bytes ≤ (1048576 + 1) * 64 := Nat.mul_le_mul (by omega) hby; omega) (by simp; omega)
  refine wpList_plain hgd fun K hK => ?_
  unfold Oper.wp execOp
  simp only [ho, resolve, invoke, builtin, Sem.run_bind, Sem.run_pure, Result.andThen_ok, List.map_toArray, List.map_cons, List.map_nil, hs, hx, hr]
  exact hK _ _ (h v' w' h2 h3 (by simpa using h5))
/-! ### Lists of lists -/
def LLat (w : World) (vs : List Value) (ll : List (List Nat)) : Prop := vs.length = ll.length ∧ ∀ j, j < ll.length → ∃ A c, vs[j]? = some (.slice A (ll.getD j []).length c) ∧ Iz w A (ll.getD j []).length c (ll.getD j [])
theorem LLat.below {w w' : World} {vs : List Value} {ll : List (List Nat)} (h : LLat w vs ll) (hb : Below w.heap.size w w') : LLat w' vs ll := ⟨h.1, fun j hj => let ⟨A, c, h1, h2⟩ := h.2 j hj; ⟨A, c, h1, h2.below hb⟩⟩
theorem LLat.grown {w w' : World} {vs : List Value} {ll : List (List Nat)} {b s m : Nat} {e : TypeId} {v : Value} {xs : List Value} (h : LLat w vs ll) (ho : w.ownsRow b e s v m xs) (he : e ≠ 3) (hg : w.grownBy w' v.ownBlock) : LLat w' vs ll := ⟨h.1, fun j hj => let ⟨A, c, h1, h2⟩ := h.2 j hj; ⟨A, c, h1, h2.grown ho he hg⟩⟩
theorem LLat.app {w : World} {vs : List Value} {ll : List (List Nat)} {A : Option Addr} {n c : Nat} {ps : List Nat} (h : LLat w vs ll) (hz : Iz w A n c ps) : LLat w (vs ++ [.slice A n c]) (ll ++ [ps]) := by
  refine ⟨by simp [h.1], fun j hj => ?_⟩
  rw [List.length_append, List.length_singleton] at hj
  rcases Nat.lt_or_ge j ll.length with h1 | h1
  · obtain ⟨A', c', h2, h3⟩ := h.2 j h1
    have e : (ll ++ [ps]).getD j [] = ll.getD j [] := by simp [List.getD, List.getElem?_append_left h1]
    exact ⟨A', c', by rw [List.getElem?_append_left (by rw [h.1]; exact h1), e]; exact h2, by rw [e]; exact h3⟩
  · have e0 : j = ll.length := by omega
    subst e0
    have e : (ll ++ [ps]).getD ll.length [] = ps := by simp [List.getD]
    refine ⟨A, c, ?_, ?_⟩
    · rw [List.getElem?_append_right (by rw [h.1]; exact Nat.le_refl _), h.1, Nat.sub_self, e, hz.len]; rfl
    · rw [e, hz.len]; exact hz
/-- A list of lists of the call's own. -/
def IsLo (b : Nat) (ll : List (List Nat)) : FVal := fun v w => ∃ vs, w.ownsRow b 40 1 v ll.length vs ∧ LLat w vs ll
def kLo (b : Nat) (ll : List (List Nat)) : FK := .f (IsLo b ll) (fun v w w' ⟨vs, h1, h2⟩ hb => ⟨vs, own_below h1 hb, h2.below hb⟩)
/-- All rising lists of n numbers below m. -/
def rch : Nat → Nat → List (List Nat)
  | _, 0 => [[]]
  | 0, _ + 1 => []
  | m + 1, n + 1 => if m + 1 < n + 1 then [] else rch m (n + 1) ++ (rch m n).map (· ++ [m])
theorem rch_len : ∀ m n, (rch m n).length ≤ 2 ^ m
  | 0, 0 => by simp [rch]
  | m + 1, 0 => by simp [rch]; exact Nat.one_le_two_pow
  | 0, n + 1 => by simp [rch]
  | m + 1, n + 1 => by
    unfold rch
    split
    · simp
    · rw [List.length_append, List.length_map, Nat.pow_succ]
      have h1 := rch_len m (n + 1)
      have h2 := rch_len m n
      omega
theorem rch_size : ∀ (m n : Nat) (l : List Nat), l ∈ rch m n → l.length = n
  | _, 0, l, h => by simp [rch] at h; subst h; rfl
  | 0, n + 1, l, h => by simp [rch] at h
  | m + 1, n + 1, l, h => by
    unfold rch at h
    split at h
    · simp at h
    · rw [List.mem_append, List.mem_map] at h
      rcases h with h | ⟨x, h, rfl⟩
      · exact rch_size m (n + 1) l h
      · have := rch_size m n x h
        simp [this]
theorem getD_mem {α} {l : List α} {j : Nat} {d : α} (h : j < l.length) : l.getD j d ∈ l := by
  rw [List.getD_eq_getElem?_getD, List.getElem?_eq_getElem h]; exact List.getElem_mem h
end Go.Proofs.Ytmdheeahameonaa
end

section
/-! Contract of the reference: choices. -/
namespace Go.Proofs.Ytmdheeahameonaa
open Go.RowKit
set_option linter.unusedVariables false
set_option linter.unusedSimpArgs false

set_option maxRecDepth 100000 in
theorem ch_zero (m : Int) (w : World) : Calls Try.prog 64 #[.int .i64 m, .int .i64 0] w (RetK (kLo w.heap.size [[]]) w) := by
  have P : Hid (RetK (kLo w.heap.size [[]]) w (.returned (.slice (some ⟨w.heap.size, 0, none⟩) 1 1)) (w.alloc (.cells #[.slice none 0 0] 40))) := Lib.hid ⟨_, rfl, ⟨[.slice none 0 0], ⟨rfl, .inr ⟨w.heap.size, 1, _, rfl, Nat.le_refl _, heap_alloc_new w _, Nat.le_refl _, by unfold maxLen; omega, rfl, rfl⟩⟩, ⟨rfl, fun j hj => by
    have e : j = 0 := by simp at hj; omega
    subst e
    exact ⟨none, 0, rfl, Iz.nil _⟩⟩⟩, zba w _⟩
  go_enter Try.func64, Try.ntmps64
  go_wp2_with fail
  exact bodyPost_ret (v := .slice (some ⟨w.heap.size, 0, none⟩) 1 1) (by simp [results, Try.results64, go_sem]) rfl P.out
set_option maxRecDepth 100000 in
theorem ch_none {M N : Nat} (h0 : 0 < N) (h : M < N) (w : World) : Calls Try.prog 64 #[.int .i64 (M : Int), .int .i64 (N : Int)] w (RetK (kLo w.heap.size []) w) := by
  have u1 : ¬ (N : Int) = 0 := by omega
  have u2 : (M : Int) < (N : Int) := by omega
  have P : Hid (RetK (kLo w.heap.size []) w (.returned (.slice none 0 0)) w) := Lib.hid ⟨_, rfl, ⟨[], World.ownsRow_nil w _ _ _, rfl, fun j hj => by simp at hj⟩, Below.refl _ _⟩
  go_enter Try.func64, Try.ntmps64
  go_wp2_with fail
  exact bodyPost_ret (v := .slice none 0 0) (by simp [results, Try.results64, go_sem]) rfl P.out
set_option maxRecDepth 100000 in
set_option maxHeartbeats 1000000 in
theorem ch_more {M N m n : Nat} (hM1 : M ≤ m + 1) (hM2 : m + 1 ≤ M) (hN1 : N ≤ n + 1) (hN2 : n + 1 ≤ N) (h : ¬ m + 1 < n + 1) (hm : m ≤ 16) {w : World}
    (ih1 : ∀ w, Calls Try.prog 64 #[.int .i64 (m : Int), .int .i64 (N : Int)] w (RetK (kLo w.heap.size (rch m (n + 1))) w)) (ih2 : ∀ w, Calls Try.prog 64 #[.int .i64 (m : Int), .int .i64 (n : Int)] w (RetK (kLo w.heap.size (rch m n)) w)) :
    Calls Try.prog 64 #[.int .i64 (M : Int), .int .i64 (N : Int)] w (RetK (kLo w.heap.size (rch (m + 1) (n + 1))) w) := by
  have hr : rch (m + 1) (n + 1) = rch m (n + 1) ++ (rch m n).map (· ++ [m]) := by
    show (if m + 1 < n + 1 then [] else _) = _
    rw [if_neg h]
  have hl1 := rch_len m (n + 1)
  have hl2 := rch_len m n
  have hp : 2 ^ m ≤ 2 ^ 16 := Nat.pow_le_pow_right (by omega) hm
  obtain ⟨L1, hL1⟩ : ∃ L, rch m (n + 1) = L := ⟨_, rfl⟩
  obtain ⟨L2, hL2⟩ : ∃ L, rch m n = L := ⟨_, rfl⟩
  have hL2n : ∀ l, l ∈ L2 → l.length = n := fun l hl => rch_size m n l (hL2 ▸ hl)
  rw [hL1] at hl1 ih1 hr
  rw [hL2] at hl2 ih2 hr
  have HR := Lib.hid hr
  have HI1 := Lib.hid ih1
  have HI2 := Lib.hid ih2
  have HN := Lib.hid hL2n
  have u1 : ¬ (N : Int) = 0 := by omega
  have u2 : ¬ (M : Int) < (N : Int) := by omega
  have hml : L1.length ≤ 65536 := by omega
  have hml2 : L2.length ≤ 65536 := by omega
  have hmn : n ≤ m := by omega
  clear hr hL1 hL2 ih1 ih2 hL2n hp hl1 hl2
  go_enter Try.func64, Try.ntmps64
  go_upto_region 5 with fail
  refine Run.start 5 ?_
  refine .mv .o ?_
  refine .two (.i 0) .o (opSub (show (M : Int) - 1 = (m : Int) by omega) (by omega) (by omega)) ?_
  refine .mv .o ?_
  refine .c2 (.i 1) (.i 2) (x := kLo w.heap.size L1) (by rintro u v w2 hB rfl rfl; exact (HI1.out w2).mono fun e w' h => h.mono fun v w ⟨vs, h1, h2⟩ => ⟨vs, own_base h1 hB.size, h2⟩) ?_
  refine .mf (.i 3) ?_
  refine .donep [some 15, some 16, some 17, some 18, some 5] ?_
  intro w2 B2
  rintro v18 -
  rintro v5 ⟨vs5, h5, h5'⟩
  change Shut (wpList _ _ _ [] _ _)
  refine ⟨?_⟩
  simp only [Act.put, List.setIfInBounds_toArray, List.set_cons_zero, List.set_cons_succ]
  have B0 := B2
  clear B2
  go_upto_region 6 with fail
  refine Run.start 6 ?_
  refine .mv .o ?_
  refine .two (.i 0) .o (opSub (show (M : Int) - 1 = (m : Int) by omega) (by omega) (by omega)) ?_
  refine .mv .o ?_
  refine .two (.i 2) .o (opSub (show (N : Int) - 1 = (n : Int) by omega) (by omega) (by omega)) ?_
  refine .c2 (.i 1) (.i 3) (x := kLo w2.heap.size L2) (by rintro u v w3 hB rfl rfl; exact (HI2.out w3).mono fun e w' h => h.mono fun v w ⟨vs, h1, h2⟩ => ⟨vs, own_base h1 hB.size, h2⟩) ?_
  refine .mf (.i 4) ?_
  refine .donep [some 19, some 20, some 21, some 22, some 23, some 6] ?_
  intro w3 B3
  rintro v23 -
  rintro v6 ⟨vs6, h6, h6'⟩
  change Shut (wpList _ _ _ [] _ _)
  refine ⟨?_⟩
  simp only [Act.put, List.setIfInBounds_toArray, List.set_cons_zero, List.set_cons_succ]
  obtain ⟨A6, c6, e6⟩ : ∃ A c, v6 = .slice A L2.length c := by
    rcases h6.2 with ⟨e, e0⟩ | ⟨g, cap, cur, e, _⟩
    · exact ⟨none, 0, by rw [e0]; exact e⟩
    · exact ⟨_, cap, e⟩
  have hd : v6.ownBlock = none ∨ v6.ownBlock ≠ v5.ownBlock := by
    cases hv : v6.ownBlock with
    | none => exact .inl rfl
    | some g =>
      right
      intro e
      have a1 := (h6.lt g hv).1
      have a2 := (h5.lt g e.symm).2
      omega
  have H0 : Hid (Below w.heap.size w w3 ∧ (∃ vs, w3.ownsRow w.heap.size 40 1 v5 (L1.length + (0)) vs ∧ LLat w3 vs (L1 ++ (L2.take (0)).map (· ++ [m]))) ∧ (∃ vs, w3.ownsRow w.heap.size 40 1 v6 L2.length vs ∧ LLat w3 vs L2) ∧ (v6.ownBlock = none ∨ v6.ownBlock ≠ v5.ownBlock)) := Lib.hid ⟨zup B0 B3, ⟨vs5, own_below h5 B3, by simpa using h5'.below B3⟩, ⟨vs6, own_base h6 B0.size, h6'⟩, hd⟩
  have E6 := Lib.hid e6
  clear h5 h5' h6 h6' hd B0 B3 e6
  go_wp2_with fail
  go_loopw [7, 5] (fun s7 s5 wr => ∃ i : Nat, s7 = .int .i64 (i : Int) ∧ i ≤ L2.length ∧ Hid (Below w.heap.size w wr ∧ (∃ vs, wr.ownsRow w.heap.size 40 1 s5 (L1.length + (i)) vs ∧ LLat wr vs (L1 ++ (L2.take (i)).map (· ++ [m]))) ∧ (∃ vs, wr.ownsRow w.heap.size 40 1 v6 L2.length vs ∧ LLat wr vs L2) ∧ (v6.ownBlock = none ∨ v6.ownBlock ≠ s5.ownBlock))) (fun s7 _ _ => L2.length - (intOf s7).toNat)
  case atStart => exact ⟨0, rfl, Nat.zero_le _, H0⟩
  case round =>
    obtain ⟨i, rfl, hi, HB⟩ := hrel
    clear H0
    have e6 := E6.out
    by_cases hlt : i < L2.length
    · have u3 : (i : Int) < (L2.length : Int) := by omega
      obtain ⟨B0, ⟨vs5, h5, h5'⟩, ⟨vs6, h6, h6'⟩, hd⟩ := HB.out
      clear HB
      subst e6
      obtain ⟨Ai, cell, eli, hz⟩ := h6'.2 i hlt
      have hcell : ∃ ad, A6 = some ad ∧ wr.cell? (ad.add i) = some (.slice Ai (L2.getD i []).length cell) := by
        rcases h6.2 with ⟨e, e0⟩ | ⟨g, cap, cur, e, _⟩
        · omega
        · cases e
          exact ⟨_, rfl, h6.cells (g := g) rfl i _ eli⟩
      obtain ⟨ad, rfl, d1⟩ := hcell
      have hsz : (L2.getD i []).length ≤ 16 := by rw [HN.out _ (getD_mem hlt)]; omega
      obtain ⟨pl, hpl⟩ : ∃ p, L2.getD i [] = p := ⟨_, rfl⟩
      rw [hpl] at d1 hz hsz
      have HPL := Lib.hid hpl
      obtain ⟨K, hK⟩ : ∃ K, pl.length = K := ⟨_, rfl⟩
      rw [hK] at d1 hz hsz
      clear hpl eli
      go_wp2_with (at_builtin; refine wpList_appIz rfl _ _ rfl wr.heap.size (.slice none 0 0) 0 [] rfl (World.ownsRow_nil wr _ _ _) hz rfl (by omega) (Nat.le_refl _) ?_)
      intro vx w4 hx hgx hxb
      have B4 : Below wr.heap.size wr w4 := ⟨hgx.os, hgx.tape, hgx.output, hgx.size, fun k hk => hgx.block k hk (by simp [Value.ownBlock])⟩
      clear d1 hxb hgx
      go_wp2_with (at_builtin; (refine wpList_appOne (wr := w4) rfl _ _ 40 3 (.int .i64 0) 8 rfl Try.underlying40 info_int2 rfl (by omega) wr.heap.size vx K _ rfl hx (.int .i64 ((M : Int) - 1)) rfl rfl (by omega) B4.size ?_))
      intro vy w5 hy hgy hyb
      have hy2 : w5.ownsRow wr.heap.size 3 1 vy (K + 1) (ints' (pl ++ [m])) := by
        rw [show (M : Int) - 1 = (m : Int) by omega] at hy
        simpa [ints'] using hy
      have B5 : Below wr.heap.size wr w5 := by
        refine (B4.trans ((zba w4 _).mono B4.size)).trans ⟨hgy.os, hgy.tape, hgy.output, hgy.size, fun k hk => hgy.block k (by have := B4.size; simp; omega) fun e => ?_⟩
        have := (hx.lt k e.symm).1
        omega
      obtain ⟨Ay, cy, rfl, hzy⟩ := own_iz hy2
      have h5b := own_below h5 B5
      have h5b' := (h5'.below B5).app hzy
      have h6b := own_below h6 B5
      have h6b' := h6'.below B5
      have B6 := B0.trans (B5.mono B0.size)
      have e25 : L1 ++ (L2.take i).map (· ++ [m]) ++ [pl ++ [m]] = L1 ++ (L2.take (i + 1)).map (· ++ [m]) := by
        rw [List.append_assoc, List.take_succ_eq_append_getElem hlt, List.map_append]
        have := HPL.out
        simp [List.getD, hlt] at this
        simp [this]
      rw [e25] at h5b'
      clear h5 h5' h6 h6' hx hy hy2 hgy hyb hzy e25 hz
      go_wp2_with (at_builtin; go_loud (refine wpList_appOne (wr := w5) rfl _ _ 87 40 (.slice none 0 0) 24 rfl Try.underlying87 info_is rfl (by omega) w.heap.size u5 (L1.length + i) _ rfl h5b (.slice Ay (K + 1) cy) rfl rfl (by omega) B6.size ?_))
      intro vo w7 ho hgo hob
      have B7 : Below w.heap.size w w7 := (B6.trans ((zba w5 _).mono B6.size)).trans ⟨hgo.os, hgo.tape, hgo.output, hgo.size, fun k hk => hgo.block k (by have := B6.size; simp; omega) fun e => by have := (h5b.lt k e.symm).1; omega⟩
      have hX5 := h5b.alloc (.cells #[.slice Ay (K + 1) cy] 40)
      have hl6 := own_below h6b (zba w5 (.cells #[.slice Ay (K + 1) cy] 40))
      have h6c := hl6.kept hgo hd
      have h6c' := (h6b'.below (zba w5 (.cells #[.slice Ay (K + 1) cy] 40))).grown hX5 (by decide) hgo
      have h5c' := (h5b'.below (zba w5 (.cells #[.slice Ay (K + 1) cy] 40)))
      have hd7 : (Value.slice (some ad) L2.length c6).ownBlock = none ∨ (Value.slice (some ad) L2.length c6).ownBlock ≠ vo.ownBlock := by
        right
        rcases hob with e | e
        · rw [e]; exact hd.resolve_left (by simp [Value.ownBlock])
        · rw [e]
          intro e2
          have := (h6b.lt _ e2).2
          omega
      have HS : Hid (Below w.heap.size w w7 ∧ (∃ vs, w7.ownsRow w.heap.size 40 1 vo (L1.length + (i + 1)) vs ∧ LLat w7 vs (L1 ++ (L2.take (i + 1)).map (· ++ [m]))) ∧ (∃ vs, w7.ownsRow w.heap.size 40 1 (Value.slice (some ad) L2.length c6) L2.length vs ∧ LLat w7 vs L2) ∧ ((Value.slice (some ad) L2.length c6).ownBlock = none ∨ (Value.slice (some ad) L2.length c6).ownBlock ≠ vo.ownBlock)) := Lib.hid ⟨B7, ⟨_, ho, h5c'.grown hX5 (by decide) hgo⟩, ⟨vs6, h6c, h6c'⟩, hd7⟩
      clear h5b h5b' h6b h6b' h5c' h6c h6c' ho hgo hob hd hd7 hX5 hl6 B4 B5 B6 B7 B0
      go_wp2_with fail
      go_roundw
      case rel => exact ⟨i + 1, by go_num, by omega, HS⟩
      case measure => first | (simp [intOf]; done) | (simp [intOf]; omega)
    · obtain rfl : i = L2.length := by omega
      have u3 : ¬ (L2.length : Int) < (L2.length : Int) := by omega
      obtain ⟨B0, ⟨vs5, h5, h5'⟩, -, -⟩ := HB.out
      subst e6
      rw [List.take_length, ← HR.out] at h5'
      have e5 : L1.length + L2.length = (rch (m + 1) (n + 1)).length := by rw [HR.out]; simp
      rw [e5] at h5
      have P := Lib.hid (show RetK (kLo w.heap.size (rch (m + 1) (n + 1))) w (.returned u5) wr from ⟨_, rfl, ⟨vs5, h5, h5'⟩, B0⟩)
      clear HB h5 h5' B0 e5
      go_wp2_with fail
      exact bodyPost_ret (v := u5) (by simp [results, Try.results64, go_sem]) rfl P.out
/-- The reference's Choices. -/
theorem choices_q : ∀ (m n : Nat) (w : World), m ≤ 16 → Calls Try.prog 64 #[.int .i64 (m : Int), .int .i64 (n : Int)] w (RetK (kLo w.heap.size (rch m n)) w)
  | m, 0, w, _ => by
    have e : rch m 0 = [[]] := by cases m <;> rfl
    rw [e]
    exact ch_zero m w
  | 0, n + 1, w, _ => ch_none (M := 0) (N := n + 1) (by omega) (by omega) w
  | m + 1, n + 1, w, hm => by
    by_cases h : m + 1 < n + 1
    · have e : rch (m + 1) (n + 1) = [] := by show (if m + 1 < n + 1 then [] else _) = _; rw [if_pos h]
      rw [e]
      exact ch_none (by omega) h w
    · exact ch_more (Nat.le_refl _) (Nat.le_refl _) (Nat.le_refl _) (Nat.le_refl _) h (by omega) (fun w => choices_q m (n + 1) w (by omega)) (fun w => choices_q m n w (by omega))
end Go.Proofs.Ytmdheeahameonaa
end
