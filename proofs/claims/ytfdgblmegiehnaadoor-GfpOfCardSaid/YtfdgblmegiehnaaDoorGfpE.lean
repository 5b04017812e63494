/-
  Package gfp: Of.
-/
import Derived.Test.YtfdgblmegiehnaaDoorIterA
import Derived.Test.YtfdgblmegiehnaaDoorZintA
/-! gfp.Of: a loop over an iterator. -/
namespace Go.Proofs.YtfdgblmegiehnaaDoor
open Go.RowKit Go.Shelf
set_option linter.unusedVariables false
set_option linter.unusedSimpArgs false
attribute [local go_sem] Oper.semAt_some

/-- What is left of the words that have come. -/
def remOf (p : Nat) (l : List Wd) : Nat := l.foldl (fun r x => (r * 18446744073709551616 + x.1.2) % p) 0
theorem remOf_snoc (p : Nat) (l : List Wd) (x : Wd) : remOf p (l ++ [x]) = (remOf p l * 18446744073709551616 + x.1.2) % p := by
  unfold remOf
  rw [List.foldl_append, List.foldl_cons, List.foldl_nil]
theorem remOf_lt {p : Nat} (hp : 0 < p) (l : List Wd) : remOf p l < p := by
  rcases List.eq_nil_or_concat l with rfl | ⟨l, x, rfl⟩
  · exact hp
  · rw [List.concat_eq_append, remOf_snoc]; exact Nat.mod_lt _ hp
theorem ev_cons' (b x : Nat) (xs : List Nat) : ev b (x :: xs) = x + b * ev b xs := rfl
theorem drop_cons_nth {xs : List Nat} {k : Nat} (h : k < xs.length) : xs.drop k = nth xs k :: xs.drop (k + 1) := by
  rw [List.drop_eq_getElem_cons h]
  unfold nth
  simp [h]
theorem remOf_upto (p : Nat) (xs : List Nat) (hL : Low 18446744073709551616 xs) : ∀ k, k ≤ xs.length → remOf p (upto (fromEnd xs hL) k) = ev 18446744073709551616 (xs.drop (xs.length - k)) % p := by
  intro k
  induction k with
  | zero => intro _; rw [Nat.sub_zero, List.drop_length]; simp [remOf, upto, ev_nil]
  | succ k ih =>
    intro hk
    rw [upto_succ, remOf_snoc, ih (by omega)]
    have e : xs.length - (k + 1) < xs.length := by omega
    rw [drop_cons_nth e, ev_cons', show xs.length - (k + 1) + 1 = xs.length - k by omega]
    show (_ % p * 18446744073709551616 + nth xs (xs.length - 1 - k)) % p = _
    rw [show xs.length - 1 - k = xs.length - (k + 1) by omega, Nat.add_mod, Nat.mod_mul_mod, ← Nat.add_mod, Nat.mul_comm, Nat.add_comm]
theorem neg_rest {v p : Nat} (hp : 0 < p) : (-(v : Int)) % (p : Int) = (((p - v % p) % p : Nat) : Int) := by
  have hlt := Nat.mod_lt v hp
  have h1 : (v : Int) = (p : Int) * ((v / p : Nat) : Int) + ((v % p : Nat) : Int) := by exact_mod_cast (Nat.div_add_mod v p).symm
  rw [show (-(v : Int)) = ((p - v % p : Nat) : Int) + (p : Int) * (-((v / p : Nat) : Int) - 1) by
    rw [Int.ofNat_sub (by omega)]
    generalize ((v / p : Nat) : Int) = q at h1 ⊢
    generalize ((v % p : Nat) : Int) = t at h1 ⊢
    rw [h1]
    grind, Int.add_mul_emod_self_left, ← Int.natCast_emod]
/-- What Of's cells hold between two rounds. -/
def OfAt (gf ga gp gr ab p R : Nat) (s : Bool) (A : Option Addr) (n c : Nat) (W : World) : Prop :=
  (W.cell? ⟨gf, 0, none⟩ = some (.int .u64 (ab : Int)) ∧ W.cell? ⟨ga, 0, none⟩ = some (.bool s)) ∧ W.cell? ⟨gp, 0, none⟩ = some (.int .u64 (p : Int)) ∧ W.cell? ⟨gr, 0, none⟩ = some (.int .u64 (R : Int)) ∧ W.frozen? ⟨gr, 0, none⟩ = false
theorem keepsOthers_below {W W' : World} (h : Below W.heap.size W W') : KeepsOthers W W' := ⟨h.size, fun k o hk _ => (h.block k (Array.getElem?_eq_some_iff.1 hk).1).trans hk⟩
theorem OfAt.own (gf ga gp gr ab p : Nat) (s : Bool) (A : Option Addr) (n c : Nat) (f : List Wd → Nat) : Own (fun pre W => OfAt gf ga gp gr ab p (f pre) s A n c W) := fun l W W' row ⟨⟨h1, h2⟩, h3, h4, h5⟩ hg hr =>
  ⟨⟨cell_kept h1 hg hr, cell_kept h2 hg hr⟩, cell_kept h3 hg hr, cell_kept h4 hg hr, (frozen_kept h4 hg hr).trans h5⟩
theorem OfAt.below {gf ga gp gr ab p R : Nat} {s : Bool} {A : Option Addr} {n c : Nat} {W W' : World} (h : OfAt gf ga gp gr ab p R s A n c W) (hb : Below W.heap.size W W') : OfAt gf ga gp gr ab p R s A n c W' := by
  obtain ⟨⟨h1, h2⟩, h3, h4, h5⟩ := h
  exact ⟨⟨(hb.cell (p := ⟨gf, 0, none⟩) (World.block_lt_of_cell? _ _ h1)).trans h1, (hb.cell (p := ⟨ga, 0, none⟩) (World.block_lt_of_cell? _ _ h2)).trans h2⟩,
    (hb.cell (p := ⟨gp, 0, none⟩) (World.block_lt_of_cell? _ _ h3)).trans h3, (hb.cell (p := ⟨gr, 0, none⟩) (World.block_lt_of_cell? _ _ h4)).trans h4, (hb.frozen (p := ⟨gr, 0, none⟩) (World.block_lt_of_cell? _ _ h4)).trans h5⟩
theorem OfAt.put {gf ga gp gr ab p R Q : Nat} {s : Bool} {A : Option Addr} {n c : Nat} {W : World} (h : OfAt gf ga gp gr ab p R s A n c W) (e1 : gf ≠ gr) (e2 : ga ≠ gr) (e3 : gp ≠ gr) :
    OfAt gf ga gp gr ab p Q s A n c (W.setCell ⟨gr, 0, none⟩ (.int .u64 (Q : Int))) := by
  obtain ⟨⟨h1, h2⟩, h3, h4, h5⟩ := h
  refine ⟨⟨?_, ?_⟩, ?_, World.cell?_setCell_same' _ _ _ (by rw [h4]; rfl), by rw [World.frozen?_setCell]; exact h5⟩
  · rw [World.cell?_setCell_other _ _ _ _ (by simp [e1])]; exact h1
  · rw [World.cell?_setCell_other _ _ _ _ (by simp [e2])]; exact h2
  · rw [World.cell?_setCell_other _ _ _ _ (by simp [e3])]; exact h3
set_option maxRecDepth 100000 in
set_option maxHeartbeats 4000000 in
/-- gfp.Of. -/
theorem fof_v {ab p r n c : Nat} {s : Bool} {A : Option Addr} {z : Int} {w : World} (hp : ab + 2 = p) (h : p < 2147483648) (hz : Zv w s A n c z) (hr : z % (p : Int) = (r : Int)) :
    Calls Tryd.prog 21 #[.agg #[.int .u64 (ab : Int)], .agg #[.bool s, .slice A n c]] w (UPost r w) := by
  obtain ⟨v, hv, hzv⟩ := hz
  obtain ⟨xs, hrd, hxl, hnc, hcm, hL, hev⟩ := hv
  have h2 : 2 ≤ p := by omega
  have HP := Lib.hid hp
  have HR : Hid ((if s then -(v : Int) else (v : Int)) % (p : Int) = (r : Int)) := Lib.hid (by rw [← hr, hzv.out]; cases s <;> rfl)
  have HV : Hid (ev 18446744073709551616 xs = v) := Lib.hid hev
  have hAb : ∀ ad, A = some ad → 0 < xs.length → ad.block < w.heap.size := fun ad ha h0 => by obtain ⟨ad', e, hlt, _⟩ := hrd h0; rw [e] at ha; cases ha; exact hlt
  subst hxl
  clear hp hzv hr hev
  refine (callsIn_wide (n := 5)).1 ?_
  refine callsIn_of_wp_marks Tryd.func21 rfl trivial ?_ rfl
  simp only [Tryd.ntmps21, List.size_toArray, List.length_cons, List.length_nil, Nat.reduceAdd, Nat.reduceSub, Array.replicate_succ, Array.replicate_zero, List.push_toArray, List.append_toArray, List.nil_append, List.cons_append]
  gi_wp2_with fail
  refine ⟨trivial, (callsIn_wide.2 (fp_v HP.out h _)).mono ?_⟩
  rintro e w1 ⟨rfl, B1⟩
  have I0 : Fb ((w.alloc (.cells #[.int .u64 (ab : Int)] 25)).alloc (.cells #[.bool s, .slice A xs.length c] 41)) w.heap.size ab := (Fb.new _ _ _).below (zba _ _)
  have I1 : Ib ((w.alloc (.cells #[.int .u64 (ab : Int)] 25)).alloc (.cells #[.bool s, .slice A xs.length c] 41)) (w.heap.size + 1) s A xs.length c := by
    have := Ib.new (w.alloc (.cells #[.int .u64 (ab : Int)] 25)) s A xs.length c 41
    rwa [World.size_alloc] at this
  have hB1 : Below w.heap.size w w1 := (zba2 w _ _).trans (B1.mono (by simp; omega))
  replace I0 := I0.below B1
  replace I1 := I1.below B1
  have sz1 : w.heap.size + 2 ≤ w1.heap.size := by have := B1.size; simp at this; omega
  clear B1
  obtain ⟨f1, f2, f3⟩ := I0
  obtain ⟨a1, a2, a3, a4, a5⟩ := I1
  gi_wp2_with fail
  refine ⟨trivial, (callsIn_wide.2 (back_in A _ c _)).mono ?_⟩
  rintro e w2 ⟨rfl, rfl⟩
  obtain ⟨W2, hW2⟩ : ∃ W2, ((w1.alloc (.cells #[.int .u64 (p : Int)] 22)).alloc (.cells #[.int .u64 0] 22)).alloc (.cells #[.slice A xs.length c] 39) = W2 := ⟨_, rfl⟩
  have bP := Boxed.new w1 22 (.int .u64 (p : Int))
  have bR := Boxed.new (w1.alloc (.cells #[.int .u64 (p : Int)] 22)) 22 (.int .u64 0)
  have bN := Boxed.new ((w1.alloc (.cells #[.int .u64 (p : Int)] 22)).alloc (.cells #[.int .u64 0] 22)) 39 (.slice A xs.length c)
  rw [World.size_alloc] at bR
  rw [World.size_alloc, World.size_alloc] at bN
  have B2 : Below w1.heap.size w1 W2 := by rw [← hW2]; exact zba3 _ _ _ _
  have hO : OfAt w.heap.size (w.heap.size + 1) w1.heap.size (w1.heap.size + 1) ab p 0 s A xs.length c W2 := by
    refine ⟨⟨(B2.cell (p := ⟨w.heap.size, 0, none⟩) (by show w.heap.size < _; omega)).trans f1, (B2.cell (p := ⟨w.heap.size + 1, 0, none⟩) (by show w.heap.size + 1 < _; omega)).trans a1⟩, ?_, ?_, ?_⟩
    · rw [← hW2]; exact ((bP.alloc _).alloc _).cell
    · rw [← hW2]; exact (bR.alloc _).cell
    · rw [← hW2]; exact (bR.alloc _).frozen
  have hN2 : W2.cell? ⟨w1.heap.size + 1 + 1, 0, none⟩ = some (.slice A xs.length c) := by rw [← hW2]; exact bN.cell
  have sz2 : W2.heap.size = w1.heap.size + 1 + 1 + 1 := by rw [← hW2]; simp
  have hB2 : Below w.heap.size w W2 := hB1.trans (B2.mono (by omega))
  rw [hW2]
  clear bP bR bN B2 f1 f2 f3 a1 a2 a3 a4 a5 hW2
  gi_wp2_with fail
  refine wpIn_rangeFunc_ownG rfl (by omega) (gf := 43) (lb := #[.pointer (some ⟨w1.heap.size + 1 + 1, 0, none⟩)]) rfl trivial (enters_of Tryd.func43 (by kernel_rfl) rfl)
    (back_stops Fence.wide _ trivial rfl (by omega) (w1.heap.size + 1 + 1) w.heap.size A c xs (by omega) hL hAb W2 (by omega) (by omega) hN2 (hrd.below hB2)) keepB_t (keepB_b (by omega) (by omega)) (Below.refl _ _) (fun _ => rfl)
    (fun pre W => (OfAt w.heap.size (w.heap.size + 1) w1.heap.size (w1.heap.size + 1) ab p (remOf p pre) s A xs.length c W ∧ w1.heap.size + 3 ≤ W.heap.size) ∧ Below w.heap.size w W)
    (fun _ _ _ => False)
    (OwnFrom.and (OwnFrom.and (Own.from (OfAt.own _ _ _ _ _ _ _ _ _ _ (remOf p)) _) (fun _ _ _ _ hs hg _ => Nat.le_trans hs hg.size)) (ownFrom_below (Nat.le_refl _) (by omega)))
    (fun _ _ _ _ _ hs _ _ => hs)
    ⟨⟨hO, by omega⟩, hB2⟩
    (fun x => { tmps := #[.agg #[.int .u64 (ab : Int)], .agg #[.bool s, .slice A xs.length c], .pointer (some ⟨w.heap.size, 0, none⟩), .pointer (some ⟨w.heap.size + 1, 0, none⟩), .int .u64 0, .pointer (some ⟨w1.heap.size, 0, none⟩), .pointer (some ⟨w1.heap.size + 1, 0, none⟩), undef, .int .u64 (x.1.2 : Int),
      .agg #[.int .u64 (ab : Int)], .int .u64 (p : Int), .pointer (some ⟨w.heap.size + 1, 1, none⟩), .slice A xs.length c, .func (.func 43) #[] #[.pointer (some ⟨w1.heap.size + 1 + 1, 0, none⟩)], .int .i64 (x.1.1 : Int), .int .u64 (x.1.2 : Int), undef, undef, undef, undef, undef, undef, undef, undef, undef, undef], defers := [] }) ?assign ?body ?done ?stop
  case assign =>
    intro l x W K hK
    gi_wp2
    exact hK
  case body =>
    rintro l pre x W ⟨⟨hOf, hsz⟩, hB⟩ _
    obtain ⟨R, hR⟩ : ∃ R, remOf p pre = R := ⟨_, rfl⟩
    have lR : R < p := hR ▸ remOf_lt (by omega) pre
    obtain ⟨Q, hQ⟩ : ∃ Q, (R * 18446744073709551616 + x.1.2) % p = Q := ⟨_, rfl⟩
    have hx := x.2
    have hS : remOf p (pre ++ [x]) = Q := by rw [remOf_snoc, hR, hQ]
    have HQ := Lib.hid hQ
    have HS := Lib.hid hS
    rw [hR] at hOf
    have HOf := Lib.hid hOf
    obtain ⟨⟨c1, c2⟩, c3, c4, c5⟩ := hOf
    obtain ⟨X, hX⟩ : ∃ X, x.1.2 = X := ⟨_, rfl⟩
    rw [hX] at HQ hx
    rw [hX]
    clear hQ hS hR hX
    gi_wp2_with fail
    refine ⟨trivial, (CallsIn.inRound l (callsIn_wide.2 (rem64_v hx (by omega) (by omega) HQ.out _))).mono ?_⟩
    rintro e W3 ⟨rfl, B3⟩
    have O3 := HOf.out.below B3
    have HO3 := Lib.hid O3
    obtain ⟨⟨d1, d2⟩, d3, d4, d5⟩ := O3
    clear c1 c2 c3 c4 c5
    gi_wp2_with fail
    refine ⟨((keepsOthers_below B3).trans (KeepsOthers.setCell _ _ _)).from _, ⟨(B3.mono (by omega)).setCell (p := ⟨w1.heap.size + 1, 0, none⟩) (by show w.heap.size ≤ w1.heap.size + 1; omega) _, ?_⟩, ?_, ?_⟩
    · rw [heap_setCell_other _ _ _ _ (by simp)]; exact B3.block _ (by omega)
    · rw [HS.out]; exact ⟨HO3.out.put (by omega) (by omega) (by omega), by have := B3.size; simp; omega⟩
    · exact (hB.trans (B3.mono hB.size)).setCell (p := ⟨w1.heap.size + 1, 0, none⟩) (by show w.heap.size ≤ w1.heap.size + 1; omega) _
  case done =>
    rintro D ys W hD rfl ⟨⟨hOf, hsz⟩, hB⟩ hK
    rw [remOf_upto p xs hL xs.length (Nat.le_refl _), Nat.sub_self, List.drop_zero, HV.out] at hOf
    obtain ⟨R, hR⟩ : ∃ R, v % p = R := ⟨_, rfl⟩
    have lR : R < p := hR ▸ Nat.mod_lt _ (by omega)
    rw [hR] at hOf
    have HOf := Lib.hid hOf
    obtain ⟨⟨c1, c2⟩, c3, c4, c5⟩ := hOf
    cases s
    · have e : R = r := by have := HR.out; simp at this; omega
      subst e
      gi_wp2_with fail
      refine ⟨by simp, .inl ⟨_, _, rfl, run_takeDeferred hK, ?_⟩⟩
      exact ⟨_, results_tmp rfl _ _ _, rfl, hB.trans (belowK_b (w := w) (Nat.le_refl _) _ D _ _ (by omega) hK rfl rfl)⟩
    · have e : (p - R % p) % p = r := by
        have := HR.out
        rw [if_pos rfl, neg_rest (by omega), hR] at this
        rw [Nat.mod_eq_of_lt lR]
        omega
      gi_wp2_with fail
      refine ⟨trivial, (callsIn_wide.2 (fneg_v HP.out h (by omega) e _)).mono ?_⟩
      rintro e w5 ⟨rfl, B5⟩
      have hK5 : w5.heap[D]? = some (.deferred (some [])) := (B5.block D (Array.getElem?_eq_some_iff.1 hK).1).trans hK
      have hB5 := hB.trans (B5.mono hB.size)
      gi_wp2_with fail
      refine ⟨by simp, .inl ⟨_, _, rfl, run_takeDeferred hK5, ?_⟩⟩
      exact ⟨_, results_tmp rfl _ _ _, rfl, hB5.trans (belowK_b (w := w) (Nat.le_refl _) _ D _ _ (by omega) hK5 rfl rfl)⟩
  case stop =>
    rintro D c pre W _ _ h _
    exact h.elim
end Go.Proofs.YtfdgblmegiehnaaDoor
