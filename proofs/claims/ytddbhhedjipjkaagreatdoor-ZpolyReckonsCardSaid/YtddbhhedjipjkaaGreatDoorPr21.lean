/-
  GfpE MrB0 MrB1 MrB2 MrB3 MrC
-/
import Derived.Test.YtddbhhedjipjkaaGreatDoorPr20
import Derived.Test.YtddbhhedjipjkaaGreatDoorPr07
import Derived.Test.YtddbhhedjipjkaaGreatDoorPr08

section
namespace Go.Proofs.YtddbhhedjipjkaaGreatDoor
open Go.RowKit Go.Shelf
set_option linter.unusedVariables false
set_option linter.unusedSimpArgs false
attribute [local go_sem] Oper.semAt_some
def remOf (p : Nat) (l : List Wd) : Nat := l.foldl (fun r x => (r * 18446744073709551616 + x.1.2) % p) 0
theorem remOf_snoc (p : Nat) (l : List Wd) (x : Wd) : remOf p (l ++ [x]) = (remOf p l * 18446744073709551616 + x.1.2) % p := by
  unfold remOf
  rw [List.foldl_append, List.foldl_cons, List.foldl_nil]
theorem remOf_lt {p : Nat} (hp : 0 < p) (l : List Wd) : remOf p l < p := by
  rcases List.eq_nil_or_concat l with rfl | ⟨l, x, rfl⟩
  · exact hp
  · rw [List.concat_eq_append, remOf_snoc]; exact Nat.mod_lt _ hp
theorem ev_cons' (b x : Nat) (xs : List Nat) : ev b (x :: xs) = x + b * ev b xs := rfl
theorem drop_cons_nth {xs : List Nat} {k : Nat} (h : k < xs.length) : xs.drop k = nth xs k :: xs.drop (k + 1) := by
  rw [List.drop_eq_getElem_cons h]
  unfold nth
  simp [h]
theorem remOf_upto (p : Nat) (xs : List Nat) (hL : Low 18446744073709551616 xs) : ∀ k, k ≤ xs.length → remOf p (upto (fromEnd xs hL) k) = ev 18446744073709551616 (xs.drop (xs.length - k)) % p := by
  intro k
  induction k with
  | zero => intro _; rw [Nat.sub_zero, List.drop_length]; simp [remOf, upto, ev_nil]
  | succ k ih =>
    intro hk
    rw [upto_succ, remOf_snoc, ih (by omega)]
    have e : xs.length - (k + 1) < xs.length := by omega
    rw [drop_cons_nth e, ev_cons', show xs.length - (k + 1) + 1 = xs.length - k by omega]
    show (_ % p * 18446744073709551616 + nth xs (xs.length - 1 - k)) % p = _
    rw [show xs.length - 1 - k = xs.length - (k + 1) by omega, Nat.add_mod, Nat.mod_mul_mod, ← Nat.add_mod, Nat.mul_comm, Nat.add_comm]
theorem neg_rest {v p : Nat} (hp : 0 < p) : (-(v : Int)) % (p : Int) = (((p - v % p) % p : Nat) : Int) := by
  have hlt := Nat.mod_lt v hp
  have h1 : (v : Int) = (p : Int) * ((v / p : Nat) : Int) + ((v % p : Nat) : Int) := by exact_mod_cast (Nat.div_add_mod v p).symm
  rw [show (-(v : Int)) = ((p - v % p : Nat) : Int) + (p : Int) * (-((v / p : Nat) : Int) - 1) by
    rw [Int.ofNat_sub (by omega)]
    generalize ((v / p : Nat) : Int) = q at h1 ⊢
    generalize ((v % p : Nat) : Int) = t at h1 ⊢
    rw [h1]
    grind, Int.add_mul_emod_self_left, ← Int.natCast_emod]
def OfAt (gf ga gp gr ab p R : Nat) (s : Bool) (A : Option Addr) (n c : Nat) (W : World) : Prop :=
  (W.cell? ⟨gf, 0, none⟩ = some (.int .u64 (ab : Int)) ∧ W.cell? ⟨ga, 0, none⟩ = some (.bool s)) ∧ W.cell? ⟨gp, 0, none⟩ = some (.int .u64 (p : Int)) ∧ W.cell? ⟨gr, 0, none⟩ = some (.int .u64 (R : Int)) ∧ W.frozen? ⟨gr, 0, none⟩ = false
theorem keepsOthers_below {W W' : World} (h : Below W.heap.size W W') : KeepsOthers W W' := ⟨h.size, fun k o hk _ => (h.block k (Array.getElem?_eq_some_iff.1 hk).1).trans hk⟩
theorem OfAt.own (gf ga gp gr ab p : Nat) (s : Bool) (A : Option Addr) (n c : Nat) (f : List Wd → Nat) : Own (fun pre W => OfAt gf ga gp gr ab p (f pre) s A n c W) := fun l W W' row ⟨⟨h1, h2⟩, h3, h4, h5⟩ hg hr =>
  ⟨⟨cell_kept h1 hg hr, cell_kept h2 hg hr⟩, cell_kept h3 hg hr, cell_kept h4 hg hr, (frozen_kept h4 hg hr).trans h5⟩
theorem OfAt.below {gf ga gp gr ab p R : Nat} {s : Bool} {A : Option Addr} {n c : Nat} {W W' : World} (h : OfAt gf ga gp gr ab p R s A n c W) (hb : Below W.heap.size W W') : OfAt gf ga gp gr ab p R s A n c W' := by
  obtain ⟨⟨h1, h2⟩, h3, h4, h5⟩ := h
  exact ⟨⟨(hb.cell (p := ⟨gf, 0, none⟩) (World.block_lt_of_cell? _ _ h1)).trans h1, (hb.cell (p := ⟨ga, 0, none⟩) (World.block_lt_of_cell? _ _ h2)).trans h2⟩,
    (hb.cell (p := ⟨gp, 0, none⟩) (World.block_lt_of_cell? _ _ h3)).trans h3, (hb.cell (p := ⟨gr, 0, none⟩) (World.block_lt_of_cell? _ _ h4)).trans h4, (hb.frozen (p := ⟨gr, 0, none⟩) (World.block_lt_of_cell? _ _ h4)).trans h5⟩
theorem OfAt.put {gf ga gp gr ab p R Q : Nat} {s : Bool} {A : Option Addr} {n c : Nat} {W : World} (h : OfAt gf ga gp gr ab p R s A n c W) (e1 : gf ≠ gr) (e2 : ga ≠ gr) (e3 : gp ≠ gr) :
    OfAt gf ga gp gr ab p Q s A n c (W.setCell ⟨gr, 0, none⟩ (.int .u64 (Q : Int))) := by
  obtain ⟨⟨h1, h2⟩, h3, h4, h5⟩ := h
  refine ⟨⟨?_, ?_⟩, ?_, World.cell?_setCell_same' _ _ _ (by rw [h4]; rfl), by rw [World.frozen?_setCell]; exact h5⟩
  · rw [World.cell?_setCell_other _ _ _ _ (by simp [e1])]; exact h1
  · rw [World.cell?_setCell_other _ _ _ _ (by simp [e2])]; exact h2
  · rw [World.cell?_setCell_other _ _ _ _ (by simp [e3])]; exact h3
set_option maxRecDepth 100000 in
set_option maxHeartbeats 4000000 in
theorem fof_v {ab p r n c : Nat} {s : Bool} {A : Option Addr} {z : Int} {w : World} (hp : ab + 2 = p) (h : p < 2147483648) (hz : Zv w s A n c z) (hr : z % (p : Int) = (r : Int)) :
    Calls Tryz.prog 67 #[.agg #[.int .u64 (ab : Int)], .agg #[.bool s, .slice A n c]] w (UPost r w) := by
  obtain ⟨v, hv, hzv⟩ := hz
  obtain ⟨xs, hrd, hxl, hnc, hcm, hL, hev⟩ := hv
  have h2 : 2 ≤ p := by omega
  have HP := Lib.hid hp
  have HR : Hid ((if s then -(v : Int) else (v : Int)) % (p : Int) = (r : Int)) := Lib.hid (by rw [← hr, hzv.out]; cases s <;> rfl)
  have HV : Hid (ev 18446744073709551616 xs = v) := Lib.hid hev
  have hAb : ∀ ad, A = some ad → 0 < xs.length → ad.block < w.heap.size := fun ad ha h0 => by obtain ⟨ad', e, hlt, _⟩ := hrd h0; rw [e] at ha; cases ha; exact hlt
  subst hxl
  clear hp hzv hr hev
  refine (callsIn_wide (n := 5)).1 ?_
  refine callsIn_of_wp_marks Tryz.func67 rfl trivial ?_ rfl
  simp only [Tryz.ntmps67, List.size_toArray, List.length_cons, List.length_nil, Nat.reduceAdd, Nat.reduceSub, Array.replicate_succ, Array.replicate_zero, List.push_toArray, List.append_toArray, List.nil_append, List.cons_append]
  gi_wp2_with fail
  refine ⟨trivial, (callsIn_wide.2 (fp_v HP.out h _)).mono ?_⟩
  rintro e w1 ⟨rfl, B1⟩
  have I0 : Fb ((w.alloc (.cells #[.int .u64 (ab : Int)] 54)).alloc (.cells #[.bool s, .slice A xs.length c] 27)) w.heap.size ab := (Fb.new _ _ _).below (zba _ _)
  have I1 : Ib ((w.alloc (.cells #[.int .u64 (ab : Int)] 54)).alloc (.cells #[.bool s, .slice A xs.length c] 27)) (w.heap.size + 1) s A xs.length c := by
    have := Ib.new (w.alloc (.cells #[.int .u64 (ab : Int)] 54)) s A xs.length c 27
    rwa [World.size_alloc] at this
  have hB1 : Below w.heap.size w w1 := (zba2 w _ _).trans (B1.mono (by simp; omega))
  replace I0 := I0.below B1
  replace I1 := I1.below B1
  have sz1 : w.heap.size + 2 ≤ w1.heap.size := by have := B1.size; simp at this; omega
  clear B1
  obtain ⟨f1, f2, f3⟩ := I0
  obtain ⟨a1, a2, a3, a4, a5⟩ := I1
  gi_wp2_with fail
  refine ⟨trivial, (callsIn_wide.2 (back_in A _ c _)).mono ?_⟩
  rintro e w2 ⟨rfl, rfl⟩
  obtain ⟨W2, hW2⟩ : ∃ W2, ((w1.alloc (.cells #[.int .u64 (p : Int)] 52)).alloc (.cells #[.int .u64 0] 52)).alloc (.cells #[.slice A xs.length c] 25) = W2 := ⟨_, rfl⟩
  have bP := Boxed.new w1 52 (.int .u64 (p : Int))
  have bR := Boxed.new (w1.alloc (.cells #[.int .u64 (p : Int)] 52)) 52 (.int .u64 0)
  have bN := Boxed.new ((w1.alloc (.cells #[.int .u64 (p : Int)] 52)).alloc (.cells #[.int .u64 0] 52)) 25 (.slice A xs.length c)
  rw [World.size_alloc] at bR
  rw [World.size_alloc, World.size_alloc] at bN
  have B2 : Below w1.heap.size w1 W2 := by rw [← hW2]; exact zba3 _ _ _ _
  have hO : OfAt w.heap.size (w.heap.size + 1) w1.heap.size (w1.heap.size + 1) ab p 0 s A xs.length c W2 := by
    refine ⟨⟨(B2.cell (p := ⟨w.heap.size, 0, none⟩) (by show w.heap.size < _; omega)).trans f1, (B2.cell (p := ⟨w.heap.size + 1, 0, none⟩) (by show w.heap.size + 1 < _; omega)).trans a1⟩, ?_, ?_, ?_⟩
    · rw [← hW2]; exact ((bP.alloc _).alloc _).cell
    · rw [← hW2]; exact (bR.alloc _).cell
    · rw [← hW2]; exact (bR.alloc _).frozen
  have hN2 : W2.cell? ⟨w1.heap.size + 1 + 1, 0, none⟩ = some (.slice A xs.length c) := by rw [← hW2]; exact bN.cell
  have sz2 : W2.heap.size = w1.heap.size + 1 + 1 + 1 := by rw [← hW2]; simp
  have hB2 : Below w.heap.size w W2 := hB1.trans (B2.mono (by omega))
  rw [hW2]
  clear bP bR bN B2 f1 f2 f3 a1 a2 a3 a4 a5 hW2
  gi_wp2_with fail
  refine wpIn_rangeFunc_ownG rfl (by omega) (gf := 115) (lb := #[.pointer (some ⟨w1.heap.size + 1 + 1, 0, none⟩)]) rfl trivial (enters_of Tryz.func115 (by kernel_rfl) rfl)
    (back_stops Fence.wide _ trivial rfl (by omega) (w1.heap.size + 1 + 1) w.heap.size A c xs (by omega) hL hAb W2 (by omega) (by omega) hN2 (hrd.below hB2)) keepB_t (keepB_b (by omega) (by omega)) (Below.refl _ _) (fun _ => rfl)
    (fun pre W => (OfAt w.heap.size (w.heap.size + 1) w1.heap.size (w1.heap.size + 1) ab p (remOf p pre) s A xs.length c W ∧ w1.heap.size + 3 ≤ W.heap.size) ∧ Below w.heap.size w W)
    (fun _ _ _ => False)
    (OwnFrom.and (OwnFrom.and (Own.from (OfAt.own _ _ _ _ _ _ _ _ _ _ (remOf p)) _) (fun _ _ _ _ hs hg _ => Nat.le_trans hs hg.size)) (ownFrom_below (Nat.le_refl _) (by omega)))
    (fun _ _ _ _ _ hs _ _ => hs)
    ⟨⟨hO, by omega⟩, hB2⟩
    (fun x => { tmps := #[.agg #[.int .u64 (ab : Int)], .agg #[.bool s, .slice A xs.length c], .pointer (some ⟨w.heap.size, 0, none⟩), .pointer (some ⟨w.heap.size + 1, 0, none⟩), .int .u64 0, .pointer (some ⟨w1.heap.size, 0, none⟩), .pointer (some ⟨w1.heap.size + 1, 0, none⟩), undef, .int .u64 (x.1.2 : Int),
      .agg #[.int .u64 (ab : Int)], .int .u64 (p : Int), .pointer (some ⟨w.heap.size + 1, 1, none⟩), .slice A xs.length c, .func (.func 115) #[] #[.pointer (some ⟨w1.heap.size + 1 + 1, 0, none⟩)], .int .i64 (x.1.1 : Int), .int .u64 (x.1.2 : Int), undef, undef, undef, undef, undef, undef, undef, undef, undef, undef], defers := [] }) ?assign ?body ?done ?stop
  case assign =>
    intro l x W K hK
    gi_wp2
    exact hK
  case body =>
    rintro l pre x W ⟨⟨hOf, hsz⟩, hB⟩ _
    obtain ⟨R, hR⟩ : ∃ R, remOf p pre = R := ⟨_, rfl⟩
    have lR : R < p := hR ▸ remOf_lt (by omega) pre
    obtain ⟨Q, hQ⟩ : ∃ Q, (R * 18446744073709551616 + x.1.2) % p = Q := ⟨_, rfl⟩
    have hx := x.2
    have hS : remOf p (pre ++ [x]) = Q := by rw [remOf_snoc, hR, hQ]
    have HQ := Lib.hid hQ
    have HS := Lib.hid hS
    rw [hR] at hOf
    have HOf := Lib.hid hOf
    obtain ⟨⟨c1, c2⟩, c3, c4, c5⟩ := hOf
    obtain ⟨X, hX⟩ : ∃ X, x.1.2 = X := ⟨_, rfl⟩
    rw [hX] at HQ hx
    rw [hX]
    clear hQ hS hR hX
    gi_wp2_with fail
    refine ⟨trivial, (CallsIn.inRound l (callsIn_wide.2 (rem64_v hx (by omega) (by omega) HQ.out _))).mono ?_⟩
    rintro e W3 ⟨rfl, B3⟩
    have O3 := HOf.out.below B3
    have HO3 := Lib.hid O3
    obtain ⟨⟨d1, d2⟩, d3, d4, d5⟩ := O3
    clear c1 c2 c3 c4 c5
    gi_wp2_with fail
    refine ⟨((keepsOthers_below B3).trans (KeepsOthers.setCell _ _ _)).from _, ⟨(B3.mono (by omega)).setCell (p := ⟨w1.heap.size + 1, 0, none⟩) (by show w.heap.size ≤ w1.heap.size + 1; omega) _, ?_⟩, ?_, ?_⟩
    · rw [heap_setCell_other _ _ _ _ (by simp)]; exact B3.block _ (by omega)
    · rw [HS.out]; exact ⟨HO3.out.put (by omega) (by omega) (by omega), by have := B3.size; simp; omega⟩
    · exact (hB.trans (B3.mono hB.size)).setCell (p := ⟨w1.heap.size + 1, 0, none⟩) (by show w.heap.size ≤ w1.heap.size + 1; omega) _
  case done =>
    rintro D ys W hD rfl ⟨⟨hOf, hsz⟩, hB⟩ hK
    rw [remOf_upto p xs hL xs.length (Nat.le_refl _), Nat.sub_self, List.drop_zero, HV.out] at hOf
    obtain ⟨R, hR⟩ : ∃ R, v % p = R := ⟨_, rfl⟩
    have lR : R < p := hR ▸ Nat.mod_lt _ (by omega)
    rw [hR] at hOf
    have HOf := Lib.hid hOf
    obtain ⟨⟨c1, c2⟩, c3, c4, c5⟩ := hOf
    cases s
    · have e : R = r := by have := HR.out; simp at this; omega
      subst e
      gi_wp2_with fail
      refine ⟨by simp, .inl ⟨_, _, rfl, run_takeDeferred hK, ?_⟩⟩
      exact ⟨_, results_tmp rfl _ _ _, rfl, hB.trans (belowK_b (w := w) (Nat.le_refl _) _ D _ _ (by omega) hK rfl rfl)⟩
    · have e : (p - R % p) % p = r := by
        have := HR.out
        rw [if_pos rfl, neg_rest (by omega), hR] at this
        rw [Nat.mod_eq_of_lt lR]
        omega
      gi_wp2_with fail
      refine ⟨trivial, (callsIn_wide.2 (fneg_v HP.out h (by omega) e _)).mono ?_⟩
      rintro e w5 ⟨rfl, B5⟩
      have hK5 : w5.heap[D]? = some (.deferred (some [])) := (B5.block D (Array.getElem?_eq_some_iff.1 hK).1).trans hK
      have hB5 := hB.trans (B5.mono hB.size)
      gi_wp2_with fail
      refine ⟨by simp, .inl ⟨_, _, rfl, run_takeDeferred hK5, ?_⟩⟩
      exact ⟨_, results_tmp rfl _ _ _, rfl, hB5.trans (belowK_b (w := w) (Nat.le_refl _) _ D _ _ (by omega) hK5 rfl rfl)⟩
  case stop =>
    rintro D c pre W _ _ h _
    exact h.elim
end Go.Proofs.YtddbhhedjipjkaaGreatDoor
end

section
namespace Go.Proofs.YtddbhhedjipjkaaGreatDoor.MR
set_option linter.unusedVariables false
set_option linter.unusedSimpArgs false
theorem ap151 : apq 151 = true := by decide +kernel
theorem ap157 : apq 157 = true := by decide +kernel
theorem ap163 : apq 163 = true := by decide +kernel
theorem ap167 : apq 167 = true := by decide +kernel
theorem ap173 : apq 173 = true := by decide +kernel
theorem ap179 : apq 179 = true := by decide +kernel
theorem ap181 : apq 181 = true := by decide +kernel
theorem ap191 : apq 191 = true := by decide +kernel
theorem ap193 : apq 193 = true := by decide +kernel
end Go.Proofs.YtddbhhedjipjkaaGreatDoor.MR
end

section
namespace Go.Proofs.YtddbhhedjipjkaaGreatDoor.MR
set_option linter.unusedVariables false
set_option linter.unusedSimpArgs false
theorem ap197 : apq 197 = true := by decide +kernel
theorem ap199 : apq 199 = true := by decide +kernel
theorem ap211 : apq 211 = true := by decide +kernel
theorem apr217 : apRange 217 6 = true := by decide +kernel
theorem apr229 : apRange 229 5 = true := by decide +kernel
theorem apr239 : apRange 239 9 = true := by decide +kernel
theorem apr257 : apRange 257 7 = true := by decide +kernel
theorem apr271 : apRange 271 11 = true := by decide +kernel
end Go.Proofs.YtddbhhedjipjkaaGreatDoor.MR
end

section
namespace Go.Proofs.YtddbhhedjipjkaaGreatDoor.MR
set_option linter.unusedVariables false
set_option linter.unusedSimpArgs false
theorem apr293 : apRange 293 10 = true := by decide +kernel
theorem apr313 : apRange 313 18 = true := by decide +kernel
theorem apr349 : apRange 349 20 = true := by decide +kernel
theorem apr389 : apRange 389 27 = true := by decide +kernel
theorem apr443 : apRange 443 30 = true := by decide +kernel
theorem apr503 : apRange 503 55 = true := by decide +kernel
end Go.Proofs.YtddbhhedjipjkaaGreatDoor.MR
end

section
namespace Go.Proofs.YtddbhhedjipjkaaGreatDoor.MR
set_option linter.unusedVariables false
set_option linter.unusedSimpArgs false
theorem apr613 : apRange 613 74 = true := by decide +kernel
theorem apr761 : apRange 761 136 = true := by decide +kernel
theorem apr1033 : apRange 1033 287 = true := by decide +kernel
theorem apr1607 : apRange 1607 400 = true := by decide +kernel
theorem apr2407 : apRange 2407 400 = true := by decide +kernel
theorem apr3207 : apRange 3207 400 = true := by decide +kernel
theorem apr4007 : apRange 4007 400 = true := by decide +kernel
theorem apr4807 : apRange 4807 400 = true := by decide +kernel
theorem apr5607 : apRange 5607 400 = true := by decide +kernel
theorem apr6407 : apRange 6407 400 = true := by decide +kernel
theorem apr7207 : apRange 7207 400 = true := by decide +kernel
theorem apr8007 : apRange 8007 400 = true := by decide +kernel
theorem apr8807 : apRange 8807 400 = true := by decide +kernel
theorem apr9607 : apRange 9607 400 = true := by decide +kernel
theorem apr10407 : apRange 10407 400 = true := by decide +kernel
theorem apr11207 : apRange 11207 400 = true := by decide +kernel
theorem apr12007 : apRange 12007 400 = true := by decide +kernel
theorem apr12807 : apRange 12807 400 = true := by decide +kernel
theorem apr13607 : apRange 13607 400 = true := by decide +kernel
theorem apr14407 : apRange 14407 400 = true := by decide +kernel
theorem apr15207 : apRange 15207 400 = true := by decide +kernel
theorem apr16007 : apRange 16007 400 = true := by decide +kernel
theorem apr16807 : apRange 16807 400 = true := by decide +kernel
theorem apr17607 : apRange 17607 400 = true := by decide +kernel
theorem apr18407 : apRange 18407 400 = true := by decide +kernel
theorem apr19207 : apRange 19207 400 = true := by decide +kernel
theorem apr20007 : apRange 20007 400 = true := by decide +kernel
theorem apr20807 : apRange 20807 400 = true := by decide +kernel
theorem apr21607 : apRange 21607 400 = true := by decide +kernel
theorem apr22407 : apRange 22407 400 = true := by decide +kernel
theorem apr23207 : apRange 23207 400 = true := by decide +kernel
theorem apr24007 : apRange 24007 400 = true := by decide +kernel
theorem apr24807 : apRange 24807 400 = true := by decide +kernel
theorem apr25607 : apRange 25607 400 = true := by decide +kernel
theorem apr26407 : apRange 26407 400 = true := by decide +kernel
theorem apr27207 : apRange 27207 400 = true := by decide +kernel
theorem apr28007 : apRange 28007 400 = true := by decide +kernel
theorem apr28807 : apRange 28807 400 = true := by decide +kernel
theorem apr29607 : apRange 29607 400 = true := by decide +kernel
theorem apr30407 : apRange 30407 400 = true := by decide +kernel
theorem apr31207 : apRange 31207 400 = true := by decide +kernel
theorem apr32007 : apRange 32007 400 = true := by decide +kernel
theorem apr32807 : apRange 32807 400 = true := by decide +kernel
theorem apr33607 : apRange 33607 400 = true := by decide +kernel
theorem apr34407 : apRange 34407 400 = true := by decide +kernel
theorem apr35207 : apRange 35207 400 = true := by decide +kernel
theorem apr36007 : apRange 36007 400 = true := by decide +kernel
theorem apr36807 : apRange 36807 400 = true := by decide +kernel
theorem apr37607 : apRange 37607 400 = true := by decide +kernel
theorem apr38407 : apRange 38407 400 = true := by decide +kernel
theorem apr39207 : apRange 39207 400 = true := by decide +kernel
theorem apr40007 : apRange 40007 400 = true := by decide +kernel
theorem apr40807 : apRange 40807 400 = true := by decide +kernel
theorem apr41607 : apRange 41607 400 = true := by decide +kernel
theorem apr42407 : apRange 42407 400 = true := by decide +kernel
theorem apr43207 : apRange 43207 400 = true := by decide +kernel
theorem apr44007 : apRange 44007 400 = true := by decide +kernel
theorem apr44807 : apRange 44807 400 = true := by decide +kernel
theorem apr45607 : apRange 45607 367 = true := by decide +kernel
end Go.Proofs.YtddbhhedjipjkaaGreatDoor.MR
end

section
namespace Go.Proofs.YtddbhhedjipjkaaGreatDoor.MR
set_option linter.unusedVariables false
set_option linter.unusedSimpArgs false
theorem br11 : bRange 11 1000 = true := by decide +kernel
theorem br2011 : bRange 2011 1000 = true := by decide +kernel
theorem br4011 : bRange 4011 1000 = true := by decide +kernel
theorem br6011 : bRange 6011 1000 = true := by decide +kernel
theorem br8011 : bRange 8011 1000 = true := by decide +kernel
theorem br10011 : bRange 10011 1000 = true := by decide +kernel
theorem br12011 : bRange 12011 1000 = true := by decide +kernel
theorem br14011 : bRange 14011 1000 = true := by decide +kernel
theorem br16011 : bRange 16011 1000 = true := by decide +kernel
theorem br18011 : bRange 18011 1000 = true := by decide +kernel
theorem br20011 : bRange 20011 1000 = true := by decide +kernel
theorem br22011 : bRange 22011 1000 = true := by decide +kernel
theorem br24011 : bRange 24011 1000 = true := by decide +kernel
theorem br26011 : bRange 26011 1000 = true := by decide +kernel
theorem br28011 : bRange 28011 1000 = true := by decide +kernel
theorem br30011 : bRange 30011 1000 = true := by decide +kernel
theorem br32011 : bRange 32011 1000 = true := by decide +kernel
theorem br34011 : bRange 34011 1000 = true := by decide +kernel
theorem br36011 : bRange 36011 1000 = true := by decide +kernel
theorem br38011 : bRange 38011 1000 = true := by decide +kernel
theorem br40011 : bRange 40011 1000 = true := by decide +kernel
theorem br42011 : bRange 42011 1000 = true := by decide +kernel
theorem br44011 : bRange 44011 1000 = true := by decide +kernel
theorem br46011 : bRange 46011 165 = true := by decide +kernel
theorem ds11 : dfs [11, 13, 17, 19, 23, 29, 31, 37, 41, 43, 47, 53, 59, 61, 67, 71, 73, 79, 83, 89, 97, 101, 103, 107, 109, 113, 127, 131, 137, 139, 149] 11 = true := by decide +kernel
theorem ds13 : dfs [13, 17, 19, 23, 29, 31, 37, 41, 43, 47, 53, 59, 61, 67, 71, 73, 79, 83, 89, 97, 101, 103, 107, 109, 113, 127, 131, 137, 139, 149] 13 = true := by decide +kernel
theorem ds17 : dfs [17, 19, 23, 29, 31, 37, 41, 43, 47, 53, 59, 61, 67, 71, 73, 79, 83, 89, 97, 101, 103, 107, 109, 113, 127, 131, 137, 139, 149] 17 = true := by decide +kernel
theorem ds19 : dfs [19, 23, 29, 31, 37, 41, 43, 47, 53, 59, 61, 67, 71, 73, 79, 83, 89, 97, 101, 103, 107, 109, 113, 127, 131, 137, 139, 149] 19 = true := by decide +kernel
theorem ds23 : dfs [23, 29, 31, 37, 41, 43, 47, 53, 59, 61, 67, 71, 73, 79, 83, 89, 97, 101, 103, 107, 109, 113, 127, 131, 137, 139, 149] 23 = true := by decide +kernel
theorem ds29 : dfs [29, 31, 37, 41, 43, 47, 53, 59, 61, 67, 71, 73, 79, 83, 89, 97, 101, 103, 107, 109, 113, 127, 131, 137, 139, 149] 29 = true := by decide +kernel
theorem ds31 : dfs [31, 37, 41, 43, 47, 53, 59, 61, 67, 71, 73, 79, 83, 89, 97, 101, 103, 107, 109, 113, 127, 131, 137, 139, 149] 31 = true := by decide +kernel
theorem ds37 : dfs [37, 41, 43, 47, 53, 59, 61, 67, 71, 73, 79, 83, 89, 97, 101, 103, 107, 109, 113, 127, 131, 137, 139, 149] 37 = true := by decide +kernel
theorem ds41 : dfs [41, 43, 47, 53, 59, 61, 67, 71, 73, 79, 83, 89, 97, 101, 103, 107, 109, 113, 127, 131, 137, 139, 149] 41 = true := by decide +kernel
theorem ds43 : dfs [43, 47, 53, 59, 61, 67, 71, 73, 79, 83, 89, 97, 101, 103, 107, 109, 113, 127, 131, 137, 139, 149] 43 = true := by decide +kernel
theorem ds47 : dfs [47, 53, 59, 61, 67, 71, 73, 79, 83, 89, 97, 101, 103, 107, 109, 113, 127, 131, 137, 139, 149] 47 = true := by decide +kernel
theorem ds53 : dfs [53, 59, 61, 67, 71, 73, 79, 83, 89, 97, 101, 103, 107, 109, 113, 127, 131, 137, 139, 149] 53 = true := by decide +kernel
theorem ds59 : dfs [59, 61, 67, 71, 73, 79, 83, 89, 97, 101, 103, 107, 109, 113, 127, 131, 137, 139, 149] 59 = true := by decide +kernel
theorem ds61 : dfs [61, 67, 71, 73, 79, 83, 89, 97, 101, 103, 107, 109, 113, 127, 131, 137, 139, 149] 61 = true := by decide +kernel
theorem ds67 : dfs [67, 71, 73, 79, 83, 89, 97, 101, 103, 107, 109, 113, 127, 131, 137, 139, 149] 67 = true := by decide +kernel
theorem ds71 : dfs [71, 73, 79, 83, 89, 97, 101, 103, 107, 109, 113, 127, 131, 137, 139, 149] 71 = true := by decide +kernel
theorem ds73 : dfs [73, 79, 83, 89, 97, 101, 103, 107, 109, 113, 127, 131, 137, 139, 149] 73 = true := by decide +kernel
theorem ds79 : dfs [79, 83, 89, 97, 101, 103, 107, 109, 113, 127, 131, 137, 139, 149] 79 = true := by decide +kernel
theorem ds83 : dfs [83, 89, 97, 101, 103, 107, 109, 113, 127, 131, 137, 139, 149] 83 = true := by decide +kernel
theorem ds89 : dfs [89, 97, 101, 103, 107, 109, 113, 127, 131, 137, 139, 149] 89 = true := by decide +kernel
theorem ds97 : dfs [97, 101, 103, 107, 109, 113, 127, 131, 137, 139, 149] 97 = true := by decide +kernel
theorem ds101 : dfs [101, 103, 107, 109, 113, 127, 131, 137, 139, 149] 101 = true := by decide +kernel
theorem ds103 : dfs [103, 107, 109, 113, 127, 131, 137, 139, 149] 103 = true := by decide +kernel
theorem ds107 : dfs [107, 109, 113, 127, 131, 137, 139, 149] 107 = true := by decide +kernel
theorem ds109 : dfs [109, 113, 127, 131, 137, 139, 149] 109 = true := by decide +kernel
theorem ds113 : dfs [113, 127, 131, 137, 139, 149] 113 = true := by decide +kernel
theorem ds127 : dfs [127, 131, 137, 139, 149] 127 = true := by decide +kernel
theorem ds131 : dfs [131, 137, 139, 149] 131 = true := by decide +kernel
theorem ds137 : dfs [137, 139, 149] 137 = true := by decide +kernel
theorem ds139 : dfs [139, 149] 139 = true := by decide +kernel
theorem ds149 : dfs [149] 149 = true := by decide +kernel
end Go.Proofs.YtddbhhedjipjkaaGreatDoor.MR
end
