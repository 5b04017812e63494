/-
  Package fpoly: what is raised to the p; Irreducible.
-/
import Derived.Test.YthigedcpiglmnaaDoorFpF
import Derived.Test.YthigedcpiglmnaaDoorFpR
import Derived.Test.YthigedcpiglmnaaDoorPolF
import Derived.Deep.RegionLaw
/-! Contracts of polynomials over a field: what is raised to the p, Irreducible. -/
namespace Go.Proofs.YthigedcpiglmnaaDoor
open Go.RowKit
set_option linter.unusedVariables false
set_option linter.unusedSimpArgs false

/-- A struct of images in memory: its whole block. -/
def Fr (w : World) (g ab : Nat) (D : Option Addr) (m d : Nat) (S : Value) : Prop := w.heap[g]? = some (.cells #[.int .u64 (ab : Int), .slice D m d, S] 78 (0, 0))
section
variable {w w' : World} {g ab m d : Nat} {D : Option Addr} {S : Value}
theorem Fr.lt (h : Fr w g ab D m d S) : g < w.heap.size := (Array.getElem?_eq_some_iff.1 h).1
theorem Fr.below (h : Fr w g ab D m d S) (hb : Below w.heap.size w w') : Fr w' g ab D m d S := (hb.block g h.lt).trans h
theorem Fr.c0 (h : Fr w g ab D m d S) : w.cell? ⟨g, 0, none⟩ = some (.int .u64 (ab : Int)) := by rw [cell_of_row w g 0 _ _ _ h]; rfl
theorem Fr.c1 (h : Fr w g ab D m d S) : w.cell? ⟨g, 1, none⟩ = some (.slice D m d) := by rw [cell_of_row w g 1 _ _ _ h]; rfl
theorem Fr.c2 (h : Fr w g ab D m d S) : w.cell? ⟨g, 2, none⟩ = some S := by rw [cell_of_row w g 2 _ _ _ h]; rfl
theorem Fr.f2 (h : Fr w g ab D m d S) : w.frozen? ⟨g, 2, none⟩ = false := frozen_of_row w g 2 _ _ h
theorem Fr.put (h : Fr w g ab D m d S) (S' : Value) : Fr (w.setCell ⟨g, 2, none⟩ S') g ab D m d S' := heap_setCell_same w g 2 _ _ S' h
theorem Fr.new (w : World) (ab : Nat) (D : Option Addr) (m d : Nat) (S : Value) : Fr (w.alloc (.cells #[.int .u64 (ab : Int), .slice D m d, S] 78)) w.heap.size ab D m d S := heap_alloc_new w _
end
/-- The first k images, in a row that S names; their blocks are as X says. -/
def Ims (w : World) (b p : Nat) (ms : List Nat) (X : Nat → Prop) (k : Nat) (S : Value) : Prop :=
  ∃ vals : List Value, w.ownsRow b 23 1 S k vals ∧ (k = 0 → S = .slice none 0 0) ∧ ∀ i, i < k → ∃ ga n c, vals[i]? = some (.slice (some ⟨ga, 0, none⟩) n c) ∧ Lv w (some ⟨ga, 0, none⟩) n c (imf p ms i) ∧ ga < w.heap.size ∧ X ga
section
variable {w w' : World} {b p k : Nat} {ms : List Nat} {X : Nat → Prop} {S : Value}
theorem Ims.nil (w : World) (b p : Nat) (ms : List Nat) (X : Nat → Prop) : Ims w b p ms X 0 (.slice none 0 0) := ⟨[], World.ownsRow_nil w _ _ _, fun _ => rfl, fun i hi => by omega⟩
theorem Ims.below (h : Ims w b p ms X k S) (hb : Below w.heap.size w w') : Ims w' b p ms X k S := by
  obtain ⟨vals, h1, h0, h2⟩ := h
  refine ⟨vals, h1.kept (row := none) ⟨hb.os, hb.tape, hb.output, hb.size, fun k hk _ => hb.block k hk⟩ (by cases hv : S.ownBlock <;> simp), h0, fun i hi => ?_⟩
  obtain ⟨ga, n, c, e, hl, hlt, hX⟩ := h2 i hi
  exact ⟨ga, n, c, e, hl.below hb, Nat.lt_of_lt_of_le hlt hb.size, hX⟩
theorem Ims.mono {X' : Nat → Prop} (h : Ims w b p ms X k S) (hX : ∀ ga, ga < w.heap.size → X ga → X' ga) : Ims w b p ms X' k S := by
  obtain ⟨vals, h1, h0, h2⟩ := h
  refine ⟨vals, h1, h0, fun i hi => ?_⟩
  obtain ⟨ga, n, c, e, hl, hlt, hx⟩ := h2 i hi
  exact ⟨ga, n, c, e, hl, hlt, hX ga hlt hx⟩
/-- Where the row lies: nowhere, or in a block of its own. -/
theorem Ims.form (h : Ims w b p ms X k S) : ∃ A c, S = .slice A k c ∧ k ≤ c ∧ c ≤ 9223372036854775807 ∧ (0 < k → ∃ gr, A = some ⟨gr, 0, none⟩ ∧ b ≤ gr ∧ gr < w.heap.size) := by
  obtain ⟨vals, h1, h0, h2⟩ := h
  rcases h1.2 with ⟨rfl, rfl⟩ | ⟨gr, cap, cur, rfl, hb, hg, hn, hc, _⟩
  · exact ⟨none, 0, rfl, Nat.le_refl _, by omega, fun h => by omega⟩
  · exact ⟨_, cap, rfl, hn, by unfold maxLen at hc; omega, fun _ => ⟨gr, rfl, hb, (Array.getElem?_eq_some_iff.1 hg).1⟩⟩
theorem Ims.at {A : Option Addr} {c i : Nat} (h : Ims w b p ms X k (.slice A k c)) (hi : i < k) : ∃ gr ga n d, A = some ⟨gr, 0, none⟩ ∧ gr < w.heap.size ∧ w.cell? ⟨gr, i, none⟩ = some (.slice (some ⟨ga, 0, none⟩) n d) ∧ Lv w (some ⟨ga, 0, none⟩) n d (imf p ms i) ∧ ga < w.heap.size ∧ X ga := by
  obtain ⟨vals, h1, h0, h2⟩ := h
  obtain ⟨ga, n, d, e, hl, hlt, hx⟩ := h2 i hi
  rcases h1.2 with ⟨e1, e2⟩ | ⟨gr, cap, cur, e1, hb, hg, hn, hc, hcs, ht⟩
  · omega
  · injection e1 with e3 e4 e5
    subst e3
    refine ⟨gr, ga, n, d, rfl, (Array.getElem?_eq_some_iff.1 hg).1, ?_, hl, hlt, hx⟩
    rw [cell_of_row w gr i _ _ (0, 0) hg, ← e, ← ht, List.getElem?_take_of_lt (by omega)]
    simp
/-- A list of words at the beginning of a block stays while the row grows. -/
theorem Ims.keeps {G n c : Nat} {xs : List Nat} (h : Ims w b p ms X k S) (hL : Lv w (some ⟨G, 0, none⟩) n c xs) (hg : w.grownBy w' S.ownBlock) : Lv w' (some ⟨G, 0, none⟩) n c xs := by
  rcases Nat.eq_zero_or_pos n with rfl | hn
  · have e : xs = [] := List.length_eq_zero_iff.1 hL.len
    subst e
    exact ⟨Rd.nil _ _ _, rfl, hL.le, hL.cap, Low.nil _⟩
  refine ⟨hL.rd.grown hg fun ad ha e => ?_, hL.len, hL.le, hL.cap, hL.low⟩
  cases ha
  obtain ⟨vals, h1, h0, h2⟩ := h
  have hcell : w.cell? ⟨G, 0, none⟩ = some (.int .u64 (nth xs 0)) := by
    obtain ⟨ad, e1, _, e2⟩ := hL.at (k := 0) hn
    cases e1; rw [addr_add] at e2; exact e2
  rcases Nat.eq_zero_or_pos k with hk | hk
  · rw [h0 hk] at e; cases e
  · obtain ⟨ga, n', d, e1, _⟩ := h2 0 hk
    rcases h1.2 with ⟨e2, e3⟩ | ⟨gr, cap, cur, e2, hb, hgr, hn2, hc, hcs, ht⟩
    · omega
    · rw [e2] at e
      have e4 : G = gr := by simpa [Value.ownBlock] using e
      subst e4
      rw [cell_of_row w G 0 _ _ (0, 0) hgr] at hcell
      rw [← ht, List.getElem?_take_of_lt (by omega)] at e1
      simp at e1
      rw [e1] at hcell; cases hcell
end
/-- What lay ahead of the struct, and lists of words, stay. -/
def Kp (g : Nat) (w w' : World) : Prop := Below g w w' ∧ w.heap.size ≤ w'.heap.size ∧ (∀ {G n c xs}, Lv w (some ⟨G, 0, none⟩) n c xs → Lv w' (some ⟨G, 0, none⟩) n c xs) ∧ ∀ {G L}, Wr w G L → Wr w' G L
theorem Kp.refl (g : Nat) (w : World) : Kp g w w := ⟨Below.refl _ _, Nat.le_refl _, fun h => h, fun h => h⟩
theorem Kp.trans {g : Nat} {a b c : World} (h : Kp g a b) (k : Kp g b c) : Kp g a c := ⟨h.1.trans k.1, Nat.le_trans h.2.1 k.2.1, fun x => k.2.2.1 (h.2.2.1 x), fun x => k.2.2.2 (h.2.2.2 x)⟩
theorem Kp.of {g : Nat} {a b : World} (h : Below a.heap.size a b) (hg : g ≤ a.heap.size) : Kp g a b := ⟨h.mono hg, h.size, fun x => x.below h, fun x => x.below h⟩
theorem wr_ne {w : World} {G g : Nat} {L : List Nat} {cs : Array Value} {t : TypeId} {f : Nat × Nat} (h : Wr w G L) (hg : w.heap[g]? = some (.cells cs t f)) (ht : 26 ≠ t) : G ≠ g := fun e => by
  subst e
  obtain ⟨cur, h1, _⟩ := h
  rw [h1] at hg; cases hg; exact ht rfl
/-- The append of an image, and the store of the row. -/
theorem Ims.grow {w w' : World} {g p k ab m d n c ga : Nat} {ms : List Nat} {X : Nat → Prop} {S S' : Value} {D : Option Addr} (h : Ims w g p ms X k S) (hF : Fr w g ab D m d S) (hL : Lv w (some ⟨ga, 0, none⟩) n c (imf p ms k)) (hlt : ga < w.heap.size) (hX : X ga) {vals : List Value}
    (hv : w.ownsRow g 23 1 S k vals ∧ (k = 0 → S = .slice none 0 0) ∧ ∀ i, i < k → ∃ ga n c, vals[i]? = some (.slice (some ⟨ga, 0, none⟩) n c) ∧ Lv w (some ⟨ga, 0, none⟩) n c (imf p ms i) ∧ ga < w.heap.size ∧ X ga)
    (o1 : w'.ownsRow g 23 1 S' (k + 1) (vals ++ [.slice (some ⟨ga, 0, none⟩) n c])) (o2 : w.grownBy w' S.ownBlock) :
    Fr w' g ab D m d S ∧ Ims (w'.setCell ⟨g, 2, none⟩ S') g p ms X (k + 1) S' ∧ Kp g w (w'.setCell ⟨g, 2, none⟩ S') := by
  obtain ⟨h1, h0, h2⟩ := hv
  have hvl : vals.length = k := by have := h1.1; omega
  have hne : some g ≠ S.ownBlock := fun e => by
    rcases h1.2 with ⟨rfl, _⟩ | ⟨gr, cap, cur, rfl, hb, hgr, _⟩
    · cases e
    · have e4 : g = gr := by simpa [Value.ownBlock] using e
      subst e4
      unfold Fr at hF
      rw [hF] at hgr
      injection hgr with e5
      injection e5 with _ e6
      exact absurd e6 (by decide)
  have hF' : Fr w' g ab D m d S := (o2.block g hF.lt hne).trans hF
  have hsl : ∃ A n' c', S = .slice A n' c' := by
    rcases h1.2 with ⟨rfl, _⟩ | ⟨gr, cap, cur, rfl, _⟩
    · exact ⟨_, _, _, rfl⟩
    · exact ⟨_, _, _, rfl⟩
  obtain ⟨A1, n1, c1, rfl⟩ := hsl
  have lk : ∀ {G n c xs}, Lv w (some ⟨G, 0, none⟩) n c xs → Lv (w'.setCell ⟨g, 2, none⟩ S') (some ⟨G, 0, none⟩) n c xs := fun hx => (h.keeps hx o2).off hF'.c2 _
  refine ⟨hF', ⟨vals ++ [.slice (some ⟨ga, 0, none⟩) n c], ?_, fun e => by omega, fun i hi => ?_⟩, ?_, ?_, lk, ?_⟩
  · rcases o1.2 with ⟨rfl, e⟩ | ⟨gr, cap, cur, e1, hb, hgr, rest⟩
    · omega
    · have hgg : gr ≠ g := fun e => by
        subst e
        unfold Fr at hF'
        rw [hF'] at hgr
        injection hgr with e5
        injection e5 with _ e6
        exact absurd e6 (by decide)
      exact ⟨o1.1, .inr ⟨gr, cap, cur, e1, hb, (Below.heap_setCell w' ⟨g, 2, none⟩ _ gr hgg).trans hgr, rest⟩⟩
  · rcases Nat.lt_or_ge i k with hik | hik
    · obtain ⟨ga', n', c', e, hl, hlt', hx⟩ := h2 i hik
      exact ⟨ga', n', c', by rw [List.getElem?_append_left (by omega)]; exact e, lk hl, by simp; exact Nat.lt_of_lt_of_le hlt' o2.size, hx⟩
    · obtain rfl : i = k := by omega
      exact ⟨ga, n, c, by rw [List.getElem?_append_right (by omega), hvl]; simp, lk hL, by simp; exact Nat.lt_of_lt_of_le hlt o2.size, hX⟩
  · refine ((Below.refl g w).grown o2 (Nat.le_of_lt hF.lt) (fun k hk => (h1.lt k hk).1)).setCell (p := ⟨g, 2, none⟩) (Nat.le_refl _) _
  · simp; exact o2.size
  · intro G L hw
    have e1 : some G ≠ (Value.slice A1 n1 c1).ownBlock := fun e => by
      rcases h1.2 with ⟨e2, _⟩ | ⟨gr, cap, cur, e2, hb, hgr, _⟩
      · rw [e2] at e; cases e
      · rw [e2] at e
        have e4 : G = gr := by simpa [Value.ownBlock] using e
        exact wr_ne hw hgr (by decide) e4
    have hw' : Wr w' G L := by
      have hl := hw.lt
      obtain ⟨cur, a1, a2⟩ := hw; exact ⟨cur, (o2.block G hl e1).trans a1, a2⟩
    have hFF : w'.heap[g]? = some (.cells #[.int .u64 (ab : Int), .slice D m d, .slice A1 n1 c1] 78 (0, 0)) := hF'
    exact hw'.other (wr_ne hw' hFF (by decide)) _

/-! ### Loads -/
theorem run_ixm1 {w : World} {gr n c : Nat} (h : 1 < n) : (Instr.indexAt 76 (.slice (some ⟨gr, 0, none⟩) n c) (.int .i64 1)).run Tryd.prog w = .ok (.pointer (some ⟨gr, 1, none⟩)) w := by
  simp [go_sem, Tryd.underlying76, add_lit0]
  omega
theorem run_ixm {w : World} {gr n c k : Nat} (h : k < n) : (Instr.indexAt 76 (.slice (some ⟨gr, 0, none⟩) n c) (.int .i64 (k : Int))).run Tryd.prog w = .ok (.pointer (some ⟨gr, k, none⟩)) w := by
  simp [go_sem, Tryd.underlying76, add_lit0]
  omega
theorem run_ldm {w : World} {q : Addr} {S : Value} {A : Option Addr} {n c : Nat} (hS : S = .slice A n c) (h : w.cell? q = some S) : (Instr.loadAt 76 (.pointer (some q))).run Tryd.prog w = .ok (.slice A n c) w := by
  subst hS; simp [go_sem, h]
theorem run_ldp {w : World} {q : Addr} {A : Option Addr} {n c : Nat} (h : w.cell? q = some (.slice A n c)) : (Instr.loadAt 23 (.pointer (some q))).run Tryd.prog w = .ok (.slice A n c) w := by
  simp [go_sem, h]
theorem run_bs1 {w : World} : (Instr.buildSlice 23 1 #[(0, .int .u64 1)]).run Tryd.prog w = .ok (.slice (some ⟨w.heap.size, 0, none⟩) 1 1) (w.alloc (.cells #[.int .u64 1] 26)) := by kernel_rfl
theorem run_bsx {w : World} : (Instr.buildSlice 23 2 #[(0, .int .u64 0), (1, .int .u64 1)]).run Tryd.prog w = .ok (.slice (some ⟨w.heap.size, 0, none⟩) 2 2) (w.alloc (.cells #[.int .u64 0, .int .u64 1] 26)) := by kernel_rfl
theorem lv_x {w : World} : Lv (w.alloc (.cells #[.int .u64 0, .int .u64 1] 26)) (some ⟨w.heap.size, 0, none⟩) 2 2 [0, 1] :=
  Lv.wr (xs := [0, 1]) ⟨_, heap_alloc_new w _, fun j hj => by
    have : j = 0 ∨ j = 1 := by simp at hj; omega
    rcases this with rfl | rfl <;> rfl⟩ (by decide) (by decide) (fun k hk => by
    have : k = 0 ∨ k = 1 := by simp at hk; omega
    rcases this with rfl | rfl <;> decide)
theorem hop_mem9 {P : Program} {ops : Array Oper} {Q : Exit → Act → World → Prop} {o : Oper} {a : Act} {w w' : World} {K : Act → World → Prop} {v : Value} (hw : Region.wanted o (yielded ops a.tmps) = true) (he : (execOp a.eval o).run P w = .ok (.value v) w') (hK : K (a.put o.dst v) w') : if Region.wanted o (yielded ops a.tmps) = true then o.wp P a w K Q else K (a.put o.dst undef) w := by
  rw [if_pos hw]
  unfold Oper.wp
  rw [he]
  exact hK
set_option maxRecDepth 100000 in
set_option maxHeartbeats 1000000 in
/-- another: the image behind those that there are. -/
theorem another_z {ab p g m d k : Nat} {D : Option Addr} {ms : List Nat} {S : Value} {X : Nat → Prop} {w : World} (hp : ab + 2 = p) (h : p < 2147483648) (hpr : MR.Pr p) (hF : Fr w g ab D m d S) (hz : Lv w D m d ms) (hm : m ≤ 549755813888) (nm : Nm p ms) (m2 : 2 ≤ m) (hI : Ims w g p ms X k S) :
    Calls Tryd.prog 68 #[.pointer (some ⟨g, 0, none⟩)] w (LZ (imf p ms k) w) := by
  have hW := Below.refl w.heap.size w
  obtain ⟨SA, Sc, hS, hkc, hcm, hrow⟩ := hI.form
  subst hS
  have hlm := hz.len
  have m0 : ms ≠ [] := fun e => by rw [e] at hlm; simp at hlm; omega
  have HM0 := Lib.hid m0
  have HP := Lib.hid hp
  have HNM := Lib.hid nm
  have c0 := hF.c0
  have c1 := hF.c1
  have c2 := hF.c2
  clear hp m0 nm
  go_enter Tryd.func68, Tryd.ntmps68
  rcases Nat.eq_zero_or_pos k with rfl | hk0
  · have HE := Lib.hid (imf_one hpr HNM.out (by rw [hlm]; exact m2))
    go_wp2_with fail
    rw [HE.out]
    exact bodyPost_ret (v := .slice (some ⟨w.heap.size, 0, none⟩) 1 1) (by simp [results, Tryd.results68, go_sem]) rfl ⟨_, _, _, rfl, ⟨lv_one w, _, rfl, Nat.le_refl _, by simp⟩, zba w _⟩
  rcases Nat.eq_or_lt_of_le hk0 with hk1 | hk1
  · obtain rfl : k = 1 := by omega
    have lp := hpr.1
    have nx := (rs_zero hpr ms).1
    go_wp2_with fail
    refine region8 [] 15 [IsK (.pointer (some ⟨g, 0, none⟩)), IsK (.pointer (some ⟨g, 0, none⟩)), IsK (.pointer (some ⟨g, 0, none⟩)), IsK (.agg #[.int .u64 (ab : Int)]), IsP [0, 1], IsK (.pointer (some ⟨g, 0, none⟩)), IsK (.pointer (some ⟨g, 0, none⟩)), IsK (.pointer (some ⟨g, 0, none⟩)), IsK (.agg #[.int .u64 (ab : Int)]), IsK (.int .u64 (p : Int)), IsK (.pointer (some ⟨g, 0, none⟩)), IsK (.pointer (some ⟨g, 0, none⟩)), IsK (.pointer (some ⟨g, 1, none⟩)), IsK (.slice D m d), IsPz w.heap.size (remP p (pw p [0, 1] p) ms)] (fun _ _ d _ _ h => by cases d <;> exact h) (by kernel_rfl) (by kernel_rfl) (by kernel_rfl) ⟨stay_k _, stay_k _, stay_k _, stay_k _, stay_p _, stay_k _, stay_k _, stay_k _, stay_k _, stay_k _, stay_k _, stay_k _, stay_k _, stay_k _, stay_pz _ _, trivial⟩ ?_ ?_
    · refine HopAll.cons rfl ?_ (HopAll.cons rfl ?_ (HopAll.cons rfl ?_ (HopAll.cons rfl ?_ (HopAll.cons rfl ?_ (HopAll.cons rfl ?_ (HopAll.cons rfl ?_ (HopAll.cons rfl ?_ (HopAll.cons rfl ?_ (HopAll.cons rfl ?_ (HopAll.cons rfl ?_ (HopAll.cons rfl ?_ (HopAll.cons rfl ?_ (HopAll.cons rfl ?_ (HopAll.cons rfl ?_ HopAll.nil))))))))))))))
      · intro a w1 hB ho hp K hK
        have e0 : a.eval (.tmp 0) = (.pointer (some ⟨g, 0, none⟩)) := ho 0 (by kernel_rfl)
        refine hop_val (wanted_none rfl) ?_ (hK (.pointer (some ⟨g, 0, none⟩)) _ rfl (Below.refl _ _))
        unfold execOp; simp only [eval_const, e0]; simp [go_sem]
      · intro a w1 hB ho hp K hK
        have e38 : a.eval (.tmp 38) = (.pointer (some ⟨g, 0, none⟩)) := hp 0 38 (by kernel_rfl)
        refine hop_val (wanted_none rfl) ?_ (hK (.pointer (some ⟨g, 0, none⟩)) _ rfl (Below.refl _ _))
        unfold execOp; simp only [eval_const, e38]; simp [go_sem]
      · intro a w1 hB ho hp K hK
        have e39 : a.eval (.tmp 39) = (.pointer (some ⟨g, 0, none⟩)) := hp 1 39 (by kernel_rfl)
        refine hop_val (wanted_none rfl) ?_ (hK (.pointer (some ⟨g, 0, none⟩)) _ rfl (Below.refl _ _))
        unfold execOp; simp only [eval_const, e39]; simp [go_sem]
      · intro a w1 hB ho hp K hK
        have e40 : a.eval (.tmp 40) = (.pointer (some ⟨g, 0, none⟩)) := hp 2 40 (by kernel_rfl)
        exact hop_load (wanted_none rfl) rfl e40 (run_ldf (hF.below hB).c0) (hK _ _ rfl (Below.refl _ _))
      · intro a w1 hB ho hp K hK
        refine hop_mem9 (wanted_none rfl) ?_ (hK _ _ ⟨_, _, _, rfl, lv_x⟩ (zba _ _))
        unfold execOp; simp only [List.map_toArray, List.map_cons, List.map_nil, eval_const]; simp [run_bsx]
      · intro a w1 hB ho hp K hK
        have e0 : a.eval (.tmp 0) = (.pointer (some ⟨g, 0, none⟩)) := ho 0 (by kernel_rfl)
        refine hop_val (wanted_none rfl) ?_ (hK (.pointer (some ⟨g, 0, none⟩)) _ rfl (Below.refl _ _))
        unfold execOp; simp only [eval_const, e0]; simp [go_sem]
      · intro a w1 hB ho hp K hK
        have e43 : a.eval (.tmp 43) = (.pointer (some ⟨g, 0, none⟩)) := hp 5 43 (by kernel_rfl)
        refine hop_val (wanted_none rfl) ?_ (hK (.pointer (some ⟨g, 0, none⟩)) _ rfl (Below.refl _ _))
        unfold execOp; simp only [eval_const, e43]; simp [go_sem]
      · intro a w1 hB ho hp K hK
        have e44 : a.eval (.tmp 44) = (.pointer (some ⟨g, 0, none⟩)) := hp 6 44 (by kernel_rfl)
        refine hop_val (wanted_none rfl) ?_ (hK (.pointer (some ⟨g, 0, none⟩)) _ rfl (Below.refl _ _))
        unfold execOp; simp only [eval_const, e44]; simp [go_sem]
      · intro a w1 hB ho hp K hK
        have e45 : a.eval (.tmp 45) = (.pointer (some ⟨g, 0, none⟩)) := hp 7 45 (by kernel_rfl)
        exact hop_load (wanted_none rfl) rfl e45 (run_ldf (hF.below hB).c0) (hK _ _ rfl (Below.refl _ _))
      · intro a w1 hB ho hp K hK
        have e46 : a.eval (.tmp 46) = (.agg #[.int .u64 (ab : Int)]) := hp 8 46 (by kernel_rfl)
        refine hop_call (wanted_none rfl) rfl (args := #[(.agg #[.int .u64 (ab : Int)])]) (by simp only [List.map_toArray, List.map_cons, List.map_nil, eval_const, e46]) (ent7 (by kernel_rfl) _ _) (fp_v HP.out h _) ?_
        rintro e w2 ⟨rfl, B⟩
        exact ⟨_, rfl, hK _ _ rfl B⟩
      · intro a w1 hB ho hp K hK
        have e0 : a.eval (.tmp 0) = (.pointer (some ⟨g, 0, none⟩)) := ho 0 (by kernel_rfl)
        refine hop_val (wanted_none rfl) ?_ (hK (.pointer (some ⟨g, 0, none⟩)) _ rfl (Below.refl _ _))
        unfold execOp; simp only [eval_const, e0]; simp [go_sem]
      · intro a w1 hB ho hp K hK
        have e48 : a.eval (.tmp 48) = (.pointer (some ⟨g, 0, none⟩)) := hp 10 48 (by kernel_rfl)
        refine hop_val (wanted_none rfl) ?_ (hK (.pointer (some ⟨g, 0, none⟩)) _ rfl (Below.refl _ _))
        unfold execOp; simp only [eval_const, e48]; simp [go_sem]
      · intro a w1 hB ho hp K hK
        have e49 : a.eval (.tmp 49) = (.pointer (some ⟨g, 0, none⟩)) := hp 11 49 (by kernel_rfl)
        refine hop_val (wanted_none rfl) ?_ (hK (.pointer (some ⟨g, 1, none⟩)) _ rfl (Below.refl _ _))
        unfold execOp; simp only [eval_const, e49]; simp [go_sem]
      · intro a w1 hB ho hp K hK
        have e50 : a.eval (.tmp 50) = (.pointer (some ⟨g, 1, none⟩)) := hp 12 50 (by kernel_rfl)
        exact hop_load (wanted_none rfl) rfl e50 (run_ldp (hF.below hB).c1) (hK _ _ rfl (Below.refl _ _))
      · intro a w1 hB ho hp K hK
        have e41 : a.eval (.tmp 41) = (.agg #[.int .u64 (ab : Int)]) := hp 3 41 (by kernel_rfl)
        obtain ⟨A_42, n_42, c_42, e42, p42⟩ : IsP [0, 1] (a.eval (.tmp 42)) w1 := hp 4 42 (by kernel_rfl)
        have e47 : a.eval (.tmp 47) = (.int .u64 (p : Int)) := hp 9 47 (by kernel_rfl)
        have e51 : a.eval (.tmp 51) = (.slice D m d) := hp 13 51 (by kernel_rfl)
        refine hop_call (wanted_none rfl) rfl (args := #[(.agg #[.int .u64 (ab : Int)]), (.slice A_42 n_42 c_42), (.int .u64 (p : Int)), (.slice D m d)]) (by simp only [List.map_toArray, List.map_cons, List.map_nil, eval_const, e41, e42, e47, e51]) (ent7 (by kernel_rfl) _ _) (power9_z HP.out h p42 (by rw [← p42.len]; decide) (hz.below hB) hm (show p < 18446744073709551616 by omega) hpr nx HNM.out HM0.out) ?_
        rintro e w2 ⟨A, n, c, rfl, ⟨p, q⟩, B⟩
        exact ⟨_, rfl, hK _ _ ⟨A, n, c, rfl, p, q.mono (by have := hB.size; have := hW.size; omega)⟩ B⟩
    intro w21 B21
    refine EndAll.one rfl fun vv hv => ?_
    obtain rfl : vv = (.pointer (some ⟨g, 0, none⟩)) := hv
    refine EndAll.one rfl fun vv hv => ?_
    obtain rfl : vv = (.pointer (some ⟨g, 0, none⟩)) := hv
    refine EndAll.one rfl fun vv hv => ?_
    obtain rfl : vv = (.pointer (some ⟨g, 0, none⟩)) := hv
    refine EndAll.one rfl fun vv hv => ?_
    obtain rfl : vv = (.agg #[.int .u64 (ab : Int)]) := hv
    refine EndAll.one rfl fun vv hv => ?_
    obtain ⟨A22, n22, c22, rfl, p22⟩ : IsP [0, 1] vv w21 := hv
    refine EndAll.one rfl fun vv hv => ?_
    obtain rfl : vv = (.pointer (some ⟨g, 0, none⟩)) := hv
    refine EndAll.one rfl fun vv hv => ?_
    obtain rfl : vv = (.pointer (some ⟨g, 0, none⟩)) := hv
    refine EndAll.one rfl fun vv hv => ?_
    obtain rfl : vv = (.pointer (some ⟨g, 0, none⟩)) := hv
    refine EndAll.one rfl fun vv hv => ?_
    obtain rfl : vv = (.agg #[.int .u64 (ab : Int)]) := hv
    refine EndAll.one rfl fun vv hv => ?_
    obtain rfl : vv = (.int .u64 (p : Int)) := hv
    refine EndAll.one rfl fun vv hv => ?_
    obtain rfl : vv = (.pointer (some ⟨g, 0, none⟩)) := hv
    refine EndAll.one rfl fun vv hv => ?_
    obtain rfl : vv = (.pointer (some ⟨g, 0, none⟩)) := hv
    refine EndAll.one rfl fun vv hv => ?_
    obtain rfl : vv = (.pointer (some ⟨g, 1, none⟩)) := hv
    refine EndAll.one rfl fun vv hv => ?_
    obtain rfl : vv = (.slice D m d) := hv
    refine EndAll.one rfl fun vv hv => ?_
    obtain ⟨A23, n23, c23, rfl, p23⟩ : IsPz w.heap.size (remP p (pw p [0, 1] p) ms) vv w21 := hv
    refine EndAll.nil (l := [_]) rfl ?_
    simp only [Act.put, List.setIfInBounds_toArray, List.set_cons_zero, List.set_cons_succ]
    replace hF := hF.below B21
    replace hz := hz.below B21
    replace hI := hI.below B21
    replace hW := hW.trans (B21.mono hW.size)
    have rr := p23
    clear p22 p23
    clear B21
    obtain ⟨rr, rz⟩ := rr
    have HE : Hid (remP p (pw p [0, 1] p) ms = imf p ms 1) := Lib.hid (by unfold imf; rw [Nat.mul_one])
    rw [HE.out] at rr
    clear c0 c1 c2
    go_wp2_with fail
    exact bodyPost_ret (v := (.slice A23 n23 c23)) (by simp [results, Tryd.results68, go_sem]) rfl ⟨_, _, _, rfl, ⟨rr, rz⟩, hW⟩
  · obtain ⟨q, rfl⟩ : ∃ q, k = q + 1 := ⟨k - 1, by omega⟩
    obtain ⟨gr, g1, n1, d1, rfl, hgr, e1, l1, _⟩ := hI.at (i := 1) (by omega)
    obtain ⟨gr2, g2, n2, d2, e0, hgr2, e2, l2, _⟩ := hI.at (i := q) (by omega)
    obtain rfl : gr = gr2 := by cases e0; rfl
    clear e0
    have hq1 : ((q + 1 : Nat) : Int) - 1 = (q : Int) := by omega
    have hwq : IntKind.i64.wrap (((q + 1 : Nat) : Int) - 1) = (q : Int) := by rw [IntKind.wrap_i64]; omega
    have hwq3 : IntKind.i64.wrap (q : Int) = (q : Int) := by rw [IntKind.wrap_i64]; omega
    have hwq2 : IntKind.i64.wrap ((q : Int) + 1 - 1) = (q : Int) := by rw [IntKind.wrap_i64]; omega
    have hne0 : (((q + 1 : Nat) : Int) == 0) = false := by rw [beq_eq_false_iff_ne]; omega
    have hne1 : (((q + 1 : Nat) : Int) == 1) = false := by rw [beq_eq_false_iff_ne]; omega
    have hne2 : ((q : Int) + 1 == 0) = false := by rw [beq_eq_false_iff_ne]; omega
    have hne3 : ((q : Int) + 1 == 1) = false := by rw [beq_eq_false_iff_ne]; omega
    have b1 := imf_len hpr HNM.out HM0.out 1
    have b2 := imf_len hpr HNM.out HM0.out q
    rw [l1.len, hlm] at b1
    rw [l2.len, hlm] at b2
    have HE := Lib.hid (imf_next hpr HNM.out HM0.out q)
    have N1 := Lib.hid (imf_nm hpr HNM.out HM0.out 1)
    have N2 := Lib.hid (imf_nm hpr HNM.out HM0.out q)
    have HL1 := Lib.hid l1
    have HL2 := Lib.hid l2
    clear l1 l2
    go_wp2_with fail
    refine region8 [] 23 [IsK (.pointer (some ⟨g, 0, none⟩)), IsK (.pointer (some ⟨g, 0, none⟩)), IsK (.pointer (some ⟨g, 0, none⟩)), IsK (.agg #[.int .u64 (ab : Int)]), IsK (.pointer (some ⟨g, 0, none⟩)), IsK (.pointer (some ⟨g, 0, none⟩)), IsK (.pointer (some ⟨g, 2, none⟩)), IsK (.slice (some ⟨gr, 0, none⟩) (q + 1) Sc), IsK (.pointer (some ⟨gr, 1, none⟩)), IsK (.slice (some ⟨g1, 0, none⟩) n1 d1), IsK (.pointer (some ⟨g, 0, none⟩)), IsK (.pointer (some ⟨g, 0, none⟩)), IsK (.pointer (some ⟨g, 2, none⟩)), IsK (.slice (some ⟨gr, 0, none⟩) (q + 1) Sc), IsK (.int .i64 ((q : Int) + 1)), IsK (.int .i64 (q : Int)), IsK (.pointer (some ⟨gr, q, none⟩)), IsK (.slice (some ⟨g2, 0, none⟩) n2 d2), IsK (.pointer (some ⟨g, 0, none⟩)), IsK (.pointer (some ⟨g, 0, none⟩)), IsK (.pointer (some ⟨g, 1, none⟩)), IsK (.slice D m d), IsPz w.heap.size (remP p (mulp p (imf p ms 1) (imf p ms q)) ms)] (fun _ _ d _ _ h => by cases d <;> exact h) (by kernel_rfl) (by kernel_rfl) (by kernel_rfl) ⟨stay_k _, stay_k _, stay_k _, stay_k _, stay_k _, stay_k _, stay_k _, stay_k _, stay_k _, stay_k _, stay_k _, stay_k _, stay_k _, stay_k _, stay_k _, stay_k _, stay_k _, stay_k _, stay_k _, stay_k _, stay_k _, stay_k _, stay_pz _ _, trivial⟩ ?_ ?_
    · refine HopAll.cons rfl ?_ (HopAll.cons rfl ?_ (HopAll.cons rfl ?_ (HopAll.cons rfl ?_ (HopAll.cons rfl ?_ (HopAll.cons rfl ?_ (HopAll.cons rfl ?_ (HopAll.cons rfl ?_ (HopAll.cons rfl ?_ (HopAll.cons rfl ?_ (HopAll.cons rfl ?_ (HopAll.cons rfl ?_ (HopAll.cons rfl ?_ (HopAll.cons rfl ?_ (HopAll.cons rfl ?_ (HopAll.cons rfl ?_ (HopAll.cons rfl ?_ (HopAll.cons rfl ?_ (HopAll.cons rfl ?_ (HopAll.cons rfl ?_ (HopAll.cons rfl ?_ (HopAll.cons rfl ?_ (HopAll.cons rfl ?_ HopAll.nil))))))))))))))))))))))
      · intro a w1 hB ho hp K hK
        have e0 : a.eval (.tmp 0) = (.pointer (some ⟨g, 0, none⟩)) := ho 0 (by kernel_rfl)
        refine hop_val (wanted_none rfl) ?_ (hK (.pointer (some ⟨g, 0, none⟩)) _ rfl (Below.refl _ _))
        unfold execOp; simp only [eval_const, e0]; simp [go_sem]
      · intro a w1 hB ho hp K hK
        have e10 : a.eval (.tmp 10) = (.pointer (some ⟨g, 0, none⟩)) := hp 0 10 (by kernel_rfl)
        refine hop_val (wanted_none rfl) ?_ (hK (.pointer (some ⟨g, 0, none⟩)) _ rfl (Below.refl _ _))
        unfold execOp; simp only [eval_const, e10]; simp [go_sem]
      · intro a w1 hB ho hp K hK
        have e11 : a.eval (.tmp 11) = (.pointer (some ⟨g, 0, none⟩)) := hp 1 11 (by kernel_rfl)
        refine hop_val (wanted_none rfl) ?_ (hK (.pointer (some ⟨g, 0, none⟩)) _ rfl (Below.refl _ _))
        unfold execOp; simp only [eval_const, e11]; simp [go_sem]
      · intro a w1 hB ho hp K hK
        have e12 : a.eval (.tmp 12) = (.pointer (some ⟨g, 0, none⟩)) := hp 2 12 (by kernel_rfl)
        exact hop_load (wanted_none rfl) rfl e12 (run_ldf (hF.below hB).c0) (hK _ _ rfl (Below.refl _ _))
      · intro a w1 hB ho hp K hK
        have e0 : a.eval (.tmp 0) = (.pointer (some ⟨g, 0, none⟩)) := ho 0 (by kernel_rfl)
        refine hop_val (wanted_none rfl) ?_ (hK (.pointer (some ⟨g, 0, none⟩)) _ rfl (Below.refl _ _))
        unfold execOp; simp only [eval_const, e0]; simp [go_sem]
      · intro a w1 hB ho hp K hK
        have e14 : a.eval (.tmp 14) = (.pointer (some ⟨g, 0, none⟩)) := hp 4 14 (by kernel_rfl)
        refine hop_val (wanted_none rfl) ?_ (hK (.pointer (some ⟨g, 0, none⟩)) _ rfl (Below.refl _ _))
        unfold execOp; simp only [eval_const, e14]; simp [go_sem]
      · intro a w1 hB ho hp K hK
        have e15 : a.eval (.tmp 15) = (.pointer (some ⟨g, 0, none⟩)) := hp 5 15 (by kernel_rfl)
        refine hop_val (wanted_none rfl) ?_ (hK (.pointer (some ⟨g, 2, none⟩)) _ rfl (Below.refl _ _))
        unfold execOp; simp only [eval_const, e15]; simp [go_sem]
      · intro a w1 hB ho hp K hK
        have e16 : a.eval (.tmp 16) = (.pointer (some ⟨g, 2, none⟩)) := hp 6 16 (by kernel_rfl)
        exact hop_load (wanted_none rfl) rfl e16 (run_ldm rfl (hF.below hB).c2) (hK _ _ rfl (Below.refl _ _))
      · intro a w1 hB ho hp K hK
        have e17 : a.eval (.tmp 17) = (.slice (some ⟨gr, 0, none⟩) (q + 1) Sc) := hp 7 17 (by kernel_rfl)
        refine hop_val (wanted_none rfl) ?_ (hK (.pointer (some ⟨gr, 1, none⟩)) _ rfl (Below.refl _ _))
        unfold execOp; simp only [eval_const, Option.map_some, Option.map_none, e17]; simp [run_ixm1 (show 1 < q + 1 by omega)]
      · intro a w1 hB ho hp K hK
        have e18 : a.eval (.tmp 18) = (.pointer (some ⟨gr, 1, none⟩)) := hp 8 18 (by kernel_rfl)
        exact hop_load (wanted_none rfl) rfl e18 (run_ldp ((hB.cell (p := ⟨gr, 1, none⟩) hgr).trans e1)) (hK _ _ rfl (Below.refl _ _))
      · intro a w1 hB ho hp K hK
        have e0 : a.eval (.tmp 0) = (.pointer (some ⟨g, 0, none⟩)) := ho 0 (by kernel_rfl)
        refine hop_val (wanted_none rfl) ?_ (hK (.pointer (some ⟨g, 0, none⟩)) _ rfl (Below.refl _ _))
        unfold execOp; simp only [eval_const, e0]; simp [go_sem]
      · intro a w1 hB ho hp K hK
        have e20 : a.eval (.tmp 20) = (.pointer (some ⟨g, 0, none⟩)) := hp 10 20 (by kernel_rfl)
        refine hop_val (wanted_none rfl) ?_ (hK (.pointer (some ⟨g, 0, none⟩)) _ rfl (Below.refl _ _))
        unfold execOp; simp only [eval_const, e20]; simp [go_sem]
      · intro a w1 hB ho hp K hK
        have e21 : a.eval (.tmp 21) = (.pointer (some ⟨g, 0, none⟩)) := hp 11 21 (by kernel_rfl)
        refine hop_val (wanted_none rfl) ?_ (hK (.pointer (some ⟨g, 2, none⟩)) _ rfl (Below.refl _ _))
        unfold execOp; simp only [eval_const, e21]; simp [go_sem]
      · intro a w1 hB ho hp K hK
        have e22 : a.eval (.tmp 22) = (.pointer (some ⟨g, 2, none⟩)) := hp 12 22 (by kernel_rfl)
        exact hop_load (wanted_none rfl) rfl e22 (run_ldm rfl (hF.below hB).c2) (hK _ _ rfl (Below.refl _ _))
      · intro a w1 hB ho hp K hK
        have e3 : a.eval (.tmp 3) = (.int .i64 ((q : Int) + 1)) := ho 3 (by kernel_rfl)
        refine hop_val (wanted_none rfl) ?_ (hK (.int .i64 ((q : Int) + 1)) _ rfl (Below.refl _ _))
        unfold execOp; simp only [eval_const, e3]; simp [go_sem]
      · intro a w1 hB ho hp K hK
        have e24 : a.eval (.tmp 24) = (.int .i64 ((q : Int) + 1)) := hp 14 24 (by kernel_rfl)
        refine hop_val (wanted_none rfl) ?_ (hK (.int .i64 (q : Int)) _ rfl (Below.refl _ _))
        unfold execOp; simp only [eval_const, e24]; simp [go_sem, hwq3]
      · intro a w1 hB ho hp K hK
        have e23 : a.eval (.tmp 23) = (.slice (some ⟨gr, 0, none⟩) (q + 1) Sc) := hp 13 23 (by kernel_rfl)
        have e25 : a.eval (.tmp 25) = (.int .i64 (q : Int)) := hp 15 25 (by kernel_rfl)
        refine hop_val (wanted_none rfl) ?_ (hK (.pointer (some ⟨gr, q, none⟩)) _ rfl (Below.refl _ _))
        unfold execOp; simp only [eval_const, Option.map_some, Option.map_none, e23, e25]; simp [run_ixm (show q < q + 1 by omega)]
      · intro a w1 hB ho hp K hK
        have e26 : a.eval (.tmp 26) = (.pointer (some ⟨gr, q, none⟩)) := hp 16 26 (by kernel_rfl)
        exact hop_load (wanted_none rfl) rfl e26 (run_ldp ((hB.cell (p := ⟨gr, q, none⟩) hgr).trans e2)) (hK _ _ rfl (Below.refl _ _))
      · intro a w1 hB ho hp K hK
        have e0 : a.eval (.tmp 0) = (.pointer (some ⟨g, 0, none⟩)) := ho 0 (by kernel_rfl)
        refine hop_val (wanted_none rfl) ?_ (hK (.pointer (some ⟨g, 0, none⟩)) _ rfl (Below.refl _ _))
        unfold execOp; simp only [eval_const, e0]; simp [go_sem]
      · intro a w1 hB ho hp K hK
        have e28 : a.eval (.tmp 28) = (.pointer (some ⟨g, 0, none⟩)) := hp 18 28 (by kernel_rfl)
        refine hop_val (wanted_none rfl) ?_ (hK (.pointer (some ⟨g, 0, none⟩)) _ rfl (Below.refl _ _))
        unfold execOp; simp only [eval_const, e28]; simp [go_sem]
      · intro a w1 hB ho hp K hK
        have e29 : a.eval (.tmp 29) = (.pointer (some ⟨g, 0, none⟩)) := hp 19 29 (by kernel_rfl)
        refine hop_val (wanted_none rfl) ?_ (hK (.pointer (some ⟨g, 1, none⟩)) _ rfl (Below.refl _ _))
        unfold execOp; simp only [eval_const, e29]; simp [go_sem]
      · intro a w1 hB ho hp K hK
        have e30 : a.eval (.tmp 30) = (.pointer (some ⟨g, 1, none⟩)) := hp 20 30 (by kernel_rfl)
        exact hop_load (wanted_none rfl) rfl e30 (run_ldp (hF.below hB).c1) (hK _ _ rfl (Below.refl _ _))
      · intro a w1 hB ho hp K hK
        have e13 : a.eval (.tmp 13) = (.agg #[.int .u64 (ab : Int)]) := hp 3 13 (by kernel_rfl)
        have e19 : a.eval (.tmp 19) = (.slice (some ⟨g1, 0, none⟩) n1 d1) := hp 9 19 (by kernel_rfl)
        have e27 : a.eval (.tmp 27) = (.slice (some ⟨g2, 0, none⟩) n2 d2) := hp 17 27 (by kernel_rfl)
        have e31 : a.eval (.tmp 31) = (.slice D m d) := hp 21 31 (by kernel_rfl)
        refine hop_call (wanted_none rfl) rfl (args := #[(.agg #[.int .u64 (ab : Int)]), (.slice (some ⟨g1, 0, none⟩) n1 d1), (.slice (some ⟨g2, 0, none⟩) n2 d2), (.slice D m d)]) (by simp only [List.map_toArray, List.map_cons, List.map_nil, eval_const, e13, e19, e27, e31]) (ent7 (by kernel_rfl) _ _) (mulby_z HP.out h (HL1.out.below hB) (by omega) (HL2.out.below hB) (by omega) (hz.below hB) hm hpr N1.out N2.out HNM.out HM0.out) ?_
        rintro e w2 ⟨A, n, c, rfl, ⟨p, q⟩, B⟩
        exact ⟨_, rfl, hK _ _ ⟨A, n, c, rfl, p, q.mono (by have := hB.size; have := hW.size; omega)⟩ B⟩
    intro w21 B21
    refine EndAll.one rfl fun vv hv => ?_
    obtain rfl : vv = (.pointer (some ⟨g, 0, none⟩)) := hv
    refine EndAll.one rfl fun vv hv => ?_
    obtain rfl : vv = (.pointer (some ⟨g, 0, none⟩)) := hv
    refine EndAll.one rfl fun vv hv => ?_
    obtain rfl : vv = (.pointer (some ⟨g, 0, none⟩)) := hv
    refine EndAll.one rfl fun vv hv => ?_
    obtain rfl : vv = (.agg #[.int .u64 (ab : Int)]) := hv
    refine EndAll.one rfl fun vv hv => ?_
    obtain rfl : vv = (.pointer (some ⟨g, 0, none⟩)) := hv
    refine EndAll.one rfl fun vv hv => ?_
    obtain rfl : vv = (.pointer (some ⟨g, 0, none⟩)) := hv
    refine EndAll.one rfl fun vv hv => ?_
    obtain rfl : vv = (.pointer (some ⟨g, 2, none⟩)) := hv
    refine EndAll.one rfl fun vv hv => ?_
    obtain rfl : vv = (.slice (some ⟨gr, 0, none⟩) (q + 1) Sc) := hv
    refine EndAll.one rfl fun vv hv => ?_
    obtain rfl : vv = (.pointer (some ⟨gr, 1, none⟩)) := hv
    refine EndAll.one rfl fun vv hv => ?_
    obtain rfl : vv = (.slice (some ⟨g1, 0, none⟩) n1 d1) := hv
    refine EndAll.one rfl fun vv hv => ?_
    obtain rfl : vv = (.pointer (some ⟨g, 0, none⟩)) := hv
    refine EndAll.one rfl fun vv hv => ?_
    obtain rfl : vv = (.pointer (some ⟨g, 0, none⟩)) := hv
    refine EndAll.one rfl fun vv hv => ?_
    obtain rfl : vv = (.pointer (some ⟨g, 2, none⟩)) := hv
    refine EndAll.one rfl fun vv hv => ?_
    obtain rfl : vv = (.slice (some ⟨gr, 0, none⟩) (q + 1) Sc) := hv
    refine EndAll.one rfl fun vv hv => ?_
    obtain rfl : vv = (.int .i64 ((q : Int) + 1)) := hv
    refine EndAll.one rfl fun vv hv => ?_
    obtain rfl : vv = (.int .i64 (q : Int)) := hv
    refine EndAll.one rfl fun vv hv => ?_
    obtain rfl : vv = (.pointer (some ⟨gr, q, none⟩)) := hv
    refine EndAll.one rfl fun vv hv => ?_
    obtain rfl : vv = (.slice (some ⟨g2, 0, none⟩) n2 d2) := hv
    refine EndAll.one rfl fun vv hv => ?_
    obtain rfl : vv = (.pointer (some ⟨g, 0, none⟩)) := hv
    refine EndAll.one rfl fun vv hv => ?_
    obtain rfl : vv = (.pointer (some ⟨g, 0, none⟩)) := hv
    refine EndAll.one rfl fun vv hv => ?_
    obtain rfl : vv = (.pointer (some ⟨g, 1, none⟩)) := hv
    refine EndAll.one rfl fun vv hv => ?_
    obtain rfl : vv = (.slice D m d) := hv
    refine EndAll.one rfl fun vv hv => ?_
    obtain ⟨A22, n22, c22, rfl, p22⟩ : IsPz w.heap.size (remP p (mulp p (imf p ms 1) (imf p ms q)) ms) vv w21 := hv
    refine EndAll.nil (l := [_]) rfl ?_
    simp only [Act.put, List.setIfInBounds_toArray, List.set_cons_zero, List.set_cons_succ]
    replace hF := hF.below B21
    replace hz := hz.below B21
    replace hI := hI.below B21
    replace hW := hW.trans (B21.mono hW.size)
    have rr := p22
    clear p22
    clear B21
    obtain ⟨rr, rz⟩ := rr
    rw [HE.out] at rr
    clear c0 c1 c2 e1 e2
    go_wp2_with fail
    exact bodyPost_ret (v := (.slice A22 n22 c22)) (by simp [results, Tryd.results68, go_sem]) rfl ⟨_, _, _, rfl, ⟨rr, rz⟩, hW⟩
theorem row_form {w : World} {b n : Nat} {e : TypeId} {v : Value} {xs : List Value} (h : w.ownsRow b e 1 v n xs) : ∃ A m c, v = .slice A m c := by
  rcases h.2 with ⟨rfl, rfl⟩ | ⟨gr, cap, cur, rfl, _⟩
  · exact ⟨_, _, _, rfl⟩
  · exact ⟨_, _, _, rfl⟩
/-- What image does. -/
def ImPost (b p ab g : Nat) (D : Option Addr) (m d : Nat) (ms : List Nat) (X : Nat → Prop) (i : Nat) (w : World) (e : Ending) (w' : World) : Prop :=
  ∃ ga n c k S, e = .returned (.slice (some ⟨ga, 0, none⟩) n c) ∧ Lv w' (some ⟨ga, 0, none⟩) n c (imf p ms i) ∧ X ga ∧ Fr w' g ab D m d S ∧ Ims w' b p ms X k S ∧ Kp g w w' ∧ k ≤ 1001
theorem info_poly : (Tryd.prog.info? 23).map (fun i => (i.zero, i.size, i.bytes)) = some (some (.slice none 0 0), 1, 24) := by kernel_rfl
/-- The append of an image as a step of a region. -/
theorem step_image {ops : Array Oper} {o : Oper} {a : Act} {wr : World} {K : Act → World → Prop} {Q : Exit → Act → World → Prop} {E : Prop} {base k ga n c : Nat} {S : Value} {vals : List Value}
    (hgd : o.guard = none) (s x : Operand) (ho : o.op = .call { callee := .builtin .append, args := #[s, x], argTypes := #[76, 76] })
    (hs : a.eval s = S) (hx : a.eval x = .slice (some ⟨wr.heap.size, 0, none⟩) 1 1) (hown : (wr.alloc (.cells #[.slice (some ⟨ga, 0, none⟩) n c] 23)).ownsRow base 23 1 S k vals) (hk : k ≤ 1099511627776) (hb : base ≤ wr.heap.size)
    (h : ∀ S' w', w'.ownsRow base 23 1 S' (k + 1) (vals ++ [.slice (some ⟨ga, 0, none⟩) n c]) → (wr.alloc (.cells #[.slice (some ⟨ga, 0, none⟩) n c] 23)).grownBy w' S.ownBlock → K (a.put o.dst S') w') :
    if Region.wanted o (yielded ops a.tmps) = true then Oper.wp Tryd.prog o a (wr.alloc (.cells #[.slice (some ⟨ga, 0, none⟩) n c] 23)) K Q else E := by
  have hw : Region.wanted o (yielded ops a.tmps) = true := by simp [Region.wanted, hgd]
  rw [if_pos hw]
  obtain ⟨i, hi, hz0, hz1, hz2⟩ := info_parts info_poly
  refine wp_append_own _ s x _ ho base 23 i (.slice none 0 0) 1 24 Tryd.underlying76 hi hz0 hz1 hz2 rfl (by omega) S k vals hs hown ⟨wr.heap.size, 0, none⟩ 1 1 [.slice (some ⟨ga, 0, none⟩) n c] hx rfl ?_ ?_ (by unfold maxLen; omega) (by omega) (by simp; omega) ?_
  · intro j u hu
    match j, hu with
    | 0, hu =>
      simp at hu
      subst hu
      simp [Addr.add]
  · intro u hu
    simp at hu
    subst hu
    rfl
  · intro v' w' o1 o2 _
    exact h v' w' o1 o2
set_option maxRecDepth 100000 in
set_option maxHeartbeats 1000000 in
/-- image: x to the i, raised. -/
theorem image_v {ab p g gm m d k i : Nat} {ms : List Nat} {S : Value} {X : Nat → Prop} {w : World} (hp : ab + 2 = p) (h : p < 2147483648) (hpr : MR.Pr p) (hF : Fr w g ab (some ⟨gm, 0, none⟩) m d S) (hz : Lv w (some ⟨gm, 0, none⟩) m d ms) (hm : m ≤ 549755813888) (nm : Nm p ms) (m2 : 2 ≤ m) (hI : Ims w g p ms X k S) (hi : i ≤ 1000) (hk : k ≤ 1001) (hX : ∀ ga, w.heap.size ≤ ga → X ga) :
    Calls Tryd.prog 65 #[.pointer (some ⟨g, 0, none⟩), .int .i64 (i : Int)] w (ImPost g p ab g (some ⟨gm, 0, none⟩) m d ms X i w) := by
  have HP := Lib.hid hp
  have HNM := Lib.hid nm
  have HZ := Lib.hid hz
  have HX := Lib.hid hX
  have HB : Hid (Fr w g ab (some ⟨gm, 0, none⟩) m d S ∧ Ims w g p ms X k S ∧ Kp g w w) := Lib.hid ⟨hF, hI, Kp.refl g w⟩
  clear hp nm hz hX hF hI
  go_enter Tryd.func65, Tryd.ntmps65
  go_wp2_with fail
  go_loopg [] (i + 1 - k) (fun gh wr => ∃ (k : Nat) (S : Value), i + 1 - k = gh ∧ k ≤ 1001 ∧ Hid (Fr wr g ab (some ⟨gm, 0, none⟩) m d S ∧ Ims wr g p ms X k S ∧ Kp g w wr))
  case atStart => exact ⟨k, S, rfl, hk, HB⟩
  case round =>
    clear HB
    obtain ⟨k, S, hgh, hk, HB⟩ := hrel
    obtain ⟨hF, hI, hK⟩ := HB.out
    obtain ⟨SA, Sc, hS, hkc, hcm, hrow⟩ := hI.form
    subst hS
    have c2 := hF.c2
    have hgl := hF.lt
    have HF := Lib.hid hF
    have HI := Lib.hid hI
    have HK := Lib.hid hK
    clear hF hI hK HB hrow
    by_cases hki : k ≤ i
    · have hki2 : (k : Int) ≤ (i : Int) := by omega
      have hz := HK.out.2.2.1 HZ.out
      have Qd : Below wr.heap.size wr wr.drew := below_drew9 wr
      have HZ2 := Lib.hid hz
      clear hz
      go_upto_region 2 with fail
      go_region_law (first
        | (refine hop_call (wanted_none rfl) rfl (args := #[.pointer (some ⟨g, 0, none⟩)]) (by simp [Act.eval, Act.put]) (ent7 (by kernel_rfl) _ _) (another_z HP.out h hpr (HF.out.below Qd) (HZ2.out.below Qd) hm HNM.out m2 (HI.out.below Qd)) ?_; rintro e w2 ⟨A2, n2, d2, rfl, ⟨r2, ga, rfl, hga, hgs⟩, B2⟩; refine ⟨_, rfl, ?_⟩; have Q2 := zup Qd B2; have q2 := (HF.out.below Q2).c2; have Q3 := zup Q2 (zba w2 (.cells #[.slice (some ⟨ga, 0, none⟩) n2 d2] 23)); have q3 := (HF.out.below Q3).c2; obtain ⟨vals, hv⟩ := HI.out.below Q3)
        | (refine step_image (ga := ga) (n := n2) (c := d2) (S := .slice SA k Sc) (vals := vals) rfl (.tmp 16) (.tmp 19) rfl (by simp [Act.eval, Act.put]) (by simp [Act.eval, Act.put]) hv.1 (by omega) (by have := Q2.size; omega) ?_; intro S' w9 o1 o2; have P := Ims.grow (HI.out.below Q3) (HF.out.below Q3) (r2.below (zba w2 (.cells #[.slice (some ⟨ga, 0, none⟩) n2 d2] 23))) (by simp; omega) (HX.out ga (by have := HK.out.2.1; have e : wr.drew.heap.size = wr.heap.size := rfl; omega)) hv o1 o2; obtain ⟨A9, n9, c9, rfl⟩ := row_form o1; have f9 := P.1.f2; have g9 := P.1.c2))
      all_goals
        have hKn : Kp g w (w9.setCell ⟨g, 2, none⟩ (.slice A9 n9 c9)) := HK.out.trans ((Kp.of Q3 (Nat.le_of_lt hgl)).trans P.2.2)
        have HN : Hid (Fr (w9.setCell ⟨g, 2, none⟩ (.slice A9 n9 c9)) g ab (some ⟨gm, 0, none⟩) m d (.slice A9 n9 c9) ∧ Ims (w9.setCell ⟨g, 2, none⟩ (.slice A9 n9 c9)) g p ms X (k + 1) (.slice A9 n9 c9) ∧ Kp g w (w9.setCell ⟨g, 2, none⟩ (.slice A9 n9 c9))) := Lib.hid ⟨P.1.put _, P.2.1, hKn⟩
        clear hKn P f9 g9 hv q2 q3 r2
        go_wp2_with fail
        go_roundg (i - k)
        case rel => exact ⟨k + 1, _, by omega, by omega, HN.out⟩
        case measure => omega
    · obtain ⟨gr, ga, n, c, e0, hgr, e1, l1, hlt, hxg⟩ := HI.out.at (i := i) (by omega)
      subst e0
      have hki2 : ¬ (k : Int) ≤ (i : Int) := by omega
      have hki3 : (i : Int) < (k : Int) := by omega
      have e2 : wr.cell? ((⟨gr, 0, none⟩ : Addr).add i) = some (.slice (some ⟨ga, 0, none⟩) n c) := by rw [add_lit0]; exact e1
      have HQ : Hid (Lv wr (some ⟨ga, 0, none⟩) n c (imf p ms i) ∧ X ga) := Lib.hid ⟨l1, hxg⟩
      clear l1 hxg
      go_wp2_with fail
      exact bodyPost_ret (v := .slice (some ⟨ga, 0, none⟩) n c) (by simp [results, Tryd.results65, go_sem]) rfl ⟨_, _, _, _, _, rfl, HQ.out.1, HQ.out.2, HF.out, HI.out, HK.out, hk⟩
end Go.Proofs.YthigedcpiglmnaaDoor
