/-
  Package modn: pileOf.
-/
import Derived.Test.YtbcopicoldnahaaGreatCrtH
import Derived.RegionTactic
import Derived.BigRegion
import Derived.Deep.RegionHeld3
import Derived.Deep.RegionLaw
import Derived.Deep.LoopGhost
/-! Contract: modn.pileOf. -/
namespace Go.Proofs.YtbcopicoldnahaaGreat
open Go.RowKit
set_option linter.unusedVariables false
set_option linter.unusedSimpArgs false

/-- A whole number of a list that came in. -/
structure Zin where
  s : Bool
  A : Option Addr
  n : Nat
  c : Nat
  z : Int
/-- The whole numbers of a list that came in, as they lie. -/
def ZRow (w : World) (A : Option Addr) (R : List Zin) : Prop := 0 < R.length → ∃ ad, A = some ad ∧ ad.block < w.heap.size ∧ ∀ j (hj : j < R.length), w.cell? (ad.add (j * 2)) = some (.bool R[j].s) ∧ w.cell? ⟨(ad.add (j * 2)).block, (ad.add (j * 2)).off + 1, none⟩ = some (.slice R[j].A R[j].n R[j].c)
theorem ZRow.below {w w' : World} {A : Option Addr} {R : List Zin} (h : ZRow w A R) (hb : Below w.heap.size w w') : ZRow w' A R := fun hn => by
  obtain ⟨ad, rfl, h1, h2⟩ := h hn
  exact ⟨ad, rfl, Nat.lt_of_lt_of_le h1 hb.size, fun j hj => ⟨(hb.cell (by rw [add_block]; exact h1)).trans (h2 j hj).1, (hb.cell (by show (ad.add (j * 2)).block < _; rw [add_block]; exact h1)).trans (h2 j hj).2⟩⟩
def Zin.ok (w : World) (x : Zin) : Prop := Zv w x.s x.A x.n x.c x.z ∧ x.n ≤ 1048576
theorem Zin.ok.below {w w' : World} {x : Zin} (h : x.ok w) (hb : Below w.heap.size w w') : x.ok w' := ⟨h.1.below hb, h.2⟩
def ZinOk (w : World) (R : List Zin) : Prop := ∀ x, x ∈ R → x.ok w
theorem ZinOk.below {w w' : World} {R : List Zin} (h : ZinOk w R) (hb : Below w.heap.size w w') : ZinOk w' R := fun x hx => (h x hx).below hb
def nilCls : Cls := ⟨false, none, 0, 0, false, none, 0, 0, 0, 0⟩
theorem info_class' : (Tryz.prog.info? 40).map (fun i => (i.zero, i.size, i.bytes)) = some (some (.agg #[.bool false, .slice none 0 0, .bool false, .slice none 0 0]), 4, 64) := info_class
theorem cvals_made (n : Nat) : (madeCells #[.bool false, .slice none 0 0, .bool false, .slice none 0 0] (n * 4)) = (cvals (List.replicate n nilCls)).toArray := by
  apply Array.ext
  · rw [size_madeCells, List.size_toArray, cvals_length, List.length_replicate, Nat.mul_comm]
  · intro i h1 h2
    rw [size_madeCells] at h1
    have e : 4 * (i / 4) + i % 4 = i := by omega
    have key := cvals_get (List.replicate n nilCls) (i / 4) (i % 4) (by simp; omega) (by omega)
    rw [e, List.getElem_replicate] at key
    apply Option.some.inj
    rw [← Array.getElem?_eq_getElem h2, List.getElem?_toArray, key]
    rcases (by omega : i % 4 = 0 ∨ i % 4 = 1 ∨ i % 4 = 2 ∨ i % 4 = 3) with h | h | h | h <;> simp [madeCells, h, nilCls, Cls.cs]
/-- make of a list of classes. -/
theorem wpList_make_cls {P : Program} (w : World) {ops : Array Oper} {rest : List Oper} {o : Oper} {a : Act} {Q : Exit → Act → World → Prop}
    (hg : o.guard = none) (l c : Operand) (t : TypeId) (hop : o.op = Op.makeSlice t l c)
    (e : TypeId) (bytes : Nat) (ht : P.underlying t = some (.slice e)) (hinfo : (P.info? e).map (fun i => (i.zero, i.size, i.bytes)) = some (some (.agg #[.bool false, .slice none 0 0, .bool false, .slice none 0 0]), 4, bytes))
    (kl kc : IntKind) (L C : Int) (n : Nat) (hl : a.eval l = .int kl L) (hc : a.eval c = .int kc C) (hL : L = (n : Int)) (hC : C = (n : Int)) (hbytes : bytes * n ≤ 281474976710656) (h63 : n ≤ 9223372036854775807)
    (hK : ∀ w', w'.heap[w.heap.size]? = some (.cells (cvals (List.replicate n nilCls)).toArray e (0, 0)) → Below w.heap.size w w' → w'.heap.size = w.heap.size + 1 → wpList P ops Q rest (a.put o.dst (.slice (some ⟨w.heap.size, 0, none⟩) n n)) w') :
    wpList P ops Q (o :: rest) a w := by
  subst hL hC
  obtain ⟨i, hi, hz0, hz1, hz2⟩ := info_parts hinfo
  have hrun := run_make (P := P) w t e i (.agg #[.bool false, .slice none 0 0, .bool false, .slice none 0 0]) ht hi hz0 kl kc (n : Int) (n : Int) (by omega) (Int.le_refl _) (by rw [hz2]; omega) (by omega)
  refine wpList_plain hg fun K hK' => ?_
  unfold Oper.wp
  simp [execOp, hop, hl, hc, hrun, Result.andThen]
  refine hK' _ _ (hK _ ?_ ((Below.refl _ _).alloc (Nat.le_refl _) _) (by simp))
  rw [heap_alloc_new w, hz1, ← cvals_made]
  rfl
/-- In the loop of pileOf: k classes are put in. -/
def CPoRel (b : Nat) (w : World) (p g n k : Nat) (R M : List Zin) (wr : World) : Prop :=
  ∃ T : List Cls, T.length = k ∧ (∀ i (h0 : i < T.length) (h1 : i < R.length) (h2 : i < M.length), T[i].ok wr ∧ T[i].r = R[i].z % M[i].z ∧ T[i].q = M[i].z) ∧ CPile b wr p g (T ++ List.replicate (n - k) nilCls) 0 ∧ Hc b w wr
theorem cpile_start {w w1 : World} {n : Nat} (hb : w1.heap[w.heap.size]? = some (.cells (cvals (List.replicate n nilCls)).toArray 40 (0, 0))) (hw : Below w.heap.size w w1) (hz : w1.heap.size = w.heap.size + 1) (hn : n ≤ 1000) :
    CPile w.heap.size (w1.alloc (.cells #[.slice (some ⟨w.heap.size, 0, none⟩) n n] 70)) w1.heap.size w.heap.size (List.replicate n nilCls) 0 := by
  refine ⟨n, [], ⟨?_, by omega, Nat.le_refl _, ?_, by simp [cvals], by omega⟩, rfl⟩
  · rw [List.length_replicate]
    exact heap_alloc_new w1 _
  · rw [Below.heap_alloc w1 _ _ (by omega), cvals, List.append_nil]
    exact hb
def CPofPost (w : World) (R M : List Zin) (e : Ending) (w' : World) : Prop :=
  ∃ (p g : Nat) (T : List Cls), e = .returned (.pointer (some ⟨p, 0, none⟩)) ∧ CPile w.heap.size w' p g T 0 ∧ ClsOk w' T ∧ ClsIn T ∧ (prs T).Perm (List.zipWith (fun x y => (x.z % y.z, y.z)) R M) ∧ Hc w.heap.size w w'
theorem cls_end (T : List Cls) (m : Nat) (t : Cls) : (T ++ List.replicate (m + 1) nilCls).set T.length t = (T ++ [t]) ++ List.replicate m nilCls := by
  rw [List.set_append_right _ _ (Nat.le_refl _)]
  simp [List.replicate_succ]
/-- One more is put in. -/
theorem CPoRel.next {b p g n k cap : Nat} {w w4 : World} {R M : List Zin} {T : List Cls} {y : Cls} {S : List Cls} (hT : T.length = k) (hk : k < n) (hkR : k < R.length) (hkM : k < M.length) (hall : ∀ i (h0 : i < T.length) (h1 : i < R.length) (h2 : i < M.length), T[i].ok w4 ∧ T[i].r = R[i].z % M[i].z ∧ T[i].q = M[i].z)
    (hp : CPileAt b w4 p (T ++ List.replicate (n - k) nilCls) g cap (cvals S)) (hS : S.length = 0) (hy : y.ok w4) (hr : y.r = R[k].z % M[k].z) (hq : y.q = M[k].z) (hu : Hc b w w4) : CPoRel b w p g n (k + 1) R M (put4 w4 g (k * 4) y) := by
  obtain ⟨m, hm⟩ : ∃ m, n - k = m + 1 := ⟨n - k - 1, by omega⟩
  rw [hm] at hp
  obtain ⟨h1, h2⟩ := hp.put (i := k) (by simp; omega) y
  rw [← hT, cls_end, hT] at h1
  have hm2 : n - (k + 1) = m := by omega
  have h3 := h2
  refine ⟨T ++ [y], by simp [hT], fun i h4 h5 h6 => ?_, ⟨cap, S, by rw [hm2]; exact h1, hS⟩, hu.trans h3⟩
  by_cases hi : i < T.length
  · rw [List.getElem_append_left hi]
    obtain ⟨a1, a2⟩ := hall i hi h5 h6
    exact ⟨a1.hc h3, a2⟩
  · have : i = T.length := by simp at h4; omega
    subst this
    rw [List.getElem_append_right (Nat.le_refl _)]
    subst hT
    simp only [Nat.sub_self, List.getElem_cons_zero]
    exact ⟨hy.hc h3, hr, hq⟩
theorem prs_zip {T : List Cls} {R M : List Zin} {n : Nat} (hT : T.length = n) (hR : R.length = n) (hM : M.length = n) (h : ∀ i (h0 : i < T.length) (h1 : i < R.length) (h2 : i < M.length), T[i].r = R[i].z % M[i].z ∧ T[i].q = M[i].z) :
    prs T = List.zipWith (fun x y => (x.z % y.z, y.z)) R M := by
  apply List.ext_getElem
  · simp [prs, hT, hR, hM]
  · intro i h1 h2
    simp [prs] at h1
    have := h i h1 (by omega) (by omega)
    simp [prs, this.1, this.2]
set_option maxRecDepth 100000 in
set_option maxHeartbeats 4000000 in
theorem cpileof_calls {A B : Option Addr} {n c c' : Nat} {R M : List Zin} {w : World} (hr : ZRow w A R) (hm : ZRow w B M) (or : ZinOk w R) (om : ZinOk w M) (hn : R.length = n) (hn' : M.length = n) (hR : n ≤ 1000) (hpos : ∀ x, x ∈ M → 0 < x.z) :
    Calls Tryz.prog 16 #[.slice A n c, .slice B n c'] w (CPofPost w R M) := by
  have HN := Lib.hid hn
  have HM := Lib.hid hn'
  clear hn hn'
  go_enter Tryz.func16, Tryz.ntmps16
  go_wp2_with (at_make; refine wpList_make_cls _ rfl _ _ 68 rfl 40 64 Tryz.underlying68 info_class' _ _ _ _ n rfl rfl (by omega) (by omega) (by omega) (by omega) ?_)
  intro w1 hb1 hw1 hz1
  have HZ := Lib.hid hz1
  have H1 := Lib.hid hb1
  clear hz1 hb1
  go_wp2
  have hs : Hid (CPile w.heap.size (w1.alloc (.cells #[.slice (some ⟨w.heap.size, 0, none⟩) n n] 70)) w1.heap.size w.heap.size (List.replicate n nilCls) 0) := cpile_start H1.out hw1 HZ.out hR
  have hu0 : Hc w.heap.size w (w1.alloc (.cells #[.slice (some ⟨w.heap.size, 0, none⟩) n n] 70)) :=
    Hc.of_below (hw1.trans ((Below.refl _ _).alloc (by have := HZ.out; omega) _)) (Nat.le_refl _)
  go_loopg [17] n (fun g i wr => ∃ k : Nat, k + g = n ∧ i = .int .i64 k ∧ CPoRel w.heap.size w w1.heap.size w.heap.size n k R M wr)
  case atStart => exact ⟨0, by omega, rfl, [], rfl, fun i h1 => by simp at h1, by rw [Nat.sub_zero]; exact hs.out, hu0⟩
  case round =>
    clear hs hu0
    obtain ⟨k, hk, rfl, T, hT, hall, hp, hu⟩ := hrel
    have HT := Lib.hid hT
    clear hT
    by_cases hlt : k < n
    · have hkR : k < R.length := by have := HN.out; omega
      have hkM : k < M.length := by have := HM.out; omega
      obtain ⟨ad, rfl, hab, hcell⟩ := (hr.below hu.1) (by omega)
      obtain ⟨am, rfl, ham, hmell⟩ := (hm.below hu.1) (by omega)
      obtain ⟨c1, c2⟩ := hcell k hkR
      obtain ⟨d1, d2⟩ := hmell k hkM
      have oR := ((or _ (List.getElem_mem hkR)).below (hu.1))
      have oM := ((om _ (List.getElem_mem hkM)).below (hu.1))
      have pM := hpos _ (List.getElem_mem hkM)
      obtain ⟨x, hx⟩ : ∃ x, R[k] = x := ⟨_, rfl⟩
      obtain ⟨m, hm2⟩ : ∃ m, M[k] = m := ⟨_, rfl⟩
      have HX := Lib.hid hx
      have HM2 := Lib.hid hm2
      rw [hx] at c1 c2 oR
      rw [hm2] at d1 d2 oM pM
      have u1 : (0 : Int) ≤ (k : Int) := by omega
      have u2 : (k : Int) < (n : Int) := by omega
      have hlp := hp.lt
      clear hcell hmell hx hm2
      obtain ⟨w2, hw2⟩ : ∃ w2, w2 = wr.alloc (.cells #[.bool m.s, .slice m.A m.n m.c] 27) := ⟨_, rfl⟩
      have z2 : Below wr.heap.size wr w2 := by rw [hw2]; exact zba _ _
      have I2 : Ib w2 wr.heap.size m.s m.A m.n m.c := by rw [hw2]; exact Ib.new _ _ _ _ _ _
      have HW2 := Lib.hid hw2.symm
      clear hw2
      go_wp2_with fail
      rw [HW2.out]
      replace c1 := (z2.cell (p := ad.add (k * 2)) (by rw [add_block]; exact hab)).trans c1
      replace c2 := (z2.cell (p := ⟨(ad.add (k * 2)).block, (ad.add (k * 2)).off + 1, none⟩) (by show (ad.add (k * 2)).block < _; rw [add_block]; exact hab)).trans c2
      replace hab := Nat.lt_of_lt_of_le hab z2.size
      replace oR := oR.below z2
      replace oM := oM.below z2
      replace hp := hp.below z2
      have hall2 : Hid (∀ i (h0 : i < T.length) (h1 : i < R.length) (h2 : i < M.length), T[i].ok w2 ∧ T[i].r = R[i].z % M[i].z ∧ T[i].q = M[i].z) := Lib.hid fun i h0 h1 h2 => ⟨(hall i h0 h1 h2).1.below z2, (hall i h0 h1 h2).2⟩
      replace hu := hu.trans (Hc.of_below z2 hu.1.size)
      clear hall z2
      have HI2 := Lib.hid I2
      have hw2lt : wr.heap.size < w2.heap.size := I2.2.2.2.2
      clear d1 d2
      obtain ⟨zx, kx⟩ := oR
      obtain ⟨zm, km⟩ := oM
      go_cut [8, 9] (VarTrue w2 (x.z % m.z) 1048576)
      case first =>
        obtain ⟨i1, i2, i3, i4, i5⟩ := I2
        have n1 : ¬ (w2.heap.size = wr.heap.size) := by omega
        have n2 : ¬ (wr.heap.size = w2.heap.size) := by omega
        have n3 : ¬ (w2.heap.size = (ad.add (k * 2)).block) := by rw [add_block]; omega
        have n4 : ¬ ((ad.add (k * 2)).block = w2.heap.size) := by rw [add_block]; omega
        go_region_held3 (fun w' => w'.cell? ⟨wr.heap.size, 0, none⟩ = some (.bool m.s) ∧ w'.cell? ⟨wr.heap.size, 1, none⟩ = some (.slice m.A m.n m.c) ∧ w'.cell? (ad.add (k * 2)) = some (.bool x.s) ∧ w'.cell? ⟨(ad.add (k * 2)).block, (ad.add (k * 2)).off + 1, none⟩ = some (.slice x.A x.n x.c)) (go_keep) (first
          | (go_at_call 29; (with_reducible refine (mod_yes (zx.below (below_drew _)) (zm.below (below_drew _)) (by omega) (by omega) pM).mono ?_); rintro e w3 ⟨s3, A3, n3', c3, rfl, p3, k3, B3⟩; have Q3 := zup (below_drew _) B3; obtain ⟨ix3, iy3, if3, ig3, iz3⟩ := HI2.out.below Q3; have a1 := (Q3.cell (p := ad.add (k * 2)) (by rw [add_block]; exact hab)).trans c1; have a2 := (Q3.cell (p := ⟨(ad.add (k * 2)).block, (ad.add (k * 2)).off + 1, none⟩) (by show (ad.add (k * 2)).block < _; rw [add_block]; exact hab)).trans c2)
          | (go_at_call 29; (with_reducible refine (mod_yes (zx.below (zbd _ _)) (zm.below (zbd _ _)) (by omega) (by omega) pM).mono ?_); rintro e w3 ⟨s3, A3, n3', c3, rfl, p3, k3, B3⟩; have Q3 := zup (zbd _ _) B3; have J3 := (Ib.newd w2 false none 0 0 27).below B3; have g3 := Nat.le_refl w2.heap.size; obtain ⟨ix3, iy3, if3, ig3, iz3⟩ := HI2.out.below Q3; have a1 := (Q3.cell (p := ad.add (k * 2)) (by rw [add_block]; exact hab)).trans c1; have a2 := (Q3.cell (p := ⟨(ad.add (k * 2)).block, (ad.add (k * 2)).off + 1, none⟩) (by show (ad.add (k * 2)).block < _; rw [add_block]; exact hab)).trans c2; have Jc3 := J3; obtain ⟨jx3, jy3, jf3, jg3, jz3⟩ := Jc3)
          | fail)
        all_goals
          first
          | have P := Lib.hid (VarCut.put (w0 := w2) (z := x.z % m.z) (k := 1048576) J3 p3 Q3 g3 (by omega))
          | have P := Lib.hid (VarCut.new (w0 := w2) (z := x.z % m.z) (k := 1048576) (t := 27) p3 Q3 (by omega))
          go_wp2_with fail
          go_meet
          exact ⟨P.out, rfl⟩
      case rest =>
        obtain ⟨⟨g4, s4, A4, n4, c4, rfl, hg4, I4, p4, k4, B4⟩, rfl⟩ := hcut
        replace hp := hp.below B4
        replace HI2 := Lib.hid (HI2.out.below B4)
        replace hall2 : Hid (∀ i (h0 : i < T.length) (h1 : i < R.length) (h2 : i < M.length), T[i].ok wc ∧ T[i].r = R[i].z % M[i].z ∧ T[i].q = M[i].z) := Lib.hid fun i h0 h1 h2 => ⟨(hall2.out i h0 h1 h2).1.below B4, (hall2.out i h0 h1 h2).2⟩
        replace hu := hu.trans (Hc.of_below B4 hu.1.size)
        replace zm := zm.below B4
        have hwc := B4.size
        clear zx kx c1 c2 hab B4 hr
        obtain ⟨cap, S, hp, hS⟩ := hp
        have hc := hp.head
        have hTn : (T ++ List.replicate (n - k) nilCls).length = n := by simp; have := HT.out; omega
        rw [hTn] at hc
        have e0 : ∃ v, wc.cell? ⟨w.heap.size, k * 4, none⟩ = some v := ⟨_, by rw [Nat.mul_comm]; exact hp.cell (i := k) (by rw [hTn]; exact hlt) (j := 0) (by omega)⟩
        have e1 : ∃ v, wc.cell? ⟨w.heap.size, k * 4 + 1, none⟩ = some v := ⟨_, by rw [Nat.mul_comm]; exact hp.cell (i := k) (by rw [hTn]; exact hlt) (j := 1) (by omega)⟩
        have e2 : ∃ v, wc.cell? ⟨w.heap.size, k * 4 + 2, none⟩ = some v := ⟨_, by rw [Nat.mul_comm]; exact hp.cell (i := k) (by rw [hTn]; exact hlt) (j := 2) (by omega)⟩
        have e3 : ∃ v, wc.cell? ⟨w.heap.size, k * 4 + 3, none⟩ = some v := ⟨_, by rw [Nat.mul_comm]; exact hp.cell (i := k) (by rw [hTn]; exact hlt) (j := 3) (by omega)⟩
        obtain ⟨v0, e0⟩ := e0
        obtain ⟨v1, e1⟩ := e1
        obtain ⟨v2, e2⟩ := e2
        obtain ⟨v3, e3⟩ := e3
        have ff : ∀ o, wc.frozen? ⟨w.heap.size, o, none⟩ = false := hp.free
        have HP := Lib.hid hp
        have HI4 := Lib.hid I4
        obtain ⟨i1, i2, i3, i4, i5⟩ := HI2.out
        obtain ⟨j1, j2, j3, j4, j5⟩ := I4
        have l1 := hlp.1
        have l2 := hlp.2.1
        have l3 := HZ.out
        have q1 : ¬ (w.heap.size = w1.heap.size) := by omega
        have q2 : ¬ (w1.heap.size = w.heap.size) := by omega
        have q3 : ¬ (w.heap.size = g4) := by omega
        have q4 : ¬ (g4 = w.heap.size) := by omega
        have q5 : ¬ (w.heap.size = wr.heap.size) := by omega
        have q6 : ¬ (wr.heap.size = w.heap.size) := by omega
        have hzm : ((m.z.natAbs : Nat) : Int) = m.z := by omega
        have HZM := Lib.hid hzm
        have hplt : w1.heap.size < wc.heap.size := by omega
        have hglt : w.heap.size < wc.heap.size := by omega
        clear hp hTn hzm l3
        go_wp2_with fail
        go_region_held3 (fun w' => w'.cell? ⟨w1.heap.size, 0, none⟩ = some (.slice (some ⟨w.heap.size, 0, none⟩) n cap) ∧ w'.cell? ⟨wr.heap.size, 0, none⟩ = some (.bool m.s) ∧ w'.cell? ⟨wr.heap.size, 1, none⟩ = some (.slice m.A m.n m.c) ∧ w'.cell? ⟨g4, 0, none⟩ = some (.bool s4) ∧ w'.cell? ⟨g4, 1, none⟩ = some (.slice A4 n4 c4)) (go_keep) (first
          | (go_at_call 35; (with_reducible refine (zabs_v (zm.below (below_drew _)) (by omega)).mono ?_); rintro e w5 ⟨s5, A5, n5, c5, rfl, p5, k5, B5⟩; have Q5 := zup (below_drew _) B5; obtain ⟨ix5, iy5, if5, ig5, iz5⟩ := HI2.out.below Q5; obtain ⟨jx5, jy5, jf5, jg5, jz5⟩ := HI4.out.below Q5; have a0 := (Q5.cell (p := ⟨w1.heap.size, 0, none⟩) hplt).trans hc; have b0 := (Q5.cell (p := ⟨w.heap.size, k * 4, none⟩) hglt).trans e0; have b1 := (Q5.cell (p := ⟨w.heap.size, k * 4 + 1, none⟩) hglt).trans e1; have b2 := (Q5.cell (p := ⟨w.heap.size, k * 4 + 2, none⟩) hglt).trans e2; have b3 := (Q5.cell (p := ⟨w.heap.size, k * 4 + 3, none⟩) hglt).trans e3; have ff5 : ∀ o, w5.frozen? ⟨w.heap.size, o, none⟩ = false := (HP.out.below Q5).free)
          | fail)
        rw [HZM.out] at p5
        have J : Hid (CPoRel w.heap.size w w1.heap.size w.heap.size n (k + 1) R M (put4 w5 w.heap.size (k * 4) ⟨s4, A4, n4, c4, s5, A5, n5, c5, x.z % m.z, m.z⟩)) := by
          refine Lib.hid (CPoRel.next HT.out hlt hkR hkM (fun i h0 h1 h2 => ⟨(hall2.out i h0 h1 h2).1.below Q5, (hall2.out i h0 h1 h2).2⟩) (HP.out.below Q5) hS ⟨p4.below Q5, p5, k4, ?_⟩ ?_ ?_ (hu.trans (Hc.of_below Q5 hu.1.size)))
          · show n5 ≤ 1048576; omega
          · rw [HX.out, HM2.out]
          · rw [HM2.out]
        unfold put4 at J
        clear hall2 HP HI2 HI4 i1 i2 i3 i4 j1 j2 j3 j4 e0 e1 e2 e3 b0 b1 b2 b3 ff ff5 hc a0 ix5 iy5 if5 ig5 jx5 jy5 jf5 jg5 p4 p5 zm hS B5 Q5
        go_wp2
        go_roundg (n - (k + 1))
        case measure => omega
        case rel => exact ⟨k + 1, by omega, by go_num, J.out⟩
    · obtain rfl : k = n := by omega
      rw [Nat.sub_self, List.replicate_zero, List.append_nil] at hp
      have hz := prs_zip HT.out HN.out HM.out (fun i h0 h1 h2 => (hall i h0 h1 h2).2)
      have q3 : ClsOk wr T := fun x hx => by
        obtain ⟨i, hi, rfl⟩ := List.getElem_of_mem hx
        have h1 := HT.out
        have h2 := HN.out
        have h3 := HM.out
        exact (hall i hi (by omega) (by omega)).1
      have q4 : ClsIn T := fun x hx => by
        obtain ⟨i, hi, rfl⟩ := List.getElem_of_mem hx
        have h1 := HT.out
        have h2 := HN.out
        have h3 := HM.out
        obtain ⟨_, e1, e2⟩ := hall i hi (by omega) (by omega)
        have h4 := hpos _ (List.getElem_mem (show i < M.length by omega))
        rw [e1, e2]
        exact ⟨Int.emod_nonneg _ (by omega), Int.emod_lt_of_pos _ h4⟩
      have HZ2 := Lib.hid hz
      clear hall hz
      go_wp2_with fail
      refine (chinit_calls hp q3 (by rw [HT.out]; omega) hu.1.size).mono ?_
      rintro e w2 ⟨rfl, R2, p2, h2, k2⟩
      have P : Hid (CPofPost w R M (.returned (.pointer (some ⟨w1.heap.size, 0, none⟩))) w2) :=
        ⟨w1.heap.size, w.heap.size, R2, rfl, h2, (q3.perm p2).hc k2, q4.perm p2, by rw [← HZ2.out]; exact prs_perm p2, hu.trans k2⟩
      clear h2 k2
      go_wp2
      go_ret
      exact P.out
end Go.Proofs.YtbcopicoldnahaaGreat
