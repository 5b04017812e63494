/-
  MtD MtE MtF
-/
import Derived.Test.YtcdkdanfiimlkaaPk12

section
/-! Contracts: the numbers of a matrix. -/
namespace Go.Proofs.Ytcdkdanfiimlkaa
open Go.RowKit
set_option linter.unusedVariables false
set_option linter.unusedSimpArgs false

set_option maxRecDepth 100000 in
/-- place. -/
theorem place_q {q : Bool} {r c n d k i j : Nat} {A : Option Addr} {F : Nat → Nat → Int} {w : World} (h : Mt q w r c A n d k F) (hi : i < r) (hj : j < c) : Calls Try.prog 61 #[.agg #[.int .i64 (r : Int), .int .i64 (c : Int), .slice A n d], .int .i64 (i : Int), .int .i64 (j : Int)] w (RetK (kV (F i j) k) w) := by
  have h1 := h.hr
  have h2 := h.hc
  have h5 : i * c ≤ 64 * 64 := Nat.mul_le_mul (by omega) h2
  obtain ⟨w1, hw1, b3, b6, z1, s1⟩ := boxes2 w 24 28 [.int .i64 (r : Int), .int .i64 (c : Int), .slice A n d] [.bool false, .slice none 0 0]
  have HW := Lib.hid hw1
  have HZ := Lib.hid z1
  obtain ⟨ad, rfl, hab, hlt, s_, A_, n_, c_, c0, c1, ze, hk⟩ := (h.below z1).elem hi hj
  have hz := ze.1
  clear ze h
  clear hw1 z1 s1
  go_enter Try.func61, Try.ntmps61
  go_upto_region 1 with fail
  rw [HW.out]
  refine Run.start 10 ?_
  refine .fa .o (fM2 2) ?_
  refine .ld (.i 0) (ldSl b3 2) ?_
  refine .mv .o ?_
  refine .fa .o (fM1 1) ?_
  refine .ld (.i 3) (ldInt b3 1) ?_
  refine .two (.i 2) (.i 4) (opMulN i c (by omega)) ?_
  refine .mv .o ?_
  refine .two (.i 5) (.i 6) (opAddN (i * c) j (by omega)) ?_
  refine .two (.i 1) (.i 7) (opIx hlt) ?_
  refine .ld (.i 8) (ldE (by rw [add_block]; exact hab) c0 c1) ?_
  refine .donep [some 7, some 8, some 9, some 10, some 11, some 12, some 13, some 14, some 15, some 16] ?_
  intro w2 B2
  change Shut (wpList _ _ _ [_] _ _)
  refine ⟨?_⟩
  simp only [Act.put, List.setIfInBounds_toArray, List.set_cons_zero, List.set_cons_succ]
  replace hz := hz.below B2
  clear c0 c1
  have I := Ib.entry (b6.below B2)
  have P := Lib.hid (retV hz I (k := k) (by omega) (by omega) (zup HZ.out B2))
  obtain ⟨i1, i2, i3, i4, i5⟩ := I
  clear hz
  go_wp2_with fail
  exact bodyPost_ret (v := .agg #[.bool s_, .slice A_ n_ c_]) (by simp [results, Try.results61, go_sem, i1, i2]) rfl P.out
set_option maxRecDepth 100000 in
/-- number. -/
theorem number_q {q : Bool} {r c n d k i j : Nat} {A : Option Addr} {F : Nat → Nat → Int} {w : World} (h : Mt q w r c A n d k F) (hi : i < r) (hj : j < c) (hk : k ≤ 1099511627776) : Calls Try.prog 69 #[.agg #[.int .i64 (r : Int), .int .i64 (c : Int), .slice A n d], .int .i64 (i : Int), .int .i64 (j : Int)] w (RetK (kC (F i j) k) w) := by
  obtain ⟨w1, hw1, b3, b6, z1, s1⟩ := boxes2 w 24 28 [.int .i64 (r : Int), .int .i64 (c : Int), .slice A n d] [.bool false, .slice none 0 0]
  have HW := Lib.hid hw1
  have HZ := Lib.hid z1
  replace h := h.below z1
  clear hw1 z1
  go_enter Try.func69, Try.ntmps69
  go_upto_region 1 with fail
  rw [HW.out]
  refine Run.start 5 ?_
  refine .ld .o (ldM b3 0) ?_
  refine .mv .o ?_
  refine .mv .o ?_
  refine .c3 (.i 0) (.i 1) (.i 2) (x := kV (F i j) k) (by rintro u v x w2 hB rfl rfl rfl; exact place_q (h.below hB) hi hj) ?_
  refine .al ?_
  refine .donep [some 8, some 9, some 10, some 11, some 7] ?_
  intro w2 B2
  rintro v7 ⟨s_, A_, n_, c_, rfl, hz, hk1⟩
  intro g7 hg7 hl7 hc7 ha7
  change Shut (wpList _ _ _ [_] _ _)
  refine ⟨?_⟩
  simp only [Act.put, List.setIfInBounds_toArray, List.set_cons_zero, List.set_cons_succ]
  have b7 : Bx w2 g7 28 [.bool false, .slice none 0 0] := hc7.trans (congrArg some (by kernel_rfl))
  obtain ⟨w3, hw3⟩ : ∃ w3, (w2.setCell ⟨g7, 0, none⟩ (.bool s_)).setCell ⟨g7, 1, none⟩ (.slice A_ n_ c_) = w3 := ⟨_, rfl⟩
  have hs1 := s1
  obtain ⟨i1, i2, i3, i4, i5⟩ := Ib.entry b7
  have hz3 : Zv w3 s_ A_ n_ c_ (F i j) := by rw [← hw3]; exact hz.put (Ib.entry b7)
  have b7' : Bx w3 g7 28 [.bool s_, .slice A_ n_ c_] := by rw [← hw3]; exact (b7.set 0 _).set 1 _
  have b6' : Bx w3 (w.heap.size + 1) 28 [.bool false, .slice none 0 0] := by rw [← hw3]; exact ((b6.below B2).off (by omega) _ _).off (by omega) _ _
  have B3 : Below w.heap.size w w3 := by rw [← hw3]; exact ((zup HZ.out B2).setCell (by show w.heap.size ≤ g7; omega) _).setCell (by show w.heap.size ≤ g7; omega) _
  have HW3 := Lib.hid hw3
  clear hw3 hz b7 hc7 hg7 hl7 ha7 hs1
  go_upto_region 2 with fail
  rw [HW3.out]
  clear i1 i2 i3 i4 i5 HW3
  refine Run.start 5 ?_
  refine .fa .o (fZ1 1) ?_
  refine .ld (.i 0) (ldNat b7' 1) ?_
  refine .fa .o (fZ0 0) ?_
  refine .ld (.i 2) (ldBool b7' 0) ?_
  refine .c2 (.i 1) (.i 3) (x := kC (F i j) k) (by rintro u v w2 hB rfl rfl; exact zfrom_q (hz3.below hB) hk1 hk) ?_
  refine .donep [some 12, some 13, some 14, some 15, some 16] ?_
  intro w4 B4
  rintro v8 ⟨s8, A8, n8, c8, rfl, hz, hk8⟩
  change Shut (wpList _ _ _ [_] _ _)
  refine ⟨?_⟩
  simp only [Act.put, List.setIfInBounds_toArray, List.set_cons_zero, List.set_cons_succ]
  have I := Ib.entry (b6'.below B4)
  have P := Lib.hid (retC hz I (k := k) (by omega) (by omega) (zup B3 B4))
  obtain ⟨i1, i2, i3, i4, i5⟩ := I
  clear hz
  go_wp2_with fail
  exact bodyPost_ret (v := .agg #[.bool s8, .slice A8 n8 c8]) (by simp [results, Try.results69, go_sem, i1, i2]) rfl P.out
end Go.Proofs.Ytcdkdanfiimlkaa
end

section
/-! Contract: a matrix that is made place by place. -/
namespace Go.Proofs.Ytcdkdanfiimlkaa
open Go.RowKit
set_option linter.unusedVariables false
set_option linter.unusedSimpArgs false

/-- make of an empty list with room. -/
theorem wpList_make_r {P : Program} (w : World) {ops : Array Oper} {rest : List Oper} {o : Oper} {a : Act} {Q : Exit → Act → World → Prop}
    (hg : o.guard = none) (l c : Operand) (t : TypeId) (hop : o.op = Op.makeSlice t l c)
    (ht : P.underlying t = some (.slice 28)) (hinfo : (P.info? 28).map (fun i => (i.zero, i.size, i.bytes)) = some (some (.agg #[.bool false, .slice none 0 0]), 2, 32))
    (n : Nat) (hl : a.eval l = .int .i64 0) (hc : a.eval c = .int .i64 (n : Int)) (hbytes : n ≤ 8796093022208)
    (hK : ∀ w', ZB w' w.heap.size 0 (List.replicate n 0) → Below w.heap.size w w' → w'.heap.size = w.heap.size + 1 → wpList P ops Q rest (a.put o.dst (.slice (some ⟨w.heap.size, 0, none⟩) 0 n)) w') :
    wpList P ops Q (o :: rest) a w := by
  obtain ⟨i, hi, hz0, hz1, hz2⟩ := info_parts hinfo
  have hrun := run_make (P := P) w t 28 i (.agg #[.bool false, .slice none 0 0]) ht hi hz0 .i64 .i64 0 (n : Int) (by omega) (by omega) (by rw [hz2]; omega) (by omega)
  refine wpList_plain hg fun K hK' => ?_
  unfold Oper.wp
  simp [execOp, hop, hl, hc, hrun, Result.andThen]
  refine hK' _ _ (hK _ ?_ ((Below.refl _ _).alloc (Nat.le_refl _) _) (by simp))
  rw [hz1]
  exact ZB.made w n
/-- A variable that holds no word. -/
theorem Bx.now {w : World} {g : Nat} {T : TypeId} {cs : List Value} (b : Bx w g T cs) (h : ∀ v, v ∈ cs → ∀ m : Int, v ≠ .int .u64 m) : Wless w g := fun p m hp hc => by
  have e : w.cell? p = cs[p.off]? ∨ w.cell? p = none := by
    unfold World.cell?
    rw [hp, b]
    by_cases hs : p.spot = none
    · left; simp [hs]
    · right; simp [hs]
  rcases e with e | e
  · rw [e] at hc
    exact h _ (List.mem_of_getElem? hc) m rfl
  · rw [e] at hc; cases hc
theorem ZL.apart {q : Bool} {w : World} {ad : Addr} {n c k g : Nat} {zs : List Int} {T : TypeId} {cs : List Value} (h : ZL q w (some ad) n c k zs) (h0 : 0 < n) (b : Bx w g T cs) (hb : ∀ v, v ∈ cs → ∀ s, v ≠ .bool s) : ad.block ≠ g := fun e => by
  obtain ⟨s, A, m, d, h1, _⟩ := h.elem h0
  rw [Nat.zero_mul, addr_add0] at h1
  have e1 : w.cell? ad = cs[ad.off]? ∨ w.cell? ad = none := by
    unfold World.cell?
    rw [e, b]
    by_cases hs : ad.spot = none
    · left; simp [hs]
    · right; simp [hs]
  rcases e1 with e1 | e1
  · rw [e1] at h1
    exact hb _ (List.mem_of_getElem? h1) s rfl
  · rw [e1] at h1; cases h1
/-- A list stays when a variable that holds no bool is written to. -/
theorem ZL.box {q : Bool} {w w' : World} {A : Option Addr} {n c k g : Nat} {zs : List Int} {T : TypeId} {cs : List Value} (h : ZL q w A n c k zs) (b : Bx w g T cs) (hb : ∀ v, v ∈ cs → ∀ s, v ≠ .bool s) (hw : ∀ v, v ∈ cs → ∀ m : Int, v ≠ .int .u64 m) (hg : w.grownBy w' (some g)) : ZL q w' A n c k zs := by
  by_cases h0 : 0 < n
  · obtain ⟨ad, e, _⟩ := h.at' h0
    subst e
    exact h.gro (fun a ha => by cases ha; exact h.apart h0 b hb) (b.now hw) hg
  · exact ⟨h.len, h.le, h.cap, fun h1 => absurd h1 h0⟩
/-- A matrix is written into a variable. -/
def mput (w : World) (g : Nat) (r c : Int) (A : Option Addr) (n d : Nat) : World := ((w.setCell ⟨g, 0, none⟩ (.int .i64 r)).setCell ⟨g, 1, none⟩ (.int .i64 c)).setCell ⟨g, 2, none⟩ (.slice A n d)
theorem mput_gro (w : World) (g : Nat) (r c : Int) (A : Option Addr) (n d : Nat) : w.grownBy (mput w g r c A n d) (some g) := gro_set (q := ⟨g, 2, none⟩) (gro_set (q := ⟨g, 1, none⟩) (gro_set (q := ⟨g, 0, none⟩) (gro_refl w (some g)) rfl _) rfl _) rfl _
theorem below_mput {b g : Nat} {w w2 : World} {r c : Int} {A : Option Addr} {n d : Nat} (h : Below b w w2) (hg : b ≤ g) : Below b w (mput w2 g r c A n d) := ((h.setCell hg _).setCell hg _).setCell hg _
theorem Mt.box {q : Bool} {w w' : World} {A : Option Addr} {r c n d k g : Nat} {F : Nat → Nat → Int} {T : TypeId} {cs : List Value} (h : Mt q w r c A n d k F) (b : Bx w g T cs) (hb : ∀ v, v ∈ cs → ∀ s, v ≠ .bool s) (hw : ∀ v, v ∈ cs → ∀ m : Int, v ≠ .int .u64 m) (hg : w.grownBy w' (some g)) : Mt q w' r c A n d k F := ⟨h.zl.box b hb hw hg, h.hr, h.hc⟩
theorem Mt.put {q : Bool} {w : World} {A B : Option Addr} {r c n d k g m e : Nat} {x y r' c' : Int} {C : Option Addr} {n' d' : Nat} {F : Nat → Nat → Int} (h : Mt q w r c A n d k F) (b : Bx w g 24 [.int .i64 x, .int .i64 y, .slice B m e]) : Mt q (mput w g r' c' C n' d') r c A n d k F :=
  h.box b (by simp) (by simp) (mput_gro _ _ _ _ _ _ _)
/-- A matrix lies in a function's result. -/
theorem retM {q : Bool} {w w2 : World} {A B : Option Addr} {r c n d k g m e : Nat} {x y : Int} {F : Nat → Nat → Int} (h : Mt q w2 r c A n d k F) (b : Bx w2 g 24 [.int .i64 x, .int .i64 y, .slice B m e]) (hg : w.heap.size ≤ g) (hB : Below w.heap.size w w2) :
    RetK (kM q r c k F) w (.returned (.agg #[.int .i64 (r : Int), .int .i64 (c : Int), .slice A n d])) (mput w2 g (r : Int) (c : Int) A n d) := ⟨_, rfl, ⟨A, n, d, rfl, h.put b⟩, below_mput hB hg⟩
/-- A matrix and an error are answered. -/
theorem retME {q : Bool} {w w2 : World} {A B : Option Addr} {r c n d k g m e : Nat} {x y : Int} {F : Nat → Nat → Int} (h : Mt q w2 r c A n d k F) (b : Bx w2 g 24 [.int .i64 x, .int .i64 y, .slice B m e]) (hg : w.heap.size ≤ g) (hB : Below w.heap.size w w2) :
    RetK (kT (kM q r c k F) (.k (.int .i64 0))) w (.returned (.tuple #[.agg #[.int .i64 (r : Int), .int .i64 (c : Int), .slice A n d], .int .i64 0])) (mput w2 g (r : Int) (c : Int) A n d) := ⟨_, rfl, ⟨_, _, rfl, ⟨A, n, d, rfl, h.put b⟩, rfl⟩, below_mput hB hg⟩
/-- A list of one number, in new memory. -/
def IsOne (b : Nat) (z : Int) (k : Nat) : FVal := fun v w => ∃ g s A n c, v = .slice (some ⟨g, 0, none⟩) 1 1 ∧ Bx w g 28 [.bool s, .slice A n c] ∧ b ≤ g ∧ Zc w s A n c z ∧ n ≤ k
def kOne (b : Nat) (z : Int) (k : Nat) : FK := .f (IsOne b z k) (fun v w w' ⟨g, s, A, n, c, e, h1, h2, h3, h4⟩ hb => ⟨g, s, A, n, c, e, h1.below hb, h2, h3.below hb, h4⟩)
theorem run_bsz {w : World} {s : Bool} {A : Option Addr} {n c : Nat} : (Instr.buildSlice 22 1 #[(0, .agg #[.bool s, .slice A n c])]).run Try.prog w = .ok (.slice (some ⟨w.heap.size, 0, none⟩) 1 1) (w.alloc (.cells #[.bool s, .slice A n c] 28)) := by kernel_rfl
def bsX (o : Op) : Operand := match o with | .buildSlice _ _ xs => (match xs.toList with | (_, x) :: _ => x | [] => .func 0) | _ => .func 0
def okBs (ops : Array Oper) (m i : Nat) (s : Src) : Bool := okH ops m i && (match (opAt ops i).op with | .buildSlice T 1 xs => (match xs.toList with | [(0, x)] => T == 22 && s.ok ops m i x | _ => false) | _ => false)
theorem Run.bs {ops : Array Oper} {Q : Exit → Act → World → Prop} {m i : Nat} {a0 : Act} {w0 : World} {l : List FK} {b : Bool} {id : Nat} (s : Src) {z : Int} {k b0 : Nat} (hb0 : b0 ≤ w0.heap.size) (rest : R ops Q m a0 w0 b id (kOne b0 z k :: l) (i + 1))
    (hx : s.K l i a0 (bsX (opAt ops i).op) = kC z k := by rfl) (hc : okBs ops m i s = true := by kernel_rfl) (hg : Gd l i (opAt ops i) := by first | exact trivial | exact rfl) : R ops Q m a0 w0 b id l i := by
  unfold okBs at hc
  rw [Bool.and_eq_true] at hc
  obtain ⟨h1, h2⟩ := hc
  refine Run.mem (x := kOne b0 z k) (fun a w h => ?_) rest (FK.fne _) h1 hg
  split at h2
  · rename_i T xs e
    split at h2
    · rename_i x ex
      obtain ⟨ys⟩ := xs
      simp only at ex
      subst ex
      have e0 : bsX (opAt ops i).op = x := by rw [e]; rfl
      rw [e0] at hx
      rw [Bool.and_eq_true, beq_iff_eq] at h2
      obtain ⟨rfl, h2⟩ := h2
      have := h.src h2
      rw [hx] at this
      obtain ⟨s', A, n, c, ev, hz, hk⟩ := this
      have B := zba w (.cells #[.bool s', .slice A n c] 28)
      refine ⟨_, _, ?_, ⟨w.heap.size, s', A, n, c, rfl, Bx.new w _ _, Nat.le_trans hb0 h.below.size, hz.below B, hk⟩, B⟩
      unfold execOp
      rw [e]
      simp only [List.map_toArray, List.map_cons, List.map_nil, ev]
      simp [run_bsz]
    · cases h2
  · cases h2
/-- A list in a block of its own. -/
def IsZw (b n k : Nat) (zs : List Int) : FVal := fun v w => ∃ g, v = .slice (some ⟨g, 0, none⟩) n n ∧ ZB w g k zs ∧ b ≤ g
def kZw (b n k : Nat) (zs : List Int) : FK := .f (IsZw b n k zs) (fun v w w' ⟨g, e, h1, h2⟩ hb => ⟨g, e, h1.below hb, h2⟩)
set_option maxRecDepth 100000 in
set_option maxHeartbeats 1000000 in
/-- grid.Make, of whole numbers. -/
theorem gmake_q {r c k : Nat} {f : FuncId} {first captured : Array Value} {F : Nat → Nat → Int} {w : World} (hr : r ≤ 64) (hc : c ≤ 64) (hgo : goes f = true)
    (H : ∀ i j W, i < r → j < c → Below w.heap.size w W → Calls Try.prog f (first ++ #[.int .i64 (i : Int), .int .i64 (j : Int)] ++ captured) W (RetK (kC (F i j) k) W)) :
    Calls Try.prog 100 #[.int .i64 (r : Int), .int .i64 (c : Int), .func (.func f) first captured] w (RetK (kZw w.heap.size (r * c) k (mk r c F)) w) := by
  have HF := Lib.hid H
  obtain ⟨N, hN⟩ : ∃ N, r * c = N := ⟨_, rfl⟩
  have hN2 : N ≤ 4096 := by rw [← hN]; exact Nat.mul_le_mul hr hc
  have e12 : (r : Int) * (c : Int) = (N : Int) := by rw [← hN]; simp
  have HN := Lib.hid hN
  rw [HN.out]
  clear H hN
  go_enter Try.func100, Try.ntmps100
  go_wp2_with (at_make; refine wpList_make_r _ rfl _ _ 22 rfl Try.underlying22 info_zint N rfl rfl (by omega) ?_)
  intro w2 hb B2 s2
  have HB : Hid (Below w.heap.size w w2 ∧ ZB w2 w.heap.size k (fil (mk r c F) 0)) :=
    Lib.hid ⟨B2, by rw [fil_zero, mk_len, HN.out]; exact hb.mono (Nat.zero_le _)⟩
  clear hb B2 s2 e12
  go_wp2_with fail
  go_loopw [7, 15] (fun s7 s15 wr => ∃ i : Nat, s7 = .slice (some ⟨w.heap.size, 0, none⟩) (i * c) N ∧ s15 = .int .i64 (i : Int) ∧ i ≤ r ∧ Hid (Below w.heap.size w wr ∧ ZB wr w.heap.size k (fil (mk r c F) (i * c)))) (fun _ s15 _ => r - (intOf s15).toNat)
  case atStart => exact ⟨0, by rw [Nat.zero_mul], rfl, Nat.zero_le _, by rw [Nat.zero_mul]; exact HB⟩
  case round =>
    clear HB
    obtain ⟨i, rfl, rfl, hi, HB⟩ := hrel
    by_cases hlt : i < r
    · have u1 : (i : Int) < (r : Int) := by omega
      go_wp2_with fail
      go_loopw [7, 19] (fun s7 s19 wq => ∃ j : Nat, s7 = .slice (some ⟨w.heap.size, 0, none⟩) (i * c + j) N ∧ s19 = .int .i64 (j : Int) ∧ j ≤ c ∧ Hid (Below w.heap.size w wq ∧ ZB wq w.heap.size k (fil (mk r c F) (i * c + j)))) (fun _ s19 _ => c - (intOf s19).toNat)
      case atStart => exact ⟨0, rfl, rfl, Nat.zero_le _, HB⟩
      case round =>
        clear HB
        obtain ⟨j, rfl, rfl, hj, HB⟩ := hrel
        by_cases hjl : j < c
        · have u2 : (j : Int) < (c : Int) := by omega
          go_upto_region 8 with fail
          obtain ⟨B0, hb⟩ := HB.out
          refine Run.start 6 ?_
          refine .mv .o ?_
          refine .mv .o ?_
          refine .mv .o ?_
          refine .mv .o ?_
          refine .cv2 (.i 1) (.i 2) (.i 3) (x := kC (F i j) k) rfl hgo (by rintro u v w4 hB rfl rfl; exact HF.out i j w4 hlt hjl (zup B0 hB)) ?_
          refine .bs (.i 4) (Nat.le_refl _) ?_
          refine .donep [some 22, some 23, some 24, some 25, some 26, some 27] ?_
          intro w4 B4
          rintro v0 -
          rintro v ⟨g, s_, A_, n_, c_, rfl, bg, hge, hz, hk⟩
          change Shut (wpList _ _ _ [_, _] _ _)
          refine ⟨?_⟩
          simp only [Act.put, List.setIfInBounds_toArray, List.set_cons_zero, List.set_cons_succ]
          have hm := at_lt hlt hjl
          have hL : (fil (mk r c F) (i * c + j)).length = N := by rw [fil_len (by rw [mk_len]; omega), mk_len, HN.out]
          have hlt0 := hb.lt
          go_wp2_with (at_builtin; refine wpList_approom rfl _ _ 22 rfl Try.underlying22 info_zint rfl rfl bg hz hk (hb.below B4) (by rw [hL, ← HN.out]; exact hm) hL.symm ?_)
          intro w5 hb5 hg5
          have HN2 : Hid (Below w.heap.size w w5 ∧ ZB w5 w.heap.size k (fil (mk r c F) (i * c + (j + 1)))) := by
            refine Lib.hid ⟨gro_up (zup B0 B4) hg5 (Nat.le_refl _), ?_⟩
            rw [← mk_at (F := F) hlt hjl, fil_set (by rw [mk_len]; exact hm)] at hb5
            exact hb5
          clear hb5 hg5 hb bg hz hk hm hL hlt0 B0 B4
          go_wp2_with fail
          go_roundw
          case rel => exact ⟨j + 1, rfl, by go_num, by omega, HN2⟩
          case measure => first | (simp [intOf]; done) | (simp [intOf]; omega)
        · obtain rfl : j = c := by omega
          have u2 : ¬ (j : Int) < (j : Int) := by omega
          rw [show i * j + j = (i + 1) * j by rw [Nat.succ_mul]] at HB
          go_wp2_with fail
          go_roundw
          case rel => exact ⟨i + 1, by rw [Nat.succ_mul], by go_num, by omega, HB⟩
          case measure => first | (simp [intOf]; done) | (simp [intOf]; omega)
    · obtain rfl : i = r := by omega
      have u1 : ¬ (i : Int) < (i : Int) := by omega
      obtain ⟨B0, hb⟩ := HB.out
      rw [HN.out, show fil (mk i c F) N = mk i c F by have := fil_all (mk i c F); rwa [mk_len, HN.out] at this] at hb
      have P : Hid (RetK (kZw w.heap.size N k (mk i c F)) w (.returned (.slice (some ⟨w.heap.size, 0, none⟩) N N)) _) := Lib.hid ⟨_, rfl, ⟨_, rfl, hb, Nat.le_refl _⟩, B0⟩
      clear hb B0 HB
      rw [HN.out]
      go_wp2_with fail
      exact bodyPost_ret (v := .slice (some ⟨w.heap.size, 0, none⟩) N N) (by simp [results, Try.results100, go_sem]) rfl P.out
set_option maxRecDepth 100000 in
set_option maxHeartbeats 1000000 in
/-- form. -/
theorem form_q {r c k : Nat} {f : FuncId} {first captured : Array Value} {F : Nat → Nat → Int} {w : World} (hr : r ≤ 64) (hc : c ≤ 64) (hgo : goes f = true)
    (H : ∀ i j W, i < r → j < c → Below w.heap.size w W → Calls Try.prog f (first ++ #[.int .i64 (i : Int), .int .i64 (j : Int)] ++ captured) W (RetK (kC (F i j) k) W)) :
    Calls Try.prog 59 #[.int .i64 (r : Int), .int .i64 (c : Int), .func (.func f) first captured] w (RetK (kM true r c k F) w) := by
  obtain ⟨w1, hw1, b6, z1, s1⟩ := boxes1 w 24 [.int .i64 0, .int .i64 0, .slice none 0 0]
  have HW := Lib.hid hw1
  have HF := Lib.hid H
  obtain ⟨N, hN⟩ : ∃ N, r * c = N := ⟨_, rfl⟩
  have hN2 : N ≤ 4096 := by rw [← hN]; exact Nat.mul_le_mul hr hc
  have HN := Lib.hid hN
  clear hw1 H hN
  go_enter Try.func59, Try.ntmps59
  go_upto_region 1 with fail
  rw [HW.out]
  have hG := gmake_q (w := w1) hr hc hgo fun i j W hi hj hW => HF.out i j W hi hj (zup z1 hW)
  rw [HN.out] at hG
  go_wp2_with fail
  refine hG.mono ?_
  rintro e w2 ⟨v, rfl, ⟨g, rfl, hb, hg⟩, B2⟩
  clear hG
  have hM : Mt true w2 r c (some ⟨g, 0, none⟩) N N k F := ⟨by
    have := hb.zl0 true (n := N) (c := N) (by rw [mk_len, HN.out]; exact Nat.le_refl _) (Nat.le_refl _) (by omega)
    rwa [List.take_of_length_le (by rw [mk_len, HN.out]; exact Nat.le_refl _)] at this, hr, hc⟩
  replace b6 := b6.below B2
  have P := Lib.hid (retM hM b6 (Nat.le_refl _) (zup z1 B2))
  have i0 := b6.cell 0
  have i1 := b6.cell 1
  have i2 := b6.cell 2
  have f0 := b6.free 0
  have f1 := b6.free 1
  have f2 := b6.free 2
  simp only [List.getElem?_cons_succ, List.getElem?_cons_zero] at i0 i1 i2
  clear b6 hb hM B2 z1 s1 HW
  unfold mput at P
  go_wp2_with fail
  exact bodyPost_ret (v := .agg #[.int .i64 (r : Int), .int .i64 (c : Int), .slice (some ⟨g, 0, none⟩) N N]) (by simp [results, Try.results59, go_sem, i0, i1, i2]) rfl P.out
end Go.Proofs.Ytcdkdanfiimlkaa
end

section
/-! Contracts: numbers that are asked for. -/
namespace Go.Proofs.Ytcdkdanfiimlkaa
open Go.RowKit
set_option linter.unusedVariables false
set_option linter.unusedSimpArgs false

set_option maxRecDepth 100000 in
/-- Transpose$1. -/
theorem transpose1_q {q : Bool} {r c n d k i j : Nat} {A : Option Addr} {F : Nat → Nat → Int} {g : Nat} {w : World} (b2 : Bx w g 24 [.int .i64 (r : Int), .int .i64 (c : Int), .slice A n d]) (ha : Mt q w r c A n d k F) (hi : i < c) (hj : j < r) (hk : k ≤ 1099511627776) : Calls Try.prog 68 #[.int .i64 (i : Int), .int .i64 (j : Int), .pointer (some ⟨g, 0, none⟩)] w (RetK (kC (F j i) k) w) := by
  obtain ⟨w1, hw1, b5, z1, s1⟩ := boxes1 w 28 [.bool false, .slice none 0 0]
  have HW := Lib.hid hw1
  have HZ := Lib.hid z1
  replace b2 := b2.below z1
  replace ha := ha.below z1
  clear hw1 z1 s1
  go_enter Try.func68, Try.ntmps68
  go_upto_region 1 with fail
  rw [HW.out]
  refine Run.start 4 ?_
  refine .ld .o (ldM b2 0) ?_
  refine .mv .o ?_
  refine .mv .o ?_
  refine .c3 (.i 0) (.i 1) (.i 2) (x := kC (F j i) k) (by rintro u v x w2 hB rfl rfl rfl; exact number_q (ha.below hB) hj hi hk) ?_
  refine .donep [some 6, some 7, some 8, some 9] ?_
  intro w2 B2
  rintro v ⟨s_, A_, n_, c_, rfl, hz, hk_⟩
  change Shut (wpList _ _ _ [_] _ _)
  refine ⟨?_⟩
  simp only [Act.put, List.setIfInBounds_toArray, List.set_cons_zero, List.set_cons_succ]
  have I := Ib.entry (b5.below B2)
  have P := Lib.hid (retC hz I (k := k) (by omega) (by omega) (zup HZ.out B2))
  obtain ⟨i1, i2, i3, i4, i5⟩ := I
  clear hz
  go_wp2_with fail
  exact bodyPost_ret (v := .agg #[.bool s_, .slice A_ n_ c_]) (by simp [results, Try.results68, go_sem, i1, i2]) rfl P.out
end Go.Proofs.Ytcdkdanfiimlkaa
end
