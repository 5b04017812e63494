/-
  BarB RegF
-/
import Derived.Test.YtcdkdanfiimlkaaPk17
import Derived.Test.YtcdkdanfiimlkaaPk21
import Derived.Test.YtcdkdanfiimlkaaPk26
import Derived.Test.YtcdkdanfiimlkaaPk10

section
/-! The memory of a reduction. -/
namespace Go.Proofs.Ytcdkdanfiimlkaa
open Go.RowKit
set_option linter.unusedVariables false
set_option linter.unusedSimpArgs false

/-! ### Steps of regions -/
def ncX (o : Op) : Operand := match o with | .nilCheck x => x | _ => .func 0
def okNc (ops : Array Oper) (m i : Nat) (s : Src) : Bool := okH ops m i && (match (opAt ops i).op with | .nilCheck x => s.ok ops m i x | _ => false)
theorem Run.nc {ops : Array Oper} {Q : Exit → Act → World → Prop} {m i : Nat} {a0 : Act} {w0 : World} {l : List FK} {b : Bool} {id : Nat} (s : Src) {p : Addr} (rest : R ops Q m a0 w0 b id (.k (.pointer (some p)) :: l) (i + 1)) (hc : okNc ops m i s = true := by kernel_rfl) (hg : Gd l i (opAt ops i) := by first | exact trivial | exact rfl) (hx : s.K l i a0 (ncX (opAt ops i).op) = .k (.pointer (some p)) := by rfl) : R ops Q m a0 w0 b id l i := by
  unfold okNc at hc
  rw [Bool.and_eq_true] at hc
  obtain ⟨h1, h2⟩ := hc
  refine Run.val h1 (FK.kne _) hg (fun a w h => ⟨.pointer (some p), ?_, rfl⟩) rest
  unfold ncX at hx
  unfold execOp
  cases e : (opAt ops i).op <;> simp only [e] at h2 hx <;> try cases h2
  simp only [h.srcK h2 hx]
  simp [go_sem]
section
variable {g o : Nat}
theorem fE0 (o' : Nat) (h : o + 0 = o' := by rfl) (w : World) : (Instr.fieldAt 95 (.pointer (some ⟨g, o, none⟩)) 0).run Try.prog w = .ok (.pointer (some ⟨g, o', none⟩)) w := by subst h; simp [go_sem]
theorem fE1 (o' : Nat) (h : o + 1 = o' := by rfl) (w : World) : (Instr.fieldAt 95 (.pointer (some ⟨g, o, none⟩)) 1).run Try.prog w = .ok (.pointer (some ⟨g, o', none⟩)) w := by subst h; simp [go_sem]
theorem fE2 (o' : Nat) (h : o + 2 = o' := by rfl) (w : World) : (Instr.fieldAt 95 (.pointer (some ⟨g, o, none⟩)) 2).run Try.prog w = .ok (.pointer (some ⟨g, o', none⟩)) w := by subst h; simp [go_sem]
theorem fE3 (o' : Nat) (h : o + 4 = o' := by rfl) (w : World) : (Instr.fieldAt 95 (.pointer (some ⟨g, o, none⟩)) 3).run Try.prog w = .ok (.pointer (some ⟨g, o', none⟩)) w := by subst h; simp [go_sem]
variable {w : World} {T : TypeId} {cs : List Value}
theorem ldSS (b : Bx w g T cs) (o : Nat) {A : Option Addr} {n c : Nat} (hc : cs[o]? = some (.slice A n c) := by rfl) : ∀ w', Below w.heap.size w w' → (Instr.loadAt 93 (.pointer (some ⟨g, o, none⟩))).run Try.prog w' = .ok (.slice A n c) w' := fun w' hb => by
  have h := (b.below hb).cell o
  rw [hc] at h
  simp [go_sem, addr_add0, h]
theorem ldIs (b : Bx w g T cs) (o : Nat) {A : Option Addr} {n c : Nat} (hc : cs[o]? = some (.slice A n c) := by rfl) : ∀ w', Below w.heap.size w w' → (Instr.loadAt 64 (.pointer (some ⟨g, o, none⟩))).run Try.prog w' = .ok (.slice A n c) w' := fun w' hb => by
  have h := (b.below hb).cell o
  rw [hc] at h
  simp [go_sem, addr_add0, h]
theorem run_ixS {w : World} {H i n c : Nat} (h : i < n) : (Instr.indexAt 93 (.slice (some ⟨H, 0, none⟩) n c) (.int .i64 (i : Int))).run Try.prog w = .ok (.pointer (some ⟨H, i, none⟩)) w := by
  simp [go_sem, Try.underlying93, show Try.prog.cellsOf 22 = 1 by kernel_rfl]
  omega
theorem opIxS {H i n c : Nat} {X Y : Operand} (h : i < n) (w : World) : RunTwo Try.prog (.indexAddr 93 X Y) w (.slice (some ⟨H, 0, none⟩) n c) (.int .i64 (i : Int)) (.pointer (some ⟨H, i, none⟩)) := run_ixS h
end

/-! ### Rows -/
/-- The first C numbers of a row. -/
def rw' (C : Nat) (f : Nat → Int) : List Int := (List.range C).map f
theorem rw_len (C : Nat) (f : Nat → Int) : (rw' C f).length = C := by simp [rw']
theorem rw_at {C j : Nat} {f : Nat → Int} (h : j < C) : ith (rw' C f) j = f j := by simp [ith, rw', List.getD, h]
theorem rw_congr {C : Nat} {f f' : Nat → Int} (h : ∀ j, j < C → f j = f' j) : rw' C f = rw' C f' := List.map_congr_left fun j hj => h j (List.mem_range.1 hj)
theorem ZL.gro0 {q : Bool} {w w' : World} {A : Option Addr} {n c k g : Nat} {zs : List Int} (h : ZL q w A n c k zs) (hne : 0 < n → ∀ ad, A = some ad → ad.block ≠ g) (hn : Wless w g) (hg : w.grownBy w' (some g)) : ZL q w' A n c k zs := by
  rcases Nat.eq_zero_or_pos n with h0 | h0
  · exact ⟨h.len, h.le, h.cap, fun h1 => by omega⟩
  · exact h.gro (hne h0) hn hg
/-- A row: its numbers, and where it doesn't lie. -/
def RowOk (w : World) (S : List Nat) (v : Value) (C K : Nat) (f : Nat → Int) : Prop := ∃ A c, v = .slice A C c ∧ ZL true w A C c K (rw' C f) ∧ (0 < C → ∀ ad, A = some ad → ad.block ∉ S)
section
variable {w w' : World} {S S' : List Nat} {v : Value} {C K K' : Nat} {f f' : Nat → Int}
theorem RowOk.below (h : RowOk w S v C K f) (hb : Below w.heap.size w w') : RowOk w' S v C K f := by
  obtain ⟨A, c, e, h1, h2⟩ := h
  exact ⟨A, c, e, h1.below hb, h2⟩
theorem RowOk.gro {x : Nat} (h : RowOk w S v C K f) (hx : x ∈ S) (hn : Wless w x) (hg : w.grownBy w' (some x)) : RowOk w' S v C K f := by
  obtain ⟨A, c, e, h1, h2⟩ := h
  exact ⟨A, c, e, h1.gro0 (fun h0 ad ha e => h2 h0 ad ha (e ▸ hx)) hn hg, h2⟩
theorem RowOk.mono (h : RowOk w S v C K f) (hk : K ≤ K') : RowOk w S v C K' f := by
  obtain ⟨A, c, e, h1, h2⟩ := h
  exact ⟨A, c, e, h1.mono hk, h2⟩
theorem RowOk.congr (h : RowOk w S v C K f) (e : ∀ j, j < C → f j = f' j) : RowOk w S v C K f' := by
  obtain ⟨A, c, e', h1, h2⟩ := h
  exact ⟨A, c, e', by rw [← rw_congr e]; exact h1, h2⟩
/-- The list of places may hold more that is new. -/
theorem RowOk.more (h : RowOk w S v C K f) (hS : ∀ x, x ∈ S' → x ∈ S ∨ w.heap.size ≤ x) : RowOk w S' v C K f := by
  obtain ⟨A, c, e, h1, h2⟩ := h
  refine ⟨A, c, e, h1, fun h0 ad ha hx => ?_⟩
  rcases hS _ hx with h3 | h3
  · exact h2 h0 ad ha h3
  · obtain ⟨ad', ha', h4, -⟩ := h1.at' h0
    rw [ha] at ha'; cases ha'
    omega
theorem RowOk.slice (h : RowOk w S v C K f) : ∃ A c, v = .slice A C c := by obtain ⟨A, c, e, -⟩ := h; exact ⟨A, c, e⟩
end
def blkOf (v : Value) : List Nat := match v.ownBlock with | some x => [x] | none => []
theorem mem_blk {v : Value} {x : Nat} (h : v.ownBlock = some x) : x ∈ blkOf v := by unfold blkOf; rw [h]; simp
def ints (ps : List Nat) : List Value := ps.map fun p : Nat => Value.int .i64 (p : Int)
/-- What holds a reduction: the type of the block, and what lies behind. -/
structure Xt where
  T : TypeId
  ex : List Value
  nw : ∀ v, v ∈ ex → ∀ m : Int, v ≠ .int .u64 m
/-- What stands in the memory of a reduction: the struct's block g, the block H of the rows' slices, the pivots' slice vp, the rows. -/
structure RAt (xt : Xt) (b : Nat) (w : World) (g H R C Ka : Nat) (K : Nat → Nat) (M : Nat → Nat → Int) (ps : List Nat) (h : Int) (s : Bool) (vp : Value) (sa : Bool) (A : Option Addr) (n c : Nat) (rows : List Value) : Prop where
  bx : Bx w g xt.T (.slice (some ⟨H, 0, none⟩) R R :: vp :: .bool sa :: .slice A n c :: .bool s :: xt.ex)
  hd : Bx w H 22 rows
  len : rows.length = R
  ne : g ≠ H
  bg : b ≤ g
  bh : b ≤ H
  own : OwnI w b 3 vp ps.length (ints ps)
  pg : vp.ownBlock ≠ some g
  ph : vp.ownBlock ≠ some H
  az : Zc w sa A n c h
  an : n ≤ Ka
  row : ∀ i, i < R → ∃ v, rows[i]? = some v ∧ RowOk w (g :: H :: blkOf vp) v C (K i) (M i)
section
variable {xt : Xt} {b : Nat} {w w' : World} {g H R C Ka Ka' : Nat} {K K' : Nat → Nat} {M M' : Nat → Nat → Int} {ps : List Nat} {h : Int} {s : Bool} {vp : Value} {sa : Bool} {A : Option Addr} {n c : Nat} {rows : List Value}
theorem RAt.below (r : RAt xt b w g H R C Ka K M ps h s vp sa A n c rows) (hb : Below w.heap.size w w') : RAt xt b w' g H R C Ka K M ps h s vp sa A n c rows where
  bx := r.bx.below hb
  hd := r.hd.below hb
  len := r.len
  ne := r.ne
  bg := r.bg
  bh := r.bh
  own := r.own.below hb
  pg := r.pg
  ph := r.ph
  az := r.az.below hb
  an := r.an
  row := fun i hi => by
    obtain ⟨v, h1, h2⟩ := r.row i hi
    exact ⟨v, h1, h2.below hb⟩
theorem RAt.mono (r : RAt xt b w g H R C Ka K M ps h s vp sa A n c rows) (hk : Ka ≤ Ka') (hK : ∀ i, i < R → K i ≤ K' i) : RAt xt b w g H R C Ka' K' M ps h s vp sa A n c rows :=
  { r with an := Nat.le_trans r.an hk, row := fun i hi => let ⟨v, h1, h2⟩ := r.row i hi; ⟨v, h1, h2.mono (hK i hi)⟩ }
theorem RAt.congr (r : RAt xt b w g H R C Ka K M ps h s vp sa A n c rows) (e : ∀ i j, i < R → j < C → M i j = M' i j) : RAt xt b w g H R C Ka K M' ps h s vp sa A n c rows :=
  { r with row := fun i hi => let ⟨v, h1, h2⟩ := r.row i hi; ⟨v, h1, h2.congr fun j hj => e i j hi hj⟩ }
theorem RAt.vpf (r : RAt xt b w g H R C Ka K M ps h s vp sa A n c rows) : ∃ A c, vp = .slice A ps.length c := by
  obtain ⟨A, c, e, -⟩ := r.own.form
  exact ⟨A, c, e⟩
theorem RAt.nowG (r : RAt xt b w g H R C Ka K M ps h s vp sa A n c rows) : Wless w g := r.bx.now (by
  obtain ⟨A', c', e⟩ := r.vpf
  subst e
  simpa using xt.nw)
theorem RAt.nowH (r : RAt xt b w g H R C Ka K M ps h s vp sa A n c rows) : Wless w H := r.hd.now fun v hv => by
  obtain ⟨i, hi, rfl⟩ := List.getElem_of_mem hv
  obtain ⟨v', h1, h2⟩ := r.row i (by rw [← r.len]; exact hi)
  obtain ⟨A', c', e⟩ := h2.slice
  rw [List.getElem?_eq_getElem hi] at h1
  injection h1 with h1
  rw [h1, e]
  simp
/-- The rows' block: a row is written to its place. -/
theorem RAt.put (r : RAt xt b w g H R C Ka K M ps h s vp sa A n c rows) {i : Nat} (hi : i < R) {v : Value} {f : Nat → Int} {kv : Nat} (hv : RowOk w (g :: H :: blkOf vp) v C kv f) :
    RAt xt b (w.setCell ⟨H, i, none⟩ v) g H R C Ka (fun a => if a = i then kv else K a) (fun a => if a = i then f else M a) ps h s vp sa A n c (rows.set i v) := by
  have hgr : w.grownBy (w.setCell ⟨H, i, none⟩ v) (some H) := gro_set (q := ⟨H, i, none⟩) (gro_refl w (some H)) rfl _
  exact {
    bx := gro_bx r.bx hgr r.ne
    hd := r.hd.set i v
    len := by rw [List.length_set]; exact r.len
    ne := r.ne
    bg := r.bg
    bh := r.bh
    own := r.own.kept hgr r.ph
    pg := r.pg
    ph := r.ph
    az := r.az.gro r.nowH hgr
    an := r.an
    row := fun a ha => by
      by_cases e : a = i
      · subst e
        refine ⟨v, by rw [List.getElem?_set_self (by rw [r.len]; exact hi)], ?_⟩
        rw [if_pos rfl, if_pos rfl]
        exact hv.gro (by simp) r.nowH hgr
      · obtain ⟨v', h1, h2⟩ := r.row a ha
        refine ⟨v', by rw [List.getElem?_set_ne (Ne.symm e)]; exact h1, ?_⟩
        rw [if_neg e, if_neg e]
        exact h2.gro (by simp) r.nowH hgr }
theorem RAt.odd (r : RAt xt b w g H R C Ka K M ps h s vp sa A n c rows) (s' : Bool) : RAt xt b (w.setCell ⟨g, 4, none⟩ (.bool s')) g H R C Ka K M ps h s' vp sa A n c rows := by
  have hgr : w.grownBy (w.setCell ⟨g, 4, none⟩ (.bool s')) (some g) := gro_set (q := ⟨g, 4, none⟩) (gro_refl w (some g)) rfl _
  exact {
    bx := r.bx.set 4 _
    hd := gro_bx r.hd hgr (Ne.symm r.ne)
    len := r.len
    ne := r.ne
    bg := r.bg
    bh := r.bh
    own := r.own.kept hgr r.pg
    pg := r.pg
    ph := r.ph
    az := r.az.gro r.nowG hgr
    an := r.an
    row := fun a ha => by
      obtain ⟨v', h1, h2⟩ := r.row a ha
      exact ⟨v', h1, h2.gro (by simp) r.nowG hgr⟩ }
/-- The pivots' row has grown; then its slice and the pivot ahead are written. -/
theorem RAt.push (r : RAt xt b w g H R C Ka K M ps h s vp sa A n c rows) {p : Nat} {vp' : Value} (ho : OwnI w' b 3 vp' (ps.length + 1) (ints ps ++ [.int .i64 (p : Int)])) (hG : Grew w w' vp vp') (hb : b ≤ w.heap.size) {sz : Bool} {B : Option Addr} {m d : Nat} {z : Int} (hz : Zc w sz B m d z) (hm : m ≤ Ka) :
    RAt xt b (((w'.setCell ⟨g, 1, none⟩ vp').setCell ⟨g, 2, none⟩ (.bool sz)).setCell ⟨g, 3, none⟩ (.slice B m d)) g H R C Ka K M (ps ++ [p]) z s vp' sz B m d rows := by
  have hgl := r.bx.lt
  have hhl := r.hd.lt
  have b1 : Bx w' g xt.T (.slice (some ⟨H, 0, none⟩) R R :: vp :: .bool sa :: .slice A n c :: .bool s :: xt.ex) := (hG.by'.block g hgl (Ne.symm r.pg)).trans r.bx
  have b2 : Bx w' H 22 rows := (hG.by'.block H hhl (Ne.symm r.ph)).trans r.hd
  have hrow : ∀ i, i < R → ∃ v, rows[i]? = some v ∧ RowOk w' (g :: H :: blkOf vp') v C (K i) (M i) := fun i hi => by
    obtain ⟨v, h1, h2⟩ := r.row i hi
    have h3 : RowOk w (g :: H :: blkOf vp') v C (K i) (M i) := h2.more fun x hx => by
      rcases hG.to' with e | e
      · left
        have : blkOf vp' = blkOf vp := by unfold blkOf; rw [e]
        rw [← this]; exact hx
      · simp only [List.mem_cons] at hx ⊢
        rcases hx with hx | hx | hx
        · exact .inl (.inl hx)
        · exact .inl (.inr (.inl hx))
        · right
          unfold blkOf at hx
          rw [e] at hx
          simp at hx
          omega
    refine ⟨v, h1, ?_⟩
    cases hvb : vp.ownBlock with
    | none =>
      have := hG.by'
      rw [hvb] at this
      exact h3.below ⟨this.os, this.tape, this.output, this.size, fun k hk => this.block k hk (by simp)⟩
    | some x =>
      obtain ⟨A', c', e', h5, h6⟩ := h3
      obtain ⟨A'', c'', e'', h7, h8⟩ := h2
      rw [e'] at e''
      cases e''
      have := hG.by'
      rw [hvb] at this
      exact ⟨A', c', e', h5.gro0 (fun h0 ad ha e => h8 h0 ad ha (by rw [e]; simp [mem_blk hvb])) (hG.now x hvb) this, h6⟩
  have hpg : vp'.ownBlock ≠ some g := by
    rcases hG.to' with e | e
    · rw [e]; exact r.pg
    · rw [e]; intro e2; injection e2 with e2; omega
  have hph : vp'.ownBlock ≠ some H := by
    rcases hG.to' with e | e
    · rw [e]; exact r.ph
    · rw [e]; intro e2; injection e2 with e2; omega
  obtain ⟨Ap, cp, evp, -⟩ := r.own.form
  obtain ⟨Aq, cq, evq, -⟩ := ho.form
  have hgr : w'.grownBy (((w'.setCell ⟨g, 1, none⟩ vp').setCell ⟨g, 2, none⟩ (.bool sz)).setCell ⟨g, 3, none⟩ (.slice B m d)) (some g) := gro_set (q := ⟨g, 3, none⟩) (gro_set (q := ⟨g, 2, none⟩) (gro_set (q := ⟨g, 1, none⟩) (gro_refl w' (some g)) rfl _) rfl _) rfl _
  have hno : Wless w' g := b1.now (by subst evp; simpa using xt.nw)
  exact {
    bx := ((b1.set 1 _).set 2 _).set 3 _
    hd := gro_bx b2 hgr (Ne.symm r.ne)
    len := r.len
    ne := r.ne
    bg := r.bg
    bh := r.bh
    own := by
      have := ho.kept hgr hpg
      rw [show (ps ++ [p]).length = ps.length + 1 by simp, show ints (ps ++ [p]) = ints ps ++ [.int .i64 (p : Int)] by simp [ints]]
      exact this
    pg := hpg
    ph := hph
    az := (hG.zc hz).gro hno hgr
    an := hm
    row := fun i hi => by
      obtain ⟨v, h1, h2⟩ := hrow i hi
      exact ⟨v, h1, h2.gro (by simp) hno hgr⟩ }
end
/-- Two rows change places. -/
theorem RAt.swap {xt : Xt} {b : Nat} {w : World} {g H R C Ka K : Nat} {M : Nat → Nat → Int} {ps : List Nat} {h : Int} {s : Bool} {vp : Value} {sa : Bool} {A : Option Addr} {n c : Nat} {rows : List Value} (r : RAt xt b w g H R C Ka (fun _ => K) M ps h s vp sa A n c rows) {i j : Nat} (hi : i < R) (hj : j < R) {vi vj : Value} (ei : rows[i]? = some vi) (ej : rows[j]? = some vj) :
    RAt xt b ((w.setCell ⟨H, j, none⟩ vi).setCell ⟨H, i, none⟩ vj) g H R C Ka (fun _ => K) (DT.swr M j i) ps h s vp sa A n c ((rows.set j vi).set i vj) := by
  obtain ⟨v, h1, h2⟩ := r.row i hi
  rw [ei] at h1; cases h1
  obtain ⟨v, h3, h4⟩ := r.row j hj
  rw [ej] at h3; cases h3
  have r1 := r.put hj h2
  have hgr : w.grownBy (w.setCell ⟨H, j, none⟩ vi) (some H) := gro_set (q := ⟨H, j, none⟩) (gro_refl w (some H)) rfl _
  have r2 := r1.put hi (h4.gro (by simp) r.nowH hgr)
  have e : (fun a => if a = i then K else if a = j then K else K) = fun _ => K := by funext a; split; rfl; split <;> rfl
  rw [e] at r2
  refine r2.congr fun a l ha hl => ?_
  unfold DT.swr
  by_cases e1 : a = i
  · rw [if_pos e1]
    by_cases e2 : a = j
    · rw [if_pos e2]; rw [← e2, e1]
    · rw [if_neg e2, if_pos e1]
  · rw [if_neg e1]
    by_cases e2 : a = j
    · rw [if_pos e2, if_pos e2]
    · rw [if_neg e2, if_neg e2, if_neg e1]
/-- A reduction's memory, whatever it holds. -/
def Rdc (xt : Xt) (b : Nat) (w : World) (g R C K : Nat) (M : Nat → Nat → Int) (ps : List Nat) (h : Int) (s : Bool) : Prop := ∃ H vp sa A n c rows, RAt xt b w g H R C K (fun _ => K) M ps h s vp sa A n c rows
end Go.Proofs.Ytcdkdanfiimlkaa
end

section
/-! Regions with an operation that floats. -/
namespace Go.Proofs.Ytcdkdanfiimlkaa
open Go.RowKit
set_option linter.unusedVariables false
set_option linter.unusedSimpArgs false

section
variable {P : Program} {ops : Array Oper} {Q : Exit → Act → World → Prop} {m i : Nat} {a0 a : Act} {w0 w : World} {l : List FK} {b : Bool} {id : Nat}
theorem hops_off {fl : List Nat} (hm : m ≤ ops.size) (hl : l.length = m) (h : AllK Try.prog ops Q m a0 w0 l) (hfl : ∀ i, fl.contains i = true → i < m → FloatAt Try.prog ops m a0 w0 (fsOf l.reverse) i (opAt ops i)) : ∀ (n i : Nat), n + i = m → HopAll Try.prog ops Q fl m a0 w0 (fsOf l.reverse) i ((ops.toList.take m).drop i) ∧ okL ((ops.toList.take m).drop i) (l.reverse.drop i) := by
  intro n
  induction n with
  | zero =>
    intro i hi
    rw [List.drop_of_length_le (by rw [List.length_take, Array.length_toList]; omega), List.drop_of_length_le (by rw [List.length_reverse]; omega)]
    exact ⟨trivial, trivial⟩
  | succ n ih =>
    intro i hi
    have hin : i < (ops.toList.take m).length := by rw [List.length_take, Array.length_toList]; omega
    have hil : i < l.reverse.length := by rw [List.length_reverse]; omega
    obtain ⟨h1, h2⟩ := ih (i + 1) (by omega)
    have hsz : i < ops.size := by omega
    have ho : (ops.toList.take m)[i] = opAt ops i := by rw [opAt_get hsz]; simp
    have hx : nthK l.reverse i = l.reverse[i] := by
      have : ∀ (l : List FK) (i : Nat) (h : i < l.length), nthK l i = l[i] := by
        intro l
        induction l with
        | nil => intro i h; simp at h
        | cons x l ih => intro i h; cases i with
          | zero => rfl
          | succ i => simp only [nthK, List.getElem_cons_succ]; exact ih i (by simpa using h)
      exact this l.reverse i hil
    obtain ⟨l', hlk, hi2⟩ := allK_at l h i (by omega)
    rw [List.drop_eq_getElem_cons hin, List.drop_eq_getElem_cons hil, ho]
    rw [hx] at hi2
    have hop : ∀ x : FK, nthK l.reverse i = x → HopK Try.prog ops Q m a0 w0 l' i x → HopAt Try.prog ops Q m a0 w0 (fsOf l.reverse) i (opAt ops i) := fun x ex hk a w hB ho' hp K hK =>
      hk a w ⟨hB, ho', fun k d hkk hd => by
        have hkk0 := hkk
        unfold inPre at hkk
        simp only [Bool.and_eq_true, decide_eq_true_iff] at hkk
        rw [hlk k hkk.1.1.1, ← nthF_of]
        exact hp k d (by simp only [Bool.and_eq_true, decide_eq_true_iff]; exact ⟨⟨⟨hkk.1.1.2, by rw [hd]; simp⟩, hkk.1.2⟩, hkk.2⟩)⟩ K (fun v w' hv hb => hK v w' (by rw [nthF_of, ex]; exact hv) hb)
    cases ex : l.reverse[i] with
    | a T => rw [ex] at hi2; exact ⟨HopAll.al (by rw [hi2]; rfl) h1, hi2, h2⟩
    | k v => rw [ex] at hi2; exact ⟨by
        cases ec : fl.contains i
        · exact HopAll.cons ec (hop _ (hx.trans ex) hi2.2) h1
        · exact HopAll.fl ec (hfl i ec (by omega)) h1, hi2.1, h2⟩
    | f F hF => rw [ex] at hi2; exact ⟨by
        cases ec : fl.contains i
        · exact HopAll.cons ec (hop _ (hx.trans ex) hi2.2) h1
        · exact HopAll.fl ec (hfl i ec (by omega)) h1, hi2.1, h2⟩
noncomputable def okQf (ops : Array Oper) (fl : List Nat) (m size : Nat) : Bool := regionOk ops fl m size && ((allocTs ops m).all okZ && allocGuards ops m)
/-- A part of a tuple, that may come up whenever the tuple is there. -/
def okFl (ops : Array Oper) (m i k j : Nat) : Bool := (match (opAt ops i).op with | .extract (.tmp t) j' => j' == j && (predsOf ops i).contains k && slotOf ops k == some t && ((ops[k]?).bind isAlloc).isNone && decide (k < m) | _ => false) && (opAt ops i).guard.isNone
theorem float_ex {Fs : List FVal} {k j : Nat} {F F' : FVal} {v : Value} (hok : okFl ops m i k j = true) (hk : nthF Fs k = F) (hi : nthF Fs i = F') (hF : ∀ u w, F u w → ∃ vs : Array Value, u = .tuple vs ∧ vs[j]? = some v) (hF' : ∀ w, F' v w) : FloatAt Try.prog ops m a0 w0 Fs i (opAt ops i) := fun a w hB ho hp => by
  unfold okFl at hok
  rw [Bool.and_eq_true] at hok
  obtain ⟨h1, h2⟩ := hok
  split at h1
  · rename_i t j' e
    simp only [Bool.and_eq_true, beq_iff_eq] at h1
    obtain ⟨⟨⟨⟨rfl, h3⟩, h4⟩, h5⟩, h6⟩ := h1
    have hv := hp k t (by simp only [Bool.and_eq_true, beq_iff_eq]; exact ⟨⟨⟨h3, h4⟩, h5⟩, h6⟩)
    rw [hk] at hv
    obtain ⟨vs, eu, ev⟩ := hF _ _ hv
    refine ⟨v, by rw [hi]; exact hF' _, ?_⟩
    refine .inl ⟨wanted_none (Option.isNone_iff_eq_none.1 h2), fun w' => ?_⟩
    unfold execOp
    rw [e]
    simp only [eu]
    simp [go_sem, ev]
  · cases h1
/-- A move of what the region leaves alone. -/
def okFm (ops : Array Oper) (m i : Nat) : Bool := (match (opAt ops i).op with | .move (.tmp t) => (List.range m).all fun k => slotOf ops k != some t | _ => false) && (opAt ops i).guard.isNone
theorem float_mv {Fs : List FVal} {v : Value} (hok : okFm ops m i = true) (hi : nthF Fs i = IsK v) (hv : a0.eval (mvX ops i) = v) : FloatAt Try.prog ops m a0 w0 Fs i (opAt ops i) := fun a w hB ho hp => by
  unfold okFm at hok
  unfold mvX at hv
  rw [Bool.and_eq_true] at hok
  obtain ⟨h1, h2⟩ := hok
  split at h1
  · rename_i t e
    rw [e] at hv
    refine ⟨v, by rw [hi]; rfl, .inl ⟨wanted_none (Option.isNone_iff_eq_none.1 h2), fun w' => ?_⟩⟩
    unfold execOp
    rw [e]
    have h3 := (ho t h1).trans hv
    simp only [h3]
    rfl
  · cases h1
theorem fl_one {Fs : List FVal} {j : Nat} (h : FloatAt Try.prog ops m a0 w0 Fs j (opAt ops j)) : ∀ i, [j].contains i = true → i < m → FloatAt Try.prog ops m a0 w0 Fs i (opAt ops i) := fun i hi _ => by
  have e : i = j := by simpa using hi
  subst e; exact h
/-- All of a region that draws its order are known; those of fl float. -/
theorem Run.donef (fl : List Nat) (ds : List (Option Nat)) (hfl : ∀ i, fl.contains i = true → i < m → FloatAt Try.prog ops m a0 w0 (fsOf l.reverse) i (opAt ops i)) (hend : ∀ w, Below w0.heap.size w0 w → EndQ ops Q m w0 w [] l.reverse ds a0) (hok : okQf ops fl m a0.tmps.size = true := by kernel_rfl) (hds : (ops.toList.take m).map (·.dst) = ds := by rfl) (hi : i = m := by rfl) (hQ : ∀ c a d v w, Q (.panic c) (a.put d v) w → Q (.panic c) a w := by (intro _ _ d _ _ h; cases d <;> exact h)) : R ops Q m a0 w0 true id l i := fun hl hall => by
  unfold okQf at hok
  simp only [Bool.and_eq_true] at hok
  subst hi
  have h := hops_off (fl := fl) (ok_slots hok.1).1 hl hall hfl i 0 rfl
  exact region8 fl i (fsOf l.reverse) hQ hok.1 hok.2.1 hok.2.2 (fsOf_stay l.reverse) h.1 (fun w hw => endQ_of _ l.reverse l.reverse [] 0 a0 h.2 (fun j _ => by rw [Nat.zero_add]) (by rw [hds]; exact hend w hw))
end
end Go.Proofs.Ytcdkdanfiimlkaa
end
