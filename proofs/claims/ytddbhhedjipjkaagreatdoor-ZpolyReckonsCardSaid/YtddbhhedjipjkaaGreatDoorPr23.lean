/-
  GfpC GfpD RefB
-/
import Derived.Test.YtddbhhedjipjkaaGreatDoorPr10
import Derived.Test.YtddbhhedjipjkaaGreatDoorPr22
import Derived.Test.YtddbhhedjipjkaaGreatDoorPr05
import Derived.Test.YtddbhhedjipjkaaGreatDoorPr02

section
namespace Go.Proofs.YtddbhhedjipjkaaGreatDoor.MR
theorem pr_gcd {n : Nat} (h2 : 2 ≤ n) (hlt : n < 2147483648) (hg : Nat.beq (Nat.gcd n P0) 1 = true) : Pr n := by
  have hg1 : Nat.gcd n P0 = 1 := Nat.eq_of_beq_eq_true hg
  refine pr_small h2 fun d h1 hd hm => ?_
  obtain ⟨e, he⟩ := Nat.dvd_of_mod_eq_zero hm
  have he2 : 2 ≤ e := by
    rcases Nat.lt_or_ge e 2 with z | z
    · have : e = 0 ∨ e = 1 := by omega
      rcases this with rfl | rfl <;> omega
    · exact z
  have key : ∀ x, 2 ≤ x → x ∣ n → x ≤ 46340 → False := fun x hx hxn hle => by
    obtain ⟨q, hq, hqx⟩ := pr_factor x hx
    have h3 : q ∣ Nat.gcd n P0 := Nat.dvd_gcd (Nat.dvd_trans hqx hxn) (P0_dvd hq (Nat.le_trans (Nat.le_of_dvd (by omega) hqx) hle))
    rw [hg1] at h3
    have := Nat.le_of_dvd (by omega) h3
    have := hq.1
    omega
  rcases Nat.lt_or_ge 46340 d with z | z
  · rcases Nat.lt_or_ge 46340 e with y | y
    · have := Nat.mul_le_mul (show 46341 ≤ d from z) (show 46341 ≤ e from y)
      omega
    · exact key e he2 ⟨d, by rw [he, Nat.mul_comm]⟩ y
  · exact key d h1 ⟨e, he⟩ z
theorem five_gcd : and (Nat.beq (Nat.gcd 65537 P0) 1) (and (Nat.beq (Nat.gcd 1000003 P0) 1) (and (Nat.beq (Nat.gcd 1073741827 P0) 1) (and (Nat.beq (Nat.gcd 2147483629 P0) 1) (Nat.beq (Nat.gcd 2147483647 P0) 1)))) = true := by decide +kernel
theorem pr11 : Pr 11 := pr_small (by omega) (by intro d h1 h2; have : d = 2 ∨ d = 3 ∨ d = 4 ∨ d = 5 ∨ d = 6 ∨ d = 7 ∨ d = 8 ∨ d = 9 ∨ d = 10 := by omega
                                                rcases this with rfl | rfl | rfl | rfl | rfl | rfl | rfl | rfl | rfl <;> decide)
theorem pr13 : Pr 13 := pr_small (by omega) (by intro d h1 h2; have : d = 2 ∨ d = 3 ∨ d = 4 ∨ d = 5 ∨ d = 6 ∨ d = 7 ∨ d = 8 ∨ d = 9 ∨ d = 10 ∨ d = 11 ∨ d = 12 := by omega
                                                rcases this with rfl | rfl | rfl | rfl | rfl | rfl | rfl | rfl | rfl | rfl | rfl <;> decide)
theorem no101 : ∀ d, d < 101 → 2 ≤ d → 101 % d ≠ 0 := by decide +kernel
theorem pr101 : Pr 101 := pr_small (by omega) (fun d h1 h2 => no101 d h2 h1)
end Go.Proofs.YtddbhhedjipjkaaGreatDoor.MR
namespace Go.Proofs.YtddbhhedjipjkaaGreatDoor
open Go.RowKit
set_option linter.unusedVariables false
set_option linter.unusedSimpArgs false
def pn (k : Nat) : Nat := ([2, 3, 5, 7, 11, 13, 101, 65537, 1000003, 1073741827, 2147483629, 2147483647] : List Nat).getD k 2
theorem pn_pr (k : Nat) (h : k < 12) : MR.Pr (pn k) ∧ pn k < 2147483648 ∧ 2 ≤ pn k := by
  have h5 := MR.five_gcd
  simp only [Bool.and_eq_true] at h5
  obtain ⟨g1, g2, g3, g4, g5⟩ := h5
  have : k = 0 ∨ k = 1 ∨ k = 2 ∨ k = 3 ∨ k = 4 ∨ k = 5 ∨ k = 6 ∨ k = 7 ∨ k = 8 ∨ k = 9 ∨ k = 10 ∨ k = 11 := by omega
  rcases this with rfl | rfl | rfl | rfl | rfl | rfl | rfl | rfl | rfl | rfl | rfl | rfl
  · exact ⟨MR.pr2, by decide, by decide⟩
  · exact ⟨MR.pr3, by decide, by decide⟩
  · exact ⟨MR.pr5, by decide, by decide⟩
  · exact ⟨MR.pr7, by decide, by decide⟩
  · exact ⟨MR.pr11, by decide, by decide⟩
  · exact ⟨MR.pr13, by decide, by decide⟩
  · exact ⟨MR.pr101, by decide, by decide⟩
  · exact ⟨MR.pr_gcd (by decide) (by decide) g1, by decide, by decide⟩
  · exact ⟨MR.pr_gcd (by decide) (by decide) g2, by decide, by decide⟩
  · exact ⟨MR.pr_gcd (by decide) (by decide) g3, by decide, by decide⟩
  · exact ⟨MR.pr_gcd (by decide) (by decide) g4, by decide, by decide⟩
  · exact ⟨MR.pr_gcd (by decide) (by decide) g5, by decide, by decide⟩
def fput (w : World) (g a : Nat) : World := w.setCell ⟨g, 0, none⟩ (.int .u64 (a : Int))
theorem Fb.own {w : World} {g a b : Nat} (h : Fb w g a) : Fb (fput w g b) g b := by
  unfold fput
  obtain ⟨h1, h2, h3⟩ := h
  refine ⟨?_, ?_, ?_⟩ <;> simp [go_sem, h1, h2, h3]
theorem below_fput {w0 w : World} {g b : Nat} (h : Below w0.heap.size w0 w) (hg : w0.heap.size ≤ g) : Below w0.heap.size w0 (fput w g b) := h.setCell (p := ⟨g, 0, none⟩) hg _
theorem TabHas.fput {w : World} {g a b : Nat} (h : TabHas w) (hg : g ≠ 2) : TabHas (fput w g b) := by
  unfold Go.Proofs.YtddbhhedjipjkaaGreatDoor.fput
  exact ⟨by simpa [go_sem] using h.1, fun j hj => by simpa [go_sem, hg, Ne.symm hg] using h.2 j hj⟩
def Tb (w : World) (g a b c : Nat) : Prop := w.cell? ⟨g, 0, none⟩ = some (.int .u64 (a : Int)) ∧ w.cell? ⟨g, 1, none⟩ = some (.int .u64 (b : Int)) ∧ w.cell? ⟨g, 2, none⟩ = some (.int .u64 (c : Int)) ∧
  w.frozen? ⟨g, 0, none⟩ = false ∧ w.frozen? ⟨g, 1, none⟩ = false ∧ w.frozen? ⟨g, 2, none⟩ = false ∧ g < w.heap.size
theorem Tb.below {w w' : World} {g a b c : Nat} (h : Tb w g a b c) (hb : Below w.heap.size w w') : Tb w' g a b c := by
  obtain ⟨h1, h2, h3, f1, f2, f3, h5⟩ := h
  exact ⟨(hb.cell (p := ⟨g, 0, none⟩) h5).trans h1, (hb.cell (p := ⟨g, 1, none⟩) h5).trans h2, (hb.cell (p := ⟨g, 2, none⟩) h5).trans h3,
    (hb.frozen (p := ⟨g, 0, none⟩) h5).trans f1, (hb.frozen (p := ⟨g, 1, none⟩) h5).trans f2, (hb.frozen (p := ⟨g, 2, none⟩) h5).trans f3, Nat.lt_of_lt_of_le h5 hb.size⟩
theorem Tb.new (w : World) (a b c : Nat) (T : TypeId) : Tb (w.alloc (.cells #[.int .u64 (a : Int), .int .u64 (b : Int), .int .u64 (c : Int)] T)) w.heap.size a b c := by
  refine ⟨?_, ?_, ?_, ?_, ?_, ?_, ?_⟩ <;> simp [go_sem]
theorem prime_t {p : Nat} {w : World} (hp : p < 18446744073709551616) (hT : TabHas w) (h1 : MR.Pr p) (h2 : p < 2147483648) :
    Calls Tryz.prog 92 #[.int .u64 p] w fun e w' => e = .returned (.bool true) ∧ Below w.heap.size w w' := by
  refine (prime_calls p w hp hT.2).mono ?_
  rintro e w1 ⟨v, rfl, hv, rfl⟩
  rw [hv.2 ⟨h1, h2⟩]
  exact ⟨rfl, Below.refl _ _⟩
def NewPost (a : Nat) (b : Bool) (w : World) (e : Ending) (w' : World) : Prop := e = .returned (.tuple #[.agg #[.int .u64 (a : Int)], .bool b]) ∧ Below w.heap.size w w'
set_option maxRecDepth 100000 in
set_option maxHeartbeats 4000000 in
theorem fnew_yes {ab p : Nat} {w : World} (hx : p < 18446744073709551616) (hT : TabHas w) (hpr : MR.Pr p) (h : p < 2147483648) (hp : ab + 2 = p) : Calls Tryz.prog 65 #[.int .u64 (p : Int)] w (NewPost ab true w) := by
  have hW := Below.refl w.heap.size w
  obtain ⟨wp0, hwp0⟩ : ∃ xw, xw = w.alloc (.cells #[.int .u64 (0 : Int)] 54) := ⟨_, rfl⟩
  have zp0 : Below w.heap.size w wp0 := by rw [hwp0]; exact zba _ _
  have sp0 : wp0.heap.size = w.heap.size + 1 := by rw [hwp0, World.size_alloc]
  have Ir : Fb wp0 w.heap.size 0 := by rw [hwp0]; exact Fb.new _ _ _
  replace hT := hT.below zp0
  replace hW := hW.trans (zp0.mono hW.size)
  have H_r := Lib.hid Ir
  clear Ir zp0
  have HW : Hid ((w.alloc (.cells #[.int .u64 (0 : Int)] 54)) = wp0) := Lib.hid (by rw [hwp0])
  have lw_r : w.heap.size ≤ w.heap.size := by omega
  clear hwp0 sp0
  have HB : Hid (MR.Pr p) := Lib.hid hpr
  have hw : IntKind.u64.wrap ((p : Int) - 2) = (ab : Int) := by rw [show (p : Int) - 2 = (ab : Int) by omega]; exact wrap_small (by omega)
  clear hp hpr
  go_enter Tryz.func65, Tryz.ntmps65
  obtain ⟨r1, r2, r3⟩ := H_r.out
  go_wp2_with fail
  rw [HW.out]
  clear r1 r2 r3
  refine (prime_t hx hT HB.out h).mono ?_
  rintro e w21 ⟨rfl, B21⟩
  replace H_r := Lib.hid (H_r.out.below B21)
  replace hT := hT.below B21
  replace hW := hW.trans (B21.mono hW.size)
  clear B21
  clear hT
  have O_r := H_r
  obtain ⟨w22, hw22⟩ : ∃ xw, xw = fput w21 w.heap.size ab := ⟨_, rfl⟩
  have HW22 : Hid ((w21.setCell ⟨w.heap.size, 0, none⟩ (.int .u64 (ab : Int))) = w22) := Lib.hid hw22.symm
  have OI := H_r.out
  replace hW : Below w.heap.size w w22 := by rw [hw22]; exact below_fput hW lw_r
  replace H_r : Hid (Fb w22 w.heap.size ab) := Lib.hid (by rw [hw22]; exact OI.own)
  clear hw22 OI
  obtain ⟨r1, r2, r3⟩ := O_r.out
  go_wp2_with fail
  rw [HW22.out]
  clear r1 r2 r3 O_r
  obtain ⟨r1, r2, r3⟩ := H_r.out
  exact bodyPost_ret (v := .tuple #[.agg #[.int .u64 ((ab : Nat) : Int)], .bool true]) (by simp [results, Tryz.results65, go_sem, r1]) rfl ⟨rfl, hW⟩
end Go.Proofs.YtddbhhedjipjkaaGreatDoor
end

section
namespace Go.Proofs.YtddbhhedjipjkaaGreatDoor
open Go.RowKit
set_option linter.unusedVariables false
set_option linter.unusedSimpArgs false
end Go.Proofs.YtddbhhedjipjkaaGreatDoor
end

section
namespace Go.Proofs.YtddbhhedjipjkaaGreatDoor
open Go.RowKit
def Halving (xs zs : List Nat) (k : Nat) : Prop := zs.length = k ∧ Low 65536 zs ∧ ev 65536 zs * 2 + nth xs 0 % 2 = pre 65536 xs k + 65536 ^ k * (nth xs k % 2)
theorem Halving.start (xs : List Nat) : Halving xs [] 0 := ⟨rfl, Low.nil _, by simp [ev, pre_zero]⟩
theorem Halving.step {xs zs : List Nat} {k : Nat} (lx : Low 65536 xs) (h : Halving xs zs k) : Halving xs (zs ++ [nth xs k / 2 + nth xs (k + 1) % 2 * 32768]) (k + 1) := by
  obtain ⟨h1, h2, h3⟩ := h
  have := lx.any (by omega) k
  refine ⟨by simp [h1], h2.snoc (by omega), ?_⟩
  rw [ev_snoc, pre_succ, h1, Nat.pow_succ]
  have e := Nat.mod_add_div (nth xs k) 2
  generalize nth xs k / 2 = q at *
  generalize nth xs k % 2 = r at *
  generalize nth xs (k + 1) % 2 = r1 at *
  rw [← e]
  grind
theorem Halving.stop {xs zs : List Nat} {k : Nat} (h : Halving xs zs k) (hk : xs.length ≤ k) : ev 65536 zs = ev 65536 xs / 2 := by
  obtain ⟨h1, h2, h3⟩ := h
  rw [pre_ge _ hk, nth_ge hk] at h3
  omega
end Go.Proofs.YtddbhhedjipjkaaGreatDoor
namespace Go.Proofs.YtddbhhedjipjkaaGreatDoor
open Go.RowKit
theorem run_append_nil {P : Program} (w : World) {base : Nat} {t ty e : TypeId} {i : TypeInfo} {size : Nat} (ht : P.underlying t = some (.slice e)) (hi : P.info? e = some i)
    {v : Value} {n : Nat} {xs : List Value} (hown : w.ownsRow base e size v n xs) (c : Nat) : (Builtin.append_ #[t, t] ty #[v, .slice none 0 c]).run P w = .ok v w := by
  rcases hown.2 with ⟨rfl, rfl⟩ | ⟨g, cap, cur, rfl, _, _, hnc, _⟩
  · simp [Builtin.append_, run_underlying ht, sizeOf, typeInfo, hi, Builtin.lenOf, Builtin.firstCells]
  · simp [Builtin.append_, run_underlying ht, sizeOf, typeInfo, hi, Builtin.lenOf, Builtin.firstCells, hnc, storeCells]
theorem wpList_appm {P : Program} (w0 wr : World) {ops : Array Oper} {rest : List Oper} {o : Oper} {a : Act} {Q : Exit → Act → World → Prop} (hgd : o.guard = none) (s x : Operand) (t : TypeId)
    (ho : o.op = .call { callee := .builtin .append, args := #[s, x], argTypes := #[t, t] })
    (e : TypeId) (K : IntKind) (ht : P.underlying t = some (.slice e)) (hinfo : (P.info? e).map (fun i => (i.zero, i.size, i.bytes)) = some (some (.int K 0), 1, 8))
    (v : Value) (zs : List Nat) (hs : a.eval s = v) (hown : OwnV w0 wr e K v zs) (A : Option Addr) (m c : Nat) (ds : List Nat) (hr : Rd wr K A ds) (hm : ds.length = m)
    (hx : a.eval x = .slice A m c) (hlen : zs.length + m ≤ 4398046511104)
    (h : ∀ v' w', OwnV w0 w' e K v' (zs ++ ds) → wpList P ops Q rest (a.put o.dst v') w') :
    wpList P ops Q (o :: rest) a wr := by
  subst hm
  obtain ⟨i, hi, hz0, hz1, hz2⟩ := info_parts hinfo
  obtain ⟨h1, h2⟩ := hown
  rcases A with _ | ad
  · have hd : ds = [] := by
      rcases Nat.eq_zero_or_pos ds.length with h0 | h0
      · exact List.length_eq_zero_iff.1 h0
      · obtain ⟨ad, h, _⟩ := hr h0
        cases h
    subst hd
    refine wpList_plain hgd fun _ hK => ?_
    have hrun := run_append_nil (P := P) (ty := o.type) wr ht hi h1 c
    unfold Oper.wp
    simp only [execOp, ho, resolve, invoke, builtin, Sem.run_bind, Sem.run_pure, Result.andThen_ok, List.map_toArray, List.map_cons, List.map_nil, hs, hx, List.length_nil, hrun]
    exact hK _ _ (h v wr ⟨by simpa using h1, h2⟩)
  · refine wpList_append_own (P := P) _ hgd s x t ho w0.heap.size e i (.int K 0) 1 8 ht hi hz0 hz1 hz2 rfl (by omega) v zs.length (vs K zs) hs h1 ad ds.length c (vs K ds) hx (by rw [vs_length, Nat.mul_one]) ?_ (vs_one _ _) (by unfold maxLen; omega) (by omega) h2.size ?_
    · intro j u hu
      rcases Nat.lt_or_ge j ds.length with hj | hj
      · rw [vs_get hj] at hu
        rw [hr.cell rfl hj, hu]
      · rw [List.getElem?_eq_none (by rw [vs_length]; exact hj)] at hu
        cases hu
    · intro v' w' o1 o2 _
      refine h v' w' ⟨?_, h2.grown o2 h2.size (fun k hk => (h1.lt k hk).1)⟩
      rw [vs_append, List.length_append]
      exact o1
end Go.Proofs.YtddbhhedjipjkaaGreatDoor
namespace Go.Proofs.YtddbhhedjipjkaaGreatDoor
open Go.RowKit
end Go.Proofs.YtddbhhedjipjkaaGreatDoor
namespace Go.Proofs.YtddbhhedjipjkaaGreatDoor
open Go.RowKit
end Go.Proofs.YtddbhhedjipjkaaGreatDoor
end
