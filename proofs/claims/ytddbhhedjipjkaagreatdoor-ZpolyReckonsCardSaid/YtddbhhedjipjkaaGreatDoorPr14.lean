/-
  ZpA ZlB RegN
-/
import Derived.Test.YtddbhhedjipjkaaGreatDoorPr12
import Derived.Test.YtddbhhedjipjkaaGreatDoorPr13
import Derived.Test.YtddbhhedjipjkaaGreatDoorPr04
import Derived.Lib.Hide

section
namespace Go.Proofs.YtddbhhedjipjkaaGreatDoor
set_option linter.unusedVariables false
set_option linter.unusedSimpArgs false
def upd (xs : List Int) (o i : Nat) (f : Nat → Int) : List Int := (List.range xs.length).map fun j => if o ≤ j ∧ j < o + i then f j else ith xs j
theorem upd_length (xs : List Int) (o i : Nat) (f : Nat → Int) : (upd xs o i f).length = xs.length := by simp [upd]
theorem ith_upd (xs : List Int) (o i : Nat) (f : Nat → Int) (j : Nat) : ith (upd xs o i f) j = if j < xs.length then (if o ≤ j ∧ j < o + i then f j else ith xs j) else 0 := by
  by_cases h : j < xs.length
  · rw [if_pos h]; simp [ith, upd, List.getD, h]
  · rw [if_neg h]; exact ith_ge (by rw [upd_length]; omega)
theorem upd_zero (xs : List Int) (o : Nat) (f : Nat → Int) : upd xs o 0 f = xs := ext_ith (upd_length _ _ _ _) fun j hj => by
  rw [upd_length] at hj
  rw [ith_upd, if_pos hj, if_neg (by omega)]
theorem ith_set0 (l : List Int) (j i : Nat) (z : Int) (hj : j < l.length) : ith (l.set j z) i = if i = j then z else ith l i := by
  by_cases e : i = j
  · subst e; rw [if_pos rfl]; simp [ith, List.getD, hj]
  · rw [if_neg e]; simp [ith, List.getD, List.getElem?_set_ne (Ne.symm e)]
theorem upd_set {xs : List Int} {o i : Nat} {f : Nat → Int} (h : o + i < xs.length) : (upd xs o i f).set (o + i) (f (o + i)) = upd xs o (i + 1) f := ext_ith (by rw [List.length_set, upd_length, upd_length]) fun j hj => by
  rw [List.length_set, upd_length] at hj
  rw [ith_set0 _ _ _ _ (by rw [upd_length]; exact h), ith_upd, ith_upd, if_pos hj, if_pos hj]
  by_cases e : j = o + i
  · subst e; rw [if_pos rfl, if_pos ⟨by omega, by omega⟩]
  · rw [if_neg e]
    by_cases e2 : o ≤ j ∧ j < o + i
    · rw [if_pos e2, if_pos ⟨by omega, by omega⟩]
    · rw [if_neg e2, if_neg (by omega)]
theorem upd_at {xs : List Int} {o i j : Nat} {f : Nat → Int} (h : j < o ∨ o + i ≤ j) : ith (upd xs o i f) j = ith xs j := by
  rw [ith_upd]
  by_cases e : j < xs.length
  · rw [if_pos e, if_neg (by omega)]
  · rw [if_neg e, ith_ge (by omega)]
def mkz (n : Nat) (f : Nat → Int) : List Int := (List.range n).map f
theorem mkz_length (n : Nat) (f : Nat → Int) : (mkz n f).length = n := by simp [mkz]
theorem ith_mkz (n : Nat) (f : Nat → Int) (j : Nat) : ith (mkz n f) j = if j < n then f j else 0 := by
  by_cases h : j < n
  · rw [if_pos h]; simp [ith, mkz, List.getD, h]
  · rw [if_neg h]; exact ith_ge (by rw [mkz_length]; omega)
theorem upd_all (n : Nat) (f : Nat → Int) : upd (List.replicate n 0) 0 n f = mkz n f := ext_ith (by rw [upd_length, mkz_length, List.length_replicate]) fun j hj => by
  rw [upd_length, List.length_replicate] at hj
  rw [ith_upd, ith_mkz, List.length_replicate, if_pos hj, if_pos hj, if_pos ⟨Nat.zero_le _, by omega⟩]
theorem ith_rep (n j : Nat) : ith (List.replicate n (0 : Int)) j = 0 := by
  by_cases h : j < n
  · simp [ith, List.getD, h]
  · exact ith_ge (by rw [List.length_replicate]; omega)
def shI (o : Nat) (l : List Int) : List Int := List.replicate o 0 ++ l
theorem pv_shI (o : Nat) (l : List Int) (x : Int) : pv (shI o l) x = x ^ o * pv l x := by
  induction o with
  | zero => simp [shI]
  | succ o ih =>
    have : shI (o + 1) l = 0 :: shI o l := by simp [shI, List.replicate_succ]
    rw [this, pv_cons, ih, Int.pow_succ]; grind
theorem ith_shI (o : Nat) (l : List Int) (j : Nat) : ith (shI o l) j = if j < o then 0 else ith l (j - o) := by
  by_cases h : j < o
  · rw [if_pos h]; simp [ith, shI, List.getD, List.getElem?_append, h]
  · rw [if_neg h]; simp [ith, shI, List.getD, List.getElem?_append, h]
theorem pv_append (a b : List Int) (x : Int) : pv (a ++ b) x = pv a x + x ^ a.length * pv b x := by
  induction a with
  | nil => simp [pv_nil]
  | cons c t ih => rw [List.cons_append, pv_cons, pv_cons, ih, List.length_cons, Int.pow_succ]; grind
theorem pv_split (l : List Int) (m : Nat) (x : Int) : pv l x = pv (l.take m) x + x ^ m * pv (l.drop m) x := by
  by_cases h : m ≤ l.length
  · rw [← List.take_append_drop m l, pv_append, List.length_take, Nat.min_eq_left h]
    simp
  · rw [List.take_of_length_le (by omega), List.drop_of_length_le (by omega), pv_nil]; simp
theorem take_succ_ith {l : List Int} {m : Nat} (h : m < l.length) : l.take (m + 1) = l.take m ++ [ith l m] := by
  rw [List.take_succ_eq_append_getElem h]; simp [ith, List.getD, h]
theorem drop_ith {l : List Int} {m : Nat} (h : m < l.length) : l.drop m = ith l m :: l.drop (m + 1) := by
  rw [List.drop_eq_getElem_cons h]; simp [ith, List.getD, h]
theorem pv_take_succ {l : List Int} {m : Nat} (h : m < l.length) (x : Int) : pv (l.take (m + 1)) x = pv (l.take m) x + ith l m * x ^ m := by
  rw [take_succ_ith h, pv_append, pv_cons, pv_nil, List.length_take, Nat.min_eq_left (by omega)]; grind
theorem ith_takeI {l : List Int} {m j : Nat} : ith (l.take m) j = if j < m then ith l j else 0 := by
  by_cases h : j < m
  · rw [if_pos h]; simp [ith, List.getD, h]
  · rw [if_neg h]; exact ith_ge (by rw [List.length_take]; omega)
theorem ith_dropI (l : List Int) (m j : Nat) : ith (l.drop m) j = ith l (m + j) := by simp [ith, List.getD, List.getElem?_drop]
def gat (zs : List Int) (o : Nat) (ys : List Int) (c : Int) : List Int := upd zs o ys.length fun j => ith zs j + c * ith ys (j - o)
theorem gat_length (zs : List Int) (o : Nat) (ys : List Int) (c : Int) : (gat zs o ys c).length = zs.length := upd_length _ _ _ _
theorem ith_gat {zs : List Int} {o : Nat} {ys : List Int} {c : Int} (h : o + ys.length ≤ zs.length) (j : Nat) : ith (gat zs o ys c) j = ith zs j + c * ith (shI o ys) j := by
  unfold gat
  rw [ith_upd, ith_shI]
  by_cases a : j < zs.length
  · rw [if_pos a]
    by_cases b : j < o
    · rw [if_neg (by omega), if_pos b]; simp
    · rw [if_neg b]
      by_cases d : j < o + ys.length
      · rw [if_pos ⟨by omega, d⟩]
      · rw [if_neg (by omega), ith_ge (l := ys) (by omega)]; simp
  · rw [if_neg a, ith_ge (l := zs) (by omega), if_neg (by omega), ith_ge (l := ys) (by omega)]; simp
theorem pv_gat {zs : List Int} {o : Nat} {ys : List Int} {c : Int} (h : o + ys.length ≤ zs.length) (x : Int) : pv (gat zs o ys c) x = pv zs x + c * (x ^ o * pv ys x) := by
  rw [pv_ext (b := addI zs (mulC c (shI o ys))) (fun j => by rw [ith_gat h, ith_addI, ith_mulC]) x, pv_addI, pv_mulC, pv_shI]
theorem gat_zero (zs : List Int) (o : Nat) (ys : List Int) : gat zs o ys 0 = zs := ext_ith (gat_length _ _ _ _) fun j hj => by
  unfold gat
  rw [gat_length] at hj
  rw [ith_upd, if_pos hj]
  split <;> simp
theorem sum_places (xs ys : List Int) : nrz (mkz (max xs.length ys.length) fun j => ith xs j + ith ys j) = nrz (addI xs ys) := nrz_ext fun j => by
  rw [ith_mkz, ith_addI]
  by_cases h : j < max xs.length ys.length
  · rw [if_pos h]
  · rw [if_neg h, ith_ge (l := xs) (by omega), ith_ge (l := ys) (by omega)]; rfl
theorem dif_places (xs ys : List Int) : nrz (mkz (max xs.length ys.length) fun j => ith xs j - ith ys j) = nrz (addI xs (mulC (-1) ys)) := nrz_ext fun j => by
  rw [ith_mkz, ith_addI, ith_mulC]
  by_cases h : j < max xs.length ys.length
  · rw [if_pos h]; omega
  · rw [if_neg h, ith_ge (l := xs) (by omega), ith_ge (l := ys) (by omega)]; rfl
theorem scale_places (xs : List Int) (c : Int) : mkz xs.length (fun j => c * ith xs j) = mulC c xs := ext_ith (by rw [mkz_length, mulC_length]) fun j hj => by
  rw [mkz_length] at hj
  rw [ith_mkz, ith_mulC, if_pos hj]
theorem norm_places (xs : List Int) : mkz (slZ xs) (fun j => ith xs j) = nrz xs := ext_ith (by rw [mkz_length, nrz_length]) fun j hj => by
  rw [mkz_length] at hj
  rw [ith_mkz, ith_nrz, if_pos hj]
def MulMid (xs ys : List Int) (i : Nat) (L : List Int) : Prop := L.length = xs.length + ys.length - 1 ∧ ∀ x, pv L x = pv (xs.take i) x * pv ys x
theorem mulmid_zero {xs ys : List Int} : MulMid xs ys 0 (List.replicate (xs.length + ys.length - 1) 0) := ⟨by simp, fun x => by
  rw [pv_ext (b := []) (fun j => by rw [ith_rep, ith_nil]) x, List.take_zero, pv_nil]; simp⟩
theorem mulmid_step {xs ys L : List Int} {i : Nat} (h : MulMid xs ys i L) (hi : i < xs.length) (hy : 0 < ys.length) : MulMid xs ys (i + 1) (gat L i ys (ith xs i)) := ⟨by rw [gat_length, h.1], fun x => by
  rw [pv_gat (by rw [h.1]; omega), h.2, pv_take_succ hi]; grind⟩
theorem mulmid_end {xs ys L : List Int} (h : MulMid xs ys xs.length L) (nx : Nz' xs) (ny : Nz' ys) (x0 : xs ≠ []) (y0 : ys ≠ []) : L = mulI xs ys :=
  ext_ith (by rw [h.1, mulI_length x0 y0]) fun j _ => pv_inj (fun x => by rw [h.2, List.take_length, pv_mulI]) j
def mulN (xs ys : List Int) : List Int := nrz (mulI xs ys)
theorem pv_mulN (xs ys : List Int) (x : Int) : pv (mulN xs ys) x = pv xs x * pv ys x := by unfold mulN; rw [pv_nrz, pv_mulI]
theorem mulN_nrz (xs ys : List Int) (x0 : nrz xs ≠ []) (y0 : nrz ys ≠ []) : mulI (nrz xs) (nrz ys) = mulN xs ys :=
  uniqP (nz_mulI (nz_nrz _) (nz_nrz _) x0 y0) (nz_nrz _) fun x => by rw [pv_mulI, pv_nrz, pv_nrz, pv_mulN]
theorem mulN_nil (xs ys : List Int) (h : nrz xs = [] ∨ nrz ys = []) : mulN xs ys = [] := by
  unfold mulN
  refine nrz_nil_iff.2 fun i => ?_
  rcases h with h | h
  · have e := pv_inj (a := mulI xs ys) (b := []) (fun x => by rw [pv_mulI, ← pv_nrz xs, h, pv_nil]; simp) i
    rwa [ith_nil] at e
  · have e := pv_inj (a := mulI xs ys) (b := []) (fun x => by rw [pv_mulI, ← pv_nrz ys, h, pv_nil]; simp) i
    rwa [ith_nil] at e
structure PsMid (a b : List Int) (d m i : Nat) (R Q : List Int) : Prop where
  rl : R.length = a.length
  ql : Q.length = m
  low : ∀ j, j < i → ith R j = ith a j
  all : i = m → R = a
  top : i < m → ith Q (m - 1) ≠ 0
  eq : ∀ x, ith b d ^ (m - i) * pv a x = ith b d ^ (m - i) * pv (a.take i) x + x ^ i * (pv ((R.drop i).take d) x + pv b x * pv (Q.drop i) (ith b d * x))
theorem psmid_zero {a b : List Int} {d m : Nat} (hm : a.length - d = m) : PsMid a b d m m a (List.replicate m 0) := by
  refine ⟨rfl, by simp, fun _ _ => rfl, fun _ => rfl, fun h => by omega, fun x => ?_⟩
  have e1 := pv_split a m x
  have e2 : (List.replicate m (0 : Int)).drop m = [] := List.drop_of_length_le (by simp)
  have e3 : (a.drop m).take d = a.drop m := List.take_of_length_le (by rw [List.length_drop]; omega)
  rw [Nat.sub_self, e2, e3, pv_nil, e1]
  grind
def psWin (R : List Int) (b : List Int) (d i : Nat) (R' : List Int) : Prop := R'.length = R.length ∧ (∀ j, j < i → ith R' j = ith R j) ∧ ∀ j, j < d → ith R' (i + j) = ith b d * ith R (i + j) - ith R (i + d) * ith b j
theorem psmid_step {a b R Q R' : List Int} {d m i : Nat} (h : PsMid a b d m (i + 1) R Q) (hm : a.length - d = m) (hi : i < m) (hb : b.length = d + 1) (hl : ith b d ≠ 0) (na : Nz' a)
    (hw : psWin (R.set i (ith a i * ith b d ^ (m - (i + 1)))) b d i R') : PsMid a b d m i R' (Q.set i (ith (R.set i (ith a i * ith b d ^ (m - (i + 1)))) (i + d))) := by
  obtain ⟨rl, ql, low, all, top, eq⟩ := h
  obtain ⟨R1, hR1⟩ : ∃ R1, R.set i (ith a i * ith b d ^ (m - (i + 1))) = R1 := ⟨_, rfl⟩
  rw [hR1] at hw ⊢
  obtain ⟨wl, wlow, wd⟩ := hw
  have hiR : i < R.length := by omega
  have r1l : R1.length = a.length := by rw [← hR1, List.length_set, rl]
  have r1 : ∀ j, ith R1 j = if j = i then ith a i * ith b d ^ (m - (i + 1)) else ith R j := fun j => by rw [← hR1, ith_set0 _ _ _ _ hiR]
  have hne : a ≠ [] := fun e => by rw [e] at hm; simp at hm; omega
  refine ⟨by rw [wl, r1l], by rw [List.length_set, ql], fun j hj => ?_, fun e => by omega, fun _ => ?_, fun x => ?_⟩
  · rw [wlow j hj, r1, if_neg (by omega), low j (by omega)]
  · rw [ith_set0 _ _ _ _ (by omega)]
    by_cases e : m - 1 = i
    · rw [if_pos e, r1]
      have ht := na.top hne
      by_cases e2 : d = 0
      · rw [if_pos (by omega), show m - (i + 1) = 0 by omega, Int.pow_zero, Int.mul_one]
        rw [show i = a.length - 1 by omega]; exact ht
      · rw [if_neg (by omega), all (by omega), show i + d = a.length - 1 by omega]; exact ht
    · rw [if_neg e]; exact top (by omega)
  · have hs := eq x
    obtain ⟨l, hl'⟩ : ∃ l, ith b d = l := ⟨_, rfl⟩
    obtain ⟨q, hq⟩ : ∃ q, ith R1 (i + d) = q := ⟨_, rfl⟩
    obtain ⟨T, hT⟩ : ∃ T, l ^ (m - (i + 1)) = T := ⟨_, rfl⟩
    rw [hl'] at hs r1 wd ⊢
    rw [hq] at wd ⊢
    rw [hT] at hs r1
    have e1 : (R1.drop i).take (d + 1) = (ith a i * T) :: (R.drop (i + 1)).take d := by
      rw [drop_ith (by omega), List.take_succ_cons, r1, if_pos rfl]
      congr 1
      rw [← hR1, List.drop_set_of_lt (by omega)]
    have e2 : pv ((R1.drop i).take (d + 1)) x = pv ((R1.drop i).take d) x + q * x ^ d := by
      by_cases hd : d < (R1.drop i).length
      · rw [pv_take_succ hd, ith_dropI, hq]
      · rw [List.length_drop, r1l] at hd; omega
    have e3 : pv b x = pv (b.take d) x + l * x ^ d := by
      have := pv_take_succ (l := b) (m := d) (by omega) x
      rw [List.take_of_length_le (by omega), hl'] at this
      exact this
    have e4 : pv ((R'.drop i).take d) x = l * pv ((R1.drop i).take d) x - q * pv (b.take d) x := by
      rw [pv_ext (a := (R'.drop i).take d) (b := addI (mulC l ((R1.drop i).take d)) (mulC (-q) (b.take d))) (fun j => by
        rw [ith_addI, ith_mulC, ith_mulC, ith_takeI, ith_takeI, ith_takeI, ith_dropI, ith_dropI]
        by_cases hj : j < d
        · rw [if_pos hj, if_pos hj, if_pos hj, wd j hj]; grind
        · rw [if_neg hj, if_neg hj, if_neg hj]; simp) x, pv_addI, pv_mulC, pv_mulC]
      grind
    have e5 : pv ((Q.set i q).drop i) (l * x) = q + l * x * pv (Q.drop (i + 1)) (l * x) := by
      rw [drop_ith (by rw [List.length_set]; omega), pv_cons, ith_set0 _ _ _ _ (by omega), if_pos rfl, List.drop_set_of_lt (by omega)]
    have e6 : pv (a.take (i + 1)) x = pv (a.take i) x + ith a i * x ^ i := pv_take_succ (by omega) x
    have e7 : l ^ (m - i) = T * l := by rw [← hT, ← Int.pow_succ]; congr 1; omega
    have e8 : l * (T * pv a x) = l * (T * pv (List.take (i + 1) a) x + x ^ (i + 1) * (pv (List.take d (List.drop (i + 1) R)) x + pv b x * pv (List.drop (i + 1) Q) (l * x))) := by rw [hs]
    rw [e1, pv_cons] at e2
    rw [e7, e4, e5]
    rw [e6, Int.pow_succ] at e8
    generalize pv (List.take d (List.drop (i + 1) R)) x = W at *
    generalize pv (List.take d (List.drop i R1)) x = V at *
    generalize pv (b.take d) x = B at *
    generalize pv (Q.drop (i + 1)) (l * x) = P at *
    generalize pv b x = Bx at *
    generalize pv a x = A at *
    generalize pv (a.take i) x = A0 at *
    generalize ith a i = ai at *
    generalize x ^ i = xi at *
    generalize x ^ d = xd at *
    clear hs e1 e4 e5 e6 e7 hq hT hl' r1 wd wlow low all top eq
    subst e3
    grind
def raiz (Q : List Int) (l : Int) : List Int := mkz Q.length fun j => ith Q j * l ^ j
theorem pv_raiz (Q : List Int) (l x : Int) : pv (raiz Q l) x = pv Q (l * x) := by
  have key : ∀ (Q : List Int) (c : Int), pv (mkz Q.length fun j => c * (ith Q j * l ^ j)) x = c * pv Q (l * x) := by
    intro Q
    induction Q with
    | nil => intro c; simp [mkz, pv_nil]
    | cons q t ih =>
      intro c
      have e : mkz (q :: t).length (fun j => c * (ith (q :: t) j * l ^ j)) = (c * q) :: mkz t.length fun j => (c * l) * (ith t j * l ^ j) := by
        refine ext_ith (by simp [mkz_length]) fun j hj => ?_
        rw [mkz_length] at hj
        rw [ith_mkz, if_pos hj]
        cases j with
        | zero => simp [ith_zero]
        | succ j =>
          rw [ith_succ, ith_succ, ith_mkz, if_pos (by simp at hj; omega), Int.pow_succ]; grind
      rw [e, pv_cons, pv_cons, ih]; grind
  have := key Q 1
  simpa [raiz] using this
theorem psmid_end {a b R Q : List Int} {d m : Nat} (h : PsMid a b d m 0 R Q) (hl : ith b d ≠ 0) (hd : R.length - d = m) : Nz' (raiz Q (ith b d)) ∧ ∀ x, ith b d ^ m * pv a x = pv (raiz Q (ith b d)) x * pv b x + pv (R.take d) x := by
  refine ⟨?_, fun x => ?_⟩
  · rcases Nat.eq_zero_or_pos m with e | e
    · have : raiz Q (ith b d) = [] := by unfold raiz; rw [h.ql, e]; rfl
      rw [this]; exact nz_nil
    · refine nz_of (.inr ?_)
      have hlen : (raiz Q (ith b d)).length = m := by unfold raiz; rw [mkz_length, h.ql]
      rw [hlen]
      unfold raiz
      rw [ith_mkz, h.ql, if_pos (by omega)]
      exact Int.mul_ne_zero (h.top e) (Int.pow_ne_zero hl)
  · have := h.eq x
    rw [Nat.sub_zero, List.take_zero, pv_nil, List.drop_zero, List.drop_zero] at this
    rw [this, pv_raiz]; grind
structure PsSpec (a b q r : List Int) : Prop where
  nq : Nz' q
  nr : Nz' r
  short : r.length < slZ b
  eq : ∀ x, ith b (slZ b - 1) ^ (slZ a + 1 - slZ b) * pv a x = pv q x * pv b x + pv r x
theorem cont_take_succ {l : List Int} {m : Nat} (h : m < l.length) : cont (l.take (m + 1)) = (cont (l.take m)).gcd (ith l m).natAbs := by
  refine Nat.dvd_antisymm (Nat.dvd_gcd (dvd_cont _ fun i => ?_) ?_) (dvd_cont _ fun i => ?_)
  · rw [ith_takeI]
    by_cases hi : i < m
    · rw [if_pos hi]
      have := cont_dvd (l.take (m + 1)) i
      rwa [ith_takeI, if_pos (by omega)] at this
    · rw [if_neg hi]; exact Nat.dvd_zero _
  · have := cont_dvd (l.take (m + 1)) m
    rwa [ith_takeI, if_pos (by omega)] at this
  · rw [ith_takeI]
    by_cases hi : i < m
    · rw [if_pos (by omega)]
      have := cont_dvd (l.take m) i
      rw [ith_takeI, if_pos hi] at this
      exact Nat.dvd_trans (Nat.gcd_dvd_left _ _) this
    · by_cases e : i = m
      · subst e; rw [if_pos (by omega)]; exact Nat.gcd_dvd_right _ _
      · rw [if_neg (by omega)]; exact Nat.dvd_zero _
theorem cont_one {l : List Int} {m : Nat} (h : cont (l.take m) = 1) : cont l = 1 := by
  refine Nat.dvd_one.1 ?_
  rw [← h]
  refine dvd_cont _ fun i => ?_
  rw [ith_takeI]
  split
  · exact cont_dvd _ _
  · exact Nat.dvd_zero _
theorem cont_nrz (l : List Int) : cont (nrz l) = cont l := cont_ext (ith_nrz l)
def prc (l : List Int) : Int := if ith l (slZ l - 1) < 0 then -(cont l : Int) else (cont l : Int)
def prim (l : List Int) : List Int := divC (prc l) (nrz l)
theorem prc_dvd (l : List Int) (i : Nat) : prc l ∣ ith l i := by
  unfold prc
  split
  · exact Int.neg_dvd.2 (cont_int l i)
  · exact cont_int l i
theorem prc_abs (l : List Int) : (prc l).natAbs = cont l := by unfold prc; split <;> simp
theorem prc_ne {l : List Int} (h : nrz l ≠ []) : prc l ≠ 0 := fun e => h (nrz_nil_iff.2 (cont_zero_iff.1 (by rw [← prc_abs, e]; rfl)))
theorem prim_length (l : List Int) : (prim l).length = slZ l := by simp [prim, divC, nrz_length]
theorem prim_back (l : List Int) (x : Int) : pv l x = prc l * pv (prim l) x := by
  rw [← pv_nrz l]
  exact divC_back (fun i => by rw [ith_nrz]; exact prc_dvd l i) x
theorem ith_prim (l : List Int) (i : Nat) : ith (prim l) i = ith l i / prc l := by unfold prim; rw [ith_divC, ith_nrz]
theorem ith_prim_mul (l : List Int) (i : Nat) : ith (prim l) i * prc l = ith l i := by rw [ith_prim]; exact Int.ediv_mul_cancel (prc_dvd l i)
def Pm (l : List Int) : Prop := l = [] ∨ (cont l = 1 ∧ Nz' l ∧ 0 < ldz l)
theorem Pm.nz {l : List Int} (h : Pm l) : Nz' l := by
  rcases h with rfl | h
  · exact nz_nil
  · exact h.2.1
theorem prim_nil {l : List Int} (h : nrz l = []) : prim l = [] := by unfold prim; rw [h]; rfl
theorem pm_prim (l : List Int) : Pm (prim l) := by
  by_cases h : nrz l = []
  · exact .inl (prim_nil h)
  · have hs : 0 < slZ l := by
      rcases Nat.eq_zero_or_pos (slZ l) with e | e
      · exact absurd (List.length_eq_zero_iff.1 (by rw [nrz_length]; exact e)) h
      · exact e
    have hm := ith_prim_mul l (slZ l - 1)
    have ht := slZ_top hs
    have hpos : 0 < ith (prim l) (slZ l - 1) := by
      have hc : (0 : Int) ≤ (cont l : Int) := Int.natCast_nonneg _
      unfold prc at hm
      by_cases hn : ith l (slZ l - 1) < 0
      · rw [if_pos hn] at hm
        rcases Int.lt_or_le 0 (ith (prim l) (slZ l - 1)) with h1 | h1
        · exact h1
        · exfalso
          have := Int.mul_nonneg (a := -ith (prim l) (slZ l - 1)) (b := (cont l : Int)) (by omega) hc
          have e : -ith (prim l) (slZ l - 1) * (cont l : Int) = ith (prim l) (slZ l - 1) * -(cont l : Int) := by grind
          omega
      · rw [if_neg hn] at hm
        rcases Int.lt_or_le 0 (ith (prim l) (slZ l - 1)) with h1 | h1
        · exact h1
        · exfalso
          have := Int.mul_nonneg (a := -ith (prim l) (slZ l - 1)) (b := (cont l : Int)) (by omega) hc
          have e : -ith (prim l) (slZ l - 1) * (cont l : Int) = -(ith (prim l) (slZ l - 1) * (cont l : Int)) := by grind
          omega
    refine .inr ⟨?_, nz_of (.inr (by rw [prim_length]; omega)), by unfold ldz; rw [prim_length]; exact hpos⟩
    have h1 : cont l = (prc l).natAbs * cont (prim l) := by
      rw [← cont_mulC]
      exact cont_ext fun i => by rw [ith_mulC, Int.mul_comm]; exact (ith_prim_mul l i).symm
    rw [prc_abs] at h1
    have h2 : cont l ≠ 0 := fun e => h (nrz_nil_iff.2 (cont_zero_iff.1 e))
    have h3 : cont l * 1 = cont l * cont (prim l) := by rw [Nat.mul_one]; exact h1
    exact (Nat.eq_of_mul_eq_mul_left (Nat.pos_of_ne_zero h2) h3).symm
def Cmn (a b g : List Int) : Prop := ∀ d : List Int, cont d = 1 → ((Zdv (pv d) (pv a) ∧ Zdv (pv d) (pv b)) ↔ Zdv (pv d) (pv g))
theorem cmn_last (a : List Int) : Cmn a [] a := fun d hd => ⟨fun h => h.1, fun h => ⟨h, (Zdv.zero _).congr fun x => rfl⟩⟩
theorem cmn_step {a b q r g : List Int} (b0 : nrz b ≠ []) (h : PsSpec a b q r) (k : Cmn b (prim r) g) : Cmn a b g := fun d hd => by
  have hl : ith b (slZ b - 1) ≠ 0 := slZ_top (by
    rcases Nat.eq_zero_or_pos (slZ b) with e | e
    · exact absurd (List.length_eq_zero_iff.1 (by rw [nrz_length]; exact e)) b0
    · exact e)
  have h1 := cd_step (ply_pv q) (Int.pow_ne_zero hl) hd h.eq
  rw [h1, ← k d hd]
  by_cases e : nrz r = []
  · have h2 : Zdv (pv d) (pv r) := (Zdv.zero _).congr fun x => by rw [pv_ext (b := []) (fun i => by rw [nrz_nil_iff.1 e, ith_nil]) x]; rfl
    rw [prim_nil e]
    have h3 : Zdv (pv d) (pv []) := (Zdv.zero _).congr fun x => rfl
    exact ⟨fun h => ⟨h.1, h3⟩, fun h => ⟨h.1, h2⟩⟩
  · rw [cd_scale (prc_ne e) hd (prim_back r)]
theorem cmn_prim {a b g : List Int} (h : Cmn (prim a) (prim b) g) : Cmn a b g := fun d hd => by
  rw [← h d hd]
  have key : ∀ l, Zdv (pv d) (pv l) ↔ Zdv (pv d) (pv (prim l)) := fun l => by
    by_cases e : nrz l = []
    · rw [prim_nil e]
      exact ⟨fun _ => (Zdv.zero _).congr fun x => rfl, fun _ => (Zdv.zero _).congr fun x => by rw [pv_ext (b := []) (fun i => by rw [nrz_nil_iff.1 e, ith_nil]) x]; rfl⟩
    · exact cd_scale (prc_ne e) hd (prim_back l)
  rw [key a, key b]
theorem gcz_cmn {a b g : List Int} (hg : Pm g) (h : Cmn a b g) (h0 : g = [] → (∀ i, ith a i = 0) ∧ ∀ i, ith b i = 0) : GcZ a b (nrz (mulC ((cont a).gcd (cont b)) g)) := by
  rcases hg with rfl | ⟨h1, h2, h3⟩
  · obtain ⟨ha, hb⟩ := h0 rfl
    exact gcz_zero ha hb
  · have hc : (cont a).gcd (cont b) ≠ 0 := fun e => by
      have e1 := Nat.eq_zero_of_gcd_eq_zero_left e
      have e2 := Nat.eq_zero_of_gcd_eq_zero_right e
      have hz : ∀ l, cont l = 0 → Zdv (pv (mulC 1 [0, 1])) (pv l) := fun l hl => (Zdv.zero _).congr fun x => by rw [pv_ext (b := []) (fun i => by rw [cont_zero_iff.1 hl, ith_nil]) x]; rfl
      have hk := (h (shI g.length [1]) (by
        have : cont (shI g.length [1]) ∣ 1 := by
          have := cont_dvd (shI g.length [1]) g.length
          rw [ith_shI, if_neg (by omega), Nat.sub_self] at this
          exact this
        exact Nat.dvd_one.1 this)).1 ⟨(Zdv.zero _).congr fun x => by rw [pv_ext (b := []) (fun i => by rw [cont_zero_iff.1 e1, ith_nil]) x]; rfl, (Zdv.zero _).congr fun x => by rw [pv_ext (b := []) (fun i => by rw [cont_zero_iff.1 e2, ith_nil]) x]; rfl⟩
      have g0 : g ≠ [] := fun e => by rw [e] at h1; simp [cont] at h1
      have hn : Nz' (shI g.length [1]) := nz_of (.inr (by
        have : (shI g.length [1]).length = g.length + 1 := by simp [shI]
        rw [this, ith_shI, if_neg (by omega), show g.length + 1 - 1 - g.length = 0 by omega]
        decide))
      have := zdv_le hn h2 g0 hk
      have e3 : (shI g.length [1]).length = g.length + 1 := by simp [shI]
      omega
    have := gcz_of h1 h2 h3 h hc
    rwa [nrz_of this.nm]
end Go.Proofs.YtddbhhedjipjkaaGreatDoor
end

section
namespace Go.Proofs.YtddbhhedjipjkaaGreatDoor
open Go.RowKit
set_option linter.unusedVariables false
set_option linter.unusedSimpArgs false
theorem slz_of {zs : List Int} {k : Nat} (h0 : ∀ i, k ≤ i → ith zs i = 0) (h1 : k = 0 ∨ ith zs (k - 1) ≠ 0) : (slZ zs : Int) - 1 = (k : Int) - 1 := by rw [slZ_eq h0 h1]
set_option maxRecDepth 100000 in
set_option maxHeartbeats 1000000 in
theorem zdeg_v {q : Bool} {A : Option Addr} {n c k : Nat} {zs : List Int} {w : World} (hx : ZL q w A n c k zs) (hk : k ≤ 1099511627776) :
    Calls Tryz.prog 12 #[.slice A n c] w (IPost ((slZ zs : Int) - 1) w) := by
  have HX0 := Lib.hid hx
  have hnc := hx.le
  have hcm := hx.cap
  have HN := Lib.hid hx.len
  clear hx
  go_enter Tryz.func12, Tryz.ntmps12
  go_wp2_with fail
  go_loopw [3] (fun s3 wr => ∃ j : Nat, s3 = .int .i64 ((j : Int) - 1) ∧ j ≤ n ∧ Hid (∀ i, j ≤ i → ith zs i = 0) ∧ Hid (Below w.heap.size w wr)) (fun s3 _ => (intOf s3 + 1).toNat)
  case atStart => exact ⟨n, rfl, Nat.le_refl _, Lib.hid fun i hi => ith_ge (by rw [HN.out]; exact hi), Lib.hid (Below.refl _ _)⟩
  case round =>
    obtain ⟨j, rfl, hj, HZ, HB⟩ := hrel
    rcases Nat.eq_zero_or_pos j with rfl | h0
    · have E := Lib.hid (slz_of (k := 0) HZ.out (.inl rfl))
      clear HZ
      go_wp2_with fail
      exact bodyPost_ret (v := .int .i64 (-1)) (by simp [results, Tryz.results12, go_sem]) rfl ⟨by rw [E.out]; rfl, HB.out⟩
    · obtain ⟨j, rfl⟩ : ∃ i, j = i + 1 := ⟨j - 1, by omega⟩
      obtain ⟨ad, rfl, hab, s, A', m, d, c1, c2, ze, hm⟩ := (HX0.out.below HB.out).at (j := j) (by omega)
      have e5 : (((j + 1 : Nat) : Int) - 1) = (j : Int) := by omega
      rw [e5]
      have u1 : (0 : Int) ≤ (j : Int) := by omega
      have u2 : (j : Int) < (n : Int) := by omega
      obtain ⟨r, hr⟩ : ∃ r, (ith zs j).sign = r := ⟨_, rfl⟩
      have HR := Lib.hid hr
      have HE := Lib.hid ze
      clear hab e5 h0 hr ze
      go_wp2_with fail
      refine (zsign_v HE.out.1 (by omega) HR.out).mono ?_
      rintro e w2 ⟨rfl, B2⟩
      have HB2 := Lib.hid (HB.out.trans (B2.mono HB.out.size))
      clear B2 c1 c2
      by_cases hz : r = 0
      · have hz0 : ith zs j = 0 := by have := HR.out; rw [hz] at this; exact Int.sign_eq_zero_iff_zero.1 this
        have H0 := Lib.hid hz0
        subst hz
        clear hz0
        go_wp2
        go_roundw
        case rel => exact ⟨j, by go_num, by omega, Lib.hid (fun i hi => (Nat.eq_or_lt_of_le hi).elim (fun e => e ▸ H0.out) fun hl => HZ.out i hl), HB2⟩
        case measure => first | (simp [intOf]; done) | (simp [intOf]; omega)
      · have hne : (r == 0) = false := by rw [beq_eq_false_iff_ne]; exact hz
        have hz0 : ith zs j ≠ 0 := fun e => hz (by rw [← HR.out, e]; rfl)
        have E := Lib.hid (slz_of (k := j + 1) HZ.out (.inr hz0))
        clear hz0 hz
        go_wp2_with fail
        exact bodyPost_ret (v := .int .i64 (j : Int)) (by simp [results, Tryz.results12, go_sem]) rfl ⟨by rw [E.out]; congr 2; omega, HB2.out⟩
end Go.Proofs.YtddbhhedjipjkaaGreatDoor
end

section
namespace Go.Proofs.YtddbhhedjipjkaaGreatDoor
open Go.RowKit
set_option linter.unusedVariables false
set_option linter.unusedSimpArgs false
structure Shut (p : Prop) : Prop where
  out : p
def Ends (P : Program) (ops : Array Oper) (Q : Exit → Act → World → Prop) (m : Nat) (Fs : List FVal) (w : World) : Nat → List (Option Nat) → Act → Prop
  | _, [], a => Shut (wpList P ops Q (ops.toList.drop m) a w)
  | i, d :: ds, a => ∀ v, nthF Fs i v w → Ends P ops Q m Fs w (i + 1) ds (a.put d v)
theorem endAll_of {P : Program} {ops : Array Oper} {Q : Exit → Act → World → Prop} {m : Nat} {w0 w : World} {Z : TypeId → Obj} {Fs : List FVal} : ∀ (l : List Oper) (acc : List Nat) (i : Nat) (a : Act), l.all (fun o => (isAlloc o).isNone) = true → Ends P ops Q m Fs w i (l.map (·.dst)) a → EndAll P ops Q m w0 Z Fs w acc i l a
  | [], acc, i, a, _, h => by unfold EndAll; unfold Ends at h; exact h.out
  | o :: os, acc, i, a, hn, h => by
    rw [List.all_cons, Bool.and_eq_true] at hn
    have e : isAlloc o = none := by simpa using hn.1
    unfold EndAll
    rw [e]
    intro v hv
    exact endAll_of os acc (i + 1) _ hn.2 (h v hv)
theorem Ends.one {P : Program} {ops : Array Oper} {Q : Exit → Act → World → Prop} {m : Nat} {w : World} {Fs : List FVal} {i : Nat} {d : Option Nat} {ds : List (Option Nat)} {a : Act} (h : ∀ v, nthF Fs i v w → Ends P ops Q m Fs w (i + 1) ds (a.put d v)) : Ends P ops Q m Fs w i (d :: ds) a := h
theorem Ends.nil {P : Program} {ops : Array Oper} {Q : Exit → Act → World → Prop} {m : Nat} {w : World} {Fs : List FVal} {i : Nat} {a : Act} {l : List Oper} (hl : ops.toList.drop m = l) (h : wpList P ops Q l a w) : Ends P ops Q m Fs w i [] a := by
  unfold Ends; rw [hl]; exact ⟨h⟩
theorem region9 {ops : Array Oper} {Q : Exit → Act → World → Prop} {id : Nat} {a0 : Act} {w0 : World} (ds : List (Option Nat)) (fl : List Nat) (m : Nat) (Fs : List FVal) (hQ : ∀ c a d v w, Q (.panic c) (a.put d v) w → Q (.panic c) a w)
    (hok : regionOk ops fl m a0.tmps.size = true) (hno : (ops.toList.take m).all (fun o => (isAlloc o).isNone) = true) (hds : (ops.toList.take m).map (·.dst) = ds) (hzl : (allocTs ops m).all okZ = true)
    (hg : (List.range m).all (fun k => ((ops[k]?).bind isAlloc).isNone || ((ops[k]?).map (·.guard)) == some none) = true)
    (hs : StayAll Fs) (hops : HopAll Tryz.prog ops Q fl m a0 w0 Fs 0 (ops.toList.take m))
    (hend : ∀ w, Below w0.heap.size w0 w → Ends Tryz.prog ops Q m Fs w 0 ds a0) : (Code.region id ops true).wp Tryz.prog Q a0 w0 :=
  region8 fl m Fs hQ hok hzl hg hs hops (fun w hw => endAll_of _ _ _ _ hno (by rw [hds]; exact hend w hw))
end Go.Proofs.YtddbhhedjipjkaaGreatDoor
end
