/-
  The reference of layer 1: Mul.
-/
import Derived.Test.YthpohkklggabpaaVal
import Derived.Deep.RegionLaw
import Derived.IntWalk
namespace Go.Proofs.Ythpohkklggabpaa
open Go.RowKit

theorem OwnV.alloc {w0 w : World} {t : TypeId} {K : IntKind} {v : Value} {zs : List Nat} (h : OwnV w0 w t K v zs) (o : Obj) : OwnV w0 (w.alloc o) t K v zs := h.below ((Below.refl _ _).alloc (Nat.le_refl _) o)
theorem OwnV.drew {w0 w : World} {t : TypeId} {K : IntKind} {v : Value} {zs : List Nat} (h : OwnV w0 w t K v zs) : OwnV w0 w.drew t K v zs := h.drewN 1

/-- One append of one number, as one step of a region that draws its order. -/
theorem step_app1 {P : Program} (w0 : World) {wr : World} {ops : Array Oper} {o : Oper} {a : Act} {Kc : Act → World → Prop} {Q : Exit → Act → World → Prop} {E : Prop} (hgd : o.guard = none) (s x : Operand) (t : TypeId)
    (ho : o.op = .call { callee := .builtin .append, args := #[s, x], argTypes := #[t, t] })
    (e : TypeId) (K : IntKind) (ht : P.underlying t = some (.slice e)) (hinfo : (P.info? e).map (fun i => (i.zero, i.size, i.bytes)) = some (some (.int K 0), 1, 8))
    (v : Value) (zs : List Nat) (hs : a.eval s = v) (hown : OwnV w0 wr e K v zs) (y : Int) (d : Nat) (hy : y = (d : Int))
    (hx : a.eval x = .slice (some ⟨wr.heap.size, 0, none⟩) 1 1) (hlen : zs.length ≤ 4398046511104)
    (h : ∀ v' w', OwnV w0 w' e K v' (zs ++ [d]) → Kc (a.put o.dst v') w') :
    if Region.wanted o (yielded ops a.tmps) = true then Oper.wp P o a (wr.alloc (.cells #[.int K y] e)).drew Kc Q else E := by
  have hw : Region.wanted o (yielded ops a.tmps) = true := by simp [Region.wanted, hgd]
  rw [if_pos hw]
  subst hy
  obtain ⟨i, hi, hz0, hz1, hz2⟩ := info_parts hinfo
  obtain ⟨h1, h2⟩ := hown.drew
  have hb := h2.size
  refine wp_append_own (P := P) _ s x t ho w0.heap.size e i (.int K 0) 1 8 ht hi hz0 hz1 hz2 rfl (by omega) v zs.length (vs K zs) hs ((h1.alloc _)) ⟨wr.heap.size, 0, none⟩ 1 1 [.int K (d : Int)] hx rfl ?_ ?_ (by unfold maxLen; omega) (by omega) (by simp; simp at hb; omega) ?_
  · intro j u hu
    match j, hu with
    | 0, hu =>
      simp at hu
      subst hu
      simp [Addr.add]
  · intro u hu
    simp at hu
    subst hu
    rfl
  · intro v' w' o1 o2 _
    refine h v' w' ⟨?_, (h2.alloc hb _).grown o2 (by simp; simp at hb; omega) (fun k hk => (h1.lt k hk).1)⟩
    rw [vs_append, List.length_append]
    exact o1

/-- A line of a product: i noughts, and k products with the digit y. -/
def Lining (xs L : List Nat) (y i k : Nat) : Prop := L.length = i + k ∧ Low 1099511627776 L ∧ ev 65536 L = 65536 ^ i * (pre 65536 xs k * y)
theorem Lining.start (xs : List Nat) (y i : Nat) : Lining xs (List.replicate i 0) y i 0 := ⟨by simp, Low.replicate _ _ (by omega), by rw [ev_replicate, pre_zero]; simp⟩
theorem Lining.step {xs L : List Nat} {y i k : Nat} (hx : Low 65536 xs) (hy : y < 65536) (h : Lining xs L y i k) : Lining xs (L ++ [nth xs k * y]) y i (k + 1) := by
  obtain ⟨h1, h2, h3⟩ := h
  have hb := hx.any (by omega) k
  have h4 : nth xs k * y ≤ 65535 * 65535 := Nat.mul_le_mul (by omega) (by omega)
  refine ⟨by simp [h1]; omega, h2.snoc (by omega), ?_⟩
  rw [ev_snoc, h1, h3, pre_succ, Nat.pow_add]
  grind
theorem Lining.stop {xs L : List Nat} {y i k : Nat} (h : Lining xs L y i k) (hk : xs.length ≤ k) : ev 65536 L = 65536 ^ i * (ev 65536 xs * y) := by
  rw [h.2.2, pre_ge _ hk]
theorem zeros_snoc (j : Nat) : List.replicate j 0 ++ [0] = List.replicate (j + 1) (0 : Nat) := by
  rw [List.replicate_succ']

theorem prod_step {p x y : Nat} (xs ys : List Nat) (i : Nat) (hp : p = x * pre 65536 ys i) (hy : y = nth ys i) (hx : ev 65536 xs = x) : p + 65536 ^ i * (ev 65536 xs * y) = x * pre 65536 ys (i + 1) := by
  subst hp hy hx
  rw [pre_succ]
  grind

set_option maxHeartbeats 1000000 in
theorem rmul_calls (A B : Option Addr) (n m c d x y : Nat) (w : World) (hx : Dv w A n c x) (hy : Dv w B m d y) (hn : n ≤ 1099511627776) (hm : m ≤ 1099511627776) :
    Calls Try.prog 13 #[.slice A n c, .slice B m d] w (DvPost (x * y) (n + m) w) := by
  obtain ⟨hrx, hxn, _, _⟩ := hx
  obtain ⟨hry, hyn, _, _⟩ := hy
  have hex := ev_cn 65536 x (by omega)
  have hey := ev_cn 65536 y (by omega)
  have lx := cn_low 65536 x (by omega)
  have ly := cn_low 65536 y (by omega)
  generalize cn 65536 x = xs at *
  generalize cn 65536 y = ys at *
  have hxlt := ev_lt lx
  rw [hex, hxn] at hxlt
  have HX := Lib.hid hxn
  have HY := Lib.hid hyn
  have EX := Lib.hid hex
  have EY := Lib.hid hey
  have HXL := Lib.hid hxlt
  clear hxn hyn hex hey hxlt
  have hlen : ∀ i, x * pre 65536 ys i < 65536 ^ (n + i) := fun i => by
    rw [Nat.pow_add]
    exact Nat.mul_lt_mul'' HXL.out (pre_lt ly (by omega) i)
  have HLEN := Lib.hid hlen
  clear hlen
  go_enter Try.func13, Try.ntmps13
  go_wp2
  go_loopw [5, 6] (fun v i wr => ∃ (k a e : Nat) (D : Option Addr), k ≤ m ∧ i = .int .i64 k ∧ v = .slice D a e ∧ Dv wr D a e (x * pre 65536 ys k) ∧ Below w.heap.size w wr) (fun _ i _ => m - (intOf i).toNat)
  case atStart => exact ⟨0, 0, 0, none, Nat.zero_le _, rfl, rfl, by rw [pre_zero, Nat.mul_zero]; exact Dv.nil _, Below.refl _ _⟩
  case round =>
    obtain ⟨i, a, e, D, hi, rfl, rfl, hv, hw⟩ := hrel
    by_cases hlt : i < m
    · obtain ⟨wo, rfl⟩ : ∃ wo : World, wo = wr := ⟨_, rfl⟩
      have u2 := ly.any (by omega) i
      go_wp2
      go_loopw [7, 8] (fun v k wr => ∃ j : Nat, j ≤ i ∧ k = .int .i64 j ∧ OwnV wo wr 3 .i64 v (List.replicate j 0)) (fun _ k _ => i - (intOf k).toNat)
      case atStart => exact ⟨0, Nat.zero_le _, rfl, OwnV.nil _ _ _⟩
      case round =>
        obtain ⟨j, hj, rfl, ho⟩ := hrel
        by_cases hlt2 : j < i
        · go_wp2_with (at_builtin; refine wpList_app1 wo wr rfl _ _ _ rfl 3 .i64 Try.underlying25 info_i64 _ (List.replicate j 0) (by rfl) ho _ 0 rfl (by rfl) (by simp; omega) ?_)
          intro v1 w1 ho1
          clear ho
          go_wp2
          go_roundw
          case rel => exact ⟨j + 1, by omega, by go_num, by rw [zeros_snoc] at ho1; exact ho1⟩
          case measure => simp [intOf]; omega
        · obtain rfl : j = i := by omega
          clear hlt2
          go_wp2
          go_loopw [7, 9] (fun v k wr => ∃ (t : Nat) (L : List Nat), t ≤ n ∧ k = .int .i64 t ∧ Lining xs L (nth ys j) j t ∧ OwnV wo wr 3 .i64 v L) (fun _ k _ => n - (intOf k).toNat)
          case atStart => exact ⟨0, _, Nat.zero_le _, rfl, Lining.start _ _ _, ho⟩
          case round =>
            clear ho
            obtain ⟨t, L, ht, rfl, hL, ho⟩ := hrel
            have hll : L.length ≤ 2199023255552 := by have := hL.1; omega
            have hl : L.length ≤ 4398046511104 := by omega
            by_cases hlt3 : t < n
            · have u1 := lx.any (by omega) t
              have hp : nth xs t * nth ys j ≤ 65535 * 65535 := Nat.mul_le_mul (by omega) (by omega)
              obtain ⟨ad, rfl, _, c1⟩ := (hrx.below (hw.trans (ho.2.mono hw.size))).at (k := t) (by have := HX.out; omega)
              obtain ⟨ae, rfl, _, c2⟩ := (hry.below (hw.trans (ho.2.mono hw.size))).at (k := j) (by have := HY.out; omega)
              have hst := hL.step lx u2
              have hSt := Lib.hid hst
              have p1 : 0 ≤ ((nth xs t : Nat) : Int) * ((nth ys j : Nat) : Int) := by rw [← Int.natCast_mul]; omega
              have p2 : ((nth xs t : Nat) : Int) * ((nth ys j : Nat) : Int) ≤ 4294836225 := by rw [← Int.natCast_mul]; omega
              have hwr : IntKind.i64.wrap (((nth xs t : Nat) : Int) * ((nth ys j : Nat) : Int)) = ((nth xs t * nth ys j : Nat) : Int) := by rw [IntWalk.i64_in _ (by omega), Int.natCast_mul]
              have HWR := Lib.hid hwr
              clear hL hst hp hwr
              go_wp2
              go_region_law (refine step_app1 wo rfl _ _ _ rfl 3 .i64 Try.underlying25 info_i64 _ L (by rfl) ho _ (nth xs t * nth ys j) HWR.out (by rfl) hl ?_; intro v2 w2 ho2)
              all_goals
                clear ho
                go_wp2
                go_roundw
                case rel => exact ⟨t + 1, _, by omega, by go_num, hSt.out, ho2⟩
                case measure => simp [intOf]; omega
            · obtain rfl : t = n := by omega
              have e1 := hL.stop (by have := HX.out; omega)
              have E1 := Lib.hid e1
              have lL := hL.2.1
              have hv' := hv.below ho.2
              have hw' := hw.trans (ho.2.mono hw.size)
              obtain ⟨A2, c2, rfl, hg⟩ := ho.form
              have e2 := prod_step xs ys j rfl rfl EX.out
              have E2 := Lib.hid e2
              have hL2 : ev 65536 L < 65536 ^ (t + j + 1) := by
                rw [E1.out, show t + j + 1 = j + (t + 1) from by omega, Nat.pow_add 65536 j (t + 1), Nat.pow_succ 65536 t]
                refine Nat.mul_lt_mul_of_pos_left (Nat.mul_lt_mul'' ?_ u2) (Nat.pow_pos (by omega))
                rw [EX.out]; exact HXL.out
              have HL2 := Lib.hid hL2
              have ha : a ≤ t + j := by rw [← hv.2.1]; exact cn_len_of_lt _ _ _ (by omega) (HLEN.out j)
              clear hlt3 hL e1 e2 hL2 ho
              go_wp2_with fail
              refine (carried_calls _ _ _ L _ hg.rd rfl (by omega) lL).mono ?_
              rintro e w1 hp
              obtain ⟨A3, n3, c3, rfl, h3, k3, b3⟩ := hp.dv HL2.out
              have hv2 := hv'.below b3
              have hw2 := hw'.trans (b3.mono hw'.size)
              clear hp
              go_wp2_with fail
              refine (radd_v hv2 h3 (by omega) (by omega)).mono ?_
              rintro e w2 ⟨A4, n4, c4, rfl, h4, k4, b4⟩
              have hw3 := hw2.trans (b4.mono hw2.size)
              rw [E1.out, E2.out] at h4
              clear hv hv' hv2 h3
              go_wp2
              go_roundw
              case rel => exact ⟨j + 1, n4, c4, A4, by omega, by go_num, rfl, h4, hw3⟩
              case measure => simp [intOf]; omega
    · obtain rfl : i = m := by omega
      have e1 : pre 65536 ys i = y := by rw [pre_ge _ (by have := HY.out; omega), EY.out]
      rw [e1] at hv
      have ha : a ≤ n + i := by
        have h0 := HLEN.out i
        rw [e1] at h0
        rw [← hv.2.1]; exact cn_len_of_lt _ _ _ (by omega) h0
      clear e1 hlt
      go_wp2
      go_ret
      exact ⟨D, a, e, rfl, hv, ha, hw⟩
end Go.Proofs.Ythpohkklggabpaa
