/-
  For every input quincunxlaw01.NatOwn returns true and leaves what was there as it was: the walk.
-/
import Derived.Test.YtgdggpfldkmbdaaOwn1
namespace Go.Proofs.Ytgdggpfldkmbdaa
open Go.RowKit

theorem info_nat : (Try.prog.info? 23).map (fun i => (i.zero, i.size, i.bytes)) = some (some (.slice none 0 0), 1, 24) := by kernel_rfl
theorem bup {a b c : World} (h : Below a.heap.size a b) (k : Below b.heap.size b c) : Below a.heap.size a c := h.trans (k.mono h.size)

/-- New memory is answered. -/
def GotPost (w : World) (e : Ending) (w' : World) : Prop := ∃ A c zs, e = .returned (.slice A (List.length zs) c) ∧ Got w w' 37 .u64 A c zs
theorem NatPost.got {v : Nat} {w w' : World} {e : Ending} (h : NatPost v w e w') : GotPost w e w' := by
  obtain ⟨A, c, he, hg⟩ := h
  exact ⟨A, c, _, he, hg⟩
def Got2Post (v : Nat) (w : World) (e : Ending) (w' : World) : Prop := ∃ A c zs, e = .returned (.tuple #[.slice A (List.length zs) c, .bool true]) ∧ Got w w' 37 .u64 A c zs ∧ Low 18446744073709551616 zs ∧ Hid (ev 18446744073709551616 zs = v) ∧ Hid (zs = cn 18446744073709551616 v)
theorem TwoPost.got {v : Nat} {w w' : World} {e : Ending} (h : TwoPost v w e w') : Got2Post v w e w' := by
  obtain ⟨A, c, he, hg⟩ := h
  exact ⟨A, c, _, he, hg, cn_low _ _ (by omega), ev_cn _ _ (by omega), rfl⟩

theorem rd_to {b0 u1 u2 B gl : Nat} {w0 w12 W wr : World} {v : Value} {R : List (Option Addr × Nat × Nat)} (h : Bumps b0 u1 u2 B w0 W v R wr) (gr : w12.grownBy W (some gl)) {A : Option Addr} {zs : List Nat} (hr : Rd w12 .u64 A zs)
    (hp : ∀ ad, 0 < zs.length → A = some ad → Prot b0 u1 u2 ad.block ∧ ad.block ≠ gl) : Rd wr .u64 A zs := fun hn => by
  obtain ⟨ad, rfl, hb, hc⟩ := hr hn
  obtain ⟨h1, h2⟩ := hp ad hn rfl
  refine ⟨ad, rfl, by have := gr.size; have := h.2.2.2.2; omega, fun j hj => ?_⟩
  rw [← hc j hj]
  exact World.cell?_of_block (by rw [add_block]; exact (h.2.2.1 _ h1).trans (gr.block _ hb (fun e => h2 (Option.some.inj e))))

set_option maxHeartbeats 2000000 in
theorem own_few (A B : Option Addr) (n m c d k : Nat) (xs ys : List Nat) (w : World) (hx : Rd w .u64 A xs) (hy : Rd w .u64 B ys) (hxn : xs.length = n) (hyn : ys.length = m)
    (hc : n ≤ c) (hc' : c ≤ 9223372036854775807) (hd : m ≤ d) (hd' : d ≤ 9223372036854775807) (lx : Low 18446744073709551616 xs) (ly : Low 18446744073709551616 ys)
    (h1 : (n : Int) ≤ 10) (h2 : (m : Int) ≤ 10) (hk : k ≤ 255) :
    Calls Try.prog 8 #[.slice A n c, .slice B m d, .int .u8 k] w (TruePost w) := by
  have b3 : ((0 : Nat) : Int) ≤ 10 := by omega
  obtain ⟨j0, hj0, hj1, hj2⟩ := info_parts info_nat
  have HX := Lib.hid hxn
  have HY := Lib.hid hyn
  have J0 := Lib.hid hj1
  have J1 := Lib.hid hj2
  clear hxn hyn hj1 hj2
  go_enter Try.func8, Try.ntmps8
  go_wp2_with fail
  refine (awake_calls _).mono ?_
  rintro e w1 ⟨rfl, B1⟩
  go_wp2_with fail
  refine (few_yes _ _ _ _ _ _ _ _ _ _ _ (by omega) (by omega) (by omega)).mono ?_
  rintro e w1' ⟨rfl, rfl⟩
  go_wp2_with (at_builtin; refine wpList_appm w1 w1 rfl (.tmp 29) (.tmp 30) _ rfl 37 .u64 Try.underlying23 info_u64 _ [] (by rfl) (OwnV.nil _ _ _) _ n c xs (hx.below B1) HX.out (by rfl) (by simp; omega) ?_)
  intro vx w2 ox
  go_wp2_with (at_builtin; refine wpList_appm w2 w2 rfl (.tmp 32) (.tmp 33) _ rfl 37 .u64 Try.underlying23 info_u64 _ [] (by rfl) (OwnV.nil _ _ _) _ m d ys (hy.below (bup B1 ox.2)) HY.out (by rfl) (by simp; omega) ?_)
  intro vy w3 oy
  obtain ⟨Ax, cx, rfl, gx⟩ := ox.form
  obtain ⟨Ay, cy, rfl, gy⟩ := oy.form
  have B3 : Below w.heap.size w w3 := bup (bup B1 gx.2) gy.2
  go_wp2_with fail
  refine ((norm_calls A n c xs _ (hx.below B3) HX.out hc hc' lx (by omega)).mono fun _ _ h => NatPost.got h).mono ?_
  rintro e w4 ⟨A4, c4, z4, rfl, g4⟩
  have B4 := bup B3 g4.2
  go_wp2_with fail
  refine ((add_calls A B n m c d xs ys _ (hx.below B4) (hy.below B4) HX.out HY.out hc hc' hd hd' lx ly (by omega) (by omega)).mono fun _ _ h => NatPost.got h).mono ?_
  rintro e w5 ⟨A5, c5, z5, rfl, g5⟩
  have B5 := bup B4 g5.2
  go_wp2_with fail
  refine ((mul_calls A B n m c d xs ys _ (hx.below B5) (hy.below B5) HX.out HY.out hc hc' hd hd' lx ly (by omega) (by omega)).mono fun _ _ h => NatPost.got h).mono ?_
  rintro e w6 ⟨A6, c6, z6, rfl, g6⟩
  have B6 := bup B5 g6.2
  go_wp2_with fail
  refine ((muladd_calls A n c xs 1 0 _ (hx.below B6) HX.out hc hc' lx (by omega) (by omega) (by omega)).mono fun _ _ h => NatPost.got h).mono ?_
  rintro e w7 ⟨A7, c7, z7, rfl, g7⟩
  have B7 := bup B6 g7.2
  go_wp2_with fail
  obtain ⟨w8, hw8⟩ : ∃ w8, w8 = w7.alloc (.cells #[.slice A4 z4.length c4, .slice A5 z5.length c5, .slice A6 z6.length c6, .slice A7 z7.length c7] 23) := ⟨_, rfl⟩
  have ol : w8.ownsRow w7.heap.size 23 1 (.slice (some ⟨w7.heap.size, 0, none⟩) 4 4) 4 [.slice A4 z4.length c4, .slice A5 z5.length c5, .slice A6 z6.length c6, .slice A7 z7.length c7] := by
    rw [hw8]
    exact World.ownsRow_lit w7 #[.slice A4 z4.length c4, .slice A5 z5.length c5, .slice A6 z6.length c6, .slice A7 z7.length c7] 4 (Nat.le_refl _) (by unfold maxLen; omega) rfl
  have b8 : Below w7.heap.size w7 w8 := by rw [hw8]; exact (Below.refl _ _).alloc (Nat.le_refl _) _
  have B8 := bup B7 b8
  rw [← hw8]
  clear hw8
  refine (sub_calls A B n m c d xs ys _ (hx.below B8) (hy.below B8) HX.out HY.out hc hc' hd hd' lx ly (by omega)).mono ?_
  rintro e w9 ⟨A9, c9, z9, rfl, g9, -⟩
  have B9 := bup B8 g9.2
  go_wp2_with fail
  refine ((shl_calls A n c xs k (k / 64) (k % 64) _ (hx.below B9) HX.out hc hc' lx (by omega) (by omega) (by omega) (by omega)).mono fun _ _ h => TwoPost.got h).mono ?_
  rintro e w10 ⟨A10, c10, z10, rfl, g10, l10, e10, q10⟩
  have B10 := bup B9 g10.2
  go_wp2_with fail
  have hzl : z10.length ≤ 20 := by
    rw [q10.out]
    refine cn_len_of_lt _ _ _ (by omega) ?_
    have hv := ev_lt lx
    have h5 : (2 : Nat) ^ k ≤ 2 ^ 256 := Nat.pow_le_pow_right (by omega) (by omega)
    have h6 : (2 : Nat) ^ 256 = 18446744073709551616 ^ 4 := by decide
    have h7 := pow_big (n := xs.length) (k := 10) (by have := HX.out; omega)
    have h8 : ev 18446744073709551616 xs * 2 ^ k < 18446744073709551616 ^ 10 * 2 ^ 256 := Nat.mul_lt_mul_of_lt_of_le (Nat.lt_of_lt_of_le hv h7) h5 (Nat.pow_pos (by omega))
    rw [h6, ← Nat.pow_add] at h8
    exact Nat.lt_of_lt_of_le h8 (pow_big (by omega))
  refine ((shr_calls A10 z10.length c10 z10 k (k / 64) (k % 64) _ g10.rd rfl g10.cap.1 (by have := g10.cap.2; unfold maxLen at this; omega) l10 (by omega) (by omega) (by omega) (by omega)).mono fun _ _ h => TwoPost.got h).mono ?_
  rintro e w11 ⟨A11, c11, z11, rfl, g11, l11, e11, -⟩
  have B11 := bup B10 g11.2
  go_wp2_with fail
  refine ((shr_calls A n c xs 0 0 0 _ (hx.below B11) HX.out hc hc' lx (by omega) (by omega) (by omega) (by omega)).mono fun _ _ h => TwoPost.got h).mono ?_
  rintro e w12 ⟨A12, c12, z12, rfl, g12, l12, e12, -⟩
  have B12 := bup B11 g12.2
  have b812 : Below w8.heap.size w8 w12 := bup (bup (bup g9.2 g10.2) g11.2) g12.2
  have ol12 := own_below ol b812
  have s37 : w3.heap.size ≤ w7.heap.size := (bup (bup (bup g4.2 g5.2) g6.2) g7.2).size
  have s78 : w7.heap.size < w8.heap.size := (ol.lt w7.heap.size rfl).2
  have s03 := B3.size
  have s810 : w8.heap.size ≤ w10.heap.size := (bup g9.2 g10.2).size
  have s1011 := g11.2.size
  have s1112 := g12.2.size
  have s45 := g5.2.size
  have s56 := g6.2.size
  have s67 := g7.2.size
  have s34 := g4.2.size
  have s89 := g9.2.size
  have s910 := g10.2.size
  go_wp2_with (at_builtin; refine wpList_append_own _ rfl (.tmp 71) (.tmp 75) _ rfl w7.heap.size 23 j0 (.slice none 0 0) 1 24 Try.underlying46 hj0 J0.out J1.out.1 J1.out.2 rfl (by omega) _ 4 _ (by rfl) (ol12.alloc _) ⟨w12.heap.size, 0, none⟩ 3 3 [.slice A9 z9.length c9, .slice A10 z10.length c10, .slice A12 z12.length c12] (by rfl) rfl ?_ ?_ (by unfold maxLen; omega) (by omega) (by simp; omega) ?_)
  · intro j u hu
    match j, hu with
    | 0, hu => simp at hu; subst hu; simp [Addr.add]
    | 1, hu => simp at hu; subst hu; simp [Addr.add]
    | 2, hu => simp at hu; subst hu; simp [Addr.add]
    | j + 3, hu => simp at hu
  · intro u hu
    simp at hu
    rcases hu with rfl | rfl | rfl <;> rfl
  · intro vl w13 ol13 gl13 hnn
    clear hnn
    have gr : w12.grownBy w13 (some w7.heap.size) := grown_trans (World.grownBy_alloc w12 _ _) gl13
    obtain ⟨cl, hcl⟩ : ∃ cl, w12.heap[w7.heap.size]? = some (.cells cl 23 (0, 0)) := by
      rcases ol12.2 with ⟨h9, _⟩ | ⟨gg, cap, cur, hv, _, hh, _⟩
      · cases h9
      · injection hv with h9
        injection h9 with h9
        injection h9 with h9
        subst h9
        exact ⟨cur, hh⟩
    have B13 : Below w.heap.size w w13 := B12.grown gr (by omega) (fun p hp => by obtain rfl := Option.some.inj hp; omega)
    obtain ⟨R, hR⟩ : ∃ R : List (Option Addr × Nat × Nat), R = [(A4, z4.length, c4), (A5, z5.length, c5), (A6, z6.length, c6), (A7, z7.length, c7), (A9, z9.length, c9), (A10, z10.length, c10), (A12, z12.length, c12)] := ⟨_, rfl⟩
    have hR7 : R.length = 7 := by rw [hR]; rfl
    have hBu : Bumps w3.heap.size w10.heap.size w11.heap.size w7.heap.size w w13 vl R w13 := by
      refine ⟨?_, ?_, fun _ _ => rfl, B13, rfl⟩
      · rw [hR]; exact ol13
      · intro r hr
        rw [hR] at hr
        simp only [List.mem_cons, List.not_mem_nil, or_false] at hr
        refine Wrt.grown ?_ gr hcl
        rcases hr with rfl | rfl | rfl | rfl | rfl | rfl | rfl
        · exact Wrt.of_got g4 (bup (bup (bup (bup g5.2 g6.2) g7.2) (b8.mono (Nat.le_refl _))) b812) (Nat.le_refl _) (.inl (by omega))
        · exact Wrt.of_got g5 (bup (bup (bup g6.2 g7.2) b8) b812) (by omega) (.inl (by omega))
        · exact Wrt.of_got g6 (bup (bup g7.2 b8) b812) (by omega) (.inl (by omega))
        · exact Wrt.of_got g7 (bup b8 b812) (by omega) (.inl (by omega))
        · exact Wrt.of_got g9 (bup (bup g10.2 g11.2) g12.2) (by omega) (.inl (by omega))
        · exact Wrt.of_got g10 (bup g11.2 g12.2) (by omega) (.inl (by omega))
        · exact Wrt.of_got g12 (Below.refl _ _) (by omega) (.inr (by omega))
    have hxb : ∀ ad, 0 < xs.length → A = some ad → ad.block < w.heap.size := fun ad hp ha => by
      obtain ⟨ad', h9, h10, _⟩ := hx hp
      rw [h9] at ha
      obtain rfl := Option.some.inj ha
      exact h10
    have hyb : ∀ ad, 0 < ys.length → B = some ad → ad.block < w.heap.size := fun ad hp ha => by
      obtain ⟨ad', h9, h10, _⟩ := hy hp
      rw [h9] at ha
      obtain rfl := Option.some.inj ha
      exact h10
    have b212 : Below w2.heap.size w2 w12 := bup (bup (bup (bup (bup (bup gy.2 g4.2) g5.2) g6.2) g7.2) b8) b812
    have s12 := gx.2.size
    have s23 := gy.2.size
    have s01 := B1.size
    have KA : Hid (∀ wr, Bumps w3.heap.size w10.heap.size w11.heap.size w7.heap.size w w13 vl R wr → Rd wr .u64 A xs) := fun wr hb => rd_to hb gr (hx.below B12) fun ad hp ha => ⟨.inl (by have := hxb ad hp ha; omega), by have := hxb ad hp ha; omega⟩
    have KB : Hid (∀ wr, Bumps w3.heap.size w10.heap.size w11.heap.size w7.heap.size w w13 vl R wr → Rd wr .u64 B ys) := fun wr hb => rd_to hb gr (hy.below B12) fun ad hp ha => ⟨.inl (by have := hyb ad hp ha; omega), by have := hyb ad hp ha; omega⟩
    have KX : Hid (∀ wr, Bumps w3.heap.size w10.heap.size w11.heap.size w7.heap.size w w13 vl R wr → Rd wr .u64 Ax xs) := fun wr hb => rd_to hb gr (gx.rd.below b212) fun ad hp ha => ⟨.inl (by have := (gx.block ad ha).2; omega), by have := (gx.block ad ha).2; omega⟩
    have KY : Hid (∀ wr, Bumps w3.heap.size w10.heap.size w11.heap.size w7.heap.size w w13 vl R wr → Rd wr .u64 Ay ys) := fun wr hb => rd_to hb gr (gy.rd.below (bup (bup (bup (bup (bup g4.2 g5.2) g6.2) g7.2) b8) b812)) fun ad hp ha => ⟨.inl (by have := (gy.block ad ha).2; omega), by have := (gy.block ad ha).2; omega⟩
    have KD : Hid (∀ wr, Bumps w3.heap.size w10.heap.size w11.heap.size w7.heap.size w w13 vl R wr → Rd wr .u64 A11 z11) := fun wr hb => rd_to hb gr (g11.rd.below g12.2) fun ad hp ha => ⟨.inr (by have := g11.block ad ha; omega), by have := g11.block ad ha; omega⟩
    have ED : Hid (ev 18446744073709551616 z11 = ev 18446744073709551616 xs) := by
      show ev 18446744073709551616 z11 = ev 18446744073709551616 xs
      rw [e11.out, e10.out, Nat.mul_div_cancel _ (Nat.pow_pos (by omega))]
    have s11 : z11.length ≤ c11 ∧ c11 ≤ 9223372036854775807 := ⟨g11.cap.1, by have := g11.cap.2; unfold maxLen at this; omega⟩
    have hwb : w.heap.size ≤ w3.heap.size := s03
    have HR7 := Lib.hid hR7
    obtain ⟨gl, cap, rfl, hcap, hcap2⟩ := hBu.form (by omega)
    have hRle : R.length ≤ 7 := by omega
    clear hR hR7 hcl ol13 gl13 gr hxb hyb b212 ol12 ol b812 b8 g4 g5 g6 g7 g9 g10 g12 gx gy ox oy B12 B11 B10 B9 B8 B7 B6 B5 B4 e10 e11 e12 q10 hzl l10 l12 B3 B13
    go_wp2
    go_loopw [18] (fun i wr => ∃ t : Nat, t ≤ R.length ∧ i = .int .i64 t ∧ Bumps w3.heap.size w10.heap.size w11.heap.size w7.heap.size w w13 (.slice (some ⟨gl, 0, none⟩) R.length cap) R wr) (fun i _ => R.length - (intOf i).toNat)
    case atStart => exact ⟨0, Nat.zero_le _, rfl, hBu⟩
    case round =>
      obtain ⟨t, ht, rfl, hb⟩ := hrel
      by_cases hlt : t < R.length
      · obtain ⟨A0, n0, c0, rc, hw0⟩ := hb.row hlt
        clear hBu
        obtain ⟨wo, rfl⟩ : ∃ wo : World, wo = wr := ⟨_, rfl⟩
        go_wp2
        go_loopw [19] (fun i wr => ∃ q : Nat, q ≤ n0 ∧ i = .int .i64 q ∧ Bumps w3.heap.size w10.heap.size w11.heap.size w7.heap.size w w13 (.slice (some ⟨gl, 0, none⟩) R.length cap) R wr) (fun i _ => n0 - (intOf i).toNat)
        case atStart => exact ⟨0, Nat.zero_le _, rfl, hb⟩
        case round =>
          obtain ⟨q, hq, rfl, hb2⟩ := hrel
          obtain ⟨rc2, hw2⟩ := hb.row' hb2 hlt rc
          by_cases hlt2 : q < n0
          · obtain ⟨g, x, hA0, cc, cf, hpr, hn0, cs, hcs⟩ := hw2.cell hlt2
            have hn0' : n0 ≤ 9223372036854775807 := hn0
            have hA0' : A0 = some ⟨g, 0, none⟩ := hA0
            subst hA0'
            have HCS := Lib.hid hcs
            clear hA0 hcs rc hn0
            go_wp2
            go_roundw
            case rel => exact ⟨q + 1, by omega, by go_num, hb2.store hpr hwb HCS.out _⟩
            case measure => simp [intOf]; omega
          · obtain rfl : q = n0 := by omega
            clear hlt2 rc
            go_wp2
            go_roundw
            case rel => exact ⟨t + 1, by omega, by go_num, hb2⟩
            case measure => simp [intOf]; omega
      · obtain rfl : t = R.length := by omega
        have B1' := hb.2.2.2.1
        clear hlt hBu
        go_wp2_with fail
        refine (same_calls _ _ _ _ _ _ xs xs _ (KA.out _ hb) (KX.out _ hb) HX.out rfl (by omega) rfl).mono ?_
        rintro e w20 ⟨rfl, B20⟩
        go_wp2_with fail
        refine (same_calls _ _ _ _ _ _ ys ys _ ((KB.out _ hb).below B20) ((KY.out _ hb).below B20) HY.out rfl (by omega) rfl).mono ?_
        rintro e w21 ⟨rfl, B21⟩
        go_wp2_with fail
        have C2 := bup B20 B21
        have hd1 : Nv w21 A11 z11.length c11 (ev 18446744073709551616 xs) := ⟨z11, (KD.out _ hb).below C2, rfl, s11.1, s11.2, l11, ED.out⟩
        have ha1 : Nv w21 A n c (ev 18446744073709551616 xs) := ⟨xs, (KA.out _ hb).below C2, HX.out, hc, hc', lx, rfl⟩
        refine (cmp_same_v hd1 ha1 rfl).mono ?_
        rintro e w22 ⟨rfl, B22⟩
        go_wp2
        go_ret
        exact ⟨rfl, bup B1' (bup C2 B22)⟩

theorem own_calls (A B : Option Addr) (n m c d k : Nat) (xs ys : List Nat) (w : World) (hx : Rd w .u64 A xs) (hy : Rd w .u64 B ys) (hxn : xs.length = n) (hyn : ys.length = m)
    (hc : n ≤ c) (hc' : c ≤ 9223372036854775807) (hd : m ≤ d) (hd' : d ≤ 9223372036854775807) (lx : Low 18446744073709551616 xs) (ly : Low 18446744073709551616 ys) (hk : k ≤ 255) :
    Calls Try.prog 8 #[.slice A n c, .slice B m d, .int .u8 k] w (TruePost w) := by
  by_cases h : ((n : Int) ≤ 10 ∧ (m : Int) ≤ 10 ∧ ((0 : Nat) : Int) ≤ 10)
  · exact own_few A B n m c d k xs ys w hx hy hxn hyn hc hc' hd hd' lx ly h.1 h.2.1 hk
  · have hW := Below.refl w.heap.size w
    clear hxn hyn
    go_enter Try.func8, Try.ntmps8
    go_wp2_with fail
    refine (awake_calls _).mono ?_
    rintro e w1 ⟨rfl, B1⟩
    replace hW := hW.trans (B1.mono hW.size)
    go_wp2_with fail
    refine (few_no _ _ _ _ _ _ _ _ _ _ _ h).mono ?_
    rintro e w2 ⟨rfl, rfl⟩
    clear h
    go_wp2_with fail
    refine (awake_calls _).mono ?_
    rintro e w3 ⟨rfl, B3⟩
    replace hW := hW.trans (B3.mono hW.size)
    go_wp2
    go_ret
    exact ⟨rfl, hW⟩
end Go.Proofs.Ytgdggpfldkmbdaa
