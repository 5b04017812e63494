/-
  ZlR Zapp
-/
import Derived.Test.YtddbhhedjipjkaaGreatDoorPr17
import Derived.Test.YtddbhhedjipjkaaGreatDoorPr15
import Derived.Laws.AppendOwn

section
namespace Go.Proofs.YtddbhhedjipjkaaGreatDoor
open Go.RowKit
set_option linter.unusedVariables false
set_option linter.unusedSimpArgs false
set_option maxRecDepth 100000 in
set_option maxHeartbeats 1000000 in
theorem rat10_v {q : Bool} {A : Option Addr} {n c k : Nat} {zs : List Int} {w : World} (hx : ZL q w A n c k zs) (i : Nat) :
    Calls Tryz.prog 50 #[.slice A n c, .int .i64 (i : Int)] w (ZvPost (ith zs i) k w) := by
  have hW := Below.refl w.heap.size w
  obtain ⟨wp0, hwp0⟩ : ∃ xw, xw = w.alloc (.cells #[.bool false, .slice none 0 0] 27) := ⟨_, rfl⟩
  have zp0 : Below w.heap.size w wp0 := by rw [hwp0]; exact zba _ _
  have sp0 : wp0.heap.size = w.heap.size + 1 := by rw [hwp0, World.size_alloc]
  have Ir : Ib wp0 w.heap.size false none 0 0 := by rw [hwp0]; exact Ib.new _ _ _ _ _ _
  replace hx := hx.below zp0
  replace hW := hW.trans (zp0.mono hW.size)
  have H_r := Lib.hid Ir
  clear Ir zp0
  have HW : Hid ((w.alloc (.cells #[.bool false, .slice none 0 0] 27)) = wp0) := Lib.hid (by rw [hwp0])
  have lw_r : w.heap.size ≤ w.heap.size := by omega
  clear hwp0 sp0
  go_enter Tryz.func50, Tryz.ntmps50
  have u1 : (0 : Int) ≤ (i : Int) := by omega
  by_cases hi : i < n
  · obtain ⟨ad, rfl, hab, s, A', m, d, c1, c2, ze, hm⟩ := hx.at (j := i) hi
    have u2 : (i : Int) < (n : Int) := by omega
    have P := Lib.hid (zvfin (w := w) (k := k) ze.1 H_r.out hm lw_r hW)
    clear hab hx ze hi
    obtain ⟨r1, r2, r3, r4, r5⟩ := H_r.out
    go_upto_region 1 with fail
    rw [HW.out]
    clear r1 r2 r3 r4 r5
    obtain ⟨r1, r2, r3, r4, r5⟩ := H_r.out
    go_wp2_with fail
    clear r1 r2 r3 r4 r5
    obtain ⟨r1, r2, r3, r4, r5⟩ := H_r.out
    exact bodyPost_ret (v := .agg #[.bool s, .slice A' m d]) (by simp [results, Tryz.results50, go_sem, r1, r2]) rfl P.out
  · have e0 : ith zs i = 0 := ith_ge (by rw [hx.len]; omega)
    have u2 : ¬ (i : Int) < (n : Int) := by omega
    clear hx hi
    obtain ⟨r1, r2, r3, r4, r5⟩ := H_r.out
    go_upto_region 1 with fail
    rw [HW.out]
    clear r1 r2 r3 r4 r5
    obtain ⟨r1, r2, r3, r4, r5⟩ := H_r.out
    go_wp2_with fail
    clear r1 r2 r3 r4 r5
    refine (zof_v 0 (by omega) (by omega) _).mono ?_
    rintro e w21 ⟨s21, A21, n21, c21, rfl, hz, k21, B21⟩
    replace H_r := Lib.hid (H_r.out.below B21)
    replace hW := hW.trans (B21.mono hW.size)
    clear B21
    have kz : n21 ≤ k := by have h1 := hz.words; rw [show (0 : Int).natAbs = 0 from rfl, cn_zero] at h1; simp at h1; omega
    have P := Lib.hid (zvfin (w := w) (k := k) hz.zv H_r.out kz lw_r hW)
    rw [← e0] at P
    clear hz e0 kz
    obtain ⟨r1, r2, r3, r4, r5⟩ := H_r.out
    go_wp2_with fail
    clear r1 r2 r3 r4 r5
    obtain ⟨r1, r2, r3, r4, r5⟩ := H_r.out
    exact bodyPost_ret (v := .agg #[.bool s21, .slice A21 n21 c21]) (by simp [results, Tryz.results50, go_sem, r1, r2]) rfl P.out
set_option maxRecDepth 100000 in
set_option maxHeartbeats 1000000 in
theorem rsame10_v {q : Bool} {A : Option Addr} {n c k : Nat} {zs : List Int} {q' : Bool} {A' : Option Addr} {n' c' k' : Nat} {zs' : List Int} {b : Bool} {w : World} (hx : ZL q w A n c k zs) (hy : ZL q' w A' n' c' k' zs') (hk : k ≤ 1099511627776) (hk' : k' ≤ 1099511627776) (hn : n ≤ 8796093022208) (hn' : n' ≤ 8796093022208) (hb : decide (nrz zs = nrz zs') = b) :
    Calls Tryz.prog 23 #[.slice A n c, .slice A' n' c'] w (fun e w' => e = .returned (.bool b) ∧ Below w.heap.size w w') := by
  have HX0 := Lib.hid hx
  have HY0 := Lib.hid hy
  have HN := Lib.hid hx.len
  have HN' := Lib.hid hy.len
  have Hb := Lib.hid hb
  obtain ⟨L, hL⟩ : ∃ L, max n n' = L := ⟨_, rfl⟩
  have h1L : n ≤ L := by omega
  have h2L : n' ≤ L := by omega
  have hLc : ∀ j, j < L → ¬ j < n → j < n' := by omega
  clear hx hy hb hL
  go_enter Tryz.func23, Tryz.ntmps23
  go_wp2_with fail
  go_loopw [5] (fun s5 wr => ∃ j : Nat, s5 = .int .i64 (j : Int) ∧ j ≤ L ∧ Hid (∀ i, i < j → ith zs i = ith zs' i) ∧ Hid (Below w.heap.size w wr)) (fun s5 _ => L - (intOf s5).toNat)
  case atStart => exact ⟨0, rfl, Nat.zero_le _, Lib.hid fun i hi => by omega, Lib.hid (Below.refl _ _)⟩
  case round =>
    obtain ⟨j, rfl, hj, HE, HB⟩ := hrel
    have hW := HB.out
    clear HB
    by_cases hlt : j < L
    · obtain ⟨bb, hbb⟩ : ∃ bb, decide (ith zs j = ith zs' j) = bb := ⟨_, rfl⟩
      have HBB := Lib.hid hbb
      clear hbb
      by_cases h1 : j < n
      · have u1 : (j : Int) < (n : Int) := by omega
        go_wp2_with fail
        refine (rat10_v (HX0.out.below hW) j).mono ?_
        rintro e w3 ⟨s3, A3, n3, c3, rfl, p3, k3, B3⟩
        replace hW := hW.trans (B3.mono hW.size)
        clear B3
        go_wp2_with fail
        refine (rat10_v (HY0.out.below hW) j).mono ?_
        rintro e w4 ⟨s4, A4, n4, c4, rfl, p4, k4, B4⟩
        replace hW := hW.trans (B4.mono hW.size)
        replace p3 := p3.below B4
        clear B4
        go_wp2_with fail
        refine (zsame_v p3 p4 (by omega) (by omega) HBB.out).mono ?_
        rintro e w9 ⟨rfl, B9⟩
        replace hW := hW.trans (B9.mono hW.size)
        clear p3 p4 B9
        cases bb
        · have hne : nrz zs ≠ nrz zs' := fun e => by have h1 := of_decide_eq_false HBB.out; exact h1 (by rw [← ith_nrz, e, ith_nrz])
          have hbf : b = false := by rw [← Hb.out]; exact decide_eq_false hne
          have HBF := Lib.hid hbf
          clear hne hbf
          go_wp2_with fail
          exact bodyPost_ret (v := .bool false) (by simp [results, Tryz.results23, go_sem]) rfl ⟨by rw [HBF.out], hW⟩
        · have he : ith zs j = ith zs' j := of_decide_eq_true HBB.out
          have HE2 : Hid (∀ i, i < j + 1 → ith zs i = ith zs' i) := Lib.hid fun i hi => by
            rcases Nat.lt_or_ge i j with h | h
            · exact HE.out i h
            · rw [show i = j by omega]; exact he
          have HW2 := Lib.hid hW
          clear he hW
          go_wp2_with fail
          go_roundw
          case rel => exact ⟨j + 1, by go_num, by omega, HE2, HW2⟩
          case measure => first | (simp [intOf]; done) | (simp [intOf]; omega)
      · have u1 : ¬ (j : Int) < (n : Int) := by omega
        have u2 : (j : Int) < (n' : Int) := by have := hLc j hlt h1; omega
        go_wp2_with fail
        refine (rat10_v (HX0.out.below hW) j).mono ?_
        rintro e w3 ⟨s3, A3, n3, c3, rfl, p3, k3, B3⟩
        replace hW := hW.trans (B3.mono hW.size)
        clear B3
        go_wp2_with fail
        refine (rat10_v (HY0.out.below hW) j).mono ?_
        rintro e w4 ⟨s4, A4, n4, c4, rfl, p4, k4, B4⟩
        replace hW := hW.trans (B4.mono hW.size)
        replace p3 := p3.below B4
        clear B4
        go_wp2_with fail
        refine (zsame_v p3 p4 (by omega) (by omega) HBB.out).mono ?_
        rintro e w9 ⟨rfl, B9⟩
        replace hW := hW.trans (B9.mono hW.size)
        clear p3 p4 B9
        cases bb
        · have hne : nrz zs ≠ nrz zs' := fun e => by have h1 := of_decide_eq_false HBB.out; exact h1 (by rw [← ith_nrz, e, ith_nrz])
          have hbf : b = false := by rw [← Hb.out]; exact decide_eq_false hne
          have HBF := Lib.hid hbf
          clear hne hbf
          go_wp2_with fail
          exact bodyPost_ret (v := .bool false) (by simp [results, Tryz.results23, go_sem]) rfl ⟨by rw [HBF.out], hW⟩
        · have he : ith zs j = ith zs' j := of_decide_eq_true HBB.out
          have HE2 : Hid (∀ i, i < j + 1 → ith zs i = ith zs' i) := Lib.hid fun i hi => by
            rcases Nat.lt_or_ge i j with h | h
            · exact HE.out i h
            · rw [show i = j by omega]; exact he
          have HW2 := Lib.hid hW
          clear he hW
          go_wp2_with fail
          go_roundw
          case rel => exact ⟨j + 1, by go_num, by omega, HE2, HW2⟩
          case measure => first | (simp [intOf]; done) | (simp [intOf]; omega)
    · have u1 : ¬ (j : Int) < (n : Int) := by omega
      have u2 : ¬ (j : Int) < (n' : Int) := by omega
      have he : nrz zs = nrz zs' := nrz_ext fun i => by
        by_cases h : i < j
        · exact HE.out i h
        · rw [ith_ge (by rw [HN.out]; omega), ith_ge (by rw [HN'.out]; omega)]
      have hbt : b = true := by rw [← Hb.out]; exact decide_eq_true he
      have HBT := Lib.hid hbt
      clear he hbt
      go_wp2_with fail
      exact bodyPost_ret (v := .bool true) (by simp [results, Tryz.results23, go_sem]) rfl ⟨by rw [HBT.out], hW⟩
theorem Zc.top {w : World} {s : Bool} {A : Option Addr} {n c : Nat} {z : Int} (h : Zc w s A (n + 1) c z) : ∃ (ad : Addr) (v : Nat), A = some ad ∧ w.cell? (ad.add n) = some (.int .u64 (v : Int)) ∧ ¬ v = 0 := by
  obtain ⟨h1, h2, -, -⟩ := h.1
  obtain ⟨ad, e, -, hc⟩ := h1.at (k := n) (by omega)
  refine ⟨ad, _, e, hc, fun e0 => ?_⟩
  have h3 := sl_cn 18446744073709551616 z.natAbs (by omega)
  have h4 := sl_top (xs := cn 18446744073709551616 z.natAbs) (by omega)
  rw [h3, h2, Nat.add_sub_cancel] at h4
  exact h4 e0
theorem Zc.none {w : World} {s : Bool} {A : Option Addr} {c : Nat} {z : Int} (h : Zc w s A 0 c z) : s = false := by
  have h1 := h.words
  have h2 := (cn_nil_iff 18446744073709551616 z.natAbs (by omega)).1 h1.symm
  rw [h.2.out]
  exact decide_eq_false (by omega)
set_option maxRecDepth 100000 in
set_option maxHeartbeats 1000000 in
theorem rnormal10_v {A : Option Addr} {n c k : Nat} {zs : List Int} {w : World} (hx : ZL true w A n c k zs) (nz : Nz' zs) (hk : k ≤ 1099511627776) :
    Calls Tryz.prog 29 #[.slice A n c] w (TruePost w) := by
  have HX0 := Lib.hid hx
  have HN := Lib.hid hx.len
  have HZ := Lib.hid nz
  have hnc := hx.le
  have hcm := hx.cap
  clear hx nz
  go_enter Tryz.func29, Tryz.ntmps29
  go_wp2_with fail
  go_loopw [3] (fun s3 wr => ∃ j : Nat, s3 = .int .i64 (j : Int) ∧ j ≤ n ∧ wr = w) (fun s3 _ => n - (intOf s3).toNat)
  case atStart => exact ⟨0, rfl, Nat.zero_le _, rfl⟩
  case round =>
    obtain ⟨j, rfl, hj, rfl⟩ := hrel
    by_cases hlt : j < n
    · obtain ⟨ad, rfl, hab, s, A', m, d, c1, c2, ze, hm⟩ := HX0.out.at (j := j) hlt
      have zc := ze.2 rfl
      have u1 : (0 : Int) ≤ (j : Int) := by omega
      have u2 : (j : Int) < (n : Int) := by omega
      rcases m with _ | m
      · have hs := zc.none
        subst hs
        clear ze zc
        go_wp2_with fail
        go_roundw
        case rel => exact ⟨j + 1, by go_num, by omega, trivial⟩
        case measure => first | (simp [intOf]; done) | (simp [intOf]; omega)
      · obtain ⟨ad2, v, rfl, hv, hv0⟩ := zc.top
        have u3 : (0 : Int) < ((m + 1 : Nat) : Int) := by omega
        have hv2 : ((v : Int) == 0) = false := by rw [beq_eq_false_iff_ne]; omega
        have hm1 : ((m + 1 : Nat) : Int) - 1 = (m : Int) := by omega
        obtain ⟨m', hm'⟩ : ∃ m', m + 1 = m' := ⟨_, rfl⟩
        rw [hm'] at c2 u3 hm1
        have hmm : (m : Int) < (m' : Int) := by omega
        have hne : ((m' : Int) == 0) = false := by rw [beq_eq_false_iff_ne]; omega
        have hm0 : (0 : Int) ≤ (m : Int) := by omega
        have hb1 : m' ≤ 1099511627776 := by omega
        clear ze zc hm' hm hv0
        go_wp2_with fail
        go_roundw
        case rel => exact ⟨j + 1, by go_num, by omega, trivial⟩
        case measure => first | (simp [intOf]; done) | (simp [intOf]; omega)
    · obtain rfl : j = n := by omega
      rcases Nat.eq_zero_or_pos j with h0 | h0
      · subst h0
        go_wp2_with fail
        exact bodyPost_ret (v := .bool true) (by simp [results, Tryz.results29, go_sem]) rfl ⟨rfl, Below.refl _ _⟩
      · obtain ⟨i, hi⟩ : ∃ i, j = i + 1 := ⟨j - 1, by omega⟩
        obtain ⟨ad, rfl, hab, s, A', m, d, c1, c2, ze, hm⟩ := HX0.out.at (j := i) (by omega)
        have hne : ((j : Int) == 0) = false := by rw [beq_eq_false_iff_ne]; omega
        have hji : (j : Int) - 1 = (i : Int) := by omega
        have hij : (i : Int) < (j : Int) := by omega
        have hi0 : (0 : Int) ≤ (i : Int) := by omega
        have htop : ith zs i ≠ 0 := by
          have h1 := HZ.out.top (fun e => by have := HN.out; rw [e] at this; simp at this; omega)
          rwa [HN.out, hi, Nat.add_sub_cancel] at h1
        obtain ⟨t, ht⟩ : ∃ t, (ith zs i).sign = t := ⟨_, rfl⟩
        have ht0 : ¬ t = 0 := fun e => htop (by rw [e] at ht; exact Int.sign_eq_zero_iff_zero.1 ht)
        have HT := Lib.hid ht
        have hv := ze.1
        clear ze htop ht hi hab
        go_wp2_with fail
        refine (zsign_v hv (by omega) HT.out).mono ?_
        rintro e w9 ⟨rfl, B9⟩
        have ht1 : (t == 0) = false := by rw [beq_eq_false_iff_ne]; exact ht0
        go_wp2_with fail
        exact bodyPost_ret (v := .bool true) (by simp [results, Tryz.results29, go_sem, ht0]) rfl ⟨rfl, B9⟩
set_option maxRecDepth 100000 in
set_option maxHeartbeats 1000000 in
theorem ris10_v {A : Option Addr} {n c k : Nat} {zs : List Int} {q' : Bool} {A' : Option Addr} {n' c' k' : Nat} {zs' : List Int} {w : World} (hx : ZL true w A n c k zs) (hy : ZL q' w A' n' c' k' zs') (nz : Nz' zs) (he : nrz zs' = zs) (hk : k ≤ 1099511627776) (hk' : k' ≤ 1099511627776) (hn : n ≤ 8796093022208) (hn' : n' ≤ 8796093022208) :
    Calls Tryz.prog 14 #[.slice A n c, .slice A' n' c'] w (TruePost w) := by
  have HX0 := Lib.hid hx
  have HY0 := Lib.hid hy
  have HE : Hid (decide (nrz zs = nrz zs') = true) := Lib.hid (decide_eq_true (by rw [he, nrz_of nz]))
  have HZ := Lib.hid nz
  clear hx hy nz he
  go_enter Tryz.func14, Tryz.ntmps14
  go_wp2_with fail
  refine (rnormal10_v HX0.out HZ.out hk).mono ?_
  rintro e w3 ⟨rfl, B3⟩
  go_wp2_with fail
  refine (rsame10_v (HX0.out.below B3) (HY0.out.below B3) hk hk' hn hn' HE.out).mono ?_
  rintro e w4 ⟨rfl, B4⟩
  go_wp2_with fail
  exact bodyPost_ret (v := .bool true) (by simp [results, Tryz.results14, go_sem]) rfl ⟨rfl, B3.trans (B4.mono B3.size)⟩
end Go.Proofs.YtddbhhedjipjkaaGreatDoor
end

section
namespace Go.Proofs.YtddbhhedjipjkaaGreatDoor
open Go.RowKit
set_option linter.unusedVariables false
set_option linter.unusedSimpArgs false
def NWd (u : Value) : Prop := ∀ m : Int, u ≠ .int .u64 m
def OwnN (w : World) (base : Nat) (e : TypeId) (v : Value) (n : Nat) (xs : List Value) : Prop :=
  w.ownsRow base e 2 v n xs ∧ ∀ g cs, v.ownBlock = some g → w.heap[g]? = some (.cells cs e (0, 0)) → ∀ u, u ∈ cs.toList → NWd u
theorem OwnN.wless {w : World} {base g : Nat} {e : TypeId} {v : Value} {n : Nat} {xs : List Value} (h : OwnN w base e v n xs) (hg : v.ownBlock = some g) : Wless w g := fun p m hp hc => by
  rcases h.1.2 with ⟨rfl, _⟩ | ⟨g', cap, cur, rfl, hb, hh, _⟩
  · cases hg
  · have e' : g' = g := by simpa [Value.ownBlock] using hg
    subst e'
    have e2 : cur[p.off]? = some (.int .u64 m) := by
      unfold World.cell? at hc
      rw [hp, hh] at hc
      exact (by simpa using hc : p.spot = none ∧ cur[p.off]? = some (.int .u64 m)).2
    exact h.2 g' cur hg hh (.int .u64 m) (by rw [← Array.getElem?_toList] at e2; exact List.mem_of_getElem? e2) m rfl
theorem zero_nwd {z : Array Value} (hs : z.size = 2) (hz : ∀ u, u ∈ z.toList → NWd u) (k : Nat) (u : Value) (hu : u ∈ (Builtin.zeroCells z k).toList) : NWd u := by
  unfold Builtin.zeroCells at hu
  rw [Array.toList_map, List.mem_map] at hu
  obtain ⟨i, hi, rfl⟩ := hu
  have hlt : i % z.size < z.size := Nat.mod_lt _ (by omega)
  rw [getElem!_pos z _ hlt]
  exact hz _ (Array.getElem_mem_toList hlt)
section
variable {P : Program} (w : World)
theorem run_append_n (base : Nat) (t ty e : TypeId) (i : TypeInfo) (z : Value) (bytes : Nat) (ht : P.underlying t = some (.slice e)) (hi : P.info? e = some i) (hz : i.zero = some z)
    (hsize : i.size = 2) (hby : i.bytes = bytes) (hzs : z.cells.size = 2) (hzn : ∀ u, u ∈ z.cells.toList → NWd u)
    (v : Value) (n : Nat) (xs : List Value) (hown : OwnN w base e v n xs)
    (a : Addr) (c : Nat) (news : List Value) (hl : news.length = 2) (hnews : ∀ j u, news[j]? = some u → w.cell? (a.add j) = some u) (h1 : ∀ u ∈ news, u.oneCell' = true) (hn : ∀ u, u ∈ news → NWd u)
    (h63 : n + 1 ≤ maxLen) (hbytes : (n + 1) * bytes ≤ 140737488355328) (hbase : base ≤ w.heap.size) :
    ∃ v' w', (Builtin.append_ #[t, t] ty #[v, .slice (some a) 1 c]).run P w = .ok v' w' ∧ OwnN w' base e v' (n + 1) (xs ++ news) ∧ w.grownBy w' v.ownBlock := by
  obtain ⟨v', w', hr, ho, hg, -⟩ := run_append_own (P := P) w base t ty e i z 2 bytes ht hi hz hsize hby hzs (by omega) v n xs hown.1 a 1 c news (by omega) hnews h1 h63 hbytes hbase
  refine ⟨v', w', hr, ⟨ho, ?_⟩, hg⟩
  have hsmall : n + 1 ≤ 9223372036854775807 := by simp only [maxLen] at h63; omega
  have zz := zero_nwd hzs hzn
  have fresh : ∀ (ys : List Value) (k : Nat) (cap : Nat), (∀ u, u ∈ ys → NWd u) → v' = .slice (some ⟨w.heap.size, 0, none⟩) (n + 1) cap → w' = w.drew.alloc (.cells (ys.toArray ++ news.toArray ++ Builtin.zeroCells z.cells k) e) →
      ∀ g cs, v'.ownBlock = some g → w'.heap[g]? = some (.cells cs e (0, 0)) → ∀ u, u ∈ cs.toList → NWd u := fun ys k cap hys e1 e2 g cs h2 h3 u hu => by
    subst e1 e2
    have e3 : w.heap.size = g := by simpa [Value.ownBlock] using h2
    subst e3
    have h9 : (w.drew.alloc (.cells (ys.toArray ++ news.toArray ++ Builtin.zeroCells z.cells k) e)).heap[w.heap.size]? = some (.cells (ys.toArray ++ news.toArray ++ Builtin.zeroCells z.cells k) e (0, 0)) := heap_alloc_new w.drew _
    rw [h9] at h3
    injection h3 with e4
    injection e4 with e5
    subst e5
    simp only [Array.toList_append, List.mem_append] at hu
    rcases hu with (hu | hu) | hu
    · exact hys u hu
    · exact hn u hu
    · exact zz k u hu
  rcases hown.1.2 with ⟨rfl, rfl⟩ | ⟨g, cap, cur, rfl, hbg, hh, hnc, hcm, hcs, htake⟩
  · have hr2 := run_append_nil (P := P) w t ty e i z ht hi hz a 1 c news (by omega) hnews (by omega) (by omega) (by simp only [Nat.zero_add] at hbytes; omega)
    rw [hr] at hr2
    injection hr2 with e1 e2
    exact fresh [] (grownCap w 1 0 e - 1) (grownCap w 1 0 e) (fun u hu => nomatch hu) e1 (by rw [e2]; simp)
  · have hcur : ∀ u, u ∈ cur.toList → NWd u := hown.2 g cur rfl hh
    have hxs : ∀ u, u ∈ xs → NWd u := fun u hu => hcur u (by rw [← htake] at hu; exact List.mem_of_mem_take hu)
    by_cases hroom : n + 1 ≤ cap
    · have hfit : n * i.size + news.length ≤ cur.size := by rw [hl, hcs, hsize]; omega
      have hr2 := run_append_room (P := P) w t ty e i ht hi g n cap cur hh a 1 c news (by omega) hnews h1 hroom hfit
      rw [hr] at hr2
      injection hr2 with e1 e2
      intro g' cs h2 h3 u hu
      subst e1 e2
      have e3 : g = g' := by simpa [Value.ownBlock] using h2
      subst e3
      rw [setRow_heap w g cur _ e _ hh] at h3
      injection h3 with e4
      injection e4 with e5
      subst e5
      simp only [List.mem_append] at hu
      rcases hu with (hu | hu) | hu
      · exact hcur u (List.mem_of_mem_take hu)
      · exact hn u hu
      · exact hcur u (List.mem_of_mem_drop hu)
    · have holds : ∀ j u, xs[j]? = some u → w.cell? ((⟨g, 0, none⟩ : Addr).add j) = some u := hown.1.cells (g := g) rfl
      have hr2 := run_append_grow (P := P) w t ty e i z ht hi hz ⟨g, 0, none⟩ n cap xs (by rw [hown.1.1, hsize]) holds a 1 c news (by omega) hnews (by omega) (by omega) (growslice_fits (by omega) (by rw [hby]; exact hbytes))
      rw [hr] at hr2
      injection hr2 with e1 e2
      exact fresh xs _ _ hxs e1 e2
end
structure OwnZ (w0 w : World) (k : Nat) (v : Value) (zs : List Int) : Prop where
  row : ∃ vs : List Value, OwnN w w0.heap.size 27 v zs.length vs ∧ ∀ j, j < zs.length → ∃ s A n c, vs[j * 2]? = some (.bool s) ∧ vs[j * 2 + 1]? = some (.slice A n c) ∧ Zc w s A n c (ith zs j) ∧ n ≤ k
  old : Below w0.heap.size w0 w
theorem OwnZ.nil (w : World) (k : Nat) : OwnZ w w k (.slice none 0 0) [] := ⟨⟨[], ⟨World.ownsRow_nil w _ _ _, fun g cs h => nomatch h⟩, fun j hj => by simp at hj⟩, Below.refl _ _⟩
theorem OwnZ.below {w0 w w' : World} {k : Nat} {v : Value} {zs : List Int} (h : OwnZ w0 w k v zs) (hb : Below w.heap.size w w') : OwnZ w0 w' k v zs := by
  obtain ⟨⟨vs, ⟨h1, h2⟩, h3⟩, h4⟩ := h
  refine ⟨⟨vs, ⟨h1.kept (row := none) ⟨hb.os, hb.tape, hb.output, hb.size, fun k hk _ => hb.block k hk⟩ (by cases hv : v.ownBlock <;> simp), fun g cs hg hc => h2 g cs hg ?_⟩, fun j hj => ?_⟩, h4.trans (hb.mono h4.size)⟩
  · rw [← hb.block g (h1.lt g hg).2]; exact hc
  · obtain ⟨s, A, n, c, c1, c2, c3, c4⟩ := h3 j hj
    exact ⟨s, A, n, c, c1, c2, c3.below hb, c4⟩
theorem OwnZ.form {w0 w : World} {k : Nat} {v : Value} {zs : List Int} (h : OwnZ w0 w k v zs) : ∃ A c, v = .slice A zs.length c ∧ ∀ q, ZL q w A zs.length c k zs := by
  obtain ⟨⟨vs, ⟨h1, h2⟩, h3⟩, h4⟩ := h
  rcases h1.2 with ⟨rfl, e⟩ | ⟨g, cap, cur, rfl, hb, hh, hn, hm, hcs, ht⟩
  · rw [List.length_eq_zero_iff.1 e]
    exact ⟨none, 0, rfl, fun q => ZL.nil _ _ _⟩
  · refine ⟨_, cap, rfl, fun q => ⟨rfl, hn, by unfold maxLen at hm; omega, fun h0 => ⟨_, rfl, (Array.getElem?_eq_some_iff.1 hh).1, fun j hj => ?_⟩⟩⟩
    obtain ⟨s, A, n, c, c1, c2, c3, c4⟩ := h3 j hj
    have hc := h1.cells (g := g) rfl
    refine ⟨s, A, n, c, hc _ _ c1, ?_, .of c3, c4⟩
    have := hc _ _ c2
    rw [add_lit0] at this
    rw [add_lit0]
    exact this
theorem wpList_appz {P : Program} (w0 wr : World) {ops : Array Oper} {rest : List Oper} {o : Oper} {a : Act} {Q : Exit → Act → World → Prop} (hgd : o.guard = none) (s x : Operand) (t : TypeId)
    (ho : o.op = .call { callee := .builtin .append, args := #[s, x], argTypes := #[t, t] })
    (ht : P.underlying t = some (.slice 27)) (hinfo : (P.info? 27).map (fun i => (i.zero, i.size, i.bytes)) = some (some (.agg #[.bool false, .slice none 0 0]), 2, 32))
    (k : Nat) (v : Value) (zs : List Int) (hs : a.eval s = v) (hown : OwnZ w0 wr k v zs) (sb : Bool) (A : Option Addr) (n c : Nat) (z : Int) (hz : Zc wr sb A n c z) (hn : n ≤ k)
    (hx : a.eval x = .slice (some ⟨wr.heap.size, 0, none⟩) 1 1) (hlen : zs.length ≤ 1099511627776)
    (h : ∀ v' w', OwnZ w0 w' k v' (zs ++ [z]) → wpList P ops Q rest (a.put o.dst v') w') :
    wpList P ops Q (o :: rest) a (wr.alloc (.cells #[.bool sb, .slice A n c] 27)) := by
  obtain ⟨i, hi, hz0, hz1, hz2⟩ := info_parts hinfo
  have hb0 := zba wr (.cells #[.bool sb, .slice A n c] 27)
  have hown1 := hown.below hb0
  have hzz := hz.below hb0
  have hsz := hown.old.size
  obtain ⟨⟨vs, h1, h3⟩, h4⟩ := hown1
  obtain ⟨w1, hw1⟩ : ∃ w1, w1 = wr.alloc (.cells #[.bool sb, .slice A n c] 27) := ⟨_, rfl⟩
  have hc0 : w1.cell? ⟨wr.heap.size, 0, none⟩ = some (.bool sb) := by rw [hw1]; simp [go_sem]
  have hc1 : w1.cell? ⟨wr.heap.size, 1, none⟩ = some (.slice A n c) := by rw [hw1]; simp [go_sem]
  have hsw : wr.heap.size ≤ w1.heap.size := by rw [hw1]; simp
  rw [← hw1] at h1 h3 h4 hzz ⊢
  obtain ⟨v', w', hr, h5, h6⟩ := run_append_n (P := P) w1 w0.heap.size t o.type 27 i (.agg #[.bool false, .slice none 0 0]) 32 ht hi hz0 hz1 hz2 rfl (fun u hu => by
      simp [Value.cells] at hu
      rcases hu with rfl | rfl <;> exact fun m e => nomatch e) v zs.length vs h1 ⟨wr.heap.size, 0, none⟩ 1 [.bool sb, .slice A n c] rfl (fun j u hu => by
      rw [add_lit0]
      match j, hu with
      | 0, hu => simp at hu; subst hu; exact hc0
      | 1, hu => simp at hu; subst hu; exact hc1) (fun u hu => by
      simp at hu
      rcases hu with rfl | rfl <;> rfl) (fun u hu => by
      simp at hu
      rcases hu with rfl | rfl <;> exact fun m e => nomatch e) (by unfold maxLen; omega) (by omega) (by omega)
  refine wpList_plain hgd fun K hK' => ?_
  unfold Oper.wp execOp
  simp only [ho, resolve, invoke, builtin, Sem.run_bind, Sem.run_pure, Result.andThen_ok, List.map_toArray, List.map_cons, List.map_nil, hs, hx, hr]
  have keep : ∀ {s' : Bool} {A' : Option Addr} {n' c' : Nat} {y : Int}, Zc w1 s' A' n' c' y → Zc w' s' A' n' c' y := fun {s' A' n' c' y} hy => by
    cases hvb : v.ownBlock with
    | none => rw [hvb] at h6; exact hy.below ⟨h6.os, h6.tape, h6.output, h6.size, fun k hk => h6.block k hk (by simp)⟩
    | some g => rw [hvb] at h6; exact hy.gro (h1.wless hvb) h6
  have hvl : vs.length = zs.length * 2 := h1.1.1
  refine hK' _ _ (h v' w' ⟨⟨_, by rw [List.length_append]; exact h5, fun j hj => ?_⟩, ?_⟩)
  · rw [List.length_append, List.length_singleton] at hj
    rcases Nat.lt_or_ge j zs.length with hlt | hge
    · obtain ⟨s', A', n', c', c1, c2, c3, c4⟩ := h3 j hlt
      refine ⟨s', A', n', c', by rw [List.getElem?_append_left (by omega)]; exact c1, by rw [List.getElem?_append_left (by omega)]; exact c2, ?_, c4⟩
      rw [show ith (zs ++ [z]) j = ith zs j by simp [ith, List.getD, List.getElem?_append_left hlt]]
      exact keep c3
    · obtain rfl : j = zs.length := by omega
      refine ⟨sb, A, n, c, by rw [List.getElem?_append_right (by omega), hvl, Nat.sub_self]; rfl, by rw [List.getElem?_append_right (by omega), hvl, show zs.length * 2 + 1 - zs.length * 2 = 1 by omega]; rfl, ?_, hn⟩
      rw [show ith (zs ++ [z]) zs.length = z by simp [ith, List.getD]]
      exact keep hzz
  · exact h4.grown h6 h4.size (fun k hk => (h1.1.lt k hk).1)
end Go.Proofs.YtddbhhedjipjkaaGreatDoor
end
