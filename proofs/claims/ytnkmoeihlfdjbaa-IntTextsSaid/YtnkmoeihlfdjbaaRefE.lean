/-
  The reference of layer 4: a number's digits.
-/
import Derived.Test.YtnkmoeihlfdjbaaRefD
import Derived.Laws.IdiomStrings
/-! Plain facts on the reference's Print: dividing by ten, digit by digit. -/
namespace Go.Proofs.Ytnkmoeihlfdjbaa

/-- The digits from k on are divided by ten; r is what is left. -/
def Tenth (D Q : List Nat) (k r : Nat) : Prop := Q.length + k = D.length ∧ Low 65536 Q ∧ ev 65536 Q.reverse = ev 65536 (D.drop k) / 10 ∧ r = ev 65536 (D.drop k) % 10
theorem Tenth.start (D : List Nat) : Tenth D [] D.length 0 := ⟨by simp, Low.nil _, by simp [ev], by simp [ev]⟩
theorem Tenth.rest {D Q : List Nat} {k r : Nat} (h : Tenth D Q k r) : r < 10 := by rw [h.2.2.2]; exact Nat.mod_lt _ (by omega)
theorem Tenth.step {D Q : List Nat} {i r : Nat} (lD : Low 65536 D) (h : Tenth D Q (i + 1) r) : Tenth D (Q ++ [(r * 65536 + nth D i) / 10]) i ((r * 65536 + nth D i) % 10) := by
  obtain ⟨h1, h2, h3, h4⟩ := h
  have hi : i < D.length := by omega
  have hd := lD i hi
  have hr : r < 10 := by rw [h4]; exact Nat.mod_lt _ (by omega)
  have e : ev 65536 (D.drop i) = nth D i + 65536 * ev 65536 (D.drop (i + 1)) := by
    rw [List.drop_eq_getElem_cons hi, nth_getElem hi]; rfl
  generalize ev 65536 (D.drop (i + 1)) = H at *
  refine ⟨by simp; omega, h2.snoc (by omega), ?_, by rw [e]; omega⟩
  rw [List.reverse_append, List.reverse_singleton, List.singleton_append, ev, h3, e]
  omega
theorem Tenth.stop {D Q : List Nat} {r : Nat} (h : Tenth D Q 0 r) : ev 65536 Q.reverse = ev 65536 D / 10 ∧ r = ev 65536 D % 10 ∧ Q.length = D.length := by
  obtain ⟨h1, h2, h3, h4⟩ := h
  rw [List.drop_zero] at h3 h4
  exact ⟨h3, h4, by omega⟩
theorem Low.turned {b : Nat} {Q : List Nat} (h : Low b Q) : Low b Q.reverse := fun k hk => by
  have hk' : k < Q.length := by simpa using hk
  have e : nth Q.reverse k = nth Q (Q.length - 1 - k) := by
    rw [← nth_getElem (by simpa using hk'), List.getElem_reverse, nth_getElem]
  rw [e]; exact h _ (by omega)
/-- Turned round, from k on. -/
theorem turn_step {Q : List Nat} {i : Nat} (hi : i < Q.length) : (Q.drop (i + 1)).reverse ++ [nth Q i] = (Q.drop i).reverse := by
  rw [List.drop_eq_getElem_cons hi, nth_getElem hi, List.reverse_cons]
/-- The digits found so far, the last one first. -/
def Found (v : Nat) (T : List Nat) (y : Nat) : Prop := T.reverse = fw T.length v ∧ y = v / 10 ^ T.length ∧ (T.length = 0 ∨ 10 ^ (T.length - 1) ≤ v)
theorem Found.start (v : Nat) : Found v [] v := ⟨rfl, by simp, .inl rfl⟩
theorem Found.pos {v y : Nat} {T : List Nat} (h : Found v T y) (hy : 0 < y) : 10 ^ T.length ≤ v := by
  rw [h.2.1] at hy
  rcases Nat.lt_or_ge v (10 ^ T.length) with h1 | h1
  · rw [Nat.div_eq_of_lt h1] at hy; omega
  · exact h1
theorem Found.step {v y : Nat} {T : List Nat} (h : Found v T y) (hy : 0 < y) : Found v (T ++ [48 + y % 10]) (y / 10) := by
  have hp := h.pos hy
  obtain ⟨h1, h2, h3⟩ := h
  refine ⟨?_, ?_, .inr ?_⟩
  · rw [List.reverse_append, List.reverse_singleton, List.singleton_append, h1, List.length_append, List.length_singleton, fw_cons, h2]
  · rw [h2, Nat.div_div_eq_div_mul, ← Nat.pow_succ, List.length_append, List.length_singleton]
  · rw [List.length_append, List.length_singleton, Nat.add_sub_cancel]; exact hp
theorem Found.few {v y : Nat} {T : List Nat} (h : Found v T y) (hy : 0 < y) : T.length < nd v := by
  have h1 := h.pos hy
  have h2 := (nd_is v).1
  exact (Nat.pow_lt_pow_iff_right (a := 10) (by omega)).1 (Nat.lt_of_le_of_lt h1 h2)
theorem Found.done {v : Nat} {T : List Nat} (h : Found v T 0) (hT : 0 < T.length) : T.reverse = dgs v := by
  obtain ⟨h1, h2, h3⟩ := h
  have h4 : v < 10 ^ T.length := by
    rcases Nat.div_eq_zero_iff.1 h2.symm with h5 | h5
    · have := Nat.pow_pos (n := T.length) (show 0 < 10 from by omega); omega
    · exact h5
  rw [h1, dgs, nd_eq hT h4 (h3.elim (fun h => by omega) .inr)]
theorem Found.none {v : Nat} {T : List Nat} (h : Found v T 0) (hT : T.length = 0) : dgs v = [48] := by
  have h2 := h.2.1
  rw [hT, Nat.pow_zero, Nat.div_one] at h2
  subst h2
  unfold dgs
  rw [nd_eq (k := 1) (by omega) (by omega) (.inl rfl)]
  rfl
end Go.Proofs.Ytnkmoeihlfdjbaa

/-! Contract: the reference's Print. -/
namespace Go.Proofs.Ytnkmoeihlfdjbaa
open Go.RowKit
set_option linter.unusedVariables false

/-- append of one number to a row that the call owns: what else is there stays. -/
theorem wpList_appk {P : Program} (w0 wr : World) {ops : Array Oper} {rest : List Oper} {o : Oper} {a : Act} {Q : Exit → Act → World → Prop} (hgd : o.guard = none) (s x : Operand) (t : TypeId)
    (ho : o.op = .call { callee := .builtin .append, args := #[s, x], argTypes := #[t, t] })
    (e : TypeId) (K : IntKind) (bytes : Nat) (hby : bytes ≤ 8) (ht : P.underlying t = some (.slice e)) (hinfo : (P.info? e).map (fun i => (i.zero, i.size, i.bytes)) = some (some (.int K 0), 1, bytes))
    (v : Value) (zs : List Nat) (hs : a.eval s = v) (hown : OwnV w0 wr e K v zs) (y : Int) (d : Nat) (hy : y = (d : Int))
    (hx : a.eval x = .slice (some ⟨wr.heap.size, 0, none⟩) 1 1) (hlen : zs.length ≤ 4398046511104)
    (h : ∀ v' w', OwnV w0 w' e K v' (zs ++ [d]) → wr.grownBy w' v.ownBlock → wpList P ops Q rest (a.put o.dst v') w') :
    wpList P ops Q (o :: rest) a (wr.alloc (.cells #[.int K y] e)) := by
  subst hy
  obtain ⟨i, hi, hz0, hz1, hz2⟩ := info_parts hinfo
  obtain ⟨h1, h2⟩ := hown
  have hb := h2.size
  refine wpList_append_own (P := P) _ hgd s x t ho w0.heap.size e i (.int K 0) 1 bytes ht hi hz0 hz1 hz2 rfl (by omega) v zs.length (vs K zs) hs (h1.alloc _) ⟨wr.heap.size, 0, none⟩ 1 1 [.int K (d : Int)] hx rfl ?_ ?_ (by unfold maxLen; omega)
    (Nat.le_trans (Nat.mul_le_mul_left _ hby) (by omega)) (by simp; omega) ?_
  · intro j u hu
    match j, hu with
    | 0, hu =>
      simp at hu
      subst hu
      simp [Addr.add]
  · intro u hu
    simp at hu
    subst hu
    rfl
  · intro v' w' o1 o2 _
    refine h v' w' ⟨?_, (h2.alloc hb _).grown o2 (by simp; omega) (fun k hk => (h1.lt k hk).1)⟩ (grown_trans (grown_below (ba wr _) _) o2)
    rw [vs_append, List.length_append]
    exact o1
/-- A row of another type stays. -/
theorem own_apart {b b' : Nat} {t t' : TypeId} {vq v : Value} {n n' : Nat} {ys ys' : List Value} {w w' : World} (h : w.ownsRow b t 1 vq n ys) (k : w.ownsRow b' t' 1 v n' ys') (ht : t ≠ t') (hg : w.grownBy w' v.ownBlock) : w'.ownsRow b t 1 vq n ys := by
  refine ⟨h.1, ?_⟩
  rcases h.2 with h1 | ⟨g, cap, cur, hv, hb, hh, rest⟩
  · exact .inl h1
  · refine .inr ⟨g, cap, cur, hv, hb, (hg.block g (Array.getElem?_eq_some_iff.1 hh).1 fun e => ?_).trans hh, rest⟩
    rcases k.2 with ⟨rfl, _⟩ | ⟨g', cap', cur', rfl, _, hh', _⟩
    · cases e
    · have e' : g = g' := by simpa [Value.ownBlock] using e
      subst e'
      rw [hh] at hh'
      injection hh' with hh'
      injection hh' with _ h3
      exact ht h3
/-- The string of the bytes of a row. -/
theorem run_bytes_row {w : World} {A : Option Addr} {c : Nat} {Z : List Nat} (h : Rd w .u8 A Z) (hZ : 0 < Z.length) (hl : ∀ c ∈ Z, c < 256) :
    (convert 115 9 (.slice A Z.length c)).run Try.prog w = .ok (.string (str Z)) w := by
  obtain ⟨ad, rfl, _, hc⟩ := h hZ
  have := run_convert_bytes_back (P := Try.prog) w 115 9 5 ad c (Z.map UInt8.ofNat) Try.underlying115 Try.underlying5 Try.underlying9 (fun j hj => by
    have hj' : j < Z.length := by simpa using hj
    have hlt := hl _ (List.getElem_mem hj')
    have e8 : (UInt8.ofNat Z[j]).toNat = Z[j] := by simp [Nat.mod_eq_of_lt hlt]
    rw [hc j hj', List.getElem_map, e8, nth_getElem hj'])
  rw [List.length_map] at this
  exact this
theorem OwnV.slice {w0 w : World} {t : TypeId} {K : IntKind} {v : Value} {zs : List Nat} (h : OwnV w0 w t K v zs) : ∃ A c, v = .slice A zs.length c ∧ Rd w K A zs := by
  obtain ⟨A, c, e, hg⟩ := h.form
  exact ⟨A, c, e, hg.rd⟩

/-- The outer loop: T is found, y is left, of n digits. -/
def PnRel (w : World) (v : Nat) (s3 s4 : Value) (wr : World) : Prop :=
  ∃ (T : List Nat) (y : Nat) (A : Option Addr) (n c : Nat), OwnV w wr 5 .u8 s3 T ∧ s4 = .slice A n c ∧ Dv wr A n c y ∧ n ≤ 1000000 ∧ Found v T y
theorem lenOf_own {w wr : World} {t : TypeId} {K : IntKind} {v : Value} {T : List Nat} (h : OwnV w wr t K v T) : lenOf v = T.length := by
  obtain ⟨A, c, rfl, _⟩ := h.form
  rfl
set_option maxRecDepth 100000 in
set_option maxHeartbeats 4000000 in
theorem rprint_v {A : Option Addr} {n c v : Nat} {w : World} (hx : Dv w A n c v) (hn : n ≤ 1000000) (hnd : nd v ≤ 1000000) :
    Calls Try.prog 77 #[.slice A n c] w (PrPost v w) := by
  have hsl : sl (cn 65536 v) = n := by rw [sl_canon _ _ (by omega), hx.2.1]
  have HSL := Lib.hid hsl
  have HN0 := Lib.hid hx.2.1
  clear hsl
  go_enter Try.func77, Try.ntmps77
  go_wp2_with fail
  refine (rtrim_calls A n c _ w hx.1 HN0.out hx.2.2.1 hx.2.2.2).mono ?_
  rintro e w' ⟨rfl, rfl⟩
  rw [HSL.out]
  have R0 : PnRel w v (.slice none 0 0) (.slice A n c) w := ⟨[], v, A, n, c, OwnV.nil _ _ _, rfl, hx, hn, Found.start v⟩
  have HR0 := Lib.hid R0
  clear R0 hx HSL HN0 hn
  go_wp2
  go_loopw [3, 4] (fun s3 s4 wr => Hid (PnRel w v s3 s4 wr)) (fun s3 _ _ => 1000001 - lenOf s3)
  case atStart => exact HR0
  case round =>
    clear HR0
    obtain ⟨T, y, A1, n1, c1, hT, rfl, hx, hn1, hF⟩ := hrel.out
    obtain ⟨A3, c3, rfl, hT3⟩ := hT.slice
    rcases Nat.eq_zero_or_pos y with rfl | hpos
    · obtain rfl : n1 = 0 := by rw [← hx.2.1, cn_zero]; rfl
      rcases Nat.eq_zero_or_pos T.length with hT0 | hTpos
      · have P : Hid (PrPost v w (.returned (.string { data := #[48] })) wr) := Lib.hid ⟨by rw [hF.none hT0]; rfl, hT.2⟩
        have t0 : ((T.length : Int) == 0) = true := by rw [hT0]; rfl
        clear hF hx hT hT3 hrel hT0
        go_wp2
        go_ret
        exact P.out
      · have t0 : ((T.length : Int) == 0) = false := by rw [beq_eq_false_iff_ne]; omega
        have hdg := hF.done hTpos
        have hlow : ∀ c ∈ T, c < 256 := fun c hc => (dig_dgs v).low c (by rw [← hdg]; simpa using hc)
        have hTl : T.length ≤ 1000000 := by rw [← List.length_reverse, hdg, dgs_length]; exact hnd
        have HDG := Lib.hid hdg
        have HLOW := Lib.hid hlow
        have HB := Lib.hid hT.2
        obtain ⟨w1, hw1⟩ : ∃ w1, w1 = wr := ⟨_, rfl⟩
        obtain ⟨m, hm⟩ : ∃ m, m = T.length := ⟨_, rfl⟩
        rw [← hw1] at hT3 HB ⊢
        rw [← hm] at t0 hTl hTpos ⊢
        have HM := Lib.hid hm
        clear hF hx hT hrel hw1 hdg hlow hm
        go_wp2
        go_loopw [9, 10] (fun ou i wx => ∃ k : Nat, k ≤ m ∧ i = .int .i64 ((k : Int) - 1) ∧ OwnV w1 wx 5 .u8 ou (T.drop k).reverse) (fun _ i _ => (intOf i + 1).toNat)
        case atStart => exact ⟨m, Nat.le_refl _, by go_num, by rw [List.drop_eq_nil_of_le (by have := HM.out; omega)]; exact OwnV.nil _ _ _⟩
        case round =>
          obtain ⟨k, hk, rfl, hO⟩ := hrel
          rcases Nat.eq_zero_or_pos k with rfl | hkpos
          · rw [List.drop_zero] at hO
            obtain ⟨Ao, co, rfl, hOr⟩ := hO.slice
            have kc := run_bytes_row (c := co) hOr (by rw [List.length_reverse]; have := HM.out; omega) (fun c hc => HLOW.out c (by simpa using hc))
            rw [HDG.out] at kc
            have P : Hid (PrPost v w (.returned (.string (str (dgs v)))) wr) := Lib.hid ⟨rfl, bup' HB.out hO.2⟩
            rw [HDG.out]
            clear hO hOr
            go_wp2
            go_ret
            exact P.out
          · obtain ⟨i, rfl⟩ : ∃ i, k = i + 1 := ⟨k - 1, by omega⟩
            rw [show (((i + 1 : Nat) : Int) - 1) = (i : Int) from by omega]
            have hiT : i < T.length := by have := HM.out; omega
            obtain ⟨ad, rfl, _, hcell⟩ := (hT3.below hO.2).at (k := i) hiT
            have hts := turn_step hiT
            have hlen : (T.drop (i + 1)).reverse.length ≤ 4398046511104 := by rw [List.length_reverse, List.length_drop]; have := HM.out; omega
            have HTS := Lib.hid hts
            clear hts hkpos hiT
            go_wp2_with (at_builtin; refine wpList_appk w1 wr rfl _ _ _ rfl 5 .u8 1 (by omega) Try.underlying115 info_u8 _ _ (by rfl) hO _ (nth T i) rfl (by rfl) hlen ?_)
            intro v2 w2 hO2 _
            rw [HTS.out] at hO2
            clear hO HTS hcell
            go_wp2
            go_roundw
            case rel => exact ⟨i, by omega, by go_num, hO2⟩
            case measure => simp [intOf]
    · have hn0 : 0 < n1 := by
        rcases Nat.eq_zero_or_pos n1 with rfl | h
        · have := hx.lt; simp at this; omega
        · exact h
      have hTl : T.length < 1000000 := Nat.lt_of_lt_of_le (hF.few hpos) hnd
      have HF := Lib.hid hF
      have HT := Lib.hid hT
      obtain ⟨D, hD⟩ : ∃ D, D = cn 65536 y := ⟨_, rfl⟩
      have hDl : D.length = n1 := by rw [hD]; exact hx.2.1
      have lD : Low 65536 D := by rw [hD]; exact cn_low _ _ (by omega)
      have hDe : ev 65536 D = y := by rw [hD]; exact ev_cn _ _ (by omega)
      have hr : Rd wr .i64 A1 D := by rw [hD]; exact hx.1
      have HDL := Lib.hid hDl
      have HDE := Lib.hid hDe
      have hm1 : ((n1 : Int) == 0) = false := by rw [beq_eq_false_iff_ne]; omega
      obtain ⟨w1, hw1⟩ : ∃ w1, w1 = wr := ⟨_, rfl⟩
      rw [← hw1] at hr HT ⊢
      clear hD hDl hDe hx hF hrel hw1 hT
      go_wp2
      go_loopw [5, 6, 7] (fun q rst i wx => ∃ (k r : Nat) (Q : List Nat), k ≤ n1 ∧ i = .int .i64 ((k : Int) - 1) ∧ rst = .int .i64 r ∧ Hid (Tenth D Q k r) ∧ OwnV w1 wx 3 .i64 q Q) (fun _ _ i _ => (intOf i + 1).toNat)
      case atStart => exact ⟨n1, 0, [], Nat.le_refl _, by go_num, rfl, Lib.hid (by rw [← HDL.out]; exact Tenth.start D), OwnV.nil _ _ _⟩
      case round =>
        obtain ⟨k, r, Q, hk, rfl, rfl, hQ, hq⟩ := hrel
        rcases Nat.eq_zero_or_pos k with rfl | hkpos
        · obtain ⟨e1, e2, e3⟩ := hQ.out.stop
          have hr10 := hQ.out.rest
          rw [HDL.out] at e3
          rw [HDE.out] at e1 e2
          obtain ⟨Aq, cq, rfl, hqr⟩ := hq.slice
          have lQ := hQ.out.2.1
          have hT1 := HT.out.below hq.2
          have HF2 : Hid (Found v (T ++ [48 + r]) (y / 10)) := Lib.hid (by rw [e2]; exact HF.out.step hpos)
          have E1 := Lib.hid e1
          have E3 := Lib.hid e3
          rw [e3]
          have hTll : T.length ≤ 4398046511104 := by omega
          have hHQ := Lib.hid hq
          clear e1 e2 e3 hQ hqr HF HT hr lD HDL HDE hq
          go_wp2_with (at_builtin; refine wpList_appk w wr rfl _ _ _ rfl 5 .u8 1 (by omega) Try.underlying115 info_u8 _ T (by rfl) hT1 _ (48 + r) (by omega) (by rfl) hTll ?_)
          intro v3 w3 hT3' hgr
          have hq3 := own_rd (own_apart hHQ.out.1 hT1.1 (by decide) hgr)
          have HT3 := Lib.hid hT3'
          clear hHQ hT1 hgr hT3' hr10 hTll
          go_wp2
          go_loopw [4, 8] (fun xs i wz => ∃ k : Nat, k ≤ n1 ∧ i = .int .i64 ((k : Int) - 1) ∧ OwnV w3 wz 3 .i64 xs (Q.drop k).reverse) (fun _ i _ => (intOf i + 1).toNat)
          case atStart => exact ⟨n1, Nat.le_refl _, by go_num, by rw [List.drop_eq_nil_of_le (by have := E3.out; omega)]; exact OwnV.nil _ _ _⟩
          case round =>
            obtain ⟨k, hk, rfl, hX⟩ := hrel
            rcases Nat.eq_zero_or_pos k with rfl | hkpos
            · rw [List.drop_zero] at hX
              have hT4 := Lib.hid (HT3.out.below hX.2)
              go_wp2_with fail
              refine (rtrim_end hX lQ.turned E1.out).mono ?_
              rintro e w' ⟨hdg, rfl⟩
              obtain ⟨A5, n5, c5, rfl, q5, k5, B5⟩ := hdg.dv (k := n1) (by rw [← E1.out]; have := ev_lt lQ.turned; rwa [List.length_reverse, E3.out] at this)
              have hlv : lenOf v3 = T.length + 1 := by rw [lenOf_own HT3.out]; simp
              have HLV := Lib.hid hlv
              have S : Hid (PnRel w v v3 (.slice A5 n5 c5) wr) := Lib.hid ⟨_, _, A5, n5, c5, hT4.out, rfl, q5, by omega, HF2.out⟩
              clear hX hT4 q5 B5 hlv hq3 HT3 E1 E3 lQ
              go_wp2
              go_roundw
              case rel => exact S
              case measure =>
                show 1000001 - lenOf v3 < 1000001 - T.length
                rw [HLV.out]; omega
            · obtain ⟨i, rfl⟩ : ∃ i, k = i + 1 := ⟨k - 1, by omega⟩
              rw [show (((i + 1 : Nat) : Int) - 1) = (i : Int) from by omega]
              have hiQ : i < Q.length := by have := E3.out; omega
              obtain ⟨ad, rfl, _, hcell⟩ := (hq3.below hX.2).at (k := i) hiQ
              have hts := turn_step hiQ
              have hlen : (Q.drop (i + 1)).reverse.length ≤ 4398046511104 := by rw [List.length_reverse, List.length_drop]; have := E3.out; omega
              have HTS := Lib.hid hts
              clear hts hkpos hiQ
              go_wp2_with (at_builtin; refine wpList_app1 w3 wr rfl _ _ _ rfl 3 .i64 Try.underlying28 info_i64 _ _ (by rfl) hX _ (nth Q i) rfl (by rfl) hlen ?_)
              intro v2 w2 hX2
              rw [HTS.out] at hX2
              clear hX HTS hcell
              go_wp2
              go_roundw
              case rel => exact ⟨i, by omega, by go_num, hX2⟩
              case measure => simp [intOf]
        · obtain ⟨i, rfl⟩ : ∃ i, k = i + 1 := ⟨k - 1, by omega⟩
          rw [show (((i + 1 : Nat) : Int) - 1) = (i : Int) from by omega]
          obtain ⟨ad, rfl, _, hcell⟩ := (hr.below hq.2).at (k := i) (by have := HDL.out; omega)
          have hd := lD.any (by omega) i
          have hr10 := hQ.out.rest
          have hst := Tenth.step lD hQ.out
          have hQl : Q.length ≤ 4398046511104 := by have := hQ.out.1; have := HDL.out; omega
          have HST := Lib.hid hst
          generalize nth D i = d at *
          clear hst hkpos
          go_wp2_with (at_builtin; refine wpList_app1 w1 wr rfl _ _ _ rfl 3 .i64 Try.underlying28 info_i64 _ Q (by rfl) hq _ ((r * 65536 + d) / 10) (by omega) (by rfl) hQl ?_)
          intro v2 w2 hq2
          clear hq hcell hQ
          go_wp2
          go_roundw
          case rel => exact ⟨i, (r * 65536 + d) % 10, _, by omega, by go_num, by go_num, HST, hq2⟩
          case measure => simp [intOf]
end Go.Proofs.Ytnkmoeihlfdjbaa
