/-
  The walk of MulProducts.
-/
import Derived.Test.YthpohkklggabpaaProd1
import Derived.Test.YthpohkklggabpaaMOwn
namespace Go.Proofs.Ythpohkklggabpaa
open Go.RowKit
set_option linter.unusedVariables false

theorem info_ints : (Try.prog.info? 25).map (fun i => (i.zero, i.size, i.bytes)) = some (some (.slice none 0 0), 1, 24) := by kernel_rfl
/-- In the loop of MulProducts: i slices are read. -/
def MpRel (w : World) (R : List Ent) (i : Nat) (v u : Value) (wr : World) : Prop :=
  ∃ D : List Ent, Hid (D.length = i) ∧ (∀ r, r ∈ D → DOk wr r) ∧ Hid (prodV D = prodV (R.take i)) ∧ Hid (wtV D ≤ 4 * wtV (R.take i)) ∧ Hid (wtV (R.take i) ≤ 5 * i) ∧ Hid (∀ r, r ∈ D → r.n ≤ 20) ∧
    OwnE w.heap.size wr 25 v D ∧ OwnE w.heap.size wr 23 u (R.reverse.take i) ∧ Below w.heap.size w wr
theorem rev_take {R : List Ent} {i : Nat} (hi : i < R.length) : R.reverse.take (i + 1) = R.reverse.take i ++ [R[R.length - 1 - i]] := by
  rw [List.take_succ_eq_append_getElem (by simpa using hi), List.getElem_reverse]
theorem prod_take_lt {w : World} {R : List Ent} (h : ∀ r, r ∈ R → Nv w r.A r.n r.c r.v) : prodV R ≤ 18446744073709551616 ^ wtV R := by
  induction R with
  | nil => simp [prodV, wtV]
  | cons r R ih =>
    simp only [prodV, wtV, Nat.pow_add]
    exact Nat.mul_le_mul (Nat.le_of_lt (h r List.mem_cons_self).lt) (ih fun x hx => h x (List.mem_cons_of_mem _ hx))
theorem wt_take_le {R : List Ent} (i : Nat) : wtV (R.take i) ≤ wtV R := by
  induction R generalizing i with
  | nil => simp [wtV]
  | cons r R ih =>
    cases i with
    | zero => simp [wtV]
    | succ i => simp only [List.take_succ_cons, wtV]; have := ih i; omega

set_option maxHeartbeats 2000000 in
theorem mprods_few (A : Option Addr) (n c : Nat) (R : List Ent) (w : World) (h : LRow w A R) (hn : R.length = n) (ho : ∀ r, r ∈ R → Nv w r.A r.n r.c r.v) (h8 : (n : Int) ≤ 8) :
    Calls Try.prog 6 #[.slice A n c] w (TruePost w) := by
  have HN := Lib.hid hn
  have HO := Lib.hid ho
  clear hn ho
  go_enter Try.func6, Try.ntmps6
  go_wp2_with fail
  refine (mawake_calls _).mono ?_
  rintro e w1 ⟨rfl, B1⟩
  go_wp2
  go_loopw [3, 4, 5] (fun v u i wr => ∃ k : Nat, k ≤ n ∧ i = .int .i64 k ∧ MpRel w R k v u wr) (fun _ _ i _ => n - (intOf i).toNat)
  case atStart => exact ⟨0, by omega, rfl, [], rfl, fun r hr => (by cases hr), by show _ = _; simp, by show _ ≤ _; simp [wtV], by show _ ≤ _; simp [wtV], fun r hr => (by cases hr), World.ownsRow_nil _ _ _ _, by rw [List.take_zero]; exact World.ownsRow_nil _ _ _ _, B1⟩
  case round =>
    obtain ⟨k, hk, rfl, D, dl, dok, dp, dw, rw5, dn, od, ot, hb⟩ := hrel
    by_cases hlt : k < n
    · have hkR : k < R.length := by have := HN.out; omega
      have hkR2 : R.length - 1 - k < R.length := by omega
      obtain ⟨q, hq⟩ : ∃ q : Nat, (n : Int) - 1 - (k : Int) = (q : Int) := ⟨n - 1 - k, by omega⟩
      have hqn : q = R.length - 1 - k := by have := HN.out; omega
      obtain ⟨ad0, e0, hA0, -⟩ := h (by omega)
      obtain ⟨ad, rfl, hab, hcell⟩ := (h.below hb) (by omega)
      have hA : ad.block < w.heap.size := by
        obtain rfl := Option.some.inj e0
        exact hA0
      clear e0 hA0
      have c1 : wr.cell? (ad.add k) = some (.slice R[k].A R[k].n R[k].c) := hcell k hkR
      have c2 : wr.cell? (ad.add q) = some (.slice R[R.length - 1 - k].A R[R.length - 1 - k].n R[R.length - 1 - k].c) := by rw [hqn]; exact hcell _ hkR2
      have o1 := (HO.out _ (List.getElem_mem hkR)).below hb
      have et : R.take (k + 1) = R.take k ++ [R[k]] := List.take_succ_eq_append_getElem hkR
      have er := rev_take hkR
      generalize R[k] = r1 at *
      generalize R[R.length - 1 - k] = r2 at *
      have ET := Lib.hid et
      have ER := Lib.hid er
      have hqn2 : q < n := by omega
      have hqn3 : (q : Int) < (n : Int) := by omega
      clear hcell et er hqn
      have C2 : Hid (∀ wx, Below w.heap.size w wx → wx.cell? (ad.add q) = some (.slice r2.A r2.n r2.c)) := fun wx hwx => by
        have e1 : wr.cell? (ad.add q) = w.cell? (ad.add q) := hb.cell (by rw [add_block]; exact hA)
        rw [hwx.cell (by rw [add_block]; exact hA), ← e1, c2]
      by_cases h5 : (r1.n : Int) ≤ 5
      · obtain ⟨xs, x1, x2, x3, x4, x5, x6⟩ := o1
        have X2 := Lib.hid x2
        have X6 := Lib.hid x6
        have hlt4 : r1.v < 65536 ^ (4 * r1.n) := by
          rw [← x6, ← pow_word, ← x2]
          exact ev_lt x5
        have HL4 := Lib.hid hlt4
        have DL := dl
        have hDk : D.length ≤ 1048576 := by have := dl.out; omega
        have hTk : (R.reverse.take k).length ≤ 1048576 := by simp; omega
        have hwr := hb.size
        clear x2 x6 hlt4 c2
        go_wp2_with fail
        refine (from_calls r1.A r1.n r1.c xs _ x1 X2.out (by omega) x5).mono ?_
        rintro e w2 hdg
        rw [X6.out] at hdg
        obtain ⟨dd, rfl, dv, dk, dlen, db⟩ := DOk.of_post hdg
        have DV := Lib.hid dv
        have DLEN := Lib.hid dlen
        have od2 := od.below db
        have ot2 := ot.below db
        have hb2 := hb.trans (db.mono hwr)
        have hs2 := db.size
        clear hdg dv dlen od ot
        go_wp2_with (at_builtin; refine wpList_app_ent w2 rfl (.tmp 27) (.tmp 33) _ rfl 25 Try.underlying39 info_ints w.heap.size _ D dd (by rfl) od2 (by rfl) (by rfl) hDk (by omega) ?_)
        intro v3 w3 od3 gu3
        have ot3 := ot2.gup gu3 (by decide)
        have hb3 := hb2.trans gu3.1
        have c3 := C2.out w3 hb3
        have hs3 := gu3.1.size
        go_wp2_with (at_builtin; refine wpList_app_ent w3 rfl (.tmp 35) (.tmp 44) _ rfl 23 Try.underlying38 info_nat' w.heap.size _ (R.reverse.take k) r2 (by rfl) ot3 (by rfl) (by rfl) hTk (by omega) ?_)
        intro v4 w4 ot4 gu4
        have od4 := od3.gup gu4 (by decide)
        have J : Hid (MpRel w R (k + 1) v3 v4 w4) := by
          have dd4 : dd.n ≤ 4 * r1.n := by rw [DLEN.out]; exact cn_len_of_lt _ _ _ (by omega) HL4.out
          refine ⟨D ++ [dd], by show _ = _; simp [dl.out], fun r hr => ?_, ?_, ?_, ?_, fun r hr => ?_, od4, by rw [ER.out]; exact ot4, hb3.trans gu4.1⟩
          · rcases List.mem_append.1 hr with hr | hr
            · exact (((dok r hr).below db).gup gu3 (by decide)).gup gu4 (by decide)
            · simp only [List.mem_singleton] at hr
              subst hr
              exact (dk.gup gu3 (by decide)).gup gu4 (by decide)
          · show _ = _
            rw [ET.out, prodV_snoc, prodV_snoc, dp.out, DV.out]
          · show _ ≤ _
            rw [ET.out, wtV_snoc, wtV_snoc]
            have := dw.out
            omega
          · show _ ≤ _
            rw [ET.out, wtV_snoc]
            have := rw5.out
            omega
          · rcases List.mem_append.1 hr with hr | hr
            · exact dn.out r hr
            · simp only [List.mem_singleton] at hr
              subst hr
              omega
        clear od3 od4 ot4 gu3 gu4 ot3 ot2 od2 c3
        go_wp2
        go_roundw
        case rel => exact ⟨k + 1, by omega, by go_num, J.out⟩
        case measure => simp [intOf]; omega
      · go_wp2
        go_ret
        exact ⟨rfl, hb⟩
    · obtain rfl : k = n := by omega
      have e1 : R.take k = R := List.take_of_length_le (by have := HN.out; omega)
      have e2 : R.reverse.take k = R.reverse := List.take_of_length_le (by simp; have := HN.out; omega)
      rw [e1] at dp dw rw5
      rw [e2] at ot
      obtain ⟨Ad, cd, rfl, ld⟩ := od.row
      obtain ⟨At, ct, rfl, lt⟩ := ot.row
      have hw40 : wtV R ≤ 40 := by have := rw5.out; omega
      have hD160 : wtV D ≤ 160 := by have := dw.out; omega
      have hperm : prodV R.reverse = prodV R := prodV_perm (List.reverse_perm R)
      have hperm2 : wtV R.reverse = wtV R := wtV_perm (List.reverse_perm R)
      have HP := Lib.hid hperm
      have HP2 := Lib.hid hperm2
      have DL := dl
      have RL : Hid (R.reverse.length = k) := by show _ = _; simp [HN.out]
      have eo : ∀ wx, Below w.heap.size w wx → EntsOk wx.heap.size wx R := fun wx hwx r hr => ent_old (A := r.A) (n := r.n) (c := r.c) (v := r.v) ((HO.out r hr).below hwx)
      have EO := Lib.hid eo
      have hlt2 : prodV R < 18446744073709551616 ^ 41 := by
        have q1 := prod_take_lt HO.out
        have q2 := pow_big hw40
        have q3 : (18446744073709551616 : Nat) ^ 40 < 18446744073709551616 ^ 41 := Nat.pow_lt_pow_right (by omega) (by omega)
        exact Nat.lt_of_le_of_lt (Nat.le_trans q1 q2) q3
      have HLT := Lib.hid hlt2
      clear e1 e2 hperm hperm2 eo hlt2 od ot hlt
      rw [DL.out, RL.out]
      go_wp2_with fail
      refine (product_calls (N := 40) (h.below hb) HN.out (EO.out _ hb) (by omega) hw40 (by omega)).mono ?_
      rintro e w2 hq
      obtain ⟨A2, n2, c2, rfl, p2, k2, b2⟩ := hq.cv HLT.out
      have hb2 := hb.trans (b2.mono hb.size)
      have ld2 := ld.below b2
      have lt2 := lt.below b2
      have dok2 : ∀ r, r ∈ D → DOk w2 r := fun r hr => (dok r hr).below b2
      have DOK := Lib.hid dok2
      clear hq ld lt dok dok2
      go_wp2_with fail
      refine (rproduct_v ld2 DL.out DOK.out (by omega) (fun i hi => by have := wt_take_le (R := D) i; omega) (fun r hr => by have := dn.out r hr; omega)).mono ?_
      rintro e w3 ⟨A3, n3, c3, rfl, p3, k3, b3⟩
      have hb3 := hb2.trans (b3.mono hb2.size)
      have p2' := p2.below b3
      have lt3 := lt2.below b3
      clear ld2 lt2 p2
      go_wp2_with fail
      refine (is_v p2' p3 (by omega) dp.out).mono ?_
      rintro e w4 ⟨rfl, b4⟩
      have hb4 := hb3.trans (b4.mono hb3.size)
      have p4 := p2'.below b4
      have lt4 := lt3.below b4
      clear p2' p3 lt3
      go_wp2_with fail
      refine (product_calls (N := 40) lt4 RL.out ((EO.out _ hb4).perm (List.reverse_perm R)) (by omega) (by rw [HP2.out]; exact hw40) (by omega)).mono ?_
      rintro e w5 hq
      rw [HP.out] at hq
      obtain ⟨A5, n5, c5, rfl, p5, k5, b5⟩ := hq.cv HLT.out
      have hb5 := hb4.trans (b5.mono hb4.size)
      have p6 := p4.below b5
      clear hq p4 lt4
      go_wp2_with fail
      refine (same_v p6 p5 rfl).mono ?_
      rintro e w6 ⟨rfl, b6⟩
      have hb6 := hb5.trans (b6.mono hb5.size)
      go_wp2
      go_ret
      exact ⟨rfl, hb6⟩
theorem mprods_calls (A : Option Addr) (n c : Nat) (R : List Ent) (w : World) (h : LRow w A R) (hn : R.length = n) (ho : ∀ r, r ∈ R → Nv w r.A r.n r.c r.v) :
    Calls Try.prog 6 #[.slice A n c] w (TruePost w) := by
  by_cases h8 : (n : Int) ≤ 8
  · exact mprods_few A n c R w h hn ho h8
  · have hW := Below.refl w.heap.size w
    clear hn ho h
    go_enter Try.func6, Try.ntmps6
    go_wp2_with fail
    refine (mawake_calls _).mono ?_
    rintro e w1 ⟨rfl, B1⟩
    replace hW := hW.trans (B1.mono hW.size)
    go_wp2_with fail
    refine (mawake_calls _).mono ?_
    rintro e w2 ⟨rfl, B2⟩
    replace hW := hW.trans (B2.mono hW.size)
    go_wp2
    go_ret
    exact ⟨rfl, hW⟩
end Go.Proofs.Ythpohkklggabpaa
