/-
  IterC RegJ
-/
import Derived.Test.YtddbhhedjipjkaaGreatDoorPr20
import Derived.Test.YtddbhhedjipjkaaGreatDoorPr19
import Derived.Test.YtddbhhedjipjkaaGreatDoorPr14
import Derived.OrdersIn
import Derived.TacticsIn
import Derived.RangeFuncCalls

section
namespace Go.Proofs.YtddbhhedjipjkaaGreatDoor
open Go.RowKit Go.Shelf
set_option linter.unusedVariables false
set_option linter.unusedSimpArgs false
attribute [local go_sem] Oper.semAt_some
def zargs (R : List Zr) (x : Nat) : Array Value := #[Value.int .i64 (x : Int), Value.agg #[.bool (R.getD x nzr).s, .slice (R.getD x nzr).A (R.getD x nzr).n (R.getD x nzr).c]]
def fromEndZ (n k : Nat) : Nat := n - 1 - k
set_option maxRecDepth 100000 in
set_option maxHeartbeats 2000000 in
theorem backz1_in (F : Fence) (n : Nat) (h7 : F.fn 80) (hro : F.round = none) (hn : 1 ≤ n) (l Bs n₀ : Nat) (A : Option Addr) (c : Nat) (R : List Zr) (hlen : R.length ≤ 9223372036854775807)
    (hA : ∀ ad, A = some ad → 0 < R.length → ad.block < n₀) (J Jx : List Nat → World → Prop)
    (hY : ∀ pre x W, J pre W → pre.length < R.length → YieldAt F (n - 1) Tryz.prog l (zargs R x) W fun e W' =>
      (e = .returned (.bool true) ∧ J (pre ++ [x]) W' ∧ KeepB n₀ Bs W W') ∨ (e = .returned (.bool false) ∧ Jx (pre ++ [x]) W'))
    (W : World) (hBs : W.cell? ⟨Bs, 0, none⟩ = some (.slice A R.length c)) (hc : RL W A R.length c R) (h0 : J [] W) :
    CallsIn F n Tryz.prog 80 #[.func (.yield l) #[] #[], .pointer (some ⟨Bs, 0, none⟩)] W fun e W' => (∃ v, e = .returned v) ∧
      ((∃ ys, ys = upto (fromEndZ R.length) R.length ∧ J ys W') ∨ (∃ pre, (∃ k, k ≤ R.length ∧ pre = upto (fromEndZ R.length) k) ∧ Jx pre W')) := by
  obtain ⟨m, hm⟩ : ∃ m, R.length = m := ⟨_, rfl⟩
  have hwr : IntKind.i64.wrap ((m : Int) - 1) = (m : Int) - 1 := by rw [IntKind.wrap_i64]; omega
  refine callsIn_of_wp Tryz.func80 rfl h7 ?_ hro
  simp only [Tryz.ntmps80, List.size_toArray, List.length_cons, List.length_nil, Nat.reduceAdd, Nat.reduceSub, Array.replicate_succ, Array.replicate_zero, List.push_toArray, List.append_toArray, List.nil_append, List.cons_append]
  rw [hm] at hBs
  gi_wp2
  gi_loopw [3] (fun i wr => ∃ k : Nat, k ≤ m ∧ i = .int .i64 ((k : Int) - 1) ∧ J (upto (fromEndZ R.length) (m - k)) wr ∧ KeepB n₀ Bs W wr)
    (fun i _ => (intOf i + 1).toNat)
  case atStart => exact ⟨m, Nat.le_refl _, rfl, by rw [Nat.sub_self]; exact h0, Below.refl _ _, rfl⟩
  case round =>
    obtain ⟨k, hk, rfl, hJs, hnx⟩ := hrel
    have hBr : wr.cell? ⟨Bs, 0, none⟩ = some (.slice A m c) := (World.cell?_of_block hnx.2).trans hBs
    rcases k with _ | k
    · gi_wp2
      go_end0
      exact ⟨⟨_, rfl⟩, .inl ⟨_, rfl, by have h9 := hJs; rw [hm] at h9 ⊢; exact h9⟩⟩
    · rw [show ((k + 1 : Nat) : Int) - 1 = (k : Int) by omega]
      obtain ⟨ad, rfl, hb0, hcs⟩ := hc.at' (by omega)
      obtain ⟨c1, c2⟩ := hcs k (by omega)
      have hblk := hA ad rfl (by omega)
      have hcx := (hnx.1.cell (p := ad.add (k * 2)) (by rw [add_block]; exact hblk)).trans c1
      have hcy := (hnx.1.cell (p := ⟨(ad.add (k * 2)).block, (ad.add (k * 2)).off + 1, none⟩) (by show (ad.add (k * 2)).block < _; rw [add_block]; exact hblk)).trans c2
      have hfe : fromEndZ R.length (m - (k + 1)) = k := by unfold fromEndZ; rw [hm]; omega
      obtain ⟨fn, tmps, assign, body, hy, hR⟩ := hY _ k wr hJs (by rw [upto_length]; omega)
      unfold zargs at hy
      obtain ⟨z, hz⟩ : ∃ z, R.getD k nzr = z := ⟨_, rfl⟩
      rw [hz] at hcx hcy hy
      have u1 : (0 : Int) ≤ (k : Int) := by omega
      have u2 : (k : Int) < (m : Int) := by omega
      rw [hm] at hc
      clear hcs c1 c2 hblk hz hc
      gi_wp2
      refine hR.mono ?_
      rintro e W3 (⟨rfl, hJ3, hk3⟩ | ⟨rfl, hJx3⟩)
      · gi_wp2
        go_roundw
        case rel => exact ⟨k, by omega, by simp, by rw [show m - k = (m - (k + 1)) + 1 by omega, upto_succ, hfe]; exact hJ3, keepB_t hnx hk3⟩
        case measure => simp [intOf]
      · gi_wp2
        refine bodyPost_ret (results_none rfl _ _ _) rfl ?_
        exact ⟨⟨_, rfl⟩, .inr ⟨_, ⟨m - (k + 1) + 1, by omega, by rw [upto_succ, hfe]⟩, hJx3⟩⟩
theorem backz_in (A : Option Addr) (len cap : Nat) (w : World) :
    Calls Tryz.prog 56 #[.slice A len cap] w fun e w' => e = .returned (.func (.func 80) #[] #[.pointer (some ⟨w.heap.size, 0, none⟩)]) ∧ w' = w.alloc (.cells #[.slice A len cap] 23) := by
  go_enter Tryz.func56, Tryz.ntmps56
  go_wp2_with fail
  go_ret
  exact ⟨rfl, rfl⟩
theorem backz_stops (F : Fence) (n : Nat) (h7 : F.fn 80) (hro : F.round = none) (hn : 1 ≤ n) (Bs n₀ : Nat) (A : Option Addr) (c : Nat) (R : List Zr) (hlen : R.length ≤ 9223372036854775807) (hA : ∀ ad, A = some ad → 0 < R.length → ad.block < n₀) (w : World) (hBs : Bs < w.heap.size) (hn₀ : n₀ ≤ w.heap.size)
    (hc : w.cell? ⟨Bs, 0, none⟩ = some (.slice A R.length c)) (hI : RL w A R.length c R) :
    SeqStopsK F n Tryz.prog 80 #[.pointer (some ⟨Bs, 0, none⟩)] (fun x : Nat => zargs R x) (KeepB n₀ Bs) (fun ys => ys = upto (fromEndZ R.length) R.length)
      (fun pre => ∃ k, k ≤ R.length ∧ pre = upto (fromEndZ R.length) k) R.length w := fun l J Jx W hW _ _ hY h0 =>
  backz1_in F n h7 hro hn l Bs n₀ A c R hlen hA J Jx hY W ((hW.cell (p := ⟨Bs, 0, none⟩) hBs).trans hc) (hI.below hW) h0
end Go.Proofs.YtddbhhedjipjkaaGreatDoor
end

section
namespace Go.Proofs.YtddbhhedjipjkaaGreatDoor
open Go.RowKit
set_option linter.unusedVariables false
set_option linter.unusedSimpArgs false
def noDefer (ops : Array Oper) : Bool := ops.toList.all fun o => match o.op with | .defer _ => false | _ => true
theorem noDefer_at {ops : Array Oper} (h : noDefer ops = true) {i : Nat} {o : Oper} (ho : ops[i]? = some o) : ∀ c, o.op ≠ .defer c := fun c e => by
  unfold noDefer at h
  rw [List.all_eq_true] at h
  have hm : o ∈ ops.toList := by
    obtain ⟨hi, rfl⟩ := Array.getElem?_eq_some_iff.1 ho
    simp
  have := h o hm
  rw [e] at this
  cases this
theorem rowsIn_wide9 {n : Nat} {P : Program} {row : String} {args : Array Value} {w : World} {R : Value → World → Prop} (h : Rows P row args w R) : RowsIn Fence.wide n P row args w R := fun c cs _ =>
  let ⟨v, w', r, s⟩ := h c cs; ⟨v, w', r, stepsIn_wide.2 s⟩
theorem oper_in {l n : Nat} {P : Program} {o : Oper} {a : Act} {w : World} {K Q} (hd : ∀ c, o.op ≠ .defer c) (h : o.wp P a w K Q) : o.wpIn (Fence.wide.inRound l) n P a w K Q := by
  unfold Oper.wp at h
  unfold Oper.wpIn
  refine ⟨fun _ _ => trivial, ?_⟩
  rw [Oper.semAt_eq _ _ _ hd]
  generalize (execOp a.eval o).run P w = r at h
  cases r with
  | ok x w' =>
    cases x with
    | value v => exact h
    | skip => exact h
    | defer d => exact h
    | enter f args => exact ⟨fun e => (nomatch e), CallsIn.inRound l (callsIn_wide.2 h)⟩
    | row row args => exact ⟨fun e => (nomatch e), rowsIn_wide9 h⟩
    | _ => exact h.elim
  | halt x w' =>
    cases x with
    | panic v => exact h
    | _ => exact h.elim
section
variable {P : Program} {ops : Array Oper} {Q : Exit → Act → World → Prop}
theorem wpAnyIn_inv {l n : Nat} (J : Array Bool → Act → World → Prop)
    (hstep : ∀ listed a w, listed.size = ops.size → Down ops listed → J listed a w → ∀ i, i ∈ Region.ready .any ops listed → wpOpIn (Fence.wide.inRound l) n P ops Q i (J (listed.setIfInBounds i true)) a w)
    (hend : ∀ listed a w, listed.size = ops.size → Down ops listed → J listed a w → Region.ready .any ops listed = [] → Q .normal a w) :
    ∀ (fuel : Nat) (listed : Array Bool) (a : Act) (w : World), openOf listed ≤ fuel → listed.size = ops.size → Down ops listed → J listed a w → wpAnyIn (Fence.wide.inRound l) n P .any ops Q fuel listed a w := by
  intro fuel
  induction fuel with
  | zero =>
    intro listed a w h0 hs hd hj
    have hr : Region.ready .any ops listed = [] := ready_nil (by omega)
    exact ⟨hr, hend listed a w hs hd hj hr⟩
  | succ fuel ih =>
    intro listed a w h0 hs hd hj
    refine ⟨hend listed a w hs hd hj, fun i hi => ?_⟩
    refine wpOpIn_mono (fun a' w' h' => ih _ a' w' ?_ (by simpa using hs) (hd.step hi) h') (hstep listed a w hs hd hj i hi)
    have := openOf_set (mem_preds hi).1
    omega
def EndG (B : Act → Prop) (w0 : World) (Z : TypeId → Obj) (Fs : List FVal) (w : World) : List Nat → Nat → List Oper → Act → Prop
  | _, _, [], a => B a
  | acc, i, o :: os, a =>
    match isAlloc o with
    | some T => ∀ g : Nat, w0.heap.size ≤ g → g < w.heap.size → w.heap[g]? = some (Z T) → Apart g acc → EndG B w0 Z Fs w (g :: acc) (i + 1) os (a.put o.dst (.pointer (some ⟨g, 0, none⟩)))
    | none => ∀ v, nthF Fs i v w → EndG B w0 Z Fs w acc (i + 1) os (a.put o.dst v)
theorem endG_use {B : Act → Prop} {w0 w : World} {Z : TypeId → Obj} {Fs : List FVal} {x : Nat → Value} : ∀ {os : List Oper} {i : Nat} {acc : List Nat} {a : Act},
    EndG B w0 Z Fs w acc i os a → (∀ k o, os[k]? = some o → ops[i + k]? = some o) →
    (∀ k, i ≤ k → k < i + os.length → FOf w0 Z ops Fs k (x k) w) →
    (∀ j k, i ≤ k → k < j → j < i + os.length → ((ops[j]?).bind isAlloc).isSome = true → ((ops[k]?).bind isAlloc).isSome = true → x j ≠ x k) →
    (∀ u, u ∈ acc → ∀ k, i ≤ k → k < i + os.length → ((ops[k]?).bind isAlloc).isSome = true → x k ≠ .pointer (some ⟨u, 0, none⟩)) →
    B (fillA ops x i os a)
  | [], i, acc, a, h, _, _, _, _ => h
  | o :: os, i, acc, a, h, ho, hf, hp, hu => by
    have hoi : ops[i]? = some o := by simpa using ho 0 o (by simp)
    have hF := hf i (Nat.le_refl _) (by simp)
    have ho' : ∀ k p, os[k]? = some p → ops[i + 1 + k]? = some p := fun k p hk => by
      have := ho (k + 1) p (by simpa using hk)
      rwa [show i + 1 + k = i + (k + 1) by omega]
    have hf' : ∀ k, i + 1 ≤ k → k < i + 1 + os.length → FOf w0 Z ops Fs k (x k) w := fun k h1 h2 => hf k (by omega) (by simp; omega)
    have hp' : ∀ j k, i + 1 ≤ k → k < j → j < i + 1 + os.length → ((ops[j]?).bind isAlloc).isSome = true → ((ops[k]?).bind isAlloc).isSome = true → x j ≠ x k := fun j k h1 h2 h3 => hp j k (by omega) h2 (by simp; omega)
    unfold FOf at hF
    rw [hoi, Option.bind_some] at hF
    unfold EndG at h
    unfold fillA
    cases ha : isAlloc o with
    | none =>
      rw [ha] at h hF
      exact endG_use (h (x i) hF) ho' hf' hp' (fun u hu' k h1 h2 => hu u hu' k (by omega) (by simp; omega))
    | some T =>
      rw [ha] at h hF
      obtain ⟨g, e1, e2, e3, e4⟩ := hF
      have hai : ((ops[i]?).bind isAlloc).isSome = true := by rw [hoi, Option.bind_some, ha]; rfl
      have hap : ∀ l : List Nat, (∀ u, u ∈ l → u ∈ acc) → Apart g l := fun l => by
        induction l with
        | nil => intro _; trivial
        | cons u l ih =>
          intro hl
          refine ⟨fun e => ?_, ih (fun v hv => hl v (List.mem_cons_of_mem _ hv))⟩
          exact hu u (hl u (List.mem_cons_self ..)) i (Nat.le_refl _) (by simp) hai (by rw [e1, e])
      have := h g e2 e3 e4 (hap acc (fun u hu => hu))
      rw [← e1] at this
      refine endG_use this ho' hf' hp' (fun u hu' k h1 h2 hk => ?_)
      rcases List.mem_cons.1 hu' with rfl | hu'
      · rw [← e1]
        exact hp k i (Nat.le_refl _) (by omega) (by simp; omega) hk hai
      · exact hu u hu' k (by omega) (by simp; omega) hk
theorem wpIn_region_two {l n id : Nat} {a0 : Act} {w0 : World} (m : Nat) (Fs : List FVal) (Z : TypeId → Obj) (hmix : P.follows .mixedOrders = true)
    (hnd : noDefer ops = true)
    (hok : regionOk ops [] m a0.tmps.size = true)
    (ok : TypeId → Bool) (hzl : (allocTs ops m).all ok = true) (hz : ∀ T, ok T = true → ∀ w : World, (Instr.alloc T true (.tuple #[])).run P w = .ok (.pointer (some ⟨w.heap.size, 0, none⟩)) (w.alloc (Z T)))
    (hg : (List.range m).all (fun k => ((ops[k]?).bind isAlloc).isNone || ((ops[k]?).map (·.guard)) == some none) = true)
    (hs : StayAll Fs) (hops : HopAll P ops Q [] m a0 w0 Fs 0 (ops.toList.take m))
    (hend : ∀ w, Below w0.heap.size w0 w → EndG (fun a => Shut (wpListIn (Fence.wide.inRound l) n P ops Q (ops.toList.drop m) a w)) w0 Z Fs w [] 0 (ops.toList.take m) a0) :
    (Code.region id ops true).wpIn (Fence.wide.inRound l) n P Q a0 w0 := by
  obtain ⟨hm, hsl, htl, hlt, hfl, hnos⟩ := ok_slots hok
  have uniq : ∀ j k x, j < m → k < m → j ≠ k → slotOf ops j = some x → slotOf ops k ≠ some x := fun j k x hj hk hne ej ek => by
    rcases Nat.lt_or_gt_of_ne hne with h | h
    · obtain ⟨y, e, -, h3⟩ := hsl k hk
      rw [ek] at e; cases e
      exact h3 j h ej
    · obtain ⟨y, e, -, h3⟩ := hsl j hj
      rw [ej] at e; cases e
      exact h3 k h ek
  refine wpIn_region_any hmix ?_
  let J : Array Bool → Act → World → Prop := fun listed a w =>
    ((∀ k, m ≤ k → listed.getD k false = false) ∧ Inv ops m a0 w0 Z Fs listed a w) ∨
    (∃ r, m < r ∧ r ≤ ops.size ∧ (∀ k, k < ops.size → (listed.getD k false = true ↔ k < r)) ∧ wpOpsIn (Fence.wide.inRound l) n P ops Q (List.range' r (ops.size - r)) a w)
  have fin : ∀ listed a w, Inv ops m a0 w0 Z Fs listed a w → (∀ k, k < m → listed.getD k false = true) → wpOpsIn (Fence.wide.inRound l) n P ops Q (List.range' m (ops.size - m)) a w := fun listed a w H hl => by
    have hlen : (ops.toList.drop m).length = ops.size - m := by simp
    rw [← hlen, wpOpsIn_eq_wpListIn (ops.toList.drop m) m (fun j => by simp)]
    let x : Nat → Value := fun k => match slotOf ops k with | some d => a.eval (.tmp d) | none => undef
    have hx : ∀ k d, slotOf ops k = some d → x k = a.eval (.tmp d) := fun k d h => by simp only [x]; rw [h]
    have htake : ∀ k o, (ops.toList.take m)[k]? = some o → ops[0 + k]? = some o ∧ k < m := fun k o h => by
      rw [List.getElem?_take] at h
      split at h
      · exact ⟨by simpa using h, by assumption⟩
      · cases h
    have hlen2 : (ops.toList.take m).length = m := by rw [List.length_take, Array.length_toList]; omega
    have e : a = fillA ops x 0 (ops.toList.take m) a0 := by
      refine act_ext (H.size.trans fillA_size.1.symm) (H.defers.trans fillA_size.2.symm) (fun t => ?_)
      by_cases h : ∃ k, k < m ∧ slotOf ops k = some t
      · obtain ⟨k, hk, hd⟩ := h
        have hko : ∃ o, (ops.toList.take m)[k]? = some o := by
          refine ⟨(ops.toList.take m)[k]'(by rw [hlen2]; exact hk), List.getElem?_eq_getElem _⟩
        obtain ⟨o, ho⟩ := hko
        have hod : o.dst = some t := by
          have := (htake k o ho).1
          rw [Nat.zero_add] at this
          unfold slotOf at hd
          rw [this] at hd
          exact hd
        obtain ⟨d', e', hd', -⟩ := hsl k hk
        rw [hd] at e'; cases e'
        rw [fillA_at (x := x) (i := 0) ho hod hd' (fun j p hj hp hpd => ?_), Nat.zero_add, hx k t hd]
        have hj2 := htake j p hp
        rw [Nat.zero_add] at hj2
        exact uniq j k t hj2.2 hk (by omega) (by unfold slotOf; rw [hj2.1]; exact hpd) hd
      · rw [fillA_off, H.off t (fun k hk hd => h ⟨k, hk, hd⟩)]
        intro o ho hd
        obtain ⟨k, hk⟩ := List.mem_iff_getElem?.1 ho
        have := htake k o hk
        rw [Nat.zero_add] at this
        exact h ⟨k, this.2, by unfold slotOf; rw [this.1]; exact hd⟩
    rw [e]
    refine (endG_use (hend w H.below) (fun k o h => (htake k o h).1) (fun k _ hk => ?_) (fun j k _ hkj hj aj ak => ?_) (fun u hu => by cases hu)).out
    · rw [hlen2, Nat.zero_add] at hk
      obtain ⟨d, hd, -, -⟩ := hsl k hk
      rw [hx k d hd]
      exact H.facts k hk (hl k hk) d hd
    · rw [hlen2, Nat.zero_add] at hj
      obtain ⟨d, hd, -, -⟩ := hsl j hj
      obtain ⟨d', hd', -, -⟩ := hsl k (by omega)
      rw [hx j d hd, hx k d' hd']
      exact H.apart j k hkj hj aj ak (hl j hj) (hl k (by omega)) d d' hd hd'
  refine wpAnyIn_inv J ?_ ?_ _ _ _ _ ?_ (by simp) (fun i hi => ?_) (.inl ⟨fun k _ => ?_, ?_⟩)
  · -- one step
    intro listed a w hsz hd hj
    have htail' : ∀ i, i < m → (∀ k, m ≤ k → listed.getD k false = false) → ∀ k, m ≤ k → (listed.setIfInBounds i true).getD k false = false := fun i him htail k hk => by
      have := htail k hk
      cases hc : (listed.setIfInBounds i true).getD k false with
      | false => rfl
      | true =>
        rcases getD_set listed i k hc with e | e
        · omega
        · rw [e] at this; cases this
    have hto : ∀ i o, i < m → ops[i]? = some o → (ops.toList.take m)[i]? = some o := fun i o him ho => by
      rw [List.getElem?_take_of_lt him]; simpa using ho
    have hpr : ∀ i, i ∈ Region.ready .any ops listed → Inv ops m a0 w0 Z Fs listed a w → ∀ k d, ((predsOf ops i).contains k && slotOf ops k == some d && ((ops[k]?).bind isAlloc).isNone && decide (k < m)) = true → nthF Fs k (a.eval (.tmp d)) w := by
      intro i hi H k d' hkd
      simp only [Bool.and_eq_true, decide_eq_true_iff, beq_iff_eq, List.contains_iff_mem] at hkd
      obtain ⟨⟨⟨h1, h2⟩, h3⟩, h4⟩ := hkd
      have := H.facts k h4 ((mem_preds hi).2.2 k h1) d' h2
      unfold FOf at this
      rw [Option.isNone_iff_eq_none.1 h3] at this
      exact this
    have hoff : Inv ops m a0 w0 Z Fs listed a w → ∀ t, (List.range m).all (fun k => slotOf ops k != some t) = true → a.eval (.tmp t) = a0.eval (.tmp t) := fun H t ht => H.off t (fun k hk => by
      rw [List.all_eq_true] at ht
      simpa using ht k (List.mem_range.2 hk))
    intro i hi
    obtain ⟨hu, hin, hpre⟩ := mem_preds hi
    rcases hj with ⟨htail, H⟩ | ⟨r, hmr, hrn, hlr, hwp⟩
    · by_cases him : i < m
      · obtain ⟨d, hdst, hdlt, -⟩ := hsl i him
        obtain ⟨o, ho⟩ : ∃ o, ops[i]? = some o := ⟨ops[i], by simp [hin]⟩
        have hod : o.dst = some d := by unfold slotOf at hdst; rw [ho] at hdst; exact hdst
        cases ha : isAlloc o with
        | some T =>
          have hop : o.op = .alloc T := by
            unfold isAlloc at ha
            split at ha
            · cases ha; assumption
            · cases ha
          have hgd : o.guard = none := by
            rw [List.all_eq_true] at hg
            have := hg i (List.mem_range.2 him)
            rw [ho] at this
            simp [ha] at this
            exact this
          unfold wpOpIn
          rw [ho]
          simp only [Region.wanted, hgd, if_true]
          refine oper_in (noDefer_at hnd ho) ?_
          unfold Oper.wp
          have hrun : (execOp a.eval o).run P w = .ok (.value (.pointer (some ⟨w.heap.size, 0, none⟩))) (w.alloc (Z T)) := by
            have hr := hz T (List.all_eq_true.1 hzl T (List.mem_filterMap.2 ⟨i, List.mem_range.2 him, by rw [ho]; simp [ha]⟩)) w
            unfold execOp
            rw [hop]
            simp [hr]
          rw [hrun, Oper.upon_value, hod]
          refine .inl ⟨htail' i him htail, Inv.step hok hs H hsz him hu hdst ?_ ((Below.refl _ _).alloc (Nat.le_refl _) _) (fun _ => ⟨_, rfl, Nat.le_refl _⟩)⟩
          unfold FOf
          rw [ho, Option.bind_some, ha]
          refine ⟨w.heap.size, rfl, H.below.size, by simp, ?_⟩
          show (w.heap.push (Z T))[w.heap.size]? = _
          simp
        | none =>
          have hop := HopAll.at hops i o (hto i o him ho) ha
          rw [Nat.zero_add, if_neg (by simp)] at hop
          have hK : ∀ v w', nthF Fs i v w' → Below w.heap.size w w' → J (listed.setIfInBounds i true) (a.put o.dst v) w' := by
            intro v w' hF hb
            rw [hod]
            refine Or.inl ⟨htail' i him htail, Inv.step hok hs H hsz him hu hdst ?_ hb (fun hc => by rw [ho, Option.bind_some, ha] at hc; cases hc)⟩
            unfold FOf
            rw [ho, Option.bind_some, ha]
            exact hF
          have := hop a w H.below (hoff H) (hpr i hi H) _ hK
          unfold wpOpIn
          rw [ho]
          simp only
          split
          · rename_i hw; rw [if_pos hw] at this; exact oper_in (noDefer_at hnd ho) this
          · rename_i hw; rw [if_neg hw] at this; exact ⟨fun _ _ => trivial, this⟩
      · have hcov0 := covers_sound hd hi (htl i (by omega) hin)
        have hcov : ∀ j, j < i → listed.getD j false = true := fun j hj => hcov0 j hj (by simp)
        have him' : i = m := by
          rcases Nat.lt_or_ge m i with h | h
          · have := hcov m h
            rw [htail m (Nat.le_refl _)] at this; cases this
          · omega
        subst him'
        have hall := fin listed a w H hcov
        rw [show ops.size - i = (ops.size - i - 1) + 1 by omega, List.range'_succ, wpOpsIn_cons] at hall
        refine wpOpIn_mono (fun a' w' h' => ?_) hall
        refine .inr ⟨i + 1, by omega, hin, fun k hk => ⟨fun h => ?_, fun h => ?_⟩, ?_⟩
        · rcases getD_set listed i k h with e | e
          · omega
          · rcases Nat.lt_or_ge k i with h1 | h1
            · omega
            · rw [htail k h1] at e; cases e
        · rcases Nat.lt_or_eq_of_le (Nat.le_of_lt_succ h) with h1 | h1
          · exact getD_keep (hcov k h1)
          · subst h1; exact getD_self (by omega)
        · rw [show ops.size - (i + 1) = ops.size - i - 1 by omega]; exact h'
    · have hri : r ≤ i := by
        rcases Nat.lt_or_ge i r with h | h
        · have := (hlr i hin).2 h
          rw [getD_flip hu] at this; cases this
        · exact h
      have hcov0 := covers_sound hd hi (htl i (by omega) hin)
      have hcov : ∀ j, j < i → listed.getD j false = true := fun j hj => by
        rcases Nat.lt_or_ge j r with h | h
        · exact (hlr j (by omega)).2 h
        · exact hcov0 j hj (by simp)
      have him' : i = r := by
        rcases Nat.lt_or_ge r i with h | h
        · have := (hlr r (by omega)).1 (hcov r h)
          omega
        · omega
      subst him'
      rw [show ops.size - i = (ops.size - i - 1) + 1 by omega, List.range'_succ, wpOpsIn_cons] at hwp
      refine wpOpIn_mono (fun a' w' h' => ?_) hwp
      refine .inr ⟨i + 1, by omega, hin, fun k hk => ⟨fun h => ?_, fun h => ?_⟩, ?_⟩
      · rcases getD_set listed i k h with e | e
        · omega
        · have := (hlr k hk).1 e
          omega
      · rcases Nat.lt_or_eq_of_le (Nat.le_of_lt_succ h) with h1 | h1
        · exact getD_keep ((hlr k hk).2 h1)
        · subst h1; exact getD_self (by omega)
      · rw [show ops.size - (i + 1) = ops.size - i - 1 by omega]; exact h'
  · -- the end
    intro listed a w hsz hd hj hr
    have hall : ∀ k, k < ops.size → listed.getD k false = true := by
      intro k
      induction k using Nat.strongRecOn with
      | ind k ih =>
        intro hk
        cases hc : listed.getD k false with
        | true => rfl
        | false =>
          exfalso
          have hmem : k ∈ Region.ready .any ops listed := ready_of hsz hk hc (fun j hj => by have := hlt k hk j hj; exact ih j this (by omega))
          rw [hr] at hmem
          cases hmem
    rcases hj with ⟨htail, H⟩ | ⟨r, hmr, hrn, hlr, hwp⟩
    · have hsm : ops.size = m := by
        rcases Nat.lt_or_ge m ops.size with h | h
        · have := hall m h
          rw [htail m (Nat.le_refl _)] at this; cases this
        · omega
      have := fin listed a w H (fun k hk => hall k (by omega))
      rw [hsm, Nat.sub_self] at this
      simpa [wpOpsIn] using this
    · have hsr : ops.size = r := by
        rcases Nat.lt_or_ge r ops.size with h | h
        · have := (hlr r h).1 (hall r h)
          omega
        · omega
      rw [hsr, Nat.sub_self] at hwp
      simpa [wpOpsIn] using hwp
  · unfold openOf
    simp
  · simp [Array.getD] at hi
  · simp [Array.getD]
  · refine ⟨rfl, rfl, fun _ _ => rfl, (Below.refl _ _).drew, fun k _ hl => ?_, fun j k _ _ _ _ hl => ?_⟩
    · simp [Array.getD] at hl
    · simp [Array.getD] at hl
end
def EndsG (B : Act → Prop) (Fs : List FVal) (w : World) : Nat → List (Option Nat) → Act → Prop
  | _, [], a => B a
  | i, d :: ds, a => ∀ v, nthF Fs i v w → EndsG B Fs w (i + 1) ds (a.put d v)
theorem endG_of {B : Act → Prop} {w0 w : World} {Z : TypeId → Obj} {Fs : List FVal} : ∀ (l : List Oper) (acc : List Nat) (i : Nat) (a : Act), l.all (fun o => (isAlloc o).isNone) = true → EndsG B Fs w i (l.map (·.dst)) a → EndG B w0 Z Fs w acc i l a
  | [], acc, i, a, _, h => by unfold EndG; unfold EndsG at h; exact h
  | o :: os, acc, i, a, hn, h => by
    rw [List.all_cons, Bool.and_eq_true] at hn
    have e : isAlloc o = none := by simpa using hn.1
    unfold EndG
    rw [e]
    intro v hv
    exact endG_of os acc (i + 1) _ hn.2 (h v hv)
theorem EndsG.one {B : Act → Prop} {w : World} {Fs : List FVal} {i : Nat} {d : Option Nat} {ds : List (Option Nat)} {a : Act} (h : ∀ v, nthF Fs i v w → EndsG B Fs w (i + 1) ds (a.put d v)) : EndsG B Fs w i (d :: ds) a := h
theorem EndsG.nil {B : Act → Prop} {w : World} {Fs : List FVal} {i : Nat} {a : Act} (h : B a) : EndsG B Fs w i [] a := h
theorem regionIn {ops : Array Oper} {Q : Exit → Act → World → Prop} {l n id : Nat} {a0 : Act} {w0 : World} (ds : List (Option Nat)) (m : Nat) (Fs : List FVal) (hnd : noDefer ops = true)
    (hok : regionOk ops [] m a0.tmps.size = true) (hno : (ops.toList.take m).all (fun o => (isAlloc o).isNone) = true) (hds : (ops.toList.take m).map (·.dst) = ds) (hzl : (allocTs ops m).all okZ = true)
    (hg : (List.range m).all (fun k => ((ops[k]?).bind isAlloc).isNone || ((ops[k]?).map (·.guard)) == some none) = true)
    (hs : StayAll Fs) (hops : HopAll Tryz.prog ops Q [] m a0 w0 Fs 0 (ops.toList.take m))
    (hend : ∀ w, Below w0.heap.size w0 w → EndsG (fun a => Shut (wpListIn (Fence.wide.inRound l) n Tryz.prog ops Q (ops.toList.drop m) a w)) Fs w 0 ds a0) : (Code.region id ops true).wpIn (Fence.wide.inRound l) n Tryz.prog Q a0 w0 :=
  wpIn_region_two m Fs zeroObj (by kernel_rfl) hnd hok okZ hzl (fun T h w => run_allocT h w) hg hs hops (fun w hw => endG_of _ _ _ _ hno (by rw [hds]; exact hend w hw))
end Go.Proofs.YtddbhhedjipjkaaGreatDoor
end
