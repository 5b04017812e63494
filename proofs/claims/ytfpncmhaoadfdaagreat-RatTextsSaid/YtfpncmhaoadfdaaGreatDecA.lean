/-
  Plain facts on numerals; package dec: doublings, valueOf, readWord, isNumeral, powers, and what the reference tells of numerals.
-/
import Derived.Test.YtfpncmhaoadfdaaGreatDivE
import Derived.Laws.BytesArg
import Derived.Laws.Strings2
import Derived.Laws.Strings3
/-! Plain facts on digits to base ten, the greatest first, as bytes. -/
namespace Go.Proofs.YtfpncmhaoadfdaaGreat

/-- The last k digits of a number, as bytes, the greatest first. -/
def fw : Nat → Nat → List Nat
  | 0, _ => []
  | k + 1, x => fw k (x / 10) ++ [48 + x % 10]
theorem fw_length (k x : Nat) : (fw k x).length = k := by
  induction k generalizing x with
  | zero => rfl
  | succ k ih => simp [fw, ih]
theorem fw_add (a b x : Nat) : fw (a + b) x = fw a (x / 10 ^ b) ++ fw b x := by
  induction b generalizing x with
  | zero => simp [fw]
  | succ b ih =>
    rw [← Nat.add_assoc, fw, ih, fw, Nat.div_div_eq_div_mul, ← Nat.pow_succ', List.append_assoc]
theorem fw_mod (k x : Nat) : fw k (x % 10 ^ k) = fw k x := by
  induction k generalizing x with
  | zero => rfl
  | succ k ih =>
    have e1 : x % 10 ^ (k + 1) / 10 = x / 10 % 10 ^ k := by rw [Nat.pow_succ', Nat.mod_mul_right_div_self]
    have e2 : x % 10 ^ (k + 1) % 10 = x % 10 := Nat.mod_mod_of_dvd _ (Nat.pow_succ' ▸ Nat.dvd_mul_right 10 _)
    rw [fw, e1, e2, ih, fw]
theorem fw_cons (k x : Nat) : fw (k + 1) x = (48 + x / 10 ^ k % 10) :: fw k x := by
  rw [Nat.add_comm k 1, fw_add]; rfl

/-- Bytes that are digits. -/
def Dig (l : List Nat) : Prop := ∀ c ∈ l, 48 ≤ c ∧ c ≤ 57
theorem Dig.at {l : List Nat} (h : Dig l) {k : Nat} (hk : k < l.length) : 48 ≤ nth l k ∧ nth l k ≤ 57 := by
  rw [← nth_getElem hk]; exact h _ (List.getElem_mem hk)
theorem Dig.take {l : List Nat} (h : Dig l) (k : Nat) : Dig (l.take k) := fun c hc => h c (List.mem_of_mem_take hc)
theorem Dig.drop {l : List Nat} (h : Dig l) (k : Nat) : Dig (l.drop k) := fun c hc => h c (List.mem_of_mem_drop hc)
theorem Dig.snoc {l : List Nat} (h : Dig l) {c : Nat} (hc : 48 ≤ c ∧ c ≤ 57) : Dig (l ++ [c]) := fun d hd => by
  rcases List.mem_append.1 hd with hd | hd
  · exact h d hd
  · rw [List.mem_singleton.1 hd]; exact hc
theorem Dig.all {l : List Nat} (h : Dig (l.take l.length)) : Dig l := by rwa [List.take_length] at h
theorem Dig.next {l : List Nat} {k : Nat} (h : Dig (l.take k)) (hk : k < l.length) (hc : 48 ≤ nth l k ∧ nth l k ≤ 57) : Dig (l.take (k + 1)) := by
  rw [take_succ_nth hk]; exact h.snoc hc
theorem dig_fw (k x : Nat) : Dig (fw k x) := by
  induction k generalizing x with
  | zero => intro c hc; cases hc
  | succ k ih => exact (ih _).snoc (by omega)

/-- The number that bytes stand for. -/
def hv (l : List Nat) : Nat := l.foldl (fun a c => 10 * a + (c - 48)) 0
theorem hv_snoc (l : List Nat) (c : Nat) : hv (l ++ [c]) = 10 * hv l + (c - 48) := by simp [hv]
theorem hv_take {l : List Nat} {k : Nat} (hk : k < l.length) : hv (l.take (k + 1)) = 10 * hv (l.take k) + (nth l k - 48) := by
  rw [take_succ_nth hk, hv_snoc]
theorem rev_induct {P : List Nat → Prop} (h0 : P []) (h1 : ∀ l c, P l → P (l ++ [c])) (l : List Nat) : P l := by
  rw [← List.reverse_reverse l]
  induction l.reverse with
  | nil => exact h0
  | cons c m ih => rw [List.reverse_cons]; exact h1 _ _ ih
theorem hv_append (l m : List Nat) : hv (l ++ m) = hv l * 10 ^ m.length + hv m := by
  induction m using rev_induct with
  | h0 => simp [hv]
  | h1 m c ih =>
    rw [← List.append_assoc, hv_snoc, ih, hv_snoc, List.length_append, List.length_singleton, Nat.pow_succ]
    grind
theorem hv_lt {l : List Nat} (h : Dig l) : hv l < 10 ^ l.length := by
  induction l using rev_induct with
  | h0 => simp [hv]
  | h1 m c ih =>
    have h1 := ih (fun d hd => h d (List.mem_append_left _ hd))
    have h2 := h c (by simp)
    rw [hv_snoc, List.length_append, List.length_singleton, Nat.pow_succ]
    omega
theorem hv_fw (k x : Nat) : hv (fw k x) = x % 10 ^ k := by
  induction k generalizing x with
  | zero => simp [fw, hv, Nat.mod_one]
  | succ k ih =>
    rw [fw, hv_snoc, ih, Nat.pow_succ', Nat.mod_mul]; omega
theorem fw_hv {l : List Nat} (h : Dig l) : fw l.length (hv l) = l := by
  induction l using rev_induct with
  | h0 => rfl
  | h1 m c ih =>
    have h1 := ih (fun d hd => h d (List.mem_append_left _ hd))
    have h2 := h c (by simp)
    rw [hv_snoc, List.length_append, List.length_singleton, fw, show (10 * hv m + (c - 48)) / 10 = hv m from by omega, h1, show 48 + (10 * hv m + (c - 48)) % 10 = c from by omega]

/-- How many digits a number has. -/
def nd (v : Nat) : Nat := if h : v < 10 then 1 else nd (v / 10) + 1
termination_by v
decreasing_by omega
theorem nd_pos (v : Nat) : 0 < nd v := by unfold nd; split <;> omega
theorem nd_is (v : Nat) : v < 10 ^ nd v ∧ (nd v = 1 ∨ 10 ^ (nd v - 1) ≤ v) := by
  induction v using Nat.strongRecOn with
  | ind v ih =>
    unfold nd
    split
    · rename_i h; exact ⟨by simpa using h, .inl rfl⟩
    · rename_i h
      have i := ih (v / 10) (by omega)
      refine ⟨by rw [Nat.pow_succ]; omega, .inr ?_⟩
      rw [Nat.add_sub_cancel]
      obtain ⟨m, hm⟩ : ∃ m, nd (v / 10) = m + 1 := ⟨nd (v / 10) - 1, by have := nd_pos (v / 10); omega⟩
      rw [hm] at i ⊢
      rw [Nat.add_sub_cancel] at i
      rw [Nat.pow_succ]
      rcases i.2 with h1 | h1
      · obtain rfl : m = 0 := by omega
        simp; omega
      · omega
theorem nd_eq {v k : Nat} (h0 : 0 < k) (h1 : v < 10 ^ k) (h2 : k = 1 ∨ 10 ^ (k - 1) ≤ v) : nd v = k := by
  have i := nd_is v
  have p := nd_pos v
  rcases Nat.lt_trichotomy (nd v) k with h | h | h
  · rcases h2 with h2 | h2
    · omega
    · have := Nat.pow_le_pow_right (n := 10) (by omega) (show nd v ≤ k - 1 from by omega)
      omega
  · exact h
  · rcases i.2 with h3 | h3
    · omega
    · have := Nat.pow_le_pow_right (n := 10) (by omega) (show k ≤ nd v - 1 from by omega)
      omega
theorem nd_le {v k : Nat} (h0 : 0 < k) (h : v < 10 ^ k) : nd v ≤ k := by
  rcases Nat.lt_or_ge k (nd v) with h1 | h1
  · rcases (nd_is v).2 with h3 | h3
    · omega
    · have := Nat.pow_le_pow_right (n := 10) (by omega) (show k ≤ nd v - 1 from by omega)
      omega
  · exact h1

/-- A number's digits. -/
def dgs (v : Nat) : List Nat := fw (nd v) v
theorem dgs_length (v : Nat) : (dgs v).length = nd v := fw_length _ _
theorem hv_dgs (v : Nat) : hv (dgs v) = v := by unfold dgs; rw [hv_fw, Nat.mod_eq_of_lt (nd_is v).1]
theorem dig_dgs (v : Nat) : Dig (dgs v) := dig_fw _ _
/-- A numeral. -/
def Num (l : List Nat) : Prop := 0 < l.length ∧ l.length ≤ 20000 ∧ (1 < l.length → nth l 0 ≠ 48) ∧ Dig l
theorem dgs_head {v : Nat} (h : 1 < nd v) : nth (dgs v) 0 ≠ 48 := by
  have i := nd_is v
  obtain ⟨m, hm⟩ : ∃ m, nd v = m + 1 := ⟨nd v - 1, by omega⟩
  unfold dgs
  rw [hm] at i ⊢
  rw [fw_cons, nth_cons_zero]
  rcases i.2 with h3 | h3
  · omega
  · rw [Nat.add_sub_cancel] at h3
    have h4 : 0 < v / 10 ^ m := Nat.div_pos h3 (Nat.pow_pos (by omega))
    have h5 : v / 10 ^ m < 10 := by rw [Nat.div_lt_iff_lt_mul (Nat.pow_pos (by omega)), ← Nat.pow_succ']; exact i.1
    omega
theorem num_dgs {v : Nat} (h : nd v ≤ 20000) : Num (dgs v) :=
  ⟨by rw [dgs_length]; exact nd_pos v, by rw [dgs_length]; exact h, fun h1 => dgs_head (by rwa [dgs_length] at h1), dig_dgs v⟩
theorem nd_hv {l : List Nat} (h : Num l) : nd (hv l) = l.length := by
  obtain ⟨h1, h2, h3, h4⟩ := h
  refine nd_eq h1 (hv_lt h4) ?_
  rcases Nat.lt_or_ge 1 l.length with h5 | h5
  · right
    obtain ⟨c, m, rfl⟩ : ∃ c m, l = c :: m := by cases l with | nil => simp at h1 | cons c m => exact ⟨c, m, rfl⟩
    have e : hv (c :: m) = (c - 48) * 10 ^ m.length + hv m := by
      have := hv_append [c] m
      simpa [hv] using this
    have h6 := h3 h5
    rw [nth_cons_zero] at h6
    have h7 := h4 c (by simp)
    rw [e, List.length_cons, Nat.add_sub_cancel]
    have h8 : 1 * 10 ^ m.length ≤ (c - 48) * 10 ^ m.length := Nat.mul_le_mul_right _ (by omega)
    omega
  · left; omega
theorem dgs_hv {l : List Nat} (h : Num l) : dgs (hv l) = l := by
  unfold dgs
  rw [nd_hv h]
  exact fw_hv h.2.2.2

/-- Ten to the power of digits fits into words. -/
theorem ten_word (n : Nat) : (10 : Nat) ^ (18 * 2 ^ n) < 18446744073709551616 ^ (2 ^ n) := by
  rw [Nat.pow_mul]; exact Nat.pow_lt_pow_left (by omega) (Nat.ne_of_gt (Nat.pow_pos (by omega)))
theorem bits_ten (v n : Nat) (h : bl v ≤ 59 * 2 ^ n) : v < 10 ^ (18 * 2 ^ n) := by
  have h1 := bl_le.1 h
  have h2 : (2 : Nat) ^ (59 * 2 ^ n) ≤ 10 ^ (18 * 2 ^ n) := by
    rw [Nat.pow_mul, Nat.pow_mul]; exact Nat.pow_le_pow_left (by omega) _
  omega
end Go.Proofs.YtfpncmhaoadfdaaGreat

/-! Strings as lists of byte values. -/
namespace Go.Proofs.YtfpncmhaoadfdaaGreat

/-- The byte values of a string. -/
def bys (s : ByteArray) : List Nat := s.data.toList.map UInt8.toNat
/-- The string of byte values. -/
def str (l : List Nat) : ByteArray := ⟨(l.map UInt8.ofNat).toArray⟩
theorem bys_length (s : ByteArray) : (bys s).length = s.size := by simp [bys]
theorem bys_at (s : ByteArray) {k : Nat} (h : k < s.size) : (s[k].toNat) = nth (bys s) k := by
  rw [← nth_getElem (by rw [bys_length]; exact h)]
  simp [bys]; rfl
theorem bys_str {l : List Nat} (h : ∀ c ∈ l, c < 256) : bys (str l) = l := by
  unfold bys str
  simp only [List.map_map]
  conv => rhs; rw [← List.map_id l]
  exact List.map_congr_left fun c hc => by simp [Nat.mod_eq_of_lt (h c hc)]
theorem str_bys (s : ByteArray) : str (bys s) = s := by
  unfold bys str
  have e : List.map UInt8.ofNat (List.map UInt8.toNat s.data.toList) = s.data.toList := by
    rw [List.map_map]
    conv => rhs; rw [← List.map_id s.data.toList]
    exact List.map_congr_left fun c _ => by simp
  rw [e]
theorem Dig.low {l : List Nat} (h : Dig l) : ∀ c ∈ l, c < 256 := fun c hc => by have := h c hc; omega
theorem bys_extract (s : ByteArray) (a b : Nat) : bys (s.extract a b) = ((bys s).drop a).take (b - a) := by
  have e : s = ⟨s.data.toList.toArray⟩ := by simp
  unfold bys
  conv => lhs; rw [e, ByteArray.extract_mk]
  simp [List.map_take, List.map_drop]
theorem bys_add (s t : ByteArray) : bys (s ++ t) = bys s ++ bys t := by
  unfold bys
  rw [ByteArray.data_append]; simp
theorem bys_inj {s t : ByteArray} (h : bys s = bys t) : s = t := by rw [← str_bys s, h, str_bys]
theorem str_num (l : List Nat) : strOfNums (l.map fun n : Nat => ((n : Nat) : Int)) = str l := by
  unfold strOfNums str
  rw [List.map_map]
  rfl
end Go.Proofs.YtfpncmhaoadfdaaGreat

/-! Contracts: dec.doublings, valueOf, readWord, Sum; isNumeral, the reference's Is. -/
namespace Go.Proofs.YtfpncmhaoadfdaaGreat
open Go.RowKit
set_option linter.unusedVariables false

/-- What dec.doublings answers. -/
def DblPost (l s : Nat) (w : World) (e : Ending) (w' : World) : Prop :=
  (∃ n : Nat, e = .returned (.int .i64 n) ∧ s ≤ l * 2 ^ n ∧ (n = 0 ∨ l * 2 ^ (n - 1) < s)) ∧ w = w'
theorem dbl_calls (l s : Nat) (hl : 0 < l) (hl2 : l ≤ 1099511627776) (hs : s ≤ 1099511627776) (w : World) :
    Calls Tryz.prog 45 #[.int .i64 l, .int .i64 s] w (DblPost l s w) := by
  go_enter Tryz.func45, Tryz.ntmps45
  go_wp2
  go_loop [0, 5] (fun a i => ∃ (k p : Nat), i = .int .i64 k ∧ a = .int .i64 p ∧ Hid (p = l * 2 ^ k) ∧ 0 < p ∧ p ≤ 2199023255552 ∧ k < p + 1 ∧ (Hid (k = 0 ∨ l * 2 ^ (k - 1) < s))) (fun a _ => s - (intOf a).toNat)
  case atStart => exact ⟨0, l, rfl, rfl, Lib.hid (by simp), hl, by omega, by omega, Lib.hid (.inl rfl)⟩
  case round =>
    obtain ⟨k, p, rfl, rfl, H1, h0, h1, h3, H2⟩ := hrel
    by_cases hlt : p < s
    · go_wp2
      go_round
      case rel => exact ⟨k + 1, p * 2, by go_num, by go_num, Lib.hid (by rw [H1.out, Nat.pow_succ, Nat.mul_assoc]), by omega, by omega, by omega, Lib.hid (.inr (by rw [Nat.add_sub_cancel, ← H1.out]; exact hlt))⟩
      case measure => simp [intOf]; omega
    · go_wp2
      go_ret
      exact ⟨⟨k, rfl, by rw [← H1.out]; omega, H2.out⟩, rfl⟩
theorem dbl_small {l s n m : Nat} (hl : 0 < l) (h : n = 0 ∨ l * 2 ^ (n - 1) < s) (hs : s ≤ l * 2 ^ m) : n ≤ m := by
  rcases h with rfl | h
  · exact Nat.zero_le _
  · have h1 : 2 ^ (n - 1) < 2 ^ m := Nat.lt_of_mul_lt_mul_left (Nat.lt_of_lt_of_le h hs)
    have h2 := (Nat.pow_lt_pow_iff_right (a := 2) (by omega)).1 h1
    omega

theorem value_calls (c : Nat) (h1 : 48 ≤ c) (h2 : c ≤ 57) (w : World) :
    Calls Tryz.prog 86 #[.int .u8 c] w fun e w' => e = .returned (.int .u64 ((c - 48 : Nat) : Int)) ∧ w = w' := by
  obtain ⟨d, rfl⟩ : ∃ d, c = d + 48 := ⟨c - 48, by omega⟩
  have e : IntKind.u8.wrap (((d + 48 : Nat) : Int) - 48) = (d : Int) := by rw [show (((d + 48 : Nat) : Int) - 48) = (d : Int) from by omega]; exact IntWalk.u8_in _ (by omega)
  rw [Nat.add_sub_cancel]
  go_enter Tryz.func86, Tryz.ntmps86
  go_wp2
  go_ret
  exact ⟨rfl, rfl⟩

theorem hv_pre {s : ByteArray} (hd : Dig (bys s)) {k : Nat} (hk : k < s.size) : hv ((bys s).take k) < 10 ^ k ∧ hv ((bys s).take (k + 1)) = 10 * hv ((bys s).take k) + (nth (bys s) k - 48) ∧ 48 ≤ nth (bys s) k ∧ nth (bys s) k ≤ 57 := by
  have hl : k < (bys s).length := by rw [bys_length]; exact hk
  have h1 := hv_lt (hd.take k)
  rw [List.length_take, Nat.min_eq_left (by omega)] at h1
  exact ⟨h1, hv_take hl, (hd.at hl).1, (hd.at hl).2⟩
theorem bys_all (s : ByteArray) {k : Nat} (h : k = s.size) : (bys s).take k = bys s := by rw [List.take_of_length_le]; rw [bys_length]; omega
theorem ten_le {k n : Nat} (h : k ≤ n) : (10 : Nat) ^ k ≤ 10 ^ n := Nat.pow_le_pow_right (by omega) h

theorem rword_calls (s : ByteArray) (hd : Dig (bys s)) (hs : s.size ≤ 18) (w : World) :
    Calls Tryz.prog 72 #[.string s] w fun e w' => e = .returned (.int .u64 (hv (bys s))) ∧ w = w' := by
  go_enter Tryz.func72, Tryz.ntmps72
  go_wp2
  go_loop [3, 7] (fun x i => ∃ k : Nat, k ≤ s.size ∧ i = .int .i64 k ∧ x = .int .u64 (hv ((bys s).take k))) (fun _ i => s.size - (intOf i).toNat)
  case atStart => exact ⟨0, Nat.zero_le _, rfl, rfl⟩
  case round =>
    obtain ⟨k, hk, rfl, rfl⟩ := hrel
    by_cases hlt : k < s.size
    · obtain ⟨h1, h2, h3, h4⟩ := hv_pre hd hlt
      have h5 := ten_le (show k ≤ 17 from by omega)
      have h6 : hv ((bys s).take k) < 100000000000000000 := by omega
      have e := bys_at s hlt
      have H2 := Lib.hid h2
      generalize hv ((bys s).take k) = x at *
      generalize nth (bys s) k = c at *
      clear h1 h2 h5
      go_wp2_with fail
      refine (value_calls c h3 h4 _).mono ?_
      rintro e w' ⟨rfl, rfl⟩
      go_wp2
      go_round
      case rel => exact ⟨k + 1, by omega, by go_num, by rw [H2.out]; go_num⟩
      case measure => simp [intOf]; omega
    · have e := bys_all s (k := k) (by omega)
      have E := Lib.hid e
      clear e
      go_wp2
      go_ret
      exact ⟨by rw [E.out]; rfl, rfl⟩

theorem num_yes (s : ByteArray) (h : Num (bys s)) (w : World) :
    Calls Tryz.prog 50 #[.string s] w fun e w' => e = .returned (.bool true) ∧ w = w' := by
  obtain ⟨h1, h2, h3, hd⟩ := h
  rw [bys_length] at h1 h2 h3
  have t1 : ((s.size : Int) == 0) = false := by rw [beq_eq_false_iff_ne]; omega
  by_cases h4 : 1 < s.size
  all_goals
    first
      | (have h5 := h3 h4
         have e0 := bys_at s h1
         have t0 : ((s[0].toNat : Int) == 48) = false := by rw [e0, beq_eq_false_iff_ne]; omega
         clear h5 e0)
      | skip
    clear h3
    go_enter Tryz.func50, Tryz.ntmps50
    go_wp2
    go_loop [24] (fun i => ∃ k : Nat, k ≤ s.size ∧ i = .int .i64 k) (fun i => s.size - (intOf i).toNat)
    case atStart => exact ⟨0, Nat.zero_le _, rfl⟩
    case round =>
      obtain ⟨k, hk, rfl⟩ := hrel
      by_cases hlt : k < s.size
      · obtain ⟨_, _, h6, h7⟩ := hv_pre hd hlt
        have e := bys_at s hlt
        generalize nth (bys s) k = c at *
        go_wp2
        go_round
        case rel => exact ⟨k + 1, by omega, by go_num⟩
        case measure => simp [intOf]; omega
      · go_wp2
        go_ret
        exact ⟨rfl, rfl⟩
theorem num_no (s : ByteArray) (h : ¬ Num (bys s)) (w : World) :
    Calls Tryz.prog 50 #[.string s] w fun e w' => e = .returned (.bool false) ∧ w = w' := by
  rcases Nat.eq_zero_or_pos s.size with h1 | h1
  · have t1 : ((s.size : Int) == 0) = true := by rw [beq_iff_eq]; omega
    clear h h1
    go_enter Tryz.func50, Tryz.ntmps50
    go_wp2
    go_ret
    exact ⟨rfl, rfl⟩
  · have t1 : ((s.size : Int) == 0) = false := by rw [beq_eq_false_iff_ne]; omega
    by_cases h2 : 20000 < s.size
    · clear h
      go_enter Tryz.func50, Tryz.ntmps50
      go_wp2
      go_ret
      exact ⟨rfl, rfl⟩
    · by_cases h0 : 1 < s.size ∧ nth (bys s) 0 = 48
      · obtain ⟨h4, h5⟩ := h0
        have t0 : ((s[0].toNat : Int) == 48) = true := by rw [bys_at s h1, h5]; rfl
        clear h h5
        go_enter Tryz.func50, Tryz.ntmps50
        go_wp2
        go_ret
        exact ⟨rfl, rfl⟩
      · have hnd : ¬ Dig (bys s) := fun hd => h ⟨by rw [bys_length]; exact h1, by rw [bys_length]; omega, fun h6 h7 => h0 ⟨by rwa [bys_length] at h6, h7⟩, hd⟩
        clear h
        by_cases h4 : 1 < s.size
        all_goals
          first
            | (have t0 : ((s[0].toNat : Int) == 48) = false := by rw [bys_at s h1, beq_eq_false_iff_ne]; omega
               clear h0)
            | clear h0
          go_enter Tryz.func50, Tryz.ntmps50
          go_wp2
          go_loop [24] (fun i => ∃ k : Nat, k ≤ s.size ∧ i = .int .i64 k ∧ Dig ((bys s).take k)) (fun i => s.size - (intOf i).toNat)
          case atStart => exact ⟨0, Nat.zero_le _, rfl, fun c hc => by simp at hc⟩
          case round =>
            obtain ⟨k, hk, rfl, hd⟩ := hrel
            by_cases hlt : k < s.size
            · have e := bys_at s hlt
              have hx := fun h6 => hd.next (by rw [bys_length]; exact hlt) h6
              have HX := Lib.hid hx
              clear hd hx
              generalize nth (bys s) k = c at *
              by_cases h6 : c < 48
              · go_wp2
                go_ret
                exact ⟨rfl, rfl⟩
              · by_cases h7 : 57 < c
                · go_wp2
                  go_ret
                  exact ⟨rfl, rfl⟩
                · go_wp2
                  go_round
                  case rel => exact ⟨k + 1, by omega, by go_num, HX.out ⟨by omega, by omega⟩⟩
                  case measure => simp [intOf]; omega
            · exact absurd (by rwa [bys_all s (k := k) (by omega)] at hd) hnd

theorem sum_step (a c : Nat) : (10 * (a % 1000000007) + c) % 1000000007 = (10 * a + c) % 1000000007 := by omega
end Go.Proofs.YtfpncmhaoadfdaaGreat
