/-
  Contract: nat.Shl.
-/
import Derived.Test.YthpohkklggabpaaNat8
namespace Go.Proofs.Ythpohkklggabpaa
open Go.RowKit

/-- A number that is being shifted up by 64 s + u: k words are done, c is what is carried. -/
def Upping (xs zs : List Nat) (s u k c : Nat) : Prop :=
  zs.length = s + k ∧ Low 18446744073709551616 zs ∧ c < 2 ^ u ∧ ev 18446744073709551616 zs + 18446744073709551616 ^ (s + k) * c = 2 ^ (64 * s + u) * pre 18446744073709551616 xs k
theorem Upping.start (xs : List Nat) (s u : Nat) : Upping xs (List.replicate s 0) s u 0 0 :=
  ⟨by simp, Low.replicate _ _ (by omega), Nat.pow_pos (by omega), by rw [ev_replicate, pre_zero]; simp⟩
theorem two_word (s u : Nat) : (2 : Nat) ^ (64 * s + u) = 18446744073709551616 ^ s * 2 ^ u := by rw [Nat.pow_add, Nat.pow_mul]
/-- One word shifted up: what stays in it, and what is carried. -/
theorem up_word {x u c : Nat} (hx : x < 18446744073709551616) (hu : u < 64) (hc : c < 2 ^ u) :
    ((x * 2 ^ u) % 18446744073709551616 ||| c) = (x * 2 ^ u) % 18446744073709551616 + c ∧ (x * 2 ^ u) % 18446744073709551616 + c < 18446744073709551616 ∧ x / 2 ^ (64 - u) < 2 ^ u ∧
    (x * 2 ^ u) % 18446744073709551616 + 18446744073709551616 * (x / 2 ^ (64 - u)) = x * 2 ^ u := by
  have e : (18446744073709551616 : Nat) = 2 ^ (64 - u) * 2 ^ u := by rw [← Nat.pow_add, Nat.sub_add_cancel (by omega)]
  have hp : 0 < 2 ^ u := Nat.pow_pos (by omega)
  have hq : 0 < 2 ^ (64 - u) := Nat.pow_pos (by omega)
  have e1 : (x * 2 ^ u) % 18446744073709551616 = (x % 2 ^ (64 - u)) * 2 ^ u := by rw [e, Nat.mul_mod_mul_right]
  have e2 : x / 2 ^ (64 - u) < 2 ^ u := (Nat.div_lt_iff_lt_mul hq).2 (by rw [Nat.mul_comm, ← e]; exact hx)
  have e3 : x % 2 ^ (64 - u) < 2 ^ (64 - u) := Nat.mod_lt _ hq
  rw [e1]
  refine ⟨?_, ?_, e2, ?_⟩
  · rw [Nat.mul_comm, Nat.two_pow_add_eq_or_of_lt hc]
  · have : (x % 2 ^ (64 - u) + 1) * 2 ^ u ≤ 2 ^ (64 - u) * 2 ^ u := Nat.mul_le_mul_right _ e3
    rw [Nat.add_mul, Nat.one_mul, ← e] at this
    omega
  · have := Nat.mod_add_div x (2 ^ (64 - u))
    have h2 : x * 2 ^ u = (x % 2 ^ (64 - u) + 2 ^ (64 - u) * (x / 2 ^ (64 - u))) * 2 ^ u := by rw [this]
    rw [h2, Nat.add_mul, e]
    generalize x / 2 ^ (64 - u) = q
    grind
theorem Upping.step {xs zs : List Nat} {s u k c : Nat} (hu : u < 64) (lx : Low 18446744073709551616 xs) (h : Upping xs zs s u k c) :
    Upping xs (zs ++ [(nth xs k * 2 ^ u) % 18446744073709551616 + c]) s u (k + 1) (nth xs k / 2 ^ (64 - u)) := by
  obtain ⟨h1, h2, h3, h4⟩ := h
  obtain ⟨_, g2, g3, g4⟩ := up_word (lx.any (by omega) k) hu h3
  refine ⟨by simp [h1]; omega, h2.snoc g2, g3, ?_⟩
  rw [two_word, Nat.pow_add] at h4
  rw [ev_snoc, h1, pre_succ, two_word, ← Nat.add_assoc s k 1, Nat.pow_succ, Nat.pow_add]
  generalize nth xs k / 2 ^ (64 - u) = q at *
  generalize (nth xs k * 2 ^ u) % 18446744073709551616 = r at *
  generalize (18446744073709551616 : Nat) ^ s = a at *
  generalize (18446744073709551616 : Nat) ^ k = d at *
  generalize (18446744073709551616 : Nat) = b at *
  generalize (2 : Nat) ^ u = v at *
  grind
theorem Upping.stop {xs zs : List Nat} {s u k c : Nat} (hu : u < 64) (h : Upping xs zs s u k c) (hx : xs.length ≤ k) :
    Low 18446744073709551616 (zs ++ [c]) ∧ ev 18446744073709551616 (zs ++ [c]) = ev 18446744073709551616 xs * 2 ^ (64 * s + u) ∧ (zs ++ [c]).length = s + k + 1 := by
  obtain ⟨h1, h2, h3, h4⟩ := h
  rw [pre_ge _ hx] at h4
  have h5 : (2 : Nat) ^ u ≤ 2 ^ 64 := Nat.pow_le_pow_right (by omega) (by omega)
  refine ⟨h2.snoc (by omega), ?_, by simp [h1]⟩
  rw [ev_snoc, h1, h4, Nat.mul_comm]

theorem or_u64 (a b : Nat) (ha : a < 18446744073709551616) (hb : b < 18446744073709551616) : bits .or .u64 (a : Int) (b : Int) = ((a ||| b : Nat) : Int) :=
  (bits_nat .u64 64 (by decide) (fun n h0 h1 => by rw [IntKind.wrap_u64]; omega) a b ha hb).2
theorem up_value {x u c : Nat} (hx : x < 18446744073709551616) (hu : u < 64) (hc : c < 2 ^ u) :
    bits .or .u64 (IntKind.u64.wrap ((x : Int) * 2 ^ u)) (c : Int) = (((x * 2 ^ u) % 18446744073709551616 + c : Nat) : Int) := by
  obtain ⟨h1, h2, _, _⟩ := up_word hx hu hc
  have e : IntKind.u64.wrap ((x : Int) * 2 ^ u) = (((x * 2 ^ u) % 18446744073709551616 : Nat) : Int) := by
    rw [IntKind.wrap_u64, Int.natCast_emod, Int.natCast_mul, Int.natCast_pow]
    rfl
  rw [e, or_u64 _ _ (by omega) (by omega), h1]
theorem down_value (x u : Nat) : (x : Int) / 2 ^ (64 - u) = ((x / 2 ^ (64 - u) : Nat) : Int) := by
  rw [Int.natCast_ediv, Int.natCast_pow]
  rfl

/-- A number is answered, and true. -/
def TwoPost (v : Nat) (w : World) (e : Ending) (w' : World) : Prop :=
  ∃ A c, e = .returned (.tuple #[.slice A (cn 18446744073709551616 v).length c, .bool true]) ∧ Got w w' 45 .u64 A c (cn 18446744073709551616 v)
theorem two_end {w w' : World} {g v n : Nat} {zs : List Nat} (hb : Blk w' g 45 .u64 zs) (hg : w.heap.size ≤ g) (hw : Below w.heap.size w w') (hn : zs.length = n) (hm : n ≤ 9223372036854775807) (hl : Low 18446744073709551616 zs) (hv : ev 18446744073709551616 zs = v) :
    TwoPost v w (.returned (.tuple #[.slice (some ⟨g, 0, none⟩) (sl zs) n, .bool true])) w' := by
  subst hn hv
  exact ⟨_, _, by rw [sl_len _ (by omega) hl], got_trim (by omega) hb hg hw hm hl⟩
theorem TwoPost.nil (w : World) {v : Nat} (hv : v = 0) : TwoPost v w (.returned (.tuple #[.slice none 0 0, .bool true])) w := by
  subst hv
  exact ⟨none, 0, rfl, Got.nil w _ _⟩

/-- The loop of nat.Shl: k words are done. -/
def UpRel (w : World) (xs : List Nat) (s u n k : Nat) (q : Value) (wr : World) : Prop :=
  ∃ (c r : Nat) (zs : List Nat), Upping xs zs s u k c ∧ q = .int .u64 c ∧ k + r = n ∧ Blk wr w.heap.size 45 .u64 (zs ++ List.replicate (r + 1) 0) ∧ Below w.heap.size w wr

theorem UpRel.next {w wr : World} {xs zs : List Nat} {s u n k c r : Nat} (lx : Low 18446744073709551616 xs) (hu : u < 64) (ha : Upping xs zs s u k c)
    (hn : k + (r + 1) = n) (hb : Blk wr w.heap.size 45 .u64 (zs ++ List.replicate (r + 1 + 1) 0)) (hw : Below w.heap.size w wr) :
    UpRel w xs s u n (k + 1) (.int .u64 ((nth xs k : Int) / 2 ^ (64 - u))) (wr.setCell ⟨w.heap.size, s + k, none⟩ (.int .u64 (bits .or .u64 (IntKind.u64.wrap ((nth xs k : Int) * 2 ^ u)) (c : Int)))) := by
  rw [up_value (lx.any (by omega) k) hu ha.2.2.1, down_value]
  have h := hb.set zs.length ((nth xs k * 2 ^ u) % 18446744073709551616 + c)
  rw [set_end, ha.1] at h
  exact ⟨_, r, _, ha.step hu lx, rfl, by omega, h, hw.setCell (Nat.le_refl _) _⟩

theorem sl_zero_ev {b : Nat} {xs : List Nat} (h : sl xs = 0) : ev b xs = 0 := by
  rw [← ev_take_sl, h]; simp [ev]

end Go.Proofs.Ythpohkklggabpaa
