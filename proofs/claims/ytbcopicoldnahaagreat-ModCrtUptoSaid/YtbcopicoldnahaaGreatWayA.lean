/-
  Package zint: the way (Xgcd): plain facts, the struct in memory, room, fill.
-/
import Derived.Test.YtbcopicoldnahaaGreatZintG
import Derived.Test.YtbcopicoldnahaaGreatGcdH
/-! Contracts: zint.room, fill. -/
namespace Go.Proofs.YtbcopicoldnahaaGreat
open Go.RowKit
set_option linter.unusedVariables false

/-- The sign of x: it counts below 0 where t is true. -/
def sgt (t : Bool) : Int := if t = true then -1 else 1
theorem sgt_not (t : Bool) : sgt (!t) = -sgt t := by cases t <;> rfl
/-- What stays on the way of m and of u's rest by m. -/
structure Wm (u m G a b x y : Nat) (t : Bool) : Prop where
  g : Nat.gcd a b = G
  s : a * y + b * x = m
  ca : (m : Int) ∣ (a : Int) - sgt t * x * u
  cb : (m : Int) ∣ (b : Int) + sgt t * y * u
theorem Wm.start (u m : Nat) : Wm u m (Nat.gcd u m) m (u % m) 0 1 true := by
  refine ⟨by rw [Nat.gcd_comm u, Nat.gcd_comm m, Nat.gcd_rec m u], by omega, ?_, ?_⟩
  · simp
  · refine ⟨-((u / m : Nat) : Int), ?_⟩
    have h := Nat.div_add_mod u m
    have h2 : (u : Int) = m * ((u / m : Nat) : Int) + ((u % m : Nat) : Int) := by rw [← Int.natCast_mul, ← Int.natCast_add, h]
    simp only [sgt]
    rw [Int.mul_neg]
    simp only [if_true]
    omega
theorem Wm.jump {u m G a b x y p q r s X Y : Nat} {t : Bool} (h : Wm u m G a b x y t) (h1 : a * p = b * q + X) (h2 : b * s = a * r + Y) (h3 : s * X + q * Y = a) (h4 : r * X + p * Y = b) : Wm u m G X Y (x * p + y * q) (y * s + x * r) t := by
  obtain ⟨hg, hs, ⟨k, hk⟩, ⟨l, hl⟩⟩ := h
  refine ⟨by rw [jump_gcd h1 h2 h3 h4]; exact hg, ?_, ⟨p * k - q * l, ?_⟩, ⟨s * l - r * k, ?_⟩⟩
  · rw [← hs, ← h3, ← h4]; grind
  · have e : (X : Int) = a * p - b * q := by have := congrArg (Nat.cast (R := Int)) h1; simp only [Int.natCast_mul, Int.natCast_add] at this; omega
    rw [e, Int.mul_sub, Int.mul_left_comm, ← hk, Int.mul_left_comm, ← hl]
    simp only [Int.natCast_add, Int.natCast_mul]
    generalize sgt t = σ
    grind
  · have e : (Y : Int) = b * s - a * r := by have := congrArg (Nat.cast (R := Int)) h2; simp only [Int.natCast_mul, Int.natCast_add] at this; omega
    rw [e, Int.mul_sub, Int.mul_left_comm, ← hl, Int.mul_left_comm, ← hk]
    simp only [Int.natCast_add, Int.natCast_mul]
    generalize sgt t = σ
    grind
theorem Wm.swap {u m G a b x y : Nat} {t : Bool} (h : Wm u m G a b x y t) : Wm u m G b a y x (!t) := by
  obtain ⟨hg, hs, hk, hl⟩ := h
  refine ⟨by rw [Nat.gcd_comm]; exact hg, by rw [← hs, Nat.add_comm], ?_, ?_⟩
  · rw [sgt_not, Int.neg_mul, Int.neg_mul, Int.sub_neg]; exact hl
  · rw [sgt_not, Int.neg_mul, Int.neg_mul, ← Int.sub_eq_add_neg]; exact hk
/-- The cofactors need no more words than m. -/
theorem Wm.bound {u m G X Y x y p q r s : Nat} {t : Bool} (h : Wm u m G X Y (x * p + y * q) (y * s + x * r) t) (hc : (0 < X ∧ p ≤ r ∧ q ≤ s) ∨ (0 < Y ∧ r ≤ p ∧ s ≤ q)) : x * p + y * q ≤ m ∧ y * s + x * r ≤ m := by
  have hs := h.s
  rcases hc with ⟨h1, h2, h3⟩ | ⟨h1, h2, h3⟩
  · have k1 : y * s + x * r ≤ X * (y * s + x * r) := Nat.le_mul_of_pos_left _ h1
    have k2 : x * p ≤ x * r := Nat.mul_le_mul_left _ h2
    have k3 : y * q ≤ y * s := Nat.mul_le_mul_left _ h3
    omega
  · have k1 : x * p + y * q ≤ Y * (x * p + y * q) := Nat.le_mul_of_pos_left _ h1
    have k2 : x * r ≤ x * p := Nat.mul_le_mul_left _ h2
    have k3 : y * s ≤ y * q := Nat.mul_le_mul_left _ h3
    omega
/-- One step of Euclid's is a jump. -/
theorem jok_step {a b : Nat} (h0 : 0 < b) (h : b ≤ a) : a * 1 = b * (a / b) + a % b ∧ b * 1 = a * 0 + b ∧ 1 * (a % b) + a / b * b = a ∧ 0 * (a % b) + 1 * b = b ∧ (0 < b ∧ 0 ≤ 1 ∧ 1 ≤ a / b) := by
  have h1 := Nat.div_add_mod a b
  have h2 : 0 < a / b := Nat.div_pos h h0
  have h3 : a / b * b = b * (a / b) := Nat.mul_comm _ _
  refine ⟨by omega, by omega, by omega, by omega, h0, by omega, h2⟩

/-- The way in memory: five cells of block h. -/
def Wy (w : World) (h : Nat) (A B X Y : Value) (t : Bool) : Prop := w.heap[h]? = some (.cells #[A, B, X, Y, .bool t] 96 (0, 0))
section
variable {w w' : World} {h : Nat} {A B X Y : Value} {t : Bool}
theorem Wy.lt (k : Wy w h A B X Y t) : h < w.heap.size := by
  rcases Nat.lt_or_ge h w.heap.size with hlt | hge
  · exact hlt
  · unfold Wy at k; rw [Array.getElem?_eq_none hge] at k; cases k
theorem Wy.cells (k : Wy w h A B X Y t) : w.cell? ⟨h, 0, none⟩ = some A ∧ w.cell? ⟨h, 1, none⟩ = some B ∧ w.cell? ⟨h, 2, none⟩ = some X ∧ w.cell? ⟨h, 3, none⟩ = some Y ∧ w.cell? ⟨h, 4, none⟩ = some (.bool t) ∧
    w.frozen? ⟨h, 0, none⟩ = false ∧ w.frozen? ⟨h, 1, none⟩ = false ∧ w.frozen? ⟨h, 2, none⟩ = false ∧ w.frozen? ⟨h, 3, none⟩ = false ∧ w.frozen? ⟨h, 4, none⟩ = false := by
  refine ⟨?_, ?_, ?_, ?_, ?_, frozen_of_row w h _ _ _ k, frozen_of_row w h _ _ _ k, frozen_of_row w h _ _ _ k, frozen_of_row w h _ _ _ k, frozen_of_row w h _ _ _ k⟩ <;> rw [cell_of_row w h _ _ _ (0, 0) k] <;> rfl
theorem Wy.below (k : Wy w h A B X Y t) (hb : Below w.heap.size w w') : Wy w' h A B X Y t := (hb.block h k.lt).trans k
theorem Wy.tch {S : Addr → Prop} (k : Wy w h A B X Y t) (ht : Tch S w w') (hS : ∀ a : Addr, a.block = h → ¬ S a) : Wy w' h A B X Y t := (ht.block h k.lt hS).trans k
theorem Wy.put0 (k : Wy w h A B X Y t) (A' : Value) : Wy (w.setCell ⟨h, 0, none⟩ A') h A' B X Y t := by unfold Wy; rw [heap_setCell_same w h 0 _ _ _ k]; rfl
theorem Wy.put1 (k : Wy w h A B X Y t) (A' : Value) : Wy (w.setCell ⟨h, 1, none⟩ A') h A A' X Y t := by unfold Wy; rw [heap_setCell_same w h 1 _ _ _ k]; rfl
theorem Wy.put2 (k : Wy w h A B X Y t) (A' : Value) : Wy (w.setCell ⟨h, 2, none⟩ A') h A B A' Y t := by unfold Wy; rw [heap_setCell_same w h 2 _ _ _ k]; rfl
theorem Wy.put3 (k : Wy w h A B X Y t) (A' : Value) : Wy (w.setCell ⟨h, 3, none⟩ A') h A B X A' t := by unfold Wy; rw [heap_setCell_same w h 3 _ _ _ k]; rfl
theorem Wy.put4 (k : Wy w h A B X Y t) (b : Bool) : Wy (w.setCell ⟨h, 4, none⟩ (.bool b)) h A B X Y b := by unfold Wy; rw [heap_setCell_same w h 4 _ _ _ k]; rfl
end
/-- Four numbers in blocks of N words each, the first two of n words. -/
structure Four (w : World) (base N n ga gb gx gy : Nat) (La Lb Lx Ly : List Nat) (a b x y : Nat) : Prop where
  dab : ga ≠ gb
  dax : ga ≠ gx
  day : ga ≠ gy
  dbx : gb ≠ gx
  dby : gb ≠ gy
  dxy : gx ≠ gy
  ba : base ≤ ga
  bb : base ≤ gb
  bx : base ≤ gx
  bY : base ≤ gy
  la : La.length = N
  lb : Lb.length = N
  lx : Lx.length = N
  ly : Ly.length = N
  hn : n ≤ N
  hN : N ≤ 68719476736
  wa : Wb w ga 57 La
  wb : Wb w gb 57 Lb
  wx : Wb w gx 57 Lx
  wy : Wb w gy 57 Ly
  va : ev 18446744073709551616 (La.take n) = a
  vb : ev 18446744073709551616 (Lb.take n) = b
  vx : ev 18446744073709551616 Lx = x
  vy : ev 18446744073709551616 Ly = y
theorem Wb.below {w w' : World} {g : Nat} {t : TypeId} {L : List Nat} (h : Wb w g t L) (hb : Below w.heap.size w w') : Wb w' g t L := ⟨h.1.below hb h.1.lt, h.2⟩
section
variable {w w' : World} {base N n ga gb gx gy a b x y : Nat} {La Lb Lx Ly : List Nat}
theorem Four.below (f : Four w base N n ga gb gx gy La Lb Lx Ly a b x y) (hb : Below w.heap.size w w') : Four w' base N n ga gb gx gy La Lb Lx Ly a b x y :=
  ⟨f.dab, f.dax, f.day, f.dbx, f.dby, f.dxy, f.ba, f.bb, f.bx, f.bY, f.la, f.lb, f.lx, f.ly, f.hn, f.hN, f.wa.below hb, f.wb.below hb, f.wx.below hb, f.wy.below hb, f.va, f.vb, f.vx, f.vy⟩
theorem Four.swap (f : Four w base N n ga gb gx gy La Lb Lx Ly a b x y) : Four w base N n gb ga gy gx Lb La Ly Lx b a y x :=
  ⟨f.dab.symm, f.dby, f.dbx, f.day, f.dax, f.dxy.symm, f.bb, f.ba, f.bY, f.bx, f.lb, f.la, f.ly, f.lx, f.hn, f.hN, f.wb, f.wa, f.wy, f.wx, f.vb, f.va, f.vy, f.vx⟩
theorem Four.nva (f : Four w base N n ga gb gx gy La Lb Lx Ly a b x y) : Nv w (some ⟨ga, 0, none⟩) n N a :=
  ⟨_, f.wa.1.rd0.take n, by have := f.la; have := f.hn; simp; omega, f.hn, by have := f.hN; omega, f.wa.2.take n, f.va⟩
theorem Four.nvb (f : Four w base N n ga gb gx gy La Lb Lx Ly a b x y) : Nv w (some ⟨gb, 0, none⟩) n N b := f.swap.nva
theorem Four.nvx (f : Four w base N n ga gb gx gy La Lb Lx Ly a b x y) : Nv w (some ⟨gx, 0, none⟩) N N x :=
  ⟨_, f.wx.1.rd0, f.lx, Nat.le_refl _, by have := f.hN; omega, f.wx.2, f.vx⟩
theorem Four.nvy (f : Four w base N n ga gb gx gy La Lb Lx Ly a b x y) : Nv w (some ⟨gy, 0, none⟩) N N y := f.swap.nvx
end

/-- What room answers: as many words of its own, the number's and noughts. -/
def RoPost (w : World) (N v : Nat) (e : Ending) (w' : World) : Prop :=
  ∃ (g : Nat) (L : List Nat), e = .returned (.slice (some ⟨g, 0, none⟩) N N) ∧ w.heap.size ≤ g ∧ L.length = N ∧ Wb w' g 57 L ∧ ev 18446744073709551616 L = v ∧ Below w.heap.size w w'
set_option maxHeartbeats 400000 in
theorem room_calls (A : Option Addr) (k c N v : Nat) (w : World) (hv : Nv w A k c v) (hk : k ≤ N) (hN : N ≤ 68719476736) :
    Calls Tryz.prog 86 #[.slice A k c, .int .i64 N] w (RoPost w N v) := by
  obtain ⟨us, hr, hul, hc, hc', lu, hv⟩ := hv
  have HK := Lib.hid hul
  have HV := Lib.hid hv
  have HS := Lib.hid (show (List.replicate N 0).length = N from by simp)
  clear hul hv
  go_enter Tryz.func86, Tryz.ntmps86
  go_wp2_with (at_make; refine wpList_make_blk _ rfl _ _ 25 rfl 57 .u64 8 Tryz.underlying25 info_u64 _ _ _ _ N rfl rfl (by omega) (by omega) (by omega) (by omega) ?_)
  intro w1 hb1 hw1 hz1
  have HZ1 := Lib.hid hz1
  have ar1 := Ar.of_wb (wb_made hb1)
  have W1 := wb_made hb1
  have hr1 := hr.below hw1
  have HW1 := Lib.hid W1
  have HBe := Lib.hid hw1
  clear hz1 hb1 hr W1 hw1
  go_wp2_with (refine wpList_copy_ar rfl (.tmp 8) (.tmp 9) _ _ rfl 57 Tryz.underlying25 (by kernel_rfl) A N N k c w.heap.size 0 57 _ us rfl rfl HS.out HK.out hk ar1 hr1 lu (Seg w.heap.size 0 N) (fun j hj => ⟨rfl, Nat.zero_le _, by simp; omega⟩) ?_)
  intro w2 ar2 T2 Z2
  have Wb2 := HW1.out.part (n := N) T2 ar2 (by have := HK.out; simp; omega) (by simp) fun j hj h => by have := h.2.2; simp at this; omega
  have P : Hid (RoPost w N v (.returned (.slice (some ⟨w.heap.size, 0, none⟩) N N)) w2) := Lib.hid (by
    rw [List.drop_of_length_le (by simp), List.append_nil] at Wb2
    refine ⟨_, _, rfl, Nat.le_refl _, by have := HK.out; simp; omega, Wb2, by rw [ev_pad']; exact HV.out, HBe.out.trans (T2.below (B := w.heap.size) (by have := HZ1.out; omega) fun a h => by rw [h.1]; exact Nat.le_refl _)⟩)
  clear ar2 T2 Z2 Wb2 ar1 hr1
  go_wp2
  go_ret
  exact P.out

set_option maxHeartbeats 400000 in
theorem zfill_calls (g p cap n d : Nat) (B : Option Addr) (zs xs : List Nat) (m : Nat) (w : World) (har : Ar w g p 57 zs) (hzl : zs.length = m) (hr : Rd w .u64 B xs) (hn : xs.length = n)
    (lx : Low 18446744073709551616 xs) (hnm : n ≤ m) (hcap : m ≤ cap) (hm : cap ≤ 9223372036854775807) :
    Calls Tryz.prog 108 #[.slice (some ⟨g, p, none⟩) m cap, .slice B n d] w (FiPost w g p m xs) := by
  have HZ := Lib.hid hzl
  have HN := Lib.hid hn
  have hl : ((xs ++ zs.drop n).drop n).length = m - n := by simp; omega
  have HL := Lib.hid hl
  have he : ∀ w1 w2 : World, Ar w1 g p 57 (xs ++ zs.drop n) → Tch (Seg g p m) w w1 → w1.heap.size = w.heap.size → Ar w2 g (p + n) 57 (List.replicate (m - n) 0) → Tch (Seg g (p + n) (m - n)) w1 w2 → w2.heap.size = w1.heap.size →
      FiPost w g p m xs (.returned (.tuple #[])) w2 := by
    subst hn
    intro w1 w2 h1 t1 z1 h2 t2 z2
    exact fill_end hzl hnm h1 t1 z1 h2 t2 z2
  have HE := Lib.hid he
  clear hzl hn hl he
  have hS : ∀ j, j < n → Seg g p m ⟨g, p + j, none⟩ := fun j hj => ⟨rfl, Nat.le_add_right _ _, Nat.add_lt_add_left (by omega) _⟩
  have HS := Lib.hid hS
  have hS2 : ∀ j, j < m - n → Seg g (p + n) (m - n) ⟨g, p + n + j, none⟩ := fun j hj => ⟨rfl, Nat.le_add_right _ _, Nat.add_lt_add_left hj _⟩
  have HS2 := Lib.hid hS2
  clear hS hS2
  by_cases hc : n = cap
  · obtain rfl : n = m := by omega
    subst hc
    have h0 : n - n = 0 := by omega
    have H0 := Lib.hid h0
    clear h0
    go_enter Tryz.func108, Tryz.ntmps108
    go_wp2_with (refine wpList_copy_ar rfl (.tmp 5) (.tmp 6) _ _ rfl 57 Tryz.underlying25 (by kernel_rfl) B n n n d g p 57 zs xs rfl rfl HZ.out HN.out (Nat.le_refl _) har hr lx (Seg g p n) HS.out ?_)
    intro w1 h1 t1 z1
    have Z1 := Lib.hid z1
    clear z1
    have h2 := h1.drop n (by have := HN.out; simp; omega)
    go_wp2_with (refine wpList_clear_ar rfl (.tmp 10) _ rfl 57 Tryz.underlying25 zero_u64 _ 0 _ g (p + n) 57 _ rfl (fun h => by omega) (HL.out.trans H0.out) h2 (Seg g (p + n) (n - n)) (fun j hj => by omega) ?_)
    intro w2 h3 t3 z3
    have Z3 := Lib.hid z3
    clear z3
    go_wp2
    go_end0
    exact HE.out _ _ h1 t1 Z1.out (by rw [H0.out]; exact h3) (by rw [H0.out]; exact t3) Z3.out
  · have hlt : n < cap := by omega
    clear hc
    go_enter Tryz.func108, Tryz.ntmps108
    go_wp2_with (refine wpList_copy_ar rfl (.tmp 5) (.tmp 6) _ _ rfl 57 Tryz.underlying25 (by kernel_rfl) B m cap n d g p 57 zs xs rfl rfl HZ.out HN.out hnm har hr lx (Seg g p m) HS.out ?_)
    intro w1 h1 t1 z1
    have Z1 := Lib.hid z1
    clear z1
    have h2 := h1.drop n (by have := HN.out; have := HZ.out; simp; omega)
    go_wp2_with (refine wpList_clear_ar rfl (.tmp 10) _ rfl 57 Tryz.underlying25 zero_u64 _ (m - n) _ g (p + n) 57 _ rfl (fun h => rfl) HL.out h2 (Seg g (p + n) (m - n)) HS2.out ?_)
    intro w2 h3 t3 z3
    have Z3 := Lib.hid z3
    clear z3
    go_wp2
    go_end0
    exact HE.out _ _ h1 t1 Z1.out h3 t3 Z3.out

end Go.Proofs.YtbcopicoldnahaaGreat
