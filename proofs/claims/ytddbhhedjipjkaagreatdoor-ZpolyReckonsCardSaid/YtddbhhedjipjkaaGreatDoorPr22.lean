/-
  MrZ PrB
-/
import Derived.Test.YtddbhhedjipjkaaGreatDoorPr21
import Derived.Test.YtddbhhedjipjkaaGreatDoorPr09

section
namespace Go.Proofs.YtddbhhedjipjkaaGreatDoor.MR
set_option linter.unusedVariables false
set_option linter.unusedSimpArgs false
theorem asc_ps : Asc ps := by
  have h : ∀ p ∈ ps, 2 ≤ p ∧ ∀ d, d < p → 2 ≤ d → p % d ≠ 0 := by decide +kernel
  have hp : ∀ p ∈ ps, Pr p := fun p hp => pr_small (h p hp).1 fun d h1 h2 => (h p hp).2 d h2 h1
  have go : ∀ l : List Nat, (∀ p ∈ l, Pr p) → l.Pairwise (fun a b => a ≤ b) → Asc l := by
    intro l
    induction l with
    | nil => intro _ _; trivial
    | cons a t ih =>
      intro h1 h2
      rw [List.pairwise_cons] at h2
      exact ⟨h1 a (by simp), h2.1, ih (fun p hp => h1 p (by simp [hp])) h2.2⟩
  exact go ps hp (by decide +kernel)
theorem pr_ps : ∀ p ∈ ps, Pr p := by
  have h : ∀ p ∈ ps, 2 ≤ p ∧ ∀ d, d < p → 2 ≤ d → p % d ≠ 0 := by decide +kernel
  exact fun p hp => pr_small (h p hp).1 fun d h1 h2 => (h p hp).2 d h2 h1
theorem all_ps : ∀ p, Pr p → 11 ≤ p → p ≤ 150 → p ∈ ps := by
  have h : ∀ p, p < 151 → 11 ≤ p → p ∈ ps ∨ ∃ d, d < p ∧ 2 ≤ d ∧ p % d = 0 := by decide +kernel
  intro p hp h1 h2
  rcases h p (by omega) h1 with k | ⟨d, k1, k2, k3⟩
  · exact k
  · rcases hp.2 d (Nat.dvd_of_mod_eq_zero k3) with z | z <;> omega
theorem alls_ps : AllS ps := ⟨ds11, ds13, ds17, ds19, ds23, ds29, ds31, ds37, ds41, ds43, ds47, ds53, ds59, ds61, ds67, ds71, ds73, ds79, ds83, ds89, ds97, ds101, ds103, ds107, ds109, ds113, ds127, ds131, ds137, ds139, ds149, trivial⟩
theorem ap_small : ∀ q, Pr q → 150 < q → q < 217 → Ap q := by
  have h : ∀ q, q < 217 → 150 < q → q ∈ ([151, 157, 163, 167, 173, 179, 181, 191, 193, 197, 199, 211] : List Nat) ∨ ∃ d, d < q ∧ 2 ≤ d ∧ q % d = 0 := by decide +kernel
  intro q hq h1 h2
  rcases h q h2 h1 with k | ⟨d, k1, k2, k3⟩
  · simp only [List.mem_cons, List.not_mem_nil, or_false] at k
    rcases k with rfl | rfl | rfl | rfl | rfl | rfl | rfl | rfl | rfl | rfl | rfl | rfl
    · exact apq_ok hq (by omega) ap151
    · exact apq_ok hq (by omega) ap157
    · exact apq_ok hq (by omega) ap163
    · exact apq_ok hq (by omega) ap167
    · exact apq_ok hq (by omega) ap173
    · exact apq_ok hq (by omega) ap179
    · exact apq_ok hq (by omega) ap181
    · exact apq_ok hq (by omega) ap191
    · exact apq_ok hq (by omega) ap193
    · exact apq_ok hq (by omega) ap197
    · exact apq_ok hq (by omega) ap199
    · exact apq_ok hq (by omega) ap211
  · rcases hq.2 d (Nat.dvd_of_mod_eq_zero k3) with z | z <;> omega
theorem ap_all : ∀ q, Pr q → 150 < q → q < 46341 → Ap q := by
  intro q hq h1 h2
  have hodd : q % 2 = 1 := by
    rcases Nat.mod_two_eq_zero_or_one q with z | z
    · rcases hq.2 2 (Nat.dvd_of_mod_eq_zero z) with k | k <;> omega
    · exact z
  by_cases h0 : q < 217
  · exact ap_small q hq h1 h0
  by_cases h217 : q < 229
  · have e : q = 217 + 2 * ((q - 217) / 2) := by omega
    rw [e] at hq ⊢
    exact apRange_ok 217 (by omega) 6 apr217 _ (by omega) hq
  by_cases h229 : q < 239
  · have e : q = 229 + 2 * ((q - 229) / 2) := by omega
    rw [e] at hq ⊢
    exact apRange_ok 229 (by omega) 5 apr229 _ (by omega) hq
  by_cases h239 : q < 257
  · have e : q = 239 + 2 * ((q - 239) / 2) := by omega
    rw [e] at hq ⊢
    exact apRange_ok 239 (by omega) 9 apr239 _ (by omega) hq
  by_cases h257 : q < 271
  · have e : q = 257 + 2 * ((q - 257) / 2) := by omega
    rw [e] at hq ⊢
    exact apRange_ok 257 (by omega) 7 apr257 _ (by omega) hq
  by_cases h271 : q < 293
  · have e : q = 271 + 2 * ((q - 271) / 2) := by omega
    rw [e] at hq ⊢
    exact apRange_ok 271 (by omega) 11 apr271 _ (by omega) hq
  by_cases h293 : q < 313
  · have e : q = 293 + 2 * ((q - 293) / 2) := by omega
    rw [e] at hq ⊢
    exact apRange_ok 293 (by omega) 10 apr293 _ (by omega) hq
  by_cases h313 : q < 349
  · have e : q = 313 + 2 * ((q - 313) / 2) := by omega
    rw [e] at hq ⊢
    exact apRange_ok 313 (by omega) 18 apr313 _ (by omega) hq
  by_cases h349 : q < 389
  · have e : q = 349 + 2 * ((q - 349) / 2) := by omega
    rw [e] at hq ⊢
    exact apRange_ok 349 (by omega) 20 apr349 _ (by omega) hq
  by_cases h389 : q < 443
  · have e : q = 389 + 2 * ((q - 389) / 2) := by omega
    rw [e] at hq ⊢
    exact apRange_ok 389 (by omega) 27 apr389 _ (by omega) hq
  by_cases h443 : q < 503
  · have e : q = 443 + 2 * ((q - 443) / 2) := by omega
    rw [e] at hq ⊢
    exact apRange_ok 443 (by omega) 30 apr443 _ (by omega) hq
  by_cases h503 : q < 613
  · have e : q = 503 + 2 * ((q - 503) / 2) := by omega
    rw [e] at hq ⊢
    exact apRange_ok 503 (by omega) 55 apr503 _ (by omega) hq
  by_cases h613 : q < 761
  · have e : q = 613 + 2 * ((q - 613) / 2) := by omega
    rw [e] at hq ⊢
    exact apRange_ok 613 (by omega) 74 apr613 _ (by omega) hq
  by_cases h761 : q < 1033
  · have e : q = 761 + 2 * ((q - 761) / 2) := by omega
    rw [e] at hq ⊢
    exact apRange_ok 761 (by omega) 136 apr761 _ (by omega) hq
  by_cases h1033 : q < 1607
  · have e : q = 1033 + 2 * ((q - 1033) / 2) := by omega
    rw [e] at hq ⊢
    exact apRange_ok 1033 (by omega) 287 apr1033 _ (by omega) hq
  by_cases h1607 : q < 2407
  · have e : q = 1607 + 2 * ((q - 1607) / 2) := by omega
    rw [e] at hq ⊢
    exact apRange_ok 1607 (by omega) 400 apr1607 _ (by omega) hq
  by_cases h2407 : q < 3207
  · have e : q = 2407 + 2 * ((q - 2407) / 2) := by omega
    rw [e] at hq ⊢
    exact apRange_ok 2407 (by omega) 400 apr2407 _ (by omega) hq
  by_cases h3207 : q < 4007
  · have e : q = 3207 + 2 * ((q - 3207) / 2) := by omega
    rw [e] at hq ⊢
    exact apRange_ok 3207 (by omega) 400 apr3207 _ (by omega) hq
  by_cases h4007 : q < 4807
  · have e : q = 4007 + 2 * ((q - 4007) / 2) := by omega
    rw [e] at hq ⊢
    exact apRange_ok 4007 (by omega) 400 apr4007 _ (by omega) hq
  by_cases h4807 : q < 5607
  · have e : q = 4807 + 2 * ((q - 4807) / 2) := by omega
    rw [e] at hq ⊢
    exact apRange_ok 4807 (by omega) 400 apr4807 _ (by omega) hq
  by_cases h5607 : q < 6407
  · have e : q = 5607 + 2 * ((q - 5607) / 2) := by omega
    rw [e] at hq ⊢
    exact apRange_ok 5607 (by omega) 400 apr5607 _ (by omega) hq
  by_cases h6407 : q < 7207
  · have e : q = 6407 + 2 * ((q - 6407) / 2) := by omega
    rw [e] at hq ⊢
    exact apRange_ok 6407 (by omega) 400 apr6407 _ (by omega) hq
  by_cases h7207 : q < 8007
  · have e : q = 7207 + 2 * ((q - 7207) / 2) := by omega
    rw [e] at hq ⊢
    exact apRange_ok 7207 (by omega) 400 apr7207 _ (by omega) hq
  by_cases h8007 : q < 8807
  · have e : q = 8007 + 2 * ((q - 8007) / 2) := by omega
    rw [e] at hq ⊢
    exact apRange_ok 8007 (by omega) 400 apr8007 _ (by omega) hq
  by_cases h8807 : q < 9607
  · have e : q = 8807 + 2 * ((q - 8807) / 2) := by omega
    rw [e] at hq ⊢
    exact apRange_ok 8807 (by omega) 400 apr8807 _ (by omega) hq
  by_cases h9607 : q < 10407
  · have e : q = 9607 + 2 * ((q - 9607) / 2) := by omega
    rw [e] at hq ⊢
    exact apRange_ok 9607 (by omega) 400 apr9607 _ (by omega) hq
  by_cases h10407 : q < 11207
  · have e : q = 10407 + 2 * ((q - 10407) / 2) := by omega
    rw [e] at hq ⊢
    exact apRange_ok 10407 (by omega) 400 apr10407 _ (by omega) hq
  by_cases h11207 : q < 12007
  · have e : q = 11207 + 2 * ((q - 11207) / 2) := by omega
    rw [e] at hq ⊢
    exact apRange_ok 11207 (by omega) 400 apr11207 _ (by omega) hq
  by_cases h12007 : q < 12807
  · have e : q = 12007 + 2 * ((q - 12007) / 2) := by omega
    rw [e] at hq ⊢
    exact apRange_ok 12007 (by omega) 400 apr12007 _ (by omega) hq
  by_cases h12807 : q < 13607
  · have e : q = 12807 + 2 * ((q - 12807) / 2) := by omega
    rw [e] at hq ⊢
    exact apRange_ok 12807 (by omega) 400 apr12807 _ (by omega) hq
  by_cases h13607 : q < 14407
  · have e : q = 13607 + 2 * ((q - 13607) / 2) := by omega
    rw [e] at hq ⊢
    exact apRange_ok 13607 (by omega) 400 apr13607 _ (by omega) hq
  by_cases h14407 : q < 15207
  · have e : q = 14407 + 2 * ((q - 14407) / 2) := by omega
    rw [e] at hq ⊢
    exact apRange_ok 14407 (by omega) 400 apr14407 _ (by omega) hq
  by_cases h15207 : q < 16007
  · have e : q = 15207 + 2 * ((q - 15207) / 2) := by omega
    rw [e] at hq ⊢
    exact apRange_ok 15207 (by omega) 400 apr15207 _ (by omega) hq
  by_cases h16007 : q < 16807
  · have e : q = 16007 + 2 * ((q - 16007) / 2) := by omega
    rw [e] at hq ⊢
    exact apRange_ok 16007 (by omega) 400 apr16007 _ (by omega) hq
  by_cases h16807 : q < 17607
  · have e : q = 16807 + 2 * ((q - 16807) / 2) := by omega
    rw [e] at hq ⊢
    exact apRange_ok 16807 (by omega) 400 apr16807 _ (by omega) hq
  by_cases h17607 : q < 18407
  · have e : q = 17607 + 2 * ((q - 17607) / 2) := by omega
    rw [e] at hq ⊢
    exact apRange_ok 17607 (by omega) 400 apr17607 _ (by omega) hq
  by_cases h18407 : q < 19207
  · have e : q = 18407 + 2 * ((q - 18407) / 2) := by omega
    rw [e] at hq ⊢
    exact apRange_ok 18407 (by omega) 400 apr18407 _ (by omega) hq
  by_cases h19207 : q < 20007
  · have e : q = 19207 + 2 * ((q - 19207) / 2) := by omega
    rw [e] at hq ⊢
    exact apRange_ok 19207 (by omega) 400 apr19207 _ (by omega) hq
  by_cases h20007 : q < 20807
  · have e : q = 20007 + 2 * ((q - 20007) / 2) := by omega
    rw [e] at hq ⊢
    exact apRange_ok 20007 (by omega) 400 apr20007 _ (by omega) hq
  by_cases h20807 : q < 21607
  · have e : q = 20807 + 2 * ((q - 20807) / 2) := by omega
    rw [e] at hq ⊢
    exact apRange_ok 20807 (by omega) 400 apr20807 _ (by omega) hq
  by_cases h21607 : q < 22407
  · have e : q = 21607 + 2 * ((q - 21607) / 2) := by omega
    rw [e] at hq ⊢
    exact apRange_ok 21607 (by omega) 400 apr21607 _ (by omega) hq
  by_cases h22407 : q < 23207
  · have e : q = 22407 + 2 * ((q - 22407) / 2) := by omega
    rw [e] at hq ⊢
    exact apRange_ok 22407 (by omega) 400 apr22407 _ (by omega) hq
  by_cases h23207 : q < 24007
  · have e : q = 23207 + 2 * ((q - 23207) / 2) := by omega
    rw [e] at hq ⊢
    exact apRange_ok 23207 (by omega) 400 apr23207 _ (by omega) hq
  by_cases h24007 : q < 24807
  · have e : q = 24007 + 2 * ((q - 24007) / 2) := by omega
    rw [e] at hq ⊢
    exact apRange_ok 24007 (by omega) 400 apr24007 _ (by omega) hq
  by_cases h24807 : q < 25607
  · have e : q = 24807 + 2 * ((q - 24807) / 2) := by omega
    rw [e] at hq ⊢
    exact apRange_ok 24807 (by omega) 400 apr24807 _ (by omega) hq
  by_cases h25607 : q < 26407
  · have e : q = 25607 + 2 * ((q - 25607) / 2) := by omega
    rw [e] at hq ⊢
    exact apRange_ok 25607 (by omega) 400 apr25607 _ (by omega) hq
  by_cases h26407 : q < 27207
  · have e : q = 26407 + 2 * ((q - 26407) / 2) := by omega
    rw [e] at hq ⊢
    exact apRange_ok 26407 (by omega) 400 apr26407 _ (by omega) hq
  by_cases h27207 : q < 28007
  · have e : q = 27207 + 2 * ((q - 27207) / 2) := by omega
    rw [e] at hq ⊢
    exact apRange_ok 27207 (by omega) 400 apr27207 _ (by omega) hq
  by_cases h28007 : q < 28807
  · have e : q = 28007 + 2 * ((q - 28007) / 2) := by omega
    rw [e] at hq ⊢
    exact apRange_ok 28007 (by omega) 400 apr28007 _ (by omega) hq
  by_cases h28807 : q < 29607
  · have e : q = 28807 + 2 * ((q - 28807) / 2) := by omega
    rw [e] at hq ⊢
    exact apRange_ok 28807 (by omega) 400 apr28807 _ (by omega) hq
  by_cases h29607 : q < 30407
  · have e : q = 29607 + 2 * ((q - 29607) / 2) := by omega
    rw [e] at hq ⊢
    exact apRange_ok 29607 (by omega) 400 apr29607 _ (by omega) hq
  by_cases h30407 : q < 31207
  · have e : q = 30407 + 2 * ((q - 30407) / 2) := by omega
    rw [e] at hq ⊢
    exact apRange_ok 30407 (by omega) 400 apr30407 _ (by omega) hq
  by_cases h31207 : q < 32007
  · have e : q = 31207 + 2 * ((q - 31207) / 2) := by omega
    rw [e] at hq ⊢
    exact apRange_ok 31207 (by omega) 400 apr31207 _ (by omega) hq
  by_cases h32007 : q < 32807
  · have e : q = 32007 + 2 * ((q - 32007) / 2) := by omega
    rw [e] at hq ⊢
    exact apRange_ok 32007 (by omega) 400 apr32007 _ (by omega) hq
  by_cases h32807 : q < 33607
  · have e : q = 32807 + 2 * ((q - 32807) / 2) := by omega
    rw [e] at hq ⊢
    exact apRange_ok 32807 (by omega) 400 apr32807 _ (by omega) hq
  by_cases h33607 : q < 34407
  · have e : q = 33607 + 2 * ((q - 33607) / 2) := by omega
    rw [e] at hq ⊢
    exact apRange_ok 33607 (by omega) 400 apr33607 _ (by omega) hq
  by_cases h34407 : q < 35207
  · have e : q = 34407 + 2 * ((q - 34407) / 2) := by omega
    rw [e] at hq ⊢
    exact apRange_ok 34407 (by omega) 400 apr34407 _ (by omega) hq
  by_cases h35207 : q < 36007
  · have e : q = 35207 + 2 * ((q - 35207) / 2) := by omega
    rw [e] at hq ⊢
    exact apRange_ok 35207 (by omega) 400 apr35207 _ (by omega) hq
  by_cases h36007 : q < 36807
  · have e : q = 36007 + 2 * ((q - 36007) / 2) := by omega
    rw [e] at hq ⊢
    exact apRange_ok 36007 (by omega) 400 apr36007 _ (by omega) hq
  by_cases h36807 : q < 37607
  · have e : q = 36807 + 2 * ((q - 36807) / 2) := by omega
    rw [e] at hq ⊢
    exact apRange_ok 36807 (by omega) 400 apr36807 _ (by omega) hq
  by_cases h37607 : q < 38407
  · have e : q = 37607 + 2 * ((q - 37607) / 2) := by omega
    rw [e] at hq ⊢
    exact apRange_ok 37607 (by omega) 400 apr37607 _ (by omega) hq
  by_cases h38407 : q < 39207
  · have e : q = 38407 + 2 * ((q - 38407) / 2) := by omega
    rw [e] at hq ⊢
    exact apRange_ok 38407 (by omega) 400 apr38407 _ (by omega) hq
  by_cases h39207 : q < 40007
  · have e : q = 39207 + 2 * ((q - 39207) / 2) := by omega
    rw [e] at hq ⊢
    exact apRange_ok 39207 (by omega) 400 apr39207 _ (by omega) hq
  by_cases h40007 : q < 40807
  · have e : q = 40007 + 2 * ((q - 40007) / 2) := by omega
    rw [e] at hq ⊢
    exact apRange_ok 40007 (by omega) 400 apr40007 _ (by omega) hq
  by_cases h40807 : q < 41607
  · have e : q = 40807 + 2 * ((q - 40807) / 2) := by omega
    rw [e] at hq ⊢
    exact apRange_ok 40807 (by omega) 400 apr40807 _ (by omega) hq
  by_cases h41607 : q < 42407
  · have e : q = 41607 + 2 * ((q - 41607) / 2) := by omega
    rw [e] at hq ⊢
    exact apRange_ok 41607 (by omega) 400 apr41607 _ (by omega) hq
  by_cases h42407 : q < 43207
  · have e : q = 42407 + 2 * ((q - 42407) / 2) := by omega
    rw [e] at hq ⊢
    exact apRange_ok 42407 (by omega) 400 apr42407 _ (by omega) hq
  by_cases h43207 : q < 44007
  · have e : q = 43207 + 2 * ((q - 43207) / 2) := by omega
    rw [e] at hq ⊢
    exact apRange_ok 43207 (by omega) 400 apr43207 _ (by omega) hq
  by_cases h44007 : q < 44807
  · have e : q = 44007 + 2 * ((q - 44007) / 2) := by omega
    rw [e] at hq ⊢
    exact apRange_ok 44007 (by omega) 400 apr44007 _ (by omega) hq
  by_cases h44807 : q < 45607
  · have e : q = 44807 + 2 * ((q - 44807) / 2) := by omega
    rw [e] at hq ⊢
    exact apRange_ok 44807 (by omega) 400 apr44807 _ (by omega) hq
  by_cases h45607 : q < 46341
  · have e : q = 45607 + 2 * ((q - 45607) / 2) := by omega
    rw [e] at hq ⊢
    exact apRange_ok 45607 (by omega) 367 apr45607 _ (by omega) hq
  omega
theorem b_all : ∀ k, k % 2 = 1 → 11 ≤ k → k ≤ 46340 → chkB k = true := by
  intro k hodd h1 h2
  by_cases h11 : k < 2011
  · have e : k = 11 + 2 * ((k - 11) / 2) := by omega
    rw [e]
    exact bRange_ok 11 1000 br11 _ (by omega)
  by_cases h2011 : k < 4011
  · have e : k = 2011 + 2 * ((k - 2011) / 2) := by omega
    rw [e]
    exact bRange_ok 2011 1000 br2011 _ (by omega)
  by_cases h4011 : k < 6011
  · have e : k = 4011 + 2 * ((k - 4011) / 2) := by omega
    rw [e]
    exact bRange_ok 4011 1000 br4011 _ (by omega)
  by_cases h6011 : k < 8011
  · have e : k = 6011 + 2 * ((k - 6011) / 2) := by omega
    rw [e]
    exact bRange_ok 6011 1000 br6011 _ (by omega)
  by_cases h8011 : k < 10011
  · have e : k = 8011 + 2 * ((k - 8011) / 2) := by omega
    rw [e]
    exact bRange_ok 8011 1000 br8011 _ (by omega)
  by_cases h10011 : k < 12011
  · have e : k = 10011 + 2 * ((k - 10011) / 2) := by omega
    rw [e]
    exact bRange_ok 10011 1000 br10011 _ (by omega)
  by_cases h12011 : k < 14011
  · have e : k = 12011 + 2 * ((k - 12011) / 2) := by omega
    rw [e]
    exact bRange_ok 12011 1000 br12011 _ (by omega)
  by_cases h14011 : k < 16011
  · have e : k = 14011 + 2 * ((k - 14011) / 2) := by omega
    rw [e]
    exact bRange_ok 14011 1000 br14011 _ (by omega)
  by_cases h16011 : k < 18011
  · have e : k = 16011 + 2 * ((k - 16011) / 2) := by omega
    rw [e]
    exact bRange_ok 16011 1000 br16011 _ (by omega)
  by_cases h18011 : k < 20011
  · have e : k = 18011 + 2 * ((k - 18011) / 2) := by omega
    rw [e]
    exact bRange_ok 18011 1000 br18011 _ (by omega)
  by_cases h20011 : k < 22011
  · have e : k = 20011 + 2 * ((k - 20011) / 2) := by omega
    rw [e]
    exact bRange_ok 20011 1000 br20011 _ (by omega)
  by_cases h22011 : k < 24011
  · have e : k = 22011 + 2 * ((k - 22011) / 2) := by omega
    rw [e]
    exact bRange_ok 22011 1000 br22011 _ (by omega)
  by_cases h24011 : k < 26011
  · have e : k = 24011 + 2 * ((k - 24011) / 2) := by omega
    rw [e]
    exact bRange_ok 24011 1000 br24011 _ (by omega)
  by_cases h26011 : k < 28011
  · have e : k = 26011 + 2 * ((k - 26011) / 2) := by omega
    rw [e]
    exact bRange_ok 26011 1000 br26011 _ (by omega)
  by_cases h28011 : k < 30011
  · have e : k = 28011 + 2 * ((k - 28011) / 2) := by omega
    rw [e]
    exact bRange_ok 28011 1000 br28011 _ (by omega)
  by_cases h30011 : k < 32011
  · have e : k = 30011 + 2 * ((k - 30011) / 2) := by omega
    rw [e]
    exact bRange_ok 30011 1000 br30011 _ (by omega)
  by_cases h32011 : k < 34011
  · have e : k = 32011 + 2 * ((k - 32011) / 2) := by omega
    rw [e]
    exact bRange_ok 32011 1000 br32011 _ (by omega)
  by_cases h34011 : k < 36011
  · have e : k = 34011 + 2 * ((k - 34011) / 2) := by omega
    rw [e]
    exact bRange_ok 34011 1000 br34011 _ (by omega)
  by_cases h36011 : k < 38011
  · have e : k = 36011 + 2 * ((k - 36011) / 2) := by omega
    rw [e]
    exact bRange_ok 36011 1000 br36011 _ (by omega)
  by_cases h38011 : k < 40011
  · have e : k = 38011 + 2 * ((k - 38011) / 2) := by omega
    rw [e]
    exact bRange_ok 38011 1000 br38011 _ (by omega)
  by_cases h40011 : k < 42011
  · have e : k = 40011 + 2 * ((k - 40011) / 2) := by omega
    rw [e]
    exact bRange_ok 40011 1000 br40011 _ (by omega)
  by_cases h42011 : k < 44011
  · have e : k = 42011 + 2 * ((k - 42011) / 2) := by omega
    rw [e]
    exact bRange_ok 42011 1000 br42011 _ (by omega)
  by_cases h44011 : k < 46011
  · have e : k = 44011 + 2 * ((k - 44011) / 2) := by omega
    rw [e]
    exact bRange_ok 44011 1000 br44011 _ (by omega)
  by_cases h46011 : k < 46341
  · have e : k = 46011 + 2 * ((k - 46011) / 2) := by omega
    rw [e]
    exact bRange_ok 46011 165 br46011 _ (by omega)
  omega
theorem mr_pr {n : Nat} (h2 : 2 ≤ n) (hlt : n < 2147483648) (hm : MrOk n) : Pr n :=
  mr_prime ap_all b_all asc_ps alls_ps pr_ps all_ps h2 hlt hm
end Go.Proofs.YtddbhhedjipjkaaGreatDoor.MR
end

section
namespace Go.Proofs.YtddbhhedjipjkaaGreatDoor
open Go.RowKit
set_option linter.unusedVariables false
set_option linter.unusedSimpArgs false
def PmPost (p : Nat) (w : World) (e : Ending) (w' : World) : Prop := ∃ v : Bool, e = .returned (.bool v) ∧ (v = true ↔ MR.Pr p ∧ p < 2147483648) ∧ w = w'
def TabHas (w : World) : Prop := 2 < w.heap.size ∧ TabAt 2 Lib.deBruijn64tab w
theorem TabHas.below {w w' : World} (h : TabHas w) (hb : Below w.heap.size w w') : TabHas w' :=
  ⟨Nat.lt_of_lt_of_le h.1 hb.size, fun j hj => (hb.cell (p := ⟨2, j, none⟩) h.1).trans (h.2 j hj)⟩
theorem pr_no {p : Nat} (h : MR.Pr p) (c : Nat) (hc : 2 ≤ c) (hne : p ≠ c) (h0 : p % c = 0) : False := by
  rcases h.2 c (Nat.dvd_of_mod_eq_zero h0) with k | k <;> omega
theorem two_adic : ∀ n : Nat, 1 ≤ n → ∃ t d, n = 2 ^ t * d ∧ d % 2 = 1 := by
  intro n
  induction n using Nat.strongRecOn with
  | _ n ih =>
    intro h
    rcases Nat.mod_two_eq_zero_or_one n with z | z
    · obtain ⟨t, d, h1, h2⟩ := ih (n / 2) (by omega) (by omega)
      exact ⟨t + 1, d, by rw [MR.two_pow]; omega, h2⟩
    · exact ⟨0, n, by simp, z⟩
theorem pr_lp {p c : Nat} (h : MR.Pr p) (hc : MR.Pr c) (h3 : 3 ≤ p) (h0 : ¬ p % c = 0) : ∃ t d, p - 1 = 2 ^ t * d ∧ d % 2 = 1 ∧ MR.Sp p c t d := by
  obtain ⟨t, d, h1, h2⟩ := two_adic (p - 1) (by omega)
  refine ⟨t, d, h1, h2, MR.pr_sp h ?_ h1⟩
  intro k
  rcases hc.2 p k with z | z
  · omega
  · rw [z, Nat.mod_self] at h0; exact h0 rfl
def Passed (p k : Nat) : Prop := ∀ c ∈ [2, 3, 5, 7].take k, ¬ c ∣ p ∧ ∃ t d, p - 1 = 2 ^ t * d ∧ d % 2 = 1 ∧ MR.Sp p c t d
theorem Passed.next {p k c : Nat} (h : Passed p k) (h0 : ¬ p % c = 0) (hs : ∃ t d, p - 1 = 2 ^ t * d ∧ d % 2 = 1 ∧ MR.Sp p c t d) (e : [2, 3, 5, 7][k]? = some c) : Passed p (k + 1) := by
  intro b hb
  rw [List.take_add_one, e] at hb
  rcases List.mem_append.1 hb with k | k
  · exact h b k
  · obtain rfl : b = c := by simpa using k
    exact ⟨fun d => h0 (Nat.mod_eq_zero_of_dvd d), hs⟩
theorem Passed.mr {p : Nat} (h : Passed p 4) : MR.MrOk p := by
  intro b hb
  refine h b ?_
  rcases hb with z | z | z | z <;> subst z <;> decide
theorem idx0 (w : World) : (Instr.index 125 (.agg #[.int .u64 2, .int .u64 3, .int .u64 5, .int .u64 7]) (.int .i64 0)).run Tryz.prog w = .ok (.int .u64 2) w := by kernel_rfl
theorem idx1 (w : World) : (Instr.index 125 (.agg #[.int .u64 2, .int .u64 3, .int .u64 5, .int .u64 7]) (.int .i64 1)).run Tryz.prog w = .ok (.int .u64 3) w := by kernel_rfl
theorem idx2 (w : World) : (Instr.index 125 (.agg #[.int .u64 2, .int .u64 3, .int .u64 5, .int .u64 7]) (.int .i64 2)).run Tryz.prog w = .ok (.int .u64 5) w := by kernel_rfl
theorem idx3 (w : World) : (Instr.index 125 (.agg #[.int .u64 2, .int .u64 3, .int .u64 5, .int .u64 7]) (.int .i64 3)).run Tryz.prog w = .ok (.int .u64 7) w := by kernel_rfl
set_option maxRecDepth 100000 in
set_option maxHeartbeats 4000000 in
theorem prime_calls (p : Nat) (w : World) (hp : p < 18446744073709551616) (hT : TabAt 2 Lib.deBruijn64tab w) :
    Calls Tryz.prog 92 #[.int .u64 p] w (PmPost p w) := by
  by_cases h2 : p < 2
  · have P : Hid (PmPost p w (.returned (.bool false)) w) := Lib.hid ⟨false, rfl, ⟨fun h => (by cases h), fun h => by have := h.1.1; omega⟩, rfl⟩
    go_enter Tryz.func92, Tryz.ntmps92
    go_wp2
    go_ret
    exact P.out
  · by_cases hp2 : p < 2147483648
    · have H0 : Hid (Passed p 0) := Lib.hid (fun c hc => by simp at hc)
      have b1 : decide ((p : Int) < 2) = false := decide_eq_false (by omega)
      have b2 : decide ((2147483648 : Int) ≤ (p : Int)) = false := decide_eq_false (by omega)
      go_enter Tryz.func92, Tryz.ntmps92
      go_wp2
      go_loop [12] (fun i => ∃ k : Nat, k ≤ 4 ∧ i = .int .i64 (k : Int) ∧ Hid (1 ≤ k → 3 ≤ p) ∧ Hid (Passed p k)) (fun i => 4 - (intOf i).toNat)
      case atStart => exact ⟨0, by omega, rfl, Lib.hid (fun h => by omega), H0⟩
      case round =>
       clear H0
       obtain ⟨k, hk, hi, HK, HP⟩ := hrel
       have hk' : k = 0 ∨ k = 1 ∨ k = 2 ∨ k = 3 ∨ k = 4 := by omega
       rcases hk' with rfl | rfl | rfl | rfl | rfl
       · obtain rfl := hi.trans (show (Value.int .i64 ((0 : Nat) : Int)) = .int .i64 0 from rfl)
         clear hk
         have x0 := idx0 w
         by_cases h0 : p % 2 = 0
         · have e0 : (p : Int) % 2 = 0 := by omega
           by_cases hc : p = 2
           · subst hc
             have P : Hid (PmPost 2 w (.returned (.bool true)) w) := Lib.hid ⟨true, rfl, ⟨fun _ => ⟨MR.pr2, by omega⟩, fun _ => rfl⟩, rfl⟩
             clear HP HK e0 h0
             go_wp2
             go_ret
             exact P.out
           · have hc' : ((p : Int) == 2) = false := by rw [beq_eq_false_iff_ne]; omega
             have P : Hid (PmPost p w (.returned (.bool false)) w) := Lib.hid ⟨false, rfl, ⟨fun h => (by cases h), fun h => (pr_no h.1 2 (by omega) hc h0).elim⟩, rfl⟩
             clear HP HK h0 hc
             go_wp2
             go_ret
             exact P.out
         · have e0 : ((p : Int) % 2 == 0) = false := by rw [beq_eq_false_iff_ne]; omega
           have h3 : 3 ≤ p := by omega
           clear HK
           go_wp2_with fail
           refine (lp_calls p 2 w h3 hp2 (by omega) (by omega) hT).mono ?_
           rintro e w1 ⟨v, rfl, hv, rfl⟩
           clear e0
           cases v
           · have P : Hid (PmPost p w (.returned (.bool false)) w) := Lib.hid ⟨false, rfl, ⟨fun h => (by cases h), fun h => absurd (hv.2 (pr_lp h.1 MR.pr2 h3 h0)) (by decide)⟩, rfl⟩
             clear HP h0 hv
             go_wp2
             go_ret
             exact P.out
           · have HN : Hid (Passed p 1) := Lib.hid (HP.out.next (c := 2) h0 (hv.1 rfl) rfl)
             clear HP h0 hv
             go_wp2
             go_round
             case rel => exact ⟨1, by omega, by go_num, Lib.hid fun _ => h3, HN⟩
             case measure => simp [intOf]
       · obtain rfl := hi.trans (show (Value.int .i64 ((1 : Nat) : Int)) = .int .i64 1 from rfl)
         clear hk
         have x1 := idx1 w
         by_cases h0 : p % 3 = 0
         · have e0 : (p : Int) % 3 = 0 := by omega
           by_cases hc : p = 3
           · subst hc
             have P : Hid (PmPost 3 w (.returned (.bool true)) w) := Lib.hid ⟨true, rfl, ⟨fun _ => ⟨MR.pr3, by omega⟩, fun _ => rfl⟩, rfl⟩
             clear HP HK e0 h0
             go_wp2
             go_ret
             exact P.out
           · have hc' : ((p : Int) == 3) = false := by rw [beq_eq_false_iff_ne]; omega
             have P : Hid (PmPost p w (.returned (.bool false)) w) := Lib.hid ⟨false, rfl, ⟨fun h => (by cases h), fun h => (pr_no h.1 3 (by omega) hc h0).elim⟩, rfl⟩
             clear HP HK h0 hc
             go_wp2
             go_ret
             exact P.out
         · have e0 : ((p : Int) % 3 == 0) = false := by rw [beq_eq_false_iff_ne]; omega
           have h3 : 3 ≤ p := HK.out (by omega)
           clear HK
           go_wp2_with fail
           refine (lp_calls p 3 w h3 hp2 (by omega) (by omega) hT).mono ?_
           rintro e w1 ⟨v, rfl, hv, rfl⟩
           clear e0
           cases v
           · have P : Hid (PmPost p w (.returned (.bool false)) w) := Lib.hid ⟨false, rfl, ⟨fun h => (by cases h), fun h => absurd (hv.2 (pr_lp h.1 MR.pr3 h3 h0)) (by decide)⟩, rfl⟩
             clear HP h0 hv
             go_wp2
             go_ret
             exact P.out
           · have HN : Hid (Passed p 2) := Lib.hid (HP.out.next (c := 3) h0 (hv.1 rfl) rfl)
             clear HP h0 hv
             go_wp2
             go_round
             case rel => exact ⟨2, by omega, by go_num, Lib.hid fun _ => h3, HN⟩
             case measure => simp [intOf]
       · obtain rfl := hi.trans (show (Value.int .i64 ((2 : Nat) : Int)) = .int .i64 2 from rfl)
         clear hk
         have x2 := idx2 w
         by_cases h0 : p % 5 = 0
         · have e0 : (p : Int) % 5 = 0 := by omega
           by_cases hc : p = 5
           · subst hc
             have P : Hid (PmPost 5 w (.returned (.bool true)) w) := Lib.hid ⟨true, rfl, ⟨fun _ => ⟨MR.pr5, by omega⟩, fun _ => rfl⟩, rfl⟩
             clear HP HK e0 h0
             go_wp2
             go_ret
             exact P.out
           · have hc' : ((p : Int) == 5) = false := by rw [beq_eq_false_iff_ne]; omega
             have P : Hid (PmPost p w (.returned (.bool false)) w) := Lib.hid ⟨false, rfl, ⟨fun h => (by cases h), fun h => (pr_no h.1 5 (by omega) hc h0).elim⟩, rfl⟩
             clear HP HK h0 hc
             go_wp2
             go_ret
             exact P.out
         · have e0 : ((p : Int) % 5 == 0) = false := by rw [beq_eq_false_iff_ne]; omega
           have h3 : 3 ≤ p := HK.out (by omega)
           clear HK
           go_wp2_with fail
           refine (lp_calls p 5 w h3 hp2 (by omega) (by omega) hT).mono ?_
           rintro e w1 ⟨v, rfl, hv, rfl⟩
           clear e0
           cases v
           · have P : Hid (PmPost p w (.returned (.bool false)) w) := Lib.hid ⟨false, rfl, ⟨fun h => (by cases h), fun h => absurd (hv.2 (pr_lp h.1 MR.pr5 h3 h0)) (by decide)⟩, rfl⟩
             clear HP h0 hv
             go_wp2
             go_ret
             exact P.out
           · have HN : Hid (Passed p 3) := Lib.hid (HP.out.next (c := 5) h0 (hv.1 rfl) rfl)
             clear HP h0 hv
             go_wp2
             go_round
             case rel => exact ⟨3, by omega, by go_num, Lib.hid fun _ => h3, HN⟩
             case measure => simp [intOf]
       · obtain rfl := hi.trans (show (Value.int .i64 ((3 : Nat) : Int)) = .int .i64 3 from rfl)
         clear hk
         have x3 := idx3 w
         by_cases h0 : p % 7 = 0
         · have e0 : (p : Int) % 7 = 0 := by omega
           by_cases hc : p = 7
           · subst hc
             have P : Hid (PmPost 7 w (.returned (.bool true)) w) := Lib.hid ⟨true, rfl, ⟨fun _ => ⟨MR.pr7, by omega⟩, fun _ => rfl⟩, rfl⟩
             clear HP HK e0 h0
             go_wp2
             go_ret
             exact P.out
           · have hc' : ((p : Int) == 7) = false := by rw [beq_eq_false_iff_ne]; omega
             have P : Hid (PmPost p w (.returned (.bool false)) w) := Lib.hid ⟨false, rfl, ⟨fun h => (by cases h), fun h => (pr_no h.1 7 (by omega) hc h0).elim⟩, rfl⟩
             clear HP HK h0 hc
             go_wp2
             go_ret
             exact P.out
         · have e0 : ((p : Int) % 7 == 0) = false := by rw [beq_eq_false_iff_ne]; omega
           have h3 : 3 ≤ p := HK.out (by omega)
           clear HK
           go_wp2_with fail
           refine (lp_calls p 7 w h3 hp2 (by omega) (by omega) hT).mono ?_
           rintro e w1 ⟨v, rfl, hv, rfl⟩
           clear e0
           cases v
           · have P : Hid (PmPost p w (.returned (.bool false)) w) := Lib.hid ⟨false, rfl, ⟨fun h => (by cases h), fun h => absurd (hv.2 (pr_lp h.1 MR.pr7 h3 h0)) (by decide)⟩, rfl⟩
             clear HP h0 hv
             go_wp2
             go_ret
             exact P.out
           · have HN : Hid (Passed p 4) := Lib.hid (HP.out.next (c := 7) h0 (hv.1 rfl) rfl)
             clear HP h0 hv
             go_wp2
             go_round
             case rel => exact ⟨4, by omega, by go_num, Lib.hid fun _ => h3, HN⟩
             case measure => simp [intOf]
       · obtain rfl := hi.trans (show (Value.int .i64 ((4 : Nat) : Int)) = .int .i64 4 from rfl)
         clear hk
         have h3 := HK.out (by omega)
         have P : Hid (PmPost p w (.returned (.bool true)) w) := Lib.hid ⟨true, rfl, ⟨fun _ => ⟨MR.mr_pr (by omega) hp2 HP.out.mr, hp2⟩, fun _ => rfl⟩, rfl⟩
         clear HP HK
         go_wp2
         go_ret
         exact P.out
    · have P : Hid (PmPost p w (.returned (.bool false)) w) := Lib.hid ⟨false, rfl, ⟨fun h => (by cases h), fun h => absurd h.2 hp2⟩, rfl⟩
      go_enter Tryz.func92, Tryz.ntmps92
      go_wp2
      go_ret
      exact P.out
end Go.Proofs.YtddbhhedjipjkaaGreatDoor
end
