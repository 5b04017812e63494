/-
  Below 2^31 just the primes are taken for primes by the four bases.
-/
import Derived.Test.YthigedcpiglmnaaDoorMrB0
import Derived.Test.YthigedcpiglmnaaDoorMrB1
import Derived.Test.YthigedcpiglmnaaDoorMrB2
import Derived.Test.YthigedcpiglmnaaDoorMrB3
import Derived.Test.YthigedcpiglmnaaDoorMrC
/-! Below 2^31 just the primes are taken for primes by the four bases. -/
namespace Go.Proofs.YthigedcpiglmnaaDoor.MR
set_option linter.unusedVariables false
set_option linter.unusedSimpArgs false
theorem asc_ps : Asc ps := by
  have h : ∀ p ∈ ps, 2 ≤ p ∧ ∀ d, d < p → 2 ≤ d → p % d ≠ 0 := by decide +kernel
  have hp : ∀ p ∈ ps, Pr p := fun p hp => pr_small (h p hp).1 fun d h1 h2 => (h p hp).2 d h2 h1
  have go : ∀ l : List Nat, (∀ p ∈ l, Pr p) → l.Pairwise (fun a b => a ≤ b) → Asc l := by
    intro l
    induction l with
    | nil => intro _ _; trivial
    | cons a t ih =>
      intro h1 h2
      rw [List.pairwise_cons] at h2
      exact ⟨h1 a (by simp), h2.1, ih (fun p hp => h1 p (by simp [hp])) h2.2⟩
  exact go ps hp (by decide +kernel)
theorem pr_ps : ∀ p ∈ ps, Pr p := by
  have h : ∀ p ∈ ps, 2 ≤ p ∧ ∀ d, d < p → 2 ≤ d → p % d ≠ 0 := by decide +kernel
  exact fun p hp => pr_small (h p hp).1 fun d h1 h2 => (h p hp).2 d h2 h1
theorem all_ps : ∀ p, Pr p → 11 ≤ p → p ≤ 150 → p ∈ ps := by
  have h : ∀ p, p < 151 → 11 ≤ p → p ∈ ps ∨ ∃ d, d < p ∧ 2 ≤ d ∧ p % d = 0 := by decide +kernel
  intro p hp h1 h2
  rcases h p (by omega) h1 with k | ⟨d, k1, k2, k3⟩
  · exact k
  · rcases hp.2 d (Nat.dvd_of_mod_eq_zero k3) with z | z <;> omega
theorem alls_ps : AllS ps := ⟨ds11, ds13, ds17, ds19, ds23, ds29, ds31, ds37, ds41, ds43, ds47, ds53, ds59, ds61, ds67, ds71, ds73, ds79, ds83, ds89, ds97, ds101, ds103, ds107, ds109, ds113, ds127, ds131, ds137, ds139, ds149, trivial⟩
theorem ap_small : ∀ q, Pr q → 150 < q → q < 217 → Ap q := by
  have h : ∀ q, q < 217 → 150 < q → q ∈ ([151, 157, 163, 167, 173, 179, 181, 191, 193, 197, 199, 211] : List Nat) ∨ ∃ d, d < q ∧ 2 ≤ d ∧ q % d = 0 := by decide +kernel
  intro q hq h1 h2
  rcases h q h2 h1 with k | ⟨d, k1, k2, k3⟩
  · simp only [List.mem_cons, List.not_mem_nil, or_false] at k
    rcases k with rfl | rfl | rfl | rfl | rfl | rfl | rfl | rfl | rfl | rfl | rfl | rfl
    · exact apq_ok hq (by omega) ap151
    · exact apq_ok hq (by omega) ap157
    · exact apq_ok hq (by omega) ap163
    · exact apq_ok hq (by omega) ap167
    · exact apq_ok hq (by omega) ap173
    · exact apq_ok hq (by omega) ap179
    · exact apq_ok hq (by omega) ap181
    · exact apq_ok hq (by omega) ap191
    · exact apq_ok hq (by omega) ap193
    · exact apq_ok hq (by omega) ap197
    · exact apq_ok hq (by omega) ap199
    · exact apq_ok hq (by omega) ap211
  · rcases hq.2 d (Nat.dvd_of_mod_eq_zero k3) with z | z <;> omega
theorem ap_all : ∀ q, Pr q → 150 < q → q < 46341 → Ap q := by
  intro q hq h1 h2
  have hodd : q % 2 = 1 := by
    rcases Nat.mod_two_eq_zero_or_one q with z | z
    · rcases hq.2 2 (Nat.dvd_of_mod_eq_zero z) with k | k <;> omega
    · exact z
  by_cases h0 : q < 217
  · exact ap_small q hq h1 h0
  by_cases h217 : q < 229
  · have e : q = 217 + 2 * ((q - 217) / 2) := by omega
    rw [e] at hq ⊢
    exact apRange_ok 217 (by omega) 6 apr217 _ (by omega) hq
  by_cases h229 : q < 239
  · have e : q = 229 + 2 * ((q - 229) / 2) := by omega
    rw [e] at hq ⊢
    exact apRange_ok 229 (by omega) 5 apr229 _ (by omega) hq
  by_cases h239 : q < 257
  · have e : q = 239 + 2 * ((q - 239) / 2) := by omega
    rw [e] at hq ⊢
    exact apRange_ok 239 (by omega) 9 apr239 _ (by omega) hq
  by_cases h257 : q < 271
  · have e : q = 257 + 2 * ((q - 257) / 2) := by omega
    rw [e] at hq ⊢
    exact apRange_ok 257 (by omega) 7 apr257 _ (by omega) hq
  by_cases h271 : q < 293
  · have e : q = 271 + 2 * ((q - 271) / 2) := by omega
    rw [e] at hq ⊢
    exact apRange_ok 271 (by omega) 11 apr271 _ (by omega) hq
  by_cases h293 : q < 313
  · have e : q = 293 + 2 * ((q - 293) / 2) := by omega
    rw [e] at hq ⊢
    exact apRange_ok 293 (by omega) 10 apr293 _ (by omega) hq
  by_cases h313 : q < 349
  · have e : q = 313 + 2 * ((q - 313) / 2) := by omega
    rw [e] at hq ⊢
    exact apRange_ok 313 (by omega) 18 apr313 _ (by omega) hq
  by_cases h349 : q < 389
  · have e : q = 349 + 2 * ((q - 349) / 2) := by omega
    rw [e] at hq ⊢
    exact apRange_ok 349 (by omega) 20 apr349 _ (by omega) hq
  by_cases h389 : q < 443
  · have e : q = 389 + 2 * ((q - 389) / 2) := by omega
    rw [e] at hq ⊢
    exact apRange_ok 389 (by omega) 27 apr389 _ (by omega) hq
  by_cases h443 : q < 503
  · have e : q = 443 + 2 * ((q - 443) / 2) := by omega
    rw [e] at hq ⊢
    exact apRange_ok 443 (by omega) 30 apr443 _ (by omega) hq
  by_cases h503 : q < 613
  · have e : q = 503 + 2 * ((q - 503) / 2) := by omega
    rw [e] at hq ⊢
    exact apRange_ok 503 (by omega) 55 apr503 _ (by omega) hq
  by_cases h613 : q < 761
  · have e : q = 613 + 2 * ((q - 613) / 2) := by omega
    rw [e] at hq ⊢
    exact apRange_ok 613 (by omega) 74 apr613 _ (by omega) hq
  by_cases h761 : q < 1033
  · have e : q = 761 + 2 * ((q - 761) / 2) := by omega
    rw [e] at hq ⊢
    exact apRange_ok 761 (by omega) 136 apr761 _ (by omega) hq
  by_cases h1033 : q < 1607
  · have e : q = 1033 + 2 * ((q - 1033) / 2) := by omega
    rw [e] at hq ⊢
    exact apRange_ok 1033 (by omega) 287 apr1033 _ (by omega) hq
  by_cases h1607 : q < 2407
  · have e : q = 1607 + 2 * ((q - 1607) / 2) := by omega
    rw [e] at hq ⊢
    exact apRange_ok 1607 (by omega) 400 apr1607 _ (by omega) hq
  by_cases h2407 : q < 3207
  · have e : q = 2407 + 2 * ((q - 2407) / 2) := by omega
    rw [e] at hq ⊢
    exact apRange_ok 2407 (by omega) 400 apr2407 _ (by omega) hq
  by_cases h3207 : q < 4007
  · have e : q = 3207 + 2 * ((q - 3207) / 2) := by omega
    rw [e] at hq ⊢
    exact apRange_ok 3207 (by omega) 400 apr3207 _ (by omega) hq
  by_cases h4007 : q < 4807
  · have e : q = 4007 + 2 * ((q - 4007) / 2) := by omega
    rw [e] at hq ⊢
    exact apRange_ok 4007 (by omega) 400 apr4007 _ (by omega) hq
  by_cases h4807 : q < 5607
  · have e : q = 4807 + 2 * ((q - 4807) / 2) := by omega
    rw [e] at hq ⊢
    exact apRange_ok 4807 (by omega) 400 apr4807 _ (by omega) hq
  by_cases h5607 : q < 6407
  · have e : q = 5607 + 2 * ((q - 5607) / 2) := by omega
    rw [e] at hq ⊢
    exact apRange_ok 5607 (by omega) 400 apr5607 _ (by omega) hq
  by_cases h6407 : q < 7207
  · have e : q = 6407 + 2 * ((q - 6407) / 2) := by omega
    rw [e] at hq ⊢
    exact apRange_ok 6407 (by omega) 400 apr6407 _ (by omega) hq
  by_cases h7207 : q < 8007
  · have e : q = 7207 + 2 * ((q - 7207) / 2) := by omega
    rw [e] at hq ⊢
    exact apRange_ok 7207 (by omega) 400 apr7207 _ (by omega) hq
  by_cases h8007 : q < 8807
  · have e : q = 8007 + 2 * ((q - 8007) / 2) := by omega
    rw [e] at hq ⊢
    exact apRange_ok 8007 (by omega) 400 apr8007 _ (by omega) hq
  by_cases h8807 : q < 9607
  · have e : q = 8807 + 2 * ((q - 8807) / 2) := by omega
    rw [e] at hq ⊢
    exact apRange_ok 8807 (by omega) 400 apr8807 _ (by omega) hq
  by_cases h9607 : q < 10407
  · have e : q = 9607 + 2 * ((q - 9607) / 2) := by omega
    rw [e] at hq ⊢
    exact apRange_ok 9607 (by omega) 400 apr9607 _ (by omega) hq
  by_cases h10407 : q < 11207
  · have e : q = 10407 + 2 * ((q - 10407) / 2) := by omega
    rw [e] at hq ⊢
    exact apRange_ok 10407 (by omega) 400 apr10407 _ (by omega) hq
  by_cases h11207 : q < 12007
  · have e : q = 11207 + 2 * ((q - 11207) / 2) := by omega
    rw [e] at hq ⊢
    exact apRange_ok 11207 (by omega) 400 apr11207 _ (by omega) hq
  by_cases h12007 : q < 12807
  · have e : q = 12007 + 2 * ((q - 12007) / 2) := by omega
    rw [e] at hq ⊢
    exact apRange_ok 12007 (by omega) 400 apr12007 _ (by omega) hq
  by_cases h12807 : q < 13607
  · have e : q = 12807 + 2 * ((q - 12807) / 2) := by omega
    rw [e] at hq ⊢
    exact apRange_ok 12807 (by omega) 400 apr12807 _ (by omega) hq
  by_cases h13607 : q < 14407
  · have e : q = 13607 + 2 * ((q - 13607) / 2) := by omega
    rw [e] at hq ⊢
    exact apRange_ok 13607 (by omega) 400 apr13607 _ (by omega) hq
  by_cases h14407 : q < 15207
  · have e : q = 14407 + 2 * ((q - 14407) / 2) := by omega
    rw [e] at hq ⊢
    exact apRange_ok 14407 (by omega) 400 apr14407 _ (by omega) hq
  by_cases h15207 : q < 16007
  · have e : q = 15207 + 2 * ((q - 15207) / 2) := by omega
    rw [e] at hq ⊢
    exact apRange_ok 15207 (by omega) 400 apr15207 _ (by omega) hq
  by_cases h16007 : q < 16807
  · have e : q = 16007 + 2 * ((q - 16007) / 2) := by omega
    rw [e] at hq ⊢
    exact apRange_ok 16007 (by omega) 400 apr16007 _ (by omega) hq
  by_cases h16807 : q < 17607
  · have e : q = 16807 + 2 * ((q - 16807) / 2) := by omega
    rw [e] at hq ⊢
    exact apRange_ok 16807 (by omega) 400 apr16807 _ (by omega) hq
  by_cases h17607 : q < 18407
  · have e : q = 17607 + 2 * ((q - 17607) / 2) := by omega
    rw [e] at hq ⊢
    exact apRange_ok 17607 (by omega) 400 apr17607 _ (by omega) hq
  by_cases h18407 : q < 19207
  · have e : q = 18407 + 2 * ((q - 18407) / 2) := by omega
    rw [e] at hq ⊢
    exact apRange_ok 18407 (by omega) 400 apr18407 _ (by omega) hq
  by_cases h19207 : q < 20007
  · have e : q = 19207 + 2 * ((q - 19207) / 2) := by omega
    rw [e] at hq ⊢
    exact apRange_ok 19207 (by omega) 400 apr19207 _ (by omega) hq
  by_cases h20007 : q < 20807
  · have e : q = 20007 + 2 * ((q - 20007) / 2) := by omega
    rw [e] at hq ⊢
    exact apRange_ok 20007 (by omega) 400 apr20007 _ (by omega) hq
  by_cases h20807 : q < 21607
  · have e : q = 20807 + 2 * ((q - 20807) / 2) := by omega
    rw [e] at hq ⊢
    exact apRange_ok 20807 (by omega) 400 apr20807 _ (by omega) hq
  by_cases h21607 : q < 22407
  · have e : q = 21607 + 2 * ((q - 21607) / 2) := by omega
    rw [e] at hq ⊢
    exact apRange_ok 21607 (by omega) 400 apr21607 _ (by omega) hq
  by_cases h22407 : q < 23207
  · have e : q = 22407 + 2 * ((q - 22407) / 2) := by omega
    rw [e] at hq ⊢
    exact apRange_ok 22407 (by omega) 400 apr22407 _ (by omega) hq
  by_cases h23207 : q < 24007
  · have e : q = 23207 + 2 * ((q - 23207) / 2) := by omega
    rw [e] at hq ⊢
    exact apRange_ok 23207 (by omega) 400 apr23207 _ (by omega) hq
  by_cases h24007 : q < 24807
  · have e : q = 24007 + 2 * ((q - 24007) / 2) := by omega
    rw [e] at hq ⊢
    exact apRange_ok 24007 (by omega) 400 apr24007 _ (by omega) hq
  by_cases h24807 : q < 25607
  · have e : q = 24807 + 2 * ((q - 24807) / 2) := by omega
    rw [e] at hq ⊢
    exact apRange_ok 24807 (by omega) 400 apr24807 _ (by omega) hq
  by_cases h25607 : q < 26407
  · have e : q = 25607 + 2 * ((q - 25607) / 2) := by omega
    rw [e] at hq ⊢
    exact apRange_ok 25607 (by omega) 400 apr25607 _ (by omega) hq
  by_cases h26407 : q < 27207
  · have e : q = 26407 + 2 * ((q - 26407) / 2) := by omega
    rw [e] at hq ⊢
    exact apRange_ok 26407 (by omega) 400 apr26407 _ (by omega) hq
  by_cases h27207 : q < 28007
  · have e : q = 27207 + 2 * ((q - 27207) / 2) := by omega
    rw [e] at hq ⊢
    exact apRange_ok 27207 (by omega) 400 apr27207 _ (by omega) hq
  by_cases h28007 : q < 28807
  · have e : q = 28007 + 2 * ((q - 28007) / 2) := by omega
    rw [e] at hq ⊢
    exact apRange_ok 28007 (by omega) 400 apr28007 _ (by omega) hq
  by_cases h28807 : q < 29607
  · have e : q = 28807 + 2 * ((q - 28807) / 2) := by omega
    rw [e] at hq ⊢
    exact apRange_ok 28807 (by omega) 400 apr28807 _ (by omega) hq
  by_cases h29607 : q < 30407
  · have e : q = 29607 + 2 * ((q - 29607) / 2) := by omega
    rw [e] at hq ⊢
    exact apRange_ok 29607 (by omega) 400 apr29607 _ (by omega) hq
  by_cases h30407 : q < 31207
  · have e : q = 30407 + 2 * ((q - 30407) / 2) := by omega
    rw [e] at hq ⊢
    exact apRange_ok 30407 (by omega) 400 apr30407 _ (by omega) hq
  by_cases h31207 : q < 32007
  · have e : q = 31207 + 2 * ((q - 31207) / 2) := by omega
    rw [e] at hq ⊢
    exact apRange_ok 31207 (by omega) 400 apr31207 _ (by omega) hq
  by_cases h32007 : q < 32807
  · have e : q = 32007 + 2 * ((q - 32007) / 2) := by omega
    rw [e] at hq ⊢
    exact apRange_ok 32007 (by omega) 400 apr32007 _ (by omega) hq
  by_cases h32807 : q < 33607
  · have e : q = 32807 + 2 * ((q - 32807) / 2) := by omega
    rw [e] at hq ⊢
    exact apRange_ok 32807 (by omega) 400 apr32807 _ (by omega) hq
  by_cases h33607 : q < 34407
  · have e : q = 33607 + 2 * ((q - 33607) / 2) := by omega
    rw [e] at hq ⊢
    exact apRange_ok 33607 (by omega) 400 apr33607 _ (by omega) hq
  by_cases h34407 : q < 35207
  · have e : q = 34407 + 2 * ((q - 34407) / 2) := by omega
    rw [e] at hq ⊢
    exact apRange_ok 34407 (by omega) 400 apr34407 _ (by omega) hq
  by_cases h35207 : q < 36007
  · have e : q = 35207 + 2 * ((q - 35207) / 2) := by omega
    rw [e] at hq ⊢
    exact apRange_ok 35207 (by omega) 400 apr35207 _ (by omega) hq
  by_cases h36007 : q < 36807
  · have e : q = 36007 + 2 * ((q - 36007) / 2) := by omega
    rw [e] at hq ⊢
    exact apRange_ok 36007 (by omega) 400 apr36007 _ (by omega) hq
  by_cases h36807 : q < 37607
  · have e : q = 36807 + 2 * ((q - 36807) / 2) := by omega
    rw [e] at hq ⊢
    exact apRange_ok 36807 (by omega) 400 apr36807 _ (by omega) hq
  by_cases h37607 : q < 38407
  · have e : q = 37607 + 2 * ((q - 37607) / 2) := by omega
    rw [e] at hq ⊢
    exact apRange_ok 37607 (by omega) 400 apr37607 _ (by omega) hq
  by_cases h38407 : q < 39207
  · have e : q = 38407 + 2 * ((q - 38407) / 2) := by omega
    rw [e] at hq ⊢
    exact apRange_ok 38407 (by omega) 400 apr38407 _ (by omega) hq
  by_cases h39207 : q < 40007
  · have e : q = 39207 + 2 * ((q - 39207) / 2) := by omega
    rw [e] at hq ⊢
    exact apRange_ok 39207 (by omega) 400 apr39207 _ (by omega) hq
  by_cases h40007 : q < 40807
  · have e : q = 40007 + 2 * ((q - 40007) / 2) := by omega
    rw [e] at hq ⊢
    exact apRange_ok 40007 (by omega) 400 apr40007 _ (by omega) hq
  by_cases h40807 : q < 41607
  · have e : q = 40807 + 2 * ((q - 40807) / 2) := by omega
    rw [e] at hq ⊢
    exact apRange_ok 40807 (by omega) 400 apr40807 _ (by omega) hq
  by_cases h41607 : q < 42407
  · have e : q = 41607 + 2 * ((q - 41607) / 2) := by omega
    rw [e] at hq ⊢
    exact apRange_ok 41607 (by omega) 400 apr41607 _ (by omega) hq
  by_cases h42407 : q < 43207
  · have e : q = 42407 + 2 * ((q - 42407) / 2) := by omega
    rw [e] at hq ⊢
    exact apRange_ok 42407 (by omega) 400 apr42407 _ (by omega) hq
  by_cases h43207 : q < 44007
  · have e : q = 43207 + 2 * ((q - 43207) / 2) := by omega
    rw [e] at hq ⊢
    exact apRange_ok 43207 (by omega) 400 apr43207 _ (by omega) hq
  by_cases h44007 : q < 44807
  · have e : q = 44007 + 2 * ((q - 44007) / 2) := by omega
    rw [e] at hq ⊢
    exact apRange_ok 44007 (by omega) 400 apr44007 _ (by omega) hq
  by_cases h44807 : q < 45607
  · have e : q = 44807 + 2 * ((q - 44807) / 2) := by omega
    rw [e] at hq ⊢
    exact apRange_ok 44807 (by omega) 400 apr44807 _ (by omega) hq
  by_cases h45607 : q < 46341
  · have e : q = 45607 + 2 * ((q - 45607) / 2) := by omega
    rw [e] at hq ⊢
    exact apRange_ok 45607 (by omega) 367 apr45607 _ (by omega) hq
  omega
theorem b_all : ∀ k, k % 2 = 1 → 11 ≤ k → k ≤ 46340 → chkB k = true := by
  intro k hodd h1 h2
  by_cases h11 : k < 2011
  · have e : k = 11 + 2 * ((k - 11) / 2) := by omega
    rw [e]
    exact bRange_ok 11 1000 br11 _ (by omega)
  by_cases h2011 : k < 4011
  · have e : k = 2011 + 2 * ((k - 2011) / 2) := by omega
    rw [e]
    exact bRange_ok 2011 1000 br2011 _ (by omega)
  by_cases h4011 : k < 6011
  · have e : k = 4011 + 2 * ((k - 4011) / 2) := by omega
    rw [e]
    exact bRange_ok 4011 1000 br4011 _ (by omega)
  by_cases h6011 : k < 8011
  · have e : k = 6011 + 2 * ((k - 6011) / 2) := by omega
    rw [e]
    exact bRange_ok 6011 1000 br6011 _ (by omega)
  by_cases h8011 : k < 10011
  · have e : k = 8011 + 2 * ((k - 8011) / 2) := by omega
    rw [e]
    exact bRange_ok 8011 1000 br8011 _ (by omega)
  by_cases h10011 : k < 12011
  · have e : k = 10011 + 2 * ((k - 10011) / 2) := by omega
    rw [e]
    exact bRange_ok 10011 1000 br10011 _ (by omega)
  by_cases h12011 : k < 14011
  · have e : k = 12011 + 2 * ((k - 12011) / 2) := by omega
    rw [e]
    exact bRange_ok 12011 1000 br12011 _ (by omega)
  by_cases h14011 : k < 16011
  · have e : k = 14011 + 2 * ((k - 14011) / 2) := by omega
    rw [e]
    exact bRange_ok 14011 1000 br14011 _ (by omega)
  by_cases h16011 : k < 18011
  · have e : k = 16011 + 2 * ((k - 16011) / 2) := by omega
    rw [e]
    exact bRange_ok 16011 1000 br16011 _ (by omega)
  by_cases h18011 : k < 20011
  · have e : k = 18011 + 2 * ((k - 18011) / 2) := by omega
    rw [e]
    exact bRange_ok 18011 1000 br18011 _ (by omega)
  by_cases h20011 : k < 22011
  · have e : k = 20011 + 2 * ((k - 20011) / 2) := by omega
    rw [e]
    exact bRange_ok 20011 1000 br20011 _ (by omega)
  by_cases h22011 : k < 24011
  · have e : k = 22011 + 2 * ((k - 22011) / 2) := by omega
    rw [e]
    exact bRange_ok 22011 1000 br22011 _ (by omega)
  by_cases h24011 : k < 26011
  · have e : k = 24011 + 2 * ((k - 24011) / 2) := by omega
    rw [e]
    exact bRange_ok 24011 1000 br24011 _ (by omega)
  by_cases h26011 : k < 28011
  · have e : k = 26011 + 2 * ((k - 26011) / 2) := by omega
    rw [e]
    exact bRange_ok 26011 1000 br26011 _ (by omega)
  by_cases h28011 : k < 30011
  · have e : k = 28011 + 2 * ((k - 28011) / 2) := by omega
    rw [e]
    exact bRange_ok 28011 1000 br28011 _ (by omega)
  by_cases h30011 : k < 32011
  · have e : k = 30011 + 2 * ((k - 30011) / 2) := by omega
    rw [e]
    exact bRange_ok 30011 1000 br30011 _ (by omega)
  by_cases h32011 : k < 34011
  · have e : k = 32011 + 2 * ((k - 32011) / 2) := by omega
    rw [e]
    exact bRange_ok 32011 1000 br32011 _ (by omega)
  by_cases h34011 : k < 36011
  · have e : k = 34011 + 2 * ((k - 34011) / 2) := by omega
    rw [e]
    exact bRange_ok 34011 1000 br34011 _ (by omega)
  by_cases h36011 : k < 38011
  · have e : k = 36011 + 2 * ((k - 36011) / 2) := by omega
    rw [e]
    exact bRange_ok 36011 1000 br36011 _ (by omega)
  by_cases h38011 : k < 40011
  · have e : k = 38011 + 2 * ((k - 38011) / 2) := by omega
    rw [e]
    exact bRange_ok 38011 1000 br38011 _ (by omega)
  by_cases h40011 : k < 42011
  · have e : k = 40011 + 2 * ((k - 40011) / 2) := by omega
    rw [e]
    exact bRange_ok 40011 1000 br40011 _ (by omega)
  by_cases h42011 : k < 44011
  · have e : k = 42011 + 2 * ((k - 42011) / 2) := by omega
    rw [e]
    exact bRange_ok 42011 1000 br42011 _ (by omega)
  by_cases h44011 : k < 46011
  · have e : k = 44011 + 2 * ((k - 44011) / 2) := by omega
    rw [e]
    exact bRange_ok 44011 1000 br44011 _ (by omega)
  by_cases h46011 : k < 46341
  · have e : k = 46011 + 2 * ((k - 46011) / 2) := by omega
    rw [e]
    exact bRange_ok 46011 165 br46011 _ (by omega)
  omega
/-- Below 2^31 just the primes are taken for primes by the four bases. -/
theorem mr_pr {n : Nat} (h2 : 2 ≤ n) (hlt : n < 2147483648) (hm : MrOk n) : Pr n :=
  mr_prime ap_all b_all asc_ps alls_ps pr_ps all_ps h2 hlt hm
end Go.Proofs.YthigedcpiglmnaaDoor.MR
