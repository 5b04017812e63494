/-
  Between any number below 2^20 and 200 more there stands a prime.
-/
import Derived.Test.YtofdbihohljmpaaDoorMrA
/-! Between any number below 2^20 and 200 more there stands a prime. -/
namespace Go.Proofs.YtofdbihohljmpaaDoor.MR
set_option linter.unusedVariables false
/-- The product of all numbers up to n. -/
noncomputable def fac (n : Nat) : Nat := Nat.rec (motive := fun _ => Nat) 1 (fun i ih => Nat.mul (Nat.succ i) ih) n
theorem fac_succ (n : Nat) : fac (n + 1) = (n + 1) * fac n := rfl
theorem dvd_fac : ∀ (n d : Nat), 1 ≤ d → d ≤ n → d ∣ fac n
  | 0, d, h1, h2 => by omega
  | n + 1, d, h1, h2 => by
    rw [fac_succ]
    by_cases e : d = n + 1
    · exact ⟨fac n, by rw [e]⟩
    · exact Nat.dvd_trans (dvd_fac n d h1 (by omega)) ⟨n + 1, Nat.mul_comm _ _⟩
noncomputable def isp (n : Nat) : Bool := Nat.beq (Nat.gcd n (fac 1024)) 1
theorem isp_ok {n : Nat} (h : isp n = true) (h1 : 1024 < n) (h2 : n < 1050000) : Pr n := by
  have hg : Nat.gcd n (fac 1024) = 1 := Nat.eq_of_beq_eq_true h
  have key : ∀ d, 2 ≤ d → d ≤ 1024 → ¬ d ∣ n := by
    intro d a b k
    have := Nat.dvd_gcd k (dvd_fac 1024 d (by omega) b)
    rw [hg] at this
    have := Nat.le_of_dvd (by omega) this
    omega
  refine pr_small (by omega) fun d a b k => ?_
  by_cases hd : d ≤ 1024
  · exact key d a hd (Nat.dvd_of_mod_eq_zero k)
  · obtain ⟨c, hc⟩ := Nat.dvd_of_mod_eq_zero k
    have hc2 : 2 ≤ c := by
      rcases Nat.lt_or_ge c 2 with z | z
      · have : c = 0 ∨ c = 1 := by omega
        rcases this with y | y
        · rw [y, Nat.mul_zero] at hc; omega
        · rw [y, Nat.mul_one] at hc; omega
      · exact z
    by_cases hcl : c ≤ 1024
    · exact key c hc2 hcl ⟨d, by rw [hc, Nat.mul_comm]⟩
    · have := Nat.mul_le_mul (show 1025 ≤ d by omega) (show 1025 ≤ c by omega)
      omega
/-- From q down in steps of two. -/
noncomputable def srch (ih : Nat → Bool) (f : Nat) : Nat → Bool :=
  Nat.rec (motive := fun _ => Nat → Bool) (fun _ => false) (fun _ jh q => Bool.rec (motive := fun _ => Bool) (jh (Nat.sub q 2)) (Nat.rec (motive := fun _ => Bool) false (fun m _ => ih (Nat.succ m)) q) (isp q)) f
theorem srch_succ (ih : Nat → Bool) (f q : Nat) : srch ih (f + 1) q = Bool.rec (motive := fun _ => Bool) (srch ih f (Nat.sub q 2)) (Nat.rec (motive := fun _ => Bool) false (fun m _ => ih (Nat.succ m)) q) (isp q) := rfl
theorem srch_ok (ih : Nat → Bool) (p : Nat) : ∀ f q, q + 1 = p + 201 - 2 * (100 - f) → f ≤ 100 → srch ih f q = true → ∃ q, isp q = true ∧ p < q ∧ q ≤ p + 200 ∧ ih q = true
  | 0, q, _, _, h => by simp [srch] at h
  | f + 1, q, e, hf, h => by
    rw [srch_succ] at h
    cases k : isp q
    · rw [k] at h
      exact srch_ok ih p f (q - 2) (by omega) (by omega) h
    · rw [k] at h
      refine ⟨q, k, by omega, by omega, ?_⟩
      obtain ⟨m, rfl⟩ : ∃ m, q = m + 1 := ⟨q - 1, by omega⟩
      exact h
noncomputable def gapc (e k : Nat) : Nat → Bool :=
  Nat.rec (motive := fun _ => Nat → Bool) (fun p => Nat.ble e p) (fun _ ih p => srch ih 100 (Nat.add p 200)) k
theorem gapc_succ (e k p : Nat) : gapc e (k + 1) p = srch (gapc e k) 100 (p + 200) := rfl
/-- A prime stands behind n, at most 200 above it. -/
def Near (n : Nat) : Prop := ∃ q, n < q ∧ q ≤ n + 200 ∧ Pr q
theorem gapc_ok (e : Nat) (he : e < 1049000) : ∀ k p, 1024 < p → gapc e k p = true → ∀ n, p ≤ n → n < e → Near n
  | 0, p, hp, h, n, h1, h2 => by
    have := Nat.le_of_ble_eq_true (show Nat.ble e p = true from h)
    omega
  | k + 1, p, hp, h, n, h1, h2 => by
    rw [gapc_succ] at h
    obtain ⟨q, k1, k2, k3, k4⟩ := srch_ok _ p 100 (p + 200) (by omega) (by omega) h
    by_cases hq : n < q
    · by_cases hq2 : q < 1050000
      · exact ⟨q, hq, by omega, isp_ok k1 (by omega) hq2⟩
      · omega
    · exact gapc_ok e he k q (by omega) k4 n (by omega) h2
theorem g1181 : gapc 12829 60 1181 = true := by decide +kernel
theorem g12829 : gapc 24379 60 12829 = true := by decide +kernel
theorem g24379 : gapc 35869 60 24379 = true := by decide +kernel
theorem g35869 : gapc 47407 60 35869 = true := by decide +kernel
theorem g47407 : gapc 59029 60 47407 = true := by decide +kernel
theorem g59029 : gapc 70507 60 59029 = true := by decide +kernel
theorem g70507 : gapc 82073 60 70507 = true := by decide +kernel
theorem g82073 : gapc 93503 60 82073 = true := by decide +kernel
theorem g93503 : gapc 105071 60 93503 = true := by decide +kernel
theorem g105071 : gapc 116443 60 105071 = true := by decide +kernel
theorem g116443 : gapc 127931 60 116443 = true := by decide +kernel
theorem g127931 : gapc 139459 60 127931 = true := by decide +kernel
theorem g139459 : gapc 150991 60 139459 = true := by decide +kernel
theorem g150991 : gapc 162493 60 150991 = true := by decide +kernel
theorem g162493 : gapc 173933 60 162493 = true := by decide +kernel
theorem g173933 : gapc 185441 60 173933 = true := by decide +kernel
theorem g185441 : gapc 196799 60 185441 = true := by decide +kernel
theorem g196799 : gapc 208337 60 196799 = true := by decide +kernel
theorem g208337 : gapc 219847 60 208337 = true := by decide +kernel
theorem g219847 : gapc 231277 60 219847 = true := by decide +kernel
theorem g231277 : gapc 242789 60 231277 = true := by decide +kernel
theorem g242789 : gapc 254119 60 242789 = true := by decide +kernel
theorem g254119 : gapc 265513 60 254119 = true := by decide +kernel
theorem g265513 : gapc 276977 60 265513 = true := by decide +kernel
theorem g276977 : gapc 288317 60 276977 = true := by decide +kernel
theorem g288317 : gapc 299723 60 288317 = true := by decide +kernel
theorem g299723 : gapc 311203 60 299723 = true := by decide +kernel
theorem g311203 : gapc 322633 60 311203 = true := by decide +kernel
theorem g322633 : gapc 334021 60 322633 = true := by decide +kernel
theorem g334021 : gapc 345463 60 334021 = true := by decide +kernel
theorem g345463 : gapc 356929 60 345463 = true := by decide +kernel
theorem g356929 : gapc 368149 60 356929 = true := by decide +kernel
theorem g368149 : gapc 379541 60 368149 = true := by decide +kernel
theorem g379541 : gapc 390967 60 379541 = true := by decide +kernel
theorem g390967 : gapc 402331 60 390967 = true := by decide +kernel
theorem g402331 : gapc 413737 60 402331 = true := by decide +kernel
theorem g413737 : gapc 425149 60 413737 = true := by decide +kernel
theorem g425149 : gapc 436607 60 425149 = true := by decide +kernel
theorem g436607 : gapc 447943 60 436607 = true := by decide +kernel
theorem g447943 : gapc 459317 60 447943 = true := by decide +kernel
theorem g459317 : gapc 470791 60 459317 = true := by decide +kernel
theorem g470791 : gapc 482123 60 470791 = true := by decide +kernel
theorem g482123 : gapc 493567 60 482123 = true := by decide +kernel
theorem g493567 : gapc 504991 60 493567 = true := by decide +kernel
theorem g504991 : gapc 516469 60 504991 = true := by decide +kernel
theorem g516469 : gapc 527819 60 516469 = true := by decide +kernel
theorem g527819 : gapc 539171 60 527819 = true := by decide +kernel
theorem g539171 : gapc 550489 60 539171 = true := by decide +kernel
theorem g550489 : gapc 561797 60 550489 = true := by decide +kernel
theorem g561797 : gapc 573031 60 561797 = true := by decide +kernel
theorem g573031 : gapc 584447 60 573031 = true := by decide +kernel
theorem g584447 : gapc 595939 60 584447 = true := by decide +kernel
theorem g595939 : gapc 607219 60 595939 = true := by decide +kernel
theorem g607219 : gapc 618637 60 607219 = true := by decide +kernel
theorem g618637 : gapc 630017 60 618637 = true := by decide +kernel
theorem g630017 : gapc 641327 60 630017 = true := by decide +kernel
theorem g641327 : gapc 652759 60 641327 = true := by decide +kernel
theorem g652759 : gapc 664211 60 652759 = true := by decide +kernel
theorem g664211 : gapc 675739 60 664211 = true := by decide +kernel
theorem g675739 : gapc 687139 60 675739 = true := by decide +kernel
theorem g687139 : gapc 698567 60 687139 = true := by decide +kernel
theorem g698567 : gapc 709927 60 698567 = true := by decide +kernel
theorem g709927 : gapc 721181 60 709927 = true := by decide +kernel
theorem g721181 : gapc 732541 60 721181 = true := by decide +kernel
theorem g732541 : gapc 743803 60 732541 = true := by decide +kernel
theorem g743803 : gapc 755147 60 743803 = true := by decide +kernel
theorem g755147 : gapc 766439 60 755147 = true := by decide +kernel
theorem g766439 : gapc 777859 60 766439 = true := by decide +kernel
theorem g777859 : gapc 789377 60 777859 = true := by decide +kernel
theorem g789377 : gapc 800707 60 789377 = true := by decide +kernel
theorem g800707 : gapc 812081 60 800707 = true := by decide +kernel
theorem g812081 : gapc 823421 60 812081 = true := by decide +kernel
theorem g823421 : gapc 834721 60 823421 = true := by decide +kernel
theorem g834721 : gapc 845989 60 834721 = true := by decide +kernel
theorem g845989 : gapc 857471 60 845989 = true := by decide +kernel
theorem g857471 : gapc 868867 60 857471 = true := by decide +kernel
theorem g868867 : gapc 880223 60 868867 = true := by decide +kernel
theorem g880223 : gapc 891577 60 880223 = true := by decide +kernel
theorem g891577 : gapc 903073 60 891577 = true := by decide +kernel
theorem g903073 : gapc 914327 60 903073 = true := by decide +kernel
theorem g914327 : gapc 925697 60 914327 = true := by decide +kernel
theorem g925697 : gapc 937127 60 925697 = true := by decide +kernel
theorem g937127 : gapc 948487 60 937127 = true := by decide +kernel
theorem g948487 : gapc 959759 60 948487 = true := by decide +kernel
theorem g959759 : gapc 971237 60 959759 = true := by decide +kernel
theorem g971237 : gapc 982603 60 971237 = true := by decide +kernel
theorem g982603 : gapc 994069 60 982603 = true := by decide +kernel
theorem g994069 : gapc 1005467 60 994069 = true := by decide +kernel
theorem g1005467 : gapc 1016881 60 1005467 = true := by decide +kernel
theorem g1016881 : gapc 1028273 60 1016881 = true := by decide +kernel
theorem g1028273 : gapc 1039607 60 1028273 = true := by decide +kernel
theorem g1039607 : gapc 1048576 48 1039607 = true := by decide +kernel
theorem prs (p : Nat) (h2 : 2 ≤ p) (h : ∀ d, d < p → 2 ≤ d → p % d ≠ 0) : Pr p := pr_small h2 fun d a b => h d b a
theorem near_all : ∀ n, n < 1048576 → Near n := by
  intro n hn
  by_cases a199 : n < 199
  · exact ⟨199, a199, by omega, prs 199 (by omega) (by decide +kernel)⟩
  by_cases a397 : n < 397
  · exact ⟨397, a397, by omega, prs 397 (by omega) (by decide +kernel)⟩
  by_cases a593 : n < 593
  · exact ⟨593, a593, by omega, prs 593 (by omega) (by decide +kernel)⟩
  by_cases a787 : n < 787
  · exact ⟨787, a787, by omega, prs 787 (by omega) (by decide +kernel)⟩
  by_cases a983 : n < 983
  · exact ⟨983, a983, by omega, prs 983 (by omega) (by decide +kernel)⟩
  by_cases a1181 : n < 1181
  · exact ⟨1181, a1181, by omega, prs 1181 (by omega) (by decide +kernel)⟩
  by_cases h1181 : n < 12829
  · exact gapc_ok 12829 (by omega) 60 1181 (by omega) g1181 n (by omega) h1181
  by_cases h12829 : n < 24379
  · exact gapc_ok 24379 (by omega) 60 12829 (by omega) g12829 n (by omega) h12829
  by_cases h24379 : n < 35869
  · exact gapc_ok 35869 (by omega) 60 24379 (by omega) g24379 n (by omega) h24379
  by_cases h35869 : n < 47407
  · exact gapc_ok 47407 (by omega) 60 35869 (by omega) g35869 n (by omega) h35869
  by_cases h47407 : n < 59029
  · exact gapc_ok 59029 (by omega) 60 47407 (by omega) g47407 n (by omega) h47407
  by_cases h59029 : n < 70507
  · exact gapc_ok 70507 (by omega) 60 59029 (by omega) g59029 n (by omega) h59029
  by_cases h70507 : n < 82073
  · exact gapc_ok 82073 (by omega) 60 70507 (by omega) g70507 n (by omega) h70507
  by_cases h82073 : n < 93503
  · exact gapc_ok 93503 (by omega) 60 82073 (by omega) g82073 n (by omega) h82073
  by_cases h93503 : n < 105071
  · exact gapc_ok 105071 (by omega) 60 93503 (by omega) g93503 n (by omega) h93503
  by_cases h105071 : n < 116443
  · exact gapc_ok 116443 (by omega) 60 105071 (by omega) g105071 n (by omega) h105071
  by_cases h116443 : n < 127931
  · exact gapc_ok 127931 (by omega) 60 116443 (by omega) g116443 n (by omega) h116443
  by_cases h127931 : n < 139459
  · exact gapc_ok 139459 (by omega) 60 127931 (by omega) g127931 n (by omega) h127931
  by_cases h139459 : n < 150991
  · exact gapc_ok 150991 (by omega) 60 139459 (by omega) g139459 n (by omega) h139459
  by_cases h150991 : n < 162493
  · exact gapc_ok 162493 (by omega) 60 150991 (by omega) g150991 n (by omega) h150991
  by_cases h162493 : n < 173933
  · exact gapc_ok 173933 (by omega) 60 162493 (by omega) g162493 n (by omega) h162493
  by_cases h173933 : n < 185441
  · exact gapc_ok 185441 (by omega) 60 173933 (by omega) g173933 n (by omega) h173933
  by_cases h185441 : n < 196799
  · exact gapc_ok 196799 (by omega) 60 185441 (by omega) g185441 n (by omega) h185441
  by_cases h196799 : n < 208337
  · exact gapc_ok 208337 (by omega) 60 196799 (by omega) g196799 n (by omega) h196799
  by_cases h208337 : n < 219847
  · exact gapc_ok 219847 (by omega) 60 208337 (by omega) g208337 n (by omega) h208337
  by_cases h219847 : n < 231277
  · exact gapc_ok 231277 (by omega) 60 219847 (by omega) g219847 n (by omega) h219847
  by_cases h231277 : n < 242789
  · exact gapc_ok 242789 (by omega) 60 231277 (by omega) g231277 n (by omega) h231277
  by_cases h242789 : n < 254119
  · exact gapc_ok 254119 (by omega) 60 242789 (by omega) g242789 n (by omega) h242789
  by_cases h254119 : n < 265513
  · exact gapc_ok 265513 (by omega) 60 254119 (by omega) g254119 n (by omega) h254119
  by_cases h265513 : n < 276977
  · exact gapc_ok 276977 (by omega) 60 265513 (by omega) g265513 n (by omega) h265513
  by_cases h276977 : n < 288317
  · exact gapc_ok 288317 (by omega) 60 276977 (by omega) g276977 n (by omega) h276977
  by_cases h288317 : n < 299723
  · exact gapc_ok 299723 (by omega) 60 288317 (by omega) g288317 n (by omega) h288317
  by_cases h299723 : n < 311203
  · exact gapc_ok 311203 (by omega) 60 299723 (by omega) g299723 n (by omega) h299723
  by_cases h311203 : n < 322633
  · exact gapc_ok 322633 (by omega) 60 311203 (by omega) g311203 n (by omega) h311203
  by_cases h322633 : n < 334021
  · exact gapc_ok 334021 (by omega) 60 322633 (by omega) g322633 n (by omega) h322633
  by_cases h334021 : n < 345463
  · exact gapc_ok 345463 (by omega) 60 334021 (by omega) g334021 n (by omega) h334021
  by_cases h345463 : n < 356929
  · exact gapc_ok 356929 (by omega) 60 345463 (by omega) g345463 n (by omega) h345463
  by_cases h356929 : n < 368149
  · exact gapc_ok 368149 (by omega) 60 356929 (by omega) g356929 n (by omega) h356929
  by_cases h368149 : n < 379541
  · exact gapc_ok 379541 (by omega) 60 368149 (by omega) g368149 n (by omega) h368149
  by_cases h379541 : n < 390967
  · exact gapc_ok 390967 (by omega) 60 379541 (by omega) g379541 n (by omega) h379541
  by_cases h390967 : n < 402331
  · exact gapc_ok 402331 (by omega) 60 390967 (by omega) g390967 n (by omega) h390967
  by_cases h402331 : n < 413737
  · exact gapc_ok 413737 (by omega) 60 402331 (by omega) g402331 n (by omega) h402331
  by_cases h413737 : n < 425149
  · exact gapc_ok 425149 (by omega) 60 413737 (by omega) g413737 n (by omega) h413737
  by_cases h425149 : n < 436607
  · exact gapc_ok 436607 (by omega) 60 425149 (by omega) g425149 n (by omega) h425149
  by_cases h436607 : n < 447943
  · exact gapc_ok 447943 (by omega) 60 436607 (by omega) g436607 n (by omega) h436607
  by_cases h447943 : n < 459317
  · exact gapc_ok 459317 (by omega) 60 447943 (by omega) g447943 n (by omega) h447943
  by_cases h459317 : n < 470791
  · exact gapc_ok 470791 (by omega) 60 459317 (by omega) g459317 n (by omega) h459317
  by_cases h470791 : n < 482123
  · exact gapc_ok 482123 (by omega) 60 470791 (by omega) g470791 n (by omega) h470791
  by_cases h482123 : n < 493567
  · exact gapc_ok 493567 (by omega) 60 482123 (by omega) g482123 n (by omega) h482123
  by_cases h493567 : n < 504991
  · exact gapc_ok 504991 (by omega) 60 493567 (by omega) g493567 n (by omega) h493567
  by_cases h504991 : n < 516469
  · exact gapc_ok 516469 (by omega) 60 504991 (by omega) g504991 n (by omega) h504991
  by_cases h516469 : n < 527819
  · exact gapc_ok 527819 (by omega) 60 516469 (by omega) g516469 n (by omega) h516469
  by_cases h527819 : n < 539171
  · exact gapc_ok 539171 (by omega) 60 527819 (by omega) g527819 n (by omega) h527819
  by_cases h539171 : n < 550489
  · exact gapc_ok 550489 (by omega) 60 539171 (by omega) g539171 n (by omega) h539171
  by_cases h550489 : n < 561797
  · exact gapc_ok 561797 (by omega) 60 550489 (by omega) g550489 n (by omega) h550489
  by_cases h561797 : n < 573031
  · exact gapc_ok 573031 (by omega) 60 561797 (by omega) g561797 n (by omega) h561797
  by_cases h573031 : n < 584447
  · exact gapc_ok 584447 (by omega) 60 573031 (by omega) g573031 n (by omega) h573031
  by_cases h584447 : n < 595939
  · exact gapc_ok 595939 (by omega) 60 584447 (by omega) g584447 n (by omega) h584447
  by_cases h595939 : n < 607219
  · exact gapc_ok 607219 (by omega) 60 595939 (by omega) g595939 n (by omega) h595939
  by_cases h607219 : n < 618637
  · exact gapc_ok 618637 (by omega) 60 607219 (by omega) g607219 n (by omega) h607219
  by_cases h618637 : n < 630017
  · exact gapc_ok 630017 (by omega) 60 618637 (by omega) g618637 n (by omega) h618637
  by_cases h630017 : n < 641327
  · exact gapc_ok 641327 (by omega) 60 630017 (by omega) g630017 n (by omega) h630017
  by_cases h641327 : n < 652759
  · exact gapc_ok 652759 (by omega) 60 641327 (by omega) g641327 n (by omega) h641327
  by_cases h652759 : n < 664211
  · exact gapc_ok 664211 (by omega) 60 652759 (by omega) g652759 n (by omega) h652759
  by_cases h664211 : n < 675739
  · exact gapc_ok 675739 (by omega) 60 664211 (by omega) g664211 n (by omega) h664211
  by_cases h675739 : n < 687139
  · exact gapc_ok 687139 (by omega) 60 675739 (by omega) g675739 n (by omega) h675739
  by_cases h687139 : n < 698567
  · exact gapc_ok 698567 (by omega) 60 687139 (by omega) g687139 n (by omega) h687139
  by_cases h698567 : n < 709927
  · exact gapc_ok 709927 (by omega) 60 698567 (by omega) g698567 n (by omega) h698567
  by_cases h709927 : n < 721181
  · exact gapc_ok 721181 (by omega) 60 709927 (by omega) g709927 n (by omega) h709927
  by_cases h721181 : n < 732541
  · exact gapc_ok 732541 (by omega) 60 721181 (by omega) g721181 n (by omega) h721181
  by_cases h732541 : n < 743803
  · exact gapc_ok 743803 (by omega) 60 732541 (by omega) g732541 n (by omega) h732541
  by_cases h743803 : n < 755147
  · exact gapc_ok 755147 (by omega) 60 743803 (by omega) g743803 n (by omega) h743803
  by_cases h755147 : n < 766439
  · exact gapc_ok 766439 (by omega) 60 755147 (by omega) g755147 n (by omega) h755147
  by_cases h766439 : n < 777859
  · exact gapc_ok 777859 (by omega) 60 766439 (by omega) g766439 n (by omega) h766439
  by_cases h777859 : n < 789377
  · exact gapc_ok 789377 (by omega) 60 777859 (by omega) g777859 n (by omega) h777859
  by_cases h789377 : n < 800707
  · exact gapc_ok 800707 (by omega) 60 789377 (by omega) g789377 n (by omega) h789377
  by_cases h800707 : n < 812081
  · exact gapc_ok 812081 (by omega) 60 800707 (by omega) g800707 n (by omega) h800707
  by_cases h812081 : n < 823421
  · exact gapc_ok 823421 (by omega) 60 812081 (by omega) g812081 n (by omega) h812081
  by_cases h823421 : n < 834721
  · exact gapc_ok 834721 (by omega) 60 823421 (by omega) g823421 n (by omega) h823421
  by_cases h834721 : n < 845989
  · exact gapc_ok 845989 (by omega) 60 834721 (by omega) g834721 n (by omega) h834721
  by_cases h845989 : n < 857471
  · exact gapc_ok 857471 (by omega) 60 845989 (by omega) g845989 n (by omega) h845989
  by_cases h857471 : n < 868867
  · exact gapc_ok 868867 (by omega) 60 857471 (by omega) g857471 n (by omega) h857471
  by_cases h868867 : n < 880223
  · exact gapc_ok 880223 (by omega) 60 868867 (by omega) g868867 n (by omega) h868867
  by_cases h880223 : n < 891577
  · exact gapc_ok 891577 (by omega) 60 880223 (by omega) g880223 n (by omega) h880223
  by_cases h891577 : n < 903073
  · exact gapc_ok 903073 (by omega) 60 891577 (by omega) g891577 n (by omega) h891577
  by_cases h903073 : n < 914327
  · exact gapc_ok 914327 (by omega) 60 903073 (by omega) g903073 n (by omega) h903073
  by_cases h914327 : n < 925697
  · exact gapc_ok 925697 (by omega) 60 914327 (by omega) g914327 n (by omega) h914327
  by_cases h925697 : n < 937127
  · exact gapc_ok 937127 (by omega) 60 925697 (by omega) g925697 n (by omega) h925697
  by_cases h937127 : n < 948487
  · exact gapc_ok 948487 (by omega) 60 937127 (by omega) g937127 n (by omega) h937127
  by_cases h948487 : n < 959759
  · exact gapc_ok 959759 (by omega) 60 948487 (by omega) g948487 n (by omega) h948487
  by_cases h959759 : n < 971237
  · exact gapc_ok 971237 (by omega) 60 959759 (by omega) g959759 n (by omega) h959759
  by_cases h971237 : n < 982603
  · exact gapc_ok 982603 (by omega) 60 971237 (by omega) g971237 n (by omega) h971237
  by_cases h982603 : n < 994069
  · exact gapc_ok 994069 (by omega) 60 982603 (by omega) g982603 n (by omega) h982603
  by_cases h994069 : n < 1005467
  · exact gapc_ok 1005467 (by omega) 60 994069 (by omega) g994069 n (by omega) h994069
  by_cases h1005467 : n < 1016881
  · exact gapc_ok 1016881 (by omega) 60 1005467 (by omega) g1005467 n (by omega) h1005467
  by_cases h1016881 : n < 1028273
  · exact gapc_ok 1028273 (by omega) 60 1016881 (by omega) g1016881 n (by omega) h1016881
  by_cases h1028273 : n < 1039607
  · exact gapc_ok 1039607 (by omega) 60 1028273 (by omega) g1028273 n (by omega) h1028273
  by_cases h1039607 : n < 1048576
  · exact gapc_ok 1048576 (by omega) 48 1039607 (by omega) g1039607 n (by omega) h1039607
  omega
end Go.Proofs.YtofdbihohljmpaaDoor.MR
