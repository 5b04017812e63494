/-
  Cofactors up to 46340, and numbers of small primes alone.
-/
import Derived.Test.YthigedcpiglmnaaDoorMrA
/-! Cofactors up to 46340, and numbers of small primes alone. -/
namespace Go.Proofs.YthigedcpiglmnaaDoor.MR
set_option linter.unusedVariables false
set_option linter.unusedSimpArgs false
theorem br11 : bRange 11 1000 = true := by decide +kernel
theorem br2011 : bRange 2011 1000 = true := by decide +kernel
theorem br4011 : bRange 4011 1000 = true := by decide +kernel
theorem br6011 : bRange 6011 1000 = true := by decide +kernel
theorem br8011 : bRange 8011 1000 = true := by decide +kernel
theorem br10011 : bRange 10011 1000 = true := by decide +kernel
theorem br12011 : bRange 12011 1000 = true := by decide +kernel
theorem br14011 : bRange 14011 1000 = true := by decide +kernel
theorem br16011 : bRange 16011 1000 = true := by decide +kernel
theorem br18011 : bRange 18011 1000 = true := by decide +kernel
theorem br20011 : bRange 20011 1000 = true := by decide +kernel
theorem br22011 : bRange 22011 1000 = true := by decide +kernel
theorem br24011 : bRange 24011 1000 = true := by decide +kernel
theorem br26011 : bRange 26011 1000 = true := by decide +kernel
theorem br28011 : bRange 28011 1000 = true := by decide +kernel
theorem br30011 : bRange 30011 1000 = true := by decide +kernel
theorem br32011 : bRange 32011 1000 = true := by decide +kernel
theorem br34011 : bRange 34011 1000 = true := by decide +kernel
theorem br36011 : bRange 36011 1000 = true := by decide +kernel
theorem br38011 : bRange 38011 1000 = true := by decide +kernel
theorem br40011 : bRange 40011 1000 = true := by decide +kernel
theorem br42011 : bRange 42011 1000 = true := by decide +kernel
theorem br44011 : bRange 44011 1000 = true := by decide +kernel
theorem br46011 : bRange 46011 165 = true := by decide +kernel
theorem ds11 : dfs [11, 13, 17, 19, 23, 29, 31, 37, 41, 43, 47, 53, 59, 61, 67, 71, 73, 79, 83, 89, 97, 101, 103, 107, 109, 113, 127, 131, 137, 139, 149] 11 = true := by decide +kernel
theorem ds13 : dfs [13, 17, 19, 23, 29, 31, 37, 41, 43, 47, 53, 59, 61, 67, 71, 73, 79, 83, 89, 97, 101, 103, 107, 109, 113, 127, 131, 137, 139, 149] 13 = true := by decide +kernel
theorem ds17 : dfs [17, 19, 23, 29, 31, 37, 41, 43, 47, 53, 59, 61, 67, 71, 73, 79, 83, 89, 97, 101, 103, 107, 109, 113, 127, 131, 137, 139, 149] 17 = true := by decide +kernel
theorem ds19 : dfs [19, 23, 29, 31, 37, 41, 43, 47, 53, 59, 61, 67, 71, 73, 79, 83, 89, 97, 101, 103, 107, 109, 113, 127, 131, 137, 139, 149] 19 = true := by decide +kernel
theorem ds23 : dfs [23, 29, 31, 37, 41, 43, 47, 53, 59, 61, 67, 71, 73, 79, 83, 89, 97, 101, 103, 107, 109, 113, 127, 131, 137, 139, 149] 23 = true := by decide +kernel
theorem ds29 : dfs [29, 31, 37, 41, 43, 47, 53, 59, 61, 67, 71, 73, 79, 83, 89, 97, 101, 103, 107, 109, 113, 127, 131, 137, 139, 149] 29 = true := by decide +kernel
theorem ds31 : dfs [31, 37, 41, 43, 47, 53, 59, 61, 67, 71, 73, 79, 83, 89, 97, 101, 103, 107, 109, 113, 127, 131, 137, 139, 149] 31 = true := by decide +kernel
theorem ds37 : dfs [37, 41, 43, 47, 53, 59, 61, 67, 71, 73, 79, 83, 89, 97, 101, 103, 107, 109, 113, 127, 131, 137, 139, 149] 37 = true := by decide +kernel
theorem ds41 : dfs [41, 43, 47, 53, 59, 61, 67, 71, 73, 79, 83, 89, 97, 101, 103, 107, 109, 113, 127, 131, 137, 139, 149] 41 = true := by decide +kernel
theorem ds43 : dfs [43, 47, 53, 59, 61, 67, 71, 73, 79, 83, 89, 97, 101, 103, 107, 109, 113, 127, 131, 137, 139, 149] 43 = true := by decide +kernel
theorem ds47 : dfs [47, 53, 59, 61, 67, 71, 73, 79, 83, 89, 97, 101, 103, 107, 109, 113, 127, 131, 137, 139, 149] 47 = true := by decide +kernel
theorem ds53 : dfs [53, 59, 61, 67, 71, 73, 79, 83, 89, 97, 101, 103, 107, 109, 113, 127, 131, 137, 139, 149] 53 = true := by decide +kernel
theorem ds59 : dfs [59, 61, 67, 71, 73, 79, 83, 89, 97, 101, 103, 107, 109, 113, 127, 131, 137, 139, 149] 59 = true := by decide +kernel
theorem ds61 : dfs [61, 67, 71, 73, 79, 83, 89, 97, 101, 103, 107, 109, 113, 127, 131, 137, 139, 149] 61 = true := by decide +kernel
theorem ds67 : dfs [67, 71, 73, 79, 83, 89, 97, 101, 103, 107, 109, 113, 127, 131, 137, 139, 149] 67 = true := by decide +kernel
theorem ds71 : dfs [71, 73, 79, 83, 89, 97, 101, 103, 107, 109, 113, 127, 131, 137, 139, 149] 71 = true := by decide +kernel
theorem ds73 : dfs [73, 79, 83, 89, 97, 101, 103, 107, 109, 113, 127, 131, 137, 139, 149] 73 = true := by decide +kernel
theorem ds79 : dfs [79, 83, 89, 97, 101, 103, 107, 109, 113, 127, 131, 137, 139, 149] 79 = true := by decide +kernel
theorem ds83 : dfs [83, 89, 97, 101, 103, 107, 109, 113, 127, 131, 137, 139, 149] 83 = true := by decide +kernel
theorem ds89 : dfs [89, 97, 101, 103, 107, 109, 113, 127, 131, 137, 139, 149] 89 = true := by decide +kernel
theorem ds97 : dfs [97, 101, 103, 107, 109, 113, 127, 131, 137, 139, 149] 97 = true := by decide +kernel
theorem ds101 : dfs [101, 103, 107, 109, 113, 127, 131, 137, 139, 149] 101 = true := by decide +kernel
theorem ds103 : dfs [103, 107, 109, 113, 127, 131, 137, 139, 149] 103 = true := by decide +kernel
theorem ds107 : dfs [107, 109, 113, 127, 131, 137, 139, 149] 107 = true := by decide +kernel
theorem ds109 : dfs [109, 113, 127, 131, 137, 139, 149] 109 = true := by decide +kernel
theorem ds113 : dfs [113, 127, 131, 137, 139, 149] 113 = true := by decide +kernel
theorem ds127 : dfs [127, 131, 137, 139, 149] 127 = true := by decide +kernel
theorem ds131 : dfs [131, 137, 139, 149] 131 = true := by decide +kernel
theorem ds137 : dfs [137, 139, 149] 137 = true := by decide +kernel
theorem ds139 : dfs [139, 149] 139 = true := by decide +kernel
theorem ds149 : dfs [149] 149 = true := by decide +kernel
end Go.Proofs.YthigedcpiglmnaaDoor.MR
