/-
  What the chapter's examples come to.
-/
import Derived.Test.YtmohcanfkcopiaaDoorCase
namespace Go.Proofs.YtmohcanfkcopiaaDoor
theorem ser_0 : serI 0 = [48, 59] := by decide +kernel
theorem ser_m1 : serI (-1) = [45, 49, 59] := by decide +kernel
theorem ser_250 : serI 250 = [50, 53, 48, 59] := by decide +kernel
theorem ser_ab : serT [97, 98] = [50, 58, 97, 98] := by decide +kernel
theorem ser_e : serT [] = [48, 58] := by decide +kernel
theorem ser_l : serL serI [1, -2] = [91, 49, 59, 45, 50, 59, 93] := by decide +kernel
theorem ser_n : serL serI [] = [91, 93] := by decide +kernel
theorem ser_t : serL serT [[], [97]] = [91, 48, 58, 49, 58, 97, 93] := by decide +kernel
theorem bad_1 : badAll [48, 49, 59] = true := by decide +kernel
theorem bad_2 : badAll [43, 49, 59] = true := by decide +kernel
theorem bad_3 : badAll [45, 48, 59] = true := by decide +kernel
theorem bad_4 : badAll [49] = true := by decide +kernel
theorem bad_5 : badAll [51, 58, 97, 98] = true := by decide +kernel
theorem rd_l : valOf (listP intP) (some [91, 49, 59, 45, 50, 59, 93, 51, 59]) = [1, -2] := by decide +kernel
theorem rd_r : restOf (listP intP) (some [91, 49, 59, 45, 50, 59, 93, 51, 59]) = some [51, 59] := by decide +kernel
theorem rd_3 : valOf intP (some [51, 59]) = 3 := by decide +kernel
theorem rd_e : restOf intP (some [51, 59]) = some [] := by decide +kernel
theorem rd_0 : valOf intP (some []) = 0 := by decide +kernel
theorem rd_b : restOf intP (some []) = none := by decide +kernel
end Go.Proofs.YtmohcanfkcopiaaDoor
