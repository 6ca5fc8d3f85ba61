/- MillServed and MillFair. No condition. -/
import Derived.Test.YtofnbcfjdngakaaPYc
namespace Go.K
open Go.RowKit
set_option linter.unusedVariables false
set_option linter.unusedSimpArgs false
theorem and_bt2 {x : Int} (k : Nat) : (andI x ((2 ^ k : Nat) : Int) = 0) ↔ bt x k = false := by
  unfold andI bt
  rw [Int.toNat_natCast]
  generalize x.toNat = n
  constructor
  · intro q
    have q2 : n &&& 2 ^ k = 0 := by omega
    have := congrArg (fun z => Nat.testBit z k) q2
    simp only [Nat.testBit_and, Nat.testBit_two_pow_self, Bool.and_true, Nat.zero_testBit] at this
    exact this
  · intro q
    have : n &&& 2 ^ k = 0 := Nat.eq_of_testBit_eq fun i => by
      rw [Nat.testBit_and, Nat.testBit_two_pow, Nat.zero_testBit]
      by_cases e : k = i
      · subst e; rw [q]; rfl
      · rw [decide_eq_false e, Bool.and_false]
    rw [this]; rfl
def nx (L : Int) (c : Cm) : Int := if c.wants < (L + 1) then c.wants else (L + 1)
theorem sane5n (N : Nat) (h : 2100 ≤ N) : F25 N = some true := by
  obtain ⟨n, rfl⟩ : ∃ n, N = n + 2100 := ⟨N - 2100, by omega⟩
  exact sane5 n
end Go.K
