/- Turn, and the equality of lists of claims, in closed forms; DriftChecks answers true. No condition. -/
import Derived.Test.YtkmnjiejlgoglaaPY1
namespace Go.K
open Go.RowKit
set_option linter.unusedVariables false
set_option linter.unusedSimpArgs false
theorem cl_eq (x y : Cl) : (decide (x.fam = y.fam) && decide (x.hd = y.hd) && decide (x.fr = y.fr) && decide (x.to = y.to)) = true ↔ x = y := by
  obtain ⟨a, b, c, d⟩ := x; obtain ⟨a', b', c', d'⟩ := y; simp [and_assoc]
theorem F14l3_false (a b : List Cl) (m : Nat) (i : Int) : F14l3 a b (m + 1) false i = some false := by
  show F14b3 a b (F14l3 a b m) false i = _
  unfold F14b3 F14j4 F14j2; simp
theorem F14l3_eq (a b : List Cl) (hl : a.length = b.length) (hn : a.length ≤ 9223372036854775807) : ∀ (m i : Nat), i ≤ a.length → a.length + 1 < m + i → F14l3 a b m true (i : Int) = some (decide (a.drop i = b.drop i)) := by
  intro m; induction m with
  | zero => intro i h0 h; omega
  | succ m ih =>
    intro i h0 h
    show F14b3 a b (F14l3 a b m) true (i : Int) = _
    unfold F14b3 F14j4 F14j2 F14j5
    rcases drop_cases a i with ⟨h1, h2⟩ | ⟨c, h1, h2, h3⟩
    · rw [if_pos rfl, if_neg (by omega), h2, List.drop_eq_nil_of_le (by omega)]; simp
    · rcases drop_cases b i with ⟨g1, g2⟩ | ⟨d, g1, g2, g3⟩
      · omega
      · rw [if_pos rfl, if_pos (by omega), gdO_pos (by omega), Int.toNat_natCast, h2, bindO_some, g2, bindO_some, h3, g3, ckO_pos (inR_succ h1 hn), succ_cast, ih (i + 1) (by omega) (by omega)]
        by_cases e : c = d
        · rw [if_pos ((cl_eq c d).2 e)]; simp [e]
        · rw [if_neg (fun h => e ((cl_eq c d).1 h))]
          obtain ⟨m', rfl⟩ : ∃ m', m = m' + 1 := ⟨m - 1, by omega⟩
          rw [ckO_pos (by unfold InR; omega), F14l3_false]; simp [e]
theorem F14_eq (N : Nat) (a b : List Cl) (hn : a.length ≤ 9223372036854775807) (hN : a.length + 1 < N) : F14 N a b = some (decide (a = b)) := by
  unfold F14 F14j1
  obtain ⟨n, rfl⟩ : ∃ n, N = n + 1 := ⟨N - 1, by omega⟩
  by_cases h : a.length = b.length
  · rw [if_pos (by omega)]
    have := F14l3_eq a b h hn (n + 1) 0 (by omega) (by omega)
    simpa using this
  · rw [if_neg (by omega), F14l3_false]
    have : a ≠ b := fun e => h (by rw [e])
    simp [this]
def turned (l : List Cl) (d : Int) : List Cl := l.drop (d.tmod l.length).toNat ++ l.take (d.tmod l.length).toNat
theorem F60_eq (n : Nat) (a b : List Cl) (h : a.length + b.length ≤ 1000) : F60 (n + 3) [a, b] = some (a ++ b) := by
  have inr : ∀ k : Nat, k ≤ 10000 → InR (k : Int) := fun k hk => by unfold InR; omega
  have fin : F60j2 [a, b] (n + 3) = some (a ++ b) := by
    show F60b3 [a, b] (F60l3 [a, b] (n + 2)) [] 0 = _
    unfold F60b3
    rw [if_pos (by simp), gdO_pos (by decide), show ([a, b] : List (List Cl))[(0 : Int).toNat]? = some a from rfl, bindO_some, gdO_pos (by simp; omega), ckO_pos (by decide)]
    show F60b3 [a, b] (F60l3 [a, b] (n + 1)) ([] ++ a) 1 = _
    unfold F60b3
    rw [if_pos (by simp), gdO_pos (by decide), show ([a, b] : List (List Cl))[(1 : Int).toNat]? = some b from rfl, bindO_some, gdO_pos (by simp; omega), ckO_pos (by decide)]
    show F60b3 [a, b] (F60l3 [a, b] n) ([] ++ a ++ b) 2 = _
    unfold F60b3
    rw [if_neg (by simp)]; simp
  show F60b4 [a, b] (n + 3) (F60l4 [a, b] (n + 3) (n + 2)) 0 0 = _
  unfold F60b4
  rw [if_pos (by simp), gdO_pos (by decide), show ([a, b] : List (List Cl))[(0 : Int).toNat]? = some a from rfl, bindO_some, ckO_pos (by unfold InR; omega), if_neg (by omega), ckO_pos (by decide)]
  show F60b4 [a, b] (n + 3) (F60l4 [a, b] (n + 3) (n + 1)) (0 + (a.length : Int)) 1 = _
  unfold F60b4
  rw [if_pos (by simp), gdO_pos (by decide), show ([a, b] : List (List Cl))[(1 : Int).toNat]? = some b from rfl, bindO_some, ckO_pos (by unfold InR; omega), if_neg (by omega), ckO_pos (by decide)]
  show F60b4 [a, b] (n + 3) (F60l4 [a, b] (n + 3) n) (0 + (a.length : Int) + (b.length : Int)) 2 = _
  unfold F60b4
  rw [if_neg (by simp)]
  unfold F60j1
  rw [if_neg (by omega), ckO_pos (by unfold InR; omega), fin]
  split
  · rw [gdO_pos (by omega)]
  · rfl
theorem F12_eq (N : Nat) (chs : List Ch) (cs : List Ce) (l : List Cl) (d : Int) (hN : 40 ≤ N) : F12 N chs cs l d = some (if okG chs cs then (if okC cs l then (if 0 ≤ d ∧ d ≤ 4166 then (turned l d, 0) else ([], 6)) else ([], 44)) else ([], 42)) := by
  unfold F12
  rw [F17_eq N chs cs l (by omega), bindO_some]
  by_cases h1 : okG chs cs
  · by_cases h2 : okC cs l
    · rw [if_pos h1, if_pos h2, if_pos rfl, F59_eq, bindO_some, if_pos h1, if_pos h2]
      simp only [decide_eq_true_eq]
      by_cases h3 : 0 ≤ d ∧ d ≤ 4166
      · have hl := h2.1
        have e0 : 0 ≤ d.tmod l.length := Int.tmod_nonneg _ h3.1
        have e1 : d.tmod l.length < l.length := Int.tmod_lt_of_pos _ (by omega)
        obtain ⟨n, rfl⟩ : ∃ n, N = n + 3 := ⟨N - 3, by omega⟩
        rw [if_pos h3, if_pos h3, gdO_pos (by omega), gdO_pos e0, gdO_pos (by omega), gdO_pos (by omega), F60_eq n _ _ (by simp; omega), bindO_some]
        unfold turned
        rw [List.take_of_length_le (by simp), List.drop_zero, Nat.sub_zero]
      · rw [if_neg h3, if_neg h3]
    · rw [if_pos h1, if_neg h2, if_neg (by decide), if_pos h1, if_neg h2]
  · rw [if_neg h1, if_neg (by decide), if_neg h1]
theorem turned_len (l : List Cl) (d : Int) : (turned l d).length = l.length := by unfold turned; simp; omega
theorem sane4 (n : Nat) : F11 (n + 60) = some true := by kernel_rfl
end Go.K
