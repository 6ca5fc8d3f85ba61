/- Lengths, worths and gains in closed forms; DriftLengths answers true. No condition. -/
import Derived.Test.YtkmnjiejlgoglaaPY2
namespace Go.K
open Go.RowKit
set_option linter.unusedVariables false
set_option linter.unusedSimpArgs false
def bd (B : Int) (l : List Int) : Prop := ∀ v ∈ l, -B ≤ v ∧ v ≤ B
theorem bd_get {B : Int} {l : List Int} (h : bd B l) {i : Nat} {v : Int} (hv : l[i]? = some v) : -B ≤ v ∧ v ≤ B := h v (List.mem_of_getElem? hv)
theorem mul_bd {n c B C : Int} (hn : -B ≤ n ∧ n ≤ B) (hc : 0 ≤ c ∧ c ≤ C) (hB : 0 ≤ B) : -(B * C) ≤ n * c ∧ n * c ≤ B * C := by
  have h1 := Int.mul_le_mul_of_nonneg_right hn.1 hc.1
  have h2 := Int.mul_le_mul_of_nonneg_right hn.2 hc.1
  have h3 := Int.mul_le_mul_of_nonneg_left hc.2 hB
  rw [Int.neg_mul] at h1
  omega
/-! drifts -/
def hasD (n : Nat) (d : Dr) : Prop := 0 ≤ d.fr ∧ d.fr ≤ d.to ∧ d.to < (n : Int)
instance (n : Nat) (d : Dr) : Decidable (hasD n d) := by unfold hasD; infer_instance
/-! links -/
def addL (ix : Int → Int) : List Int → List Ce → List Int
  | ls, [] => ls
  | ls, c :: r => addL ix (ls.set (ix c.ch).toNat ((ls[(ix c.ch).toNat]?).getD 0 + c.ln)) r
def segC (cs : List Ce) (d : Dr) : List Ce := (cs.drop d.fr.toNat).take ((d.to + 1).toNat - d.fr.toNat)
def linksOf (chs : List Ch) (cs : List Ce) (d : Dr) : List Int := addL (fstCh 0 chs) (List.replicate chs.length 0) (segC cs d)
theorem fstCh_lt (k : Int) : ∀ (l : List Ch) (i : Nat), fstCh i l k < (i : Int) + l.length
  | [], i => by simp [fstCh]; omega
  | c :: l, i => by
    unfold fstCh; split
    · simp; omega
    · have := fstCh_lt k l (i + 1); simp; omega
theorem okG_ce {chs : List Ch} {cs : List Ce} (h : okG chs cs) {c : Ce} (hc : c ∈ cs) : vCe c ∧ 0 ≤ fstCh 0 chs c.ch ∧ fstCh 0 chs c.ch < chs.length := by
  have h1 := ((okG_ref chs cs).1 h).2.2.2 c hc
  have := fstCh_lt c.ch chs 0
  exact ⟨h1.1, h1.2, by omega⟩
/-! sums -/
theorem F74l1_eq (l : List Int) (B : Int) (hB : 0 ≤ B ∧ B ≤ 1000000000000) (hb : bd B l) (hn : l.length ≤ 100) : ∀ (m i : Nat) (t : Int), -(B * i) ≤ t ∧ t ≤ B * i → i ≤ l.length → l.length < m + i → F74l1 l m t (i : Int) = some (t + (l.drop i).sum) := by
  intro m; induction m with
  | zero => intro i t ht h0 h; omega
  | succ m ih =>
    intro i t ht h0 h
    show F74b1 l (F74l1 l m) t (i : Int) = _
    unfold F74b1
    rcases drop_cases l i with ⟨h1, h2⟩ | ⟨c, h1, h2, h3⟩
    · rw [if_neg (by omega), h2]; simp
    · have hc := bd_get hb h2
      have e : B * ((i + 1 : Nat) : Int) = B * i + B := by rw [Int.natCast_add, Int.mul_add]; simp
      have hm : B * (i : Int) ≤ 1000000000000 * 100 := Int.mul_le_mul hB.2 (by omega) (by omega) (by omega)
      rw [if_pos (by omega), gdO_pos (by omega), Int.toNat_natCast, h2, bindO_some, h3, ckO_pos (by unfold InR; omega), ckO_pos (by unfold InR; omega), succ_cast, ih (i + 1) _ (by omega) (by omega) (by omega)]
      simp [Int.add_assoc]
theorem F74_eq (N : Nat) (l : List Int) (B : Int) (hB : 0 ≤ B ∧ B ≤ 1000000000000) (hb : bd B l) (hn : l.length ≤ 100) (hN : 101 ≤ N) : F74 N l = some l.sum := by
  unfold F74
  have := F74l1_eq l B hB hb hn N 0 0 (by simp) (by omega) (by omega)
  simpa using this
/-! spans -/
def mn (c : Ch) (n : Int) : Int := if n * c.hi < n * c.lo then n * c.hi else n * c.lo
def mx (c : Ch) (n : Int) : Int := if n * c.hi > n * c.lo then n * c.hi else n * c.lo
def mins (chs : List Ch) (l : List Int) : List Int := List.zipWith mn chs l
def maxs (chs : List Ch) (l : List Int) : List Int := List.zipWith mx chs l
def spanOf (chs : List Ch) (l : List Int) : Int × Int := ((mins chs l).sum, (maxs chs l).sum)
/-! Longer -/
def subAt : Nat → List Int → List Int → List Int
  | _, a, [] => a
  | i, a, x :: r => subAt (i + 1) (a.set i ((a[i]?).getD 0 - x)) r
def bd2 (B C : Int) (i : Nat) (a : List Int) : Prop := ∀ j v, a[j]? = some v → if j < i then -(B + C) ≤ v ∧ v ≤ B + C else -B ≤ v ∧ v ≤ B
def moreOf (chs : List Ch) (cs : List Ce) (a b : Dr) : List Int := subAt 0 (linksOf chs cs a) (linksOf chs cs b)
def longerOf (chs : List Ch) (cs : List Ce) (a b : Dr) : Int := if 0 < (spanOf chs (moreOf chs cs a b)).1 then 1 else if (spanOf chs (moreOf chs cs a b)).2 ≤ 0 then 0 else 2
/-! Truly -/
def trueL : List Ch → List Int → Prop
  | [], _ => True
  | _ :: _, [] => True
  | c :: l, n :: r => (c.lo ≤ n ∧ n ≤ c.hi) ∧ trueL l r
instance trueLD : (l : List Ch) → (r : List Int) → Decidable (trueL l r)
  | [], _ => isTrue trivial
  | _ :: _, [] => isTrue trivial
  | c :: l, n :: r => by unfold trueL; have := trueLD l r; infer_instance
def areL (chs : List Ch) (ls : List Int) : Prop := ls.length = chs.length ∧ trueL chs ls
instance (chs : List Ch) (ls : List Int) : Decidable (areL chs ls) := by unfold areL; infer_instance
def prods (a b : List Int) : List Int := List.zipWith (fun x y => x * y) a b
def trulyR (chs : List Ch) (cs : List Ce) (ls : List Int) (d : Dr) : Int × Int := if okG chs cs then (if areL chs ls then (if hasD cs.length d then ((prods (linksOf chs cs d) ls).sum, 0) else (0, 45)) else (0, 1)) else (0, 42)
/-! worth -/
def worthOf (cs : List Ce) (a b : Int) : Int := (((cs.drop a.toNat).take ((b + 1).toNat - a.toNat)).map Ce.wo).sum
theorem seg_step {cs : List Ce} {a b : Int} {i : Nat} (ha : 0 ≤ a) (hi : a + i ≤ b) {c : Ce} (hc : cs[(a + i).toNat]? = some c) : ((cs.drop (a + i).toNat).take ((b + 1).toNat - (a + i).toNat)).map Ce.wo = c.wo :: ((cs.drop (a + (i + 1 : Nat)).toNat).take ((b + 1).toNat - (a + (i + 1 : Nat)).toNat)).map Ce.wo := by
  have h1 : (a + i).toNat < cs.length := by rcases Nat.lt_or_ge (a + i).toNat cs.length with h | h; exact h; rw [List.getElem?_eq_none h] at hc; cases hc
  rw [List.drop_eq_getElem_cons h1]
  have e : cs[(a + i).toNat] = c := by rw [List.getElem?_eq_getElem h1] at hc; exact Option.some.inj hc
  rw [e, show (b + 1).toNat - (a + i).toNat = ((b + 1).toNat - (a + (i + 1 : Nat)).toNat) + 1 by omega, List.take_succ_cons, List.map_cons, show (a + i).toNat + 1 = (a + (i + 1 : Nat)).toNat by omega]
theorem F76l2_eq (cs : List Ce) (d : Dr) (N : Nat) (ha : 0 ≤ d.fr) (hn : cs.length ≤ 24) : ∀ (m i : Nat) (ws : List Int), ws.length = i → i ≤ 24 → cs.length + 1 < m + i + d.fr.toNat → 1 < m → F76l2 cs d N m ws (d.fr + i) = F76j1 N (ws ++ ((cs.drop (d.fr + i).toNat).take ((d.to + 1).toNat - (d.fr + i).toNat)).map Ce.wo) := by
  intro m; induction m with
  | zero => intro i ws hw h24 h hm; omega
  | succ m ih =>
    intro i ws hw h24 h hm
    show F76b2 cs d N (F76l2 cs d N m) ws (d.fr + i) = _
    unfold F76b2 F76j3
    by_cases h1 : d.fr + i ≤ d.to
    · rw [if_pos h1]
      by_cases h2 : d.fr + (i : Int) < (cs.length : Int)
      · have hc : cs[(d.fr + i).toNat]? = some (cs[(d.fr + i).toNat]'(by omega)) := List.getElem?_eq_getElem _
        rw [if_pos h2, gdO_pos (by omega), hc, bindO_some, gdO_pos (by omega), ckO_pos (by unfold InR; omega), show d.fr + (i : Int) + 1 = d.fr + ((i + 1 : Nat) : Int) by omega, ih (i + 1) _ (by simp [hw]) (by omega) (by omega) (by omega), seg_step ha h1 hc]
        simp
      · rw [if_neg h2, List.drop_eq_nil_of_le (by omega)]; simp
    · rw [if_neg h1, show (d.to + 1).toNat - (d.fr + i).toNat = 0 by omega]; simp
theorem worth_bd {cs : List Ce} (hv : ∀ c ∈ cs, vCe c) (a k : Nat) : bd 10000 (((cs.drop a).take k).map Ce.wo) := fun v hv' => by
  obtain ⟨c, hc, rfl⟩ := List.mem_map.1 hv'
  have := hv c (List.mem_of_mem_drop (List.mem_of_mem_take hc))
  unfold vCe at this; omega
theorem F76_eq (N : Nat) (chs : List Ch) (cs : List Ce) (M : Int → Option Int) (d : Dr) (ha : 0 ≤ d.fr) (hn : cs.length ≤ 24) (hv : ∀ c ∈ cs, vCe c) (hN : 101 ≤ N) : F76 N chs cs M d = some (worthOf cs d.fr d.to) := by
  unfold F76
  have := F76l2_eq cs d N ha hn N 0 [] rfl (by omega) (by omega) (by omega)
  simp only [Int.natCast_zero, Int.add_zero, List.nil_append] at this
  rw [this]
  unfold F76j1
  rw [F74_eq N _ 10000 (by omega) (worth_bd hv _ _) (by simp; omega) hN, bindO_some]; rfl
theorem okG_ces {chs : List Ch} {cs : List Ce} (h : okG chs cs) : ∀ c ∈ cs, vCe c := fun c hc => (okG_ce h hc).1
/-! gains -/
def vGn (a : Gn) : Prop := (0 ≤ a.num ∧ a.num ≤ 1000000) ∧ 1 ≤ a.den ∧ a.den ≤ 1000000
instance (a : Gn) : Decidable (vGn a) := by unfold vGn; infer_instance
theorem F78_eq (a : Gn) : F78 a = some (decide (vGn a)) := by
  unfold F78 vGn; simp only [F59_eq, bindO_some, decide_eq_true_eq]; split
  · by_cases h : 1 ≤ a.den ∧ a.den ≤ 1000000 <;> simp [h, *]
  · exact congrArg some (decide_eq_false (by omega)).symm
theorem F93_eq (a b : Int) : F93 a b = some (if a < b then -1 else if b < a then 1 else 0) := by
  unfold F93 F93j1 F93j2 F100; simp only [bindO_some]; simp
  repeat' split
  all_goals rfl
theorem F79_eq {a b : Gn} (ha : -1000000000 ≤ a.num ∧ a.num ≤ 1000000000) (ha2 : 0 ≤ a.den ∧ a.den ≤ 1000000000) (hb : -1000000000 ≤ b.num ∧ b.num ≤ 1000000000) (hb2 : 0 ≤ b.den ∧ b.den ≤ 1000000000) : F79 a b = some (if a.num * b.den < b.num * a.den then -1 else if b.num * a.den < a.num * b.den then 1 else 0) := by
  have h1 := mul_bd ha hb2 (by omega)
  have h2 := mul_bd hb ha2 (by omega)
  unfold F79
  rw [ckO_pos (by unfold InR; omega), ckO_pos (by unfold InR; omega), F93_eq, bindO_some]
end Go.K
