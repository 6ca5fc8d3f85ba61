/- Closed forms of the pure definitions of the checks of grounds and claims, of the program and of the reference. No condition. -/
import Derived.Test.YtkmnjiejlgoglaaPD
import Derived.KernelRfl
namespace Go.K
open Go.RowKit
set_option linter.unusedVariables false
set_option linter.unusedSimpArgs false
theorem bindO_some {α β : Type} (x : α) (k : α → Option β) : bindO (some x) k = k x := rfl
theorem bindS_inl {α β γ : Type} (x : α) (k1 : α → Option γ) (k2 : β → Option γ) : bindS (some (.inl x)) k1 k2 = k1 x := rfl
theorem bindS_inr {α β γ : Type} (x : β) (k1 : α → Option γ) (k2 : β → Option γ) : bindS (some (.inr x)) k1 k2 = k2 x := rfl
theorem bindS3_3 {α β γ δ : Type} (x : γ) (k1 : α → Option δ) (k2 : β → Option δ) (k3 : γ → Option δ) : bindS3 (some (.inr (.inr x))) k1 k2 k3 = k3 x := rfl
theorem gdO_pos {β : Type} {p : Prop} [Decidable p] {k : Option β} (h : p) : gdO p k = k := if_pos h
theorem ckO_pos {β : Type} {n : Int} {k : Option β} (h : InR n) : ckO n k = k := if_pos h
theorem drop_cases {α : Type} (l : List α) (i : Nat) : (l.length ≤ i ∧ l.drop i = []) ∨ (∃ c, i < l.length ∧ l[i]? = some c ∧ l.drop i = c :: l.drop (i + 1)) := by
  rcases Nat.lt_or_ge i l.length with h | h
  · exact .inr ⟨l[i], h, List.getElem?_eq_getElem h, List.drop_eq_getElem_cons h⟩
  · exact .inl ⟨h, List.drop_eq_nil_of_le h⟩
theorem succ_cast (i : Nat) : (i : Int) + 1 = ((i + 1 : Nat) : Int) := by omega
theorem inR_succ {i n : Nat} (h : i < n) (hn : n ≤ 9223372036854775807) : InR ((i : Int) + 1) := by unfold InR; omega
/-! the small checks -/
def vCh (c : Ch) : Prop := (1 ≤ c.lo ∧ c.lo ≤ c.hi ∧ c.hi ≤ 1000) ∧ 1 ≤ c.id ∧ c.id ≤ 99
instance (c : Ch) : Decidable (vCh c) := by unfold vCh; infer_instance
def vCe (c : Ce) : Prop := (1 ≤ c.ch ∧ c.ch ≤ 99) ∧ (1 ≤ c.ln ∧ c.ln ≤ 1000) ∧ 0 ≤ c.wo ∧ c.wo ≤ 10000
instance (c : Ce) : Decidable (vCe c) := by unfold vCe; infer_instance
def vCl (c : Cl) : Prop := (0 ≤ c.fr ∧ c.fr ≤ c.to ∧ c.to < 24) ∧ (1 ≤ c.fam ∧ c.fam ≤ 99) ∧ 1 ≤ c.hd ∧ c.hd ≤ 20
instance (c : Cl) : Decidable (vCl c) := by unfold vCl; infer_instance
theorem F59_eq (a b c : Int) : F59 a b c = some (decide (b ≤ a ∧ a ≤ c)) := by
  unfold F59; repeat' split
  all_goals simp_all <;> omega
theorem F19_eq (c : Ch) : F19 c = some (if vCh c then 0 else 40) := by
  unfold F19 F19j1 vCh; simp only [F59_eq, bindO_some]
  repeat' split
  all_goals simp_all
  all_goals omega
theorem F21_eq (c : Ce) : F21 c = some (if vCe c then 0 else 41) := by
  unfold F21 vCe; simp only [F59_eq, bindO_some]
  repeat' split
  all_goals simp_all
  all_goals omega
theorem F23_eq (c : Cl) : F23 c = some (if vCl c then 0 else 43) := by
  unfold F23 F23j1 vCl; simp only [F59_eq, bindO_some]
  repeat' split
  all_goals simp_all
  all_goals omega
/-! fields -/
def okChs : Int → List Ch → Prop
  | _, [] => True
  | last, c :: l => vCh c ∧ last < c.id ∧ okChs c.id l
def extM : (Int → Option Int) → Nat → List Ch → (Int → Option Int)
  | M, _, [] => M
  | M, i, c :: l => extM (updM M c.id (i : Int)) (i + 1) l
def okCes (M : Int → Option Int) (l : List Ce) : Prop := ∀ c ∈ l, (M c.ch).isSome = true ∧ vCe c
theorem okChs_cons (a : Int) (c : Ch) (l : List Ch) : okChs a (c :: l) ↔ vCh c ∧ a < c.id ∧ okChs c.id l := ⟨fun h => h, fun h => h⟩
instance okChsD : (a : Int) → (l : List Ch) → Decidable (okChs a l)
  | _, [] => isTrue trivial
  | a, c :: l => by unfold okChs; have := okChsD c.id l; infer_instance
instance (M : Int → Option Int) (l : List Ce) : Decidable (okCes M l) := by unfold okCes; infer_instance
theorem okCes_cons (M : Int → Option Int) (c : Ce) (l : List Ce) : okCes M (c :: l) ↔ ((M c.ch).isSome = true ∧ vCe c) ∧ okCes M l := by simp [okCes]
theorem F62l2_eq (cs : List Ce) (M : Int → Option Int) (hn : cs.length ≤ 9223372036854775807) : ∀ (m i : Nat), i ≤ cs.length → cs.length < m + i → F62l2 cs M m (i : Int) = some (if okCes M (cs.drop i) then .inr M else .inl ()) := by
  intro m; induction m with
  | zero => intro i h0 h; omega
  | succ m ih =>
    intro i h0 h
    show F62b2 cs M (F62l2 cs M m) (i : Int) = _
    unfold F62b2 F62j3
    rcases drop_cases cs i with ⟨h1, h2⟩ | ⟨c, h1, h2, h3⟩
    · rw [if_neg (by omega), h2]; simp [okCes]
    · rw [if_pos (by omega), gdO_pos (by omega), Int.toNat_natCast, h2, bindO_some, F21_eq, bindO_some, h3]
      simp only [okCes_cons]
      rw [ckO_pos (inR_succ h1 hn), succ_cast, ih (i + 1) (by omega) (by omega)]
      repeat' split
      all_goals simp_all
theorem F62l4_eq (chs : List Ch) (cs : List Ce) (N : Nat) (hn : chs.length ≤ 9223372036854775807) : ∀ (m i : Nat) (M : Int → Option Int) (last : Int), i ≤ chs.length → chs.length < m + i → F62l4 chs cs N m M last (i : Int) = if okChs last (chs.drop i) then F62j1 cs N (extM M i (chs.drop i)) else some (.inl ()) := by
  intro m; induction m with
  | zero => intro i M last h0 h; omega
  | succ m ih =>
    intro i M last h0 h
    show F62b4 chs cs N (F62l4 chs cs N m) M last (i : Int) = _
    unfold F62b4
    rcases drop_cases chs i with ⟨h1, h2⟩ | ⟨c, h1, h2, h3⟩
    · rw [if_neg (by omega), h2]; simp [okChs, extM]
    · rw [if_pos (by omega), gdO_pos (by omega), Int.toNat_natCast, h2, bindO_some, F19_eq, bindO_some, h3]
      simp only [okChs_cons, extM]
      rw [ckO_pos (inR_succ h1 hn), succ_cast, ih (i + 1) _ _ (by omega) (by omega)]
      by_cases hv : vCh c <;> by_cases hl : c.id ≤ last <;> simp [hv, hl, Int.not_lt.2, Int.not_le.1]
def okG (chs : List Ch) (cs : List Ce) : Prop := (1 ≤ chs.length ∧ chs.length ≤ 6) ∧ (1 ≤ cs.length ∧ cs.length ≤ 24) ∧ okChs 0 chs ∧ okCes (extM noM 0 chs) cs
instance (chs : List Ch) (cs : List Ce) : Decidable (okG chs cs) := by unfold okG; infer_instance
theorem F62_eq (N : Nat) (chs : List Ch) (cs : List Ce) (hN : 30 ≤ N) : F62 N chs cs = some (if okG chs cs then .inr (extM noM 0 chs) else .inl ()) := by
  unfold F62
  simp only [F59_eq, bindO_some, decide_eq_true_eq]
  split
  · split
    · have := F62l4_eq chs cs N (by omega) N 0 noM 0 (by omega) (by omega)
      simp only [List.drop_zero, Int.natCast_zero] at this
      rw [this]
      have h2 := F62l2_eq cs (extM noM 0 chs) (by omega) N 0 (by omega) (by omega)
      simp only [List.drop_zero, Int.natCast_zero] at h2
      unfold F62j1
      rw [h2]
      have e1 : (1 ≤ chs.length ∧ chs.length ≤ 6) = True := eq_true (by omega)
      have e2 : (1 ≤ cs.length ∧ cs.length ≤ 24) = True := eq_true (by omega)
      by_cases h3 : okChs 0 chs <;> simp [okG, h3, e1, e2]
    · rw [if_neg]; unfold okG; omega
  · rw [if_neg]; unfold okG; omega
/-! the reference's -/
/-- The place of the first chain with an id, from a place on; -1: none. -/
def fstCh : Nat → List Ch → Int → Int
  | _, [], _ => -1
  | i, c :: l, k => if c.id = k then (i : Int) else fstCh (i + 1) l k
def okCesR (chs : List Ch) (l : List Ce) : Prop := ∀ c ∈ l, vCe c ∧ 0 ≤ fstCh 0 chs c.ch
instance (M : List Ch) (l : List Ce) : Decidable (okCesR M l) := by unfold okCesR; infer_instance
/-- What the map of the chains' ids has, and what it says. -/
theorem extM_at (k : Int) : ∀ (l : List Ch) (i : Nat) (M : Int → Option Int) (last : Int), okChs last l → extM M i l k = if 0 ≤ fstCh i l k then some (fstCh i l k) else M k
  | [], i, M, last, _ => by simp [extM, fstCh]
  | c :: l, i, M, last, h => by
    obtain ⟨h1, h2, h3⟩ := h
    unfold extM fstCh
    rw [extM_at k l (i + 1) _ c.id h3]
    by_cases e : c.id = k
    · rw [if_pos e, if_pos (show (0 : Int) ≤ i by omega)]
      have : ∀ (l : List Ch) (a : Int) (j : Nat), okChs a l → k ≤ a → fstCh j l k = -1 := by
        intro l
        induction l with
        | nil => intros; rfl
        | cons d l ih =>
          intro a j h hk
          obtain ⟨g1, g2, g3⟩ := h
          unfold fstCh
          rw [if_neg (by omega), ih d.id (j + 1) g3 (by omega)]
      rw [this l c.id (i + 1) h3 (by omega), if_neg (by decide)]
      simp [updM, e]
    · rw [if_neg e]
      have : updM M c.id (i : Int) k = M k := by simp [updM, Ne.symm e]
      rw [this]
theorem okG_ref (chs : List Ch) (cs : List Ce) : okG chs cs ↔ (1 ≤ chs.length ∧ chs.length ≤ 6) ∧ (1 ≤ cs.length ∧ cs.length ≤ 24) ∧ okChs 0 chs ∧ okCesR chs cs := by
  unfold okG
  constructor <;> rintro ⟨h1, h2, h3, h4⟩ <;> refine ⟨h1, h2, h3, fun c hc => ?_⟩
  · have := h4 c hc
    rw [extM_at c.ch chs 0 noM 0 h3] at this
    refine ⟨this.2, ?_⟩
    rcases Int.lt_or_le (fstCh 0 chs c.ch) 0 with h | h
    · rw [if_neg (by omega)] at this; simp [noM] at this
    · exact h
  · have := h4 c hc
    rw [extM_at c.ch chs 0 noM 0 h3, if_pos this.2]
    exact ⟨rfl, this.1⟩
/-! claims -/
/-- That claims are valid for a ground of n cells, where the families of some are there already. -/
def okL (n : Int) : List Int → List Cl → Prop
  | _, [] => True
  | seen, c :: l => vCl c ∧ c.to < n ∧ c.fam ∉ seen ∧ okL n (c.fam :: seen) l
theorem okL_cons (n : Int) (s : List Int) (c : Cl) (l : List Cl) : okL n s (c :: l) ↔ vCl c ∧ c.to < n ∧ c.fam ∉ s ∧ okL n (c.fam :: s) l := ⟨fun h => h, fun h => h⟩
instance okLD : (n : Int) → (s : List Int) → (l : List Cl) → Decidable (okL n s l)
  | _, _, [] => isTrue trivial
  | n, s, c :: l => by unfold okL; have := okLD n (c.fam :: s) l; infer_instance
def isSeen (M : Int → Option Bool) (seen : List Int) : Prop := ∀ k, ((M k).getD false) = decide (k ∈ seen)
theorem isSeen_upd {M : Int → Option Bool} {seen : List Int} (h : isSeen M seen) (k : Int) : isSeen (updM M k true) (k :: seen) := fun j => by
  unfold updM
  by_cases e : j = k
  · simp [e]
  · rw [if_neg e, h j]; simp [e]
theorem F64l1_eq (cs : List Ce) (l : List Cl) (M : Int → Option Int) (hn : l.length ≤ 9223372036854775807) : ∀ (m i : Nat) (S : Int → Option Bool) (seen : List Int), isSeen S seen → i ≤ l.length → l.length < m + i → F64l1 cs l M m S (i : Int) = some (if okL cs.length seen (l.drop i) then .inr (.inr M) else .inr (.inl ())) := by
  intro m; induction m with
  | zero => intro i S seen hs h0 h; omega
  | succ m ih =>
    intro i S seen hs h0 h
    show F64b1 cs l M (F64l1 cs l M m) S (i : Int) = _
    unfold F64b1
    rcases drop_cases l i with ⟨h1, h2⟩ | ⟨c, h1, h2, h3⟩
    · rw [if_neg (by omega), h2]; simp [okL]
    · rw [if_pos (by omega), gdO_pos (by omega), Int.toNat_natCast, h2, bindO_some, F23_eq, bindO_some, h3, hs c.fam]
      simp only [okL_cons]
      rw [ckO_pos (inR_succ h1 hn), succ_cast, ih (i + 1) _ _ (isSeen_upd hs c.fam) (by omega) (by omega)]
      by_cases hv : vCl c <;> by_cases ht : (cs.length : Int) ≤ c.to <;> by_cases hf : c.fam ∈ seen <;> simp [hv, ht, hf, Int.not_lt.2, Int.not_le.1]
def okC (cs : List Ce) (l : List Cl) : Prop := (1 ≤ l.length ∧ l.length ≤ 12) ∧ okL cs.length [] l
instance (cs : List Ce) (l : List Cl) : Decidable (okC cs l) := by unfold okC; infer_instance
theorem F64_eq (N : Nat) (chs : List Ch) (cs : List Ce) (l : List Cl) (hN : 30 ≤ N) : F64 N chs cs l = some (if okG chs cs then (if okC cs l then .inr (.inr (extM noM 0 chs)) else .inr (.inl ())) else .inl ()) := by
  unfold F64
  rw [F62_eq N chs cs hN]
  by_cases hg : okG chs cs
  · rw [if_pos hg, bindS_inr, F59_eq, bindO_some, if_pos hg]
    simp only [decide_eq_true_eq]
    split
    · have := F64l1_eq cs l (extM noM 0 chs) (by omega) N 0 noM [] (fun k => by simp [noM]) (by omega) (by omega)
      simp only [List.drop_zero, Int.natCast_zero] at this
      rw [this]
      have e1 : (1 ≤ l.length ∧ l.length ≤ 12) = True := eq_true (by omega)
      by_cases h3 : okL cs.length [] l <;> simp [okC, h3, e1]
    · rw [if_neg]; unfold okC; omega
  · rw [if_neg hg, bindS_inl, if_neg hg]
end Go.K
