/- Lengths, worths and gains in closed forms; DriftLengths answers true. No condition. -/
import Derived.Test.YtkmnjiejlgoglaaPY2
namespace Go.K
open Go.RowKit
set_option linter.unusedVariables false
set_option linter.unusedSimpArgs false
def bd (B : Int) (l : List Int) : Prop := ∀ v ∈ l, -B ≤ v ∧ v ≤ B
theorem bd_get {B : Int} {l : List Int} (h : bd B l) {i : Nat} {v : Int} (hv : l[i]? = some v) : -B ≤ v ∧ v ≤ B := h v (List.mem_of_getElem? hv)
theorem mul_bd {n c B C : Int} (hn : -B ≤ n ∧ n ≤ B) (hc : 0 ≤ c ∧ c ≤ C) (hB : 0 ≤ B) : -(B * C) ≤ n * c ∧ n * c ≤ B * C := by
  have h1 := Int.mul_le_mul_of_nonneg_right hn.1 hc.1
  have h2 := Int.mul_le_mul_of_nonneg_right hn.2 hc.1
  have h3 := Int.mul_le_mul_of_nonneg_left hc.2 hB
  rw [Int.neg_mul] at h1
  omega
/-! drifts -/
def hasD (n : Nat) (d : Dr) : Prop := 0 ≤ d.fr ∧ d.fr ≤ d.to ∧ d.to < (n : Int)
instance (n : Nat) (d : Dr) : Decidable (hasD n d) := by unfold hasD; infer_instance
theorem F73_eq (chs : List Ch) (cs : List Ce) (M : Int → Option Int) (d : Dr) : F73 chs cs M d = some (decide (hasD cs.length d)) := by
  unfold F73 hasD; repeat' split
  all_goals first | exact congrArg some (decide_eq_true (by omega)).symm | exact congrArg some (decide_eq_false (by omega)).symm
theorem F66l1_eq (chs : List Ch) (cs : List Ce) (ds : List Dr) (M : Int → Option Int) (hn : ds.length ≤ 9223372036854775807) : ∀ (m i : Nat), i ≤ ds.length → ds.length < m + i → F66l1 chs cs ds M m (i : Int) = some (if ∀ d ∈ ds.drop i, hasD cs.length d then .inr (.inr M) else .inr (.inl ())) := by
  intro m; induction m with
  | zero => intro i h0 h; omega
  | succ m ih =>
    intro i h0 h
    show F66b1 chs cs ds M (F66l1 chs cs ds M m) (i : Int) = _
    unfold F66b1
    rcases drop_cases ds i with ⟨h1, h2⟩ | ⟨c, h1, h2, h3⟩
    · rw [if_neg (by omega), h2]; simp
    · rw [if_pos (by omega), gdO_pos (by omega), Int.toNat_natCast, h2, bindO_some, F73_eq, bindO_some, h3]
      rw [ckO_pos (inR_succ h1 hn), succ_cast, ih (i + 1) (by omega) (by omega)]
      by_cases hv : hasD cs.length c <;> simp [hv]
theorem F66_eq (N : Nat) (chs : List Ch) (cs : List Ce) (ds : List Dr) (hn : ds.length ≤ 10) (hN : 30 ≤ N) : F66 N chs cs ds = some (if okG chs cs then (if ∀ d ∈ ds, hasD cs.length d then .inr (.inr (extM noM 0 chs)) else .inr (.inl ())) else .inl ()) := by
  unfold F66
  rw [F62_eq N chs cs hN]
  by_cases hg : okG chs cs
  · rw [if_pos hg, bindS_inr, if_pos hg]
    have := F66l1_eq chs cs ds (extM noM 0 chs) (by omega) N 0 (by omega) (by omega)
    simpa using this
  · rw [if_neg hg, bindS_inl, if_neg hg]
/-! links -/
def addL (ix : Int → Int) : List Int → List Ce → List Int
  | ls, [] => ls
  | ls, c :: r => addL ix (ls.set (ix c.ch).toNat ((ls[(ix c.ch).toNat]?).getD 0 + c.ln)) r
def segC (cs : List Ce) (d : Dr) : List Ce := (cs.drop d.fr.toNat).take ((d.to + 1).toNat - d.fr.toNat)
def linksOf (chs : List Ch) (cs : List Ce) (d : Dr) : List Int := addL (fstCh 0 chs) (List.replicate chs.length 0) (segC cs d)
theorem addL_len (ix : Int → Int) : ∀ (r : List Ce) (ls : List Int), (addL ix ls r).length = ls.length
  | [], _ => rfl
  | c :: r, ls => by unfold addL; rw [addL_len ix r]; simp
theorem addL_bd (ix : Int → Int) : ∀ (r : List Ce) (ls : List Int) (B : Int), bd B ls → (∀ c ∈ r, 0 ≤ c.ln ∧ c.ln ≤ 1000) → 0 ≤ B → bd (B + 1000 * r.length) (addL ix ls r)
  | [], ls, B, h, _, _ => by simpa [addL] using h
  | c :: r, ls, B, h, hr, hB => by
    unfold addL
    have hc := hr c (by simp)
    have := addL_bd ix r (ls.set (ix c.ch).toNat ((ls[(ix c.ch).toNat]?).getD 0 + c.ln)) (B + 1000) (fun v hv => by
      rcases List.mem_or_eq_of_mem_set hv with h1 | h1
      · have := h v h1; omega
      · cases hq : ls[(ix c.ch).toNat]? with
        | none => rw [hq] at h1; simp at h1; omega
        | some z => rw [hq] at h1; simp at h1; have := bd_get h hq; omega) (fun c hc => hr c (by simp [hc])) (by omega)
    intro v hv
    have := this v hv
    simp only [List.length_cons]
    omega
theorem mem_seg {cs : List Ce} {d : Dr} {c : Ce} (h : c ∈ segC cs d) : c ∈ cs := List.mem_of_mem_drop (List.mem_of_mem_take h)
theorem fstCh_lt (k : Int) : ∀ (l : List Ch) (i : Nat), fstCh i l k < (i : Int) + l.length
  | [], i => by simp [fstCh]; omega
  | c :: l, i => by
    unfold fstCh; split
    · simp; omega
    · have := fstCh_lt k l (i + 1); simp; omega
theorem okG_ce {chs : List Ch} {cs : List Ce} (h : okG chs cs) {c : Ce} (hc : c ∈ cs) : vCe c ∧ 0 ≤ fstCh 0 chs c.ch ∧ fstCh 0 chs c.ch < chs.length := by
  have h1 := ((okG_ref chs cs).1 h).2.2.2 c hc
  have := fstCh_lt c.ch chs 0
  exact ⟨h1.1, h1.2, by omega⟩
theorem okChs_all : ∀ (l : List Ch) (a : Int), okChs a l → ∀ c ∈ l, vCh c
  | [], _, _, c, hc => by simp at hc
  | d :: l, a, h, c, hc => by
    rcases List.mem_cons.1 hc with rfl | hc
    · exact h.1
    · exact okChs_all l d.id h.2.2 c hc
theorem seg_len {cs : List Ce} {d : Dr} (h : hasD cs.length d) : (segC cs d).length = (d.to + 1).toNat - d.fr.toNat := by
  unfold segC; rw [List.length_take, List.length_drop]; unfold hasD at h; omega
theorem F68l1_eq (chs : List Ch) (cs : List Ce) (d : Dr) (hg : okG chs cs) (hd : hasD cs.length d) : ∀ (m i : Nat) (ls : List Int), ls.length = chs.length → bd (1000 * i) ls → i ≤ (segC cs d).length → (segC cs d).length < m + i → F68l1 cs (extM noM 0 chs) d m ls (i : Int) = some (addL (fstCh 0 chs) ls ((segC cs d).drop i)) := by
  intro m; induction m with
  | zero => intro i ls hl hb h0 h; omega
  | succ m ih =>
    intro i ls hl hb h0 h
    show F68b1 cs (extM noM 0 chs) d (F68l1 cs (extM noM 0 chs) d m) ls (i : Int) = _
    unfold F68b1
    have hs : (segC cs d).length ≤ 24 := by rw [seg_len hd]; have := hg.2.1; unfold hasD at hd; omega
    show (if (i : Int) < ((segC cs d).length : Int) then gdO (0 ≤ (i : Int)) <| bindO ((segC cs d)[(i : Int).toNat]?) _ else some ls) = _
    rcases drop_cases (segC cs d) i with ⟨h1, h2⟩ | ⟨c, h1, h2, h3⟩
    · rw [if_neg (by omega), h2]; rfl
    · have hc := okG_ce hg (mem_seg (List.mem_of_getElem? h2))
      have hv := hc.1
      unfold vCe at hv
      rw [if_pos (by omega), gdO_pos (by omega), Int.toNat_natCast, h2, bindO_some, h3, extM_at c.ch chs 0 noM 0 hg.2.2.1, if_pos hc.2.1, Option.getD_some, gdO_pos hc.2.1]
      have hx : ls[(fstCh 0 chs c.ch).toNat]? = some (ls[(fstCh 0 chs c.ch).toNat]'(by omega)) := List.getElem?_eq_getElem _
      have hxb := bd_get hb hx
      rw [hx, bindO_some, ckO_pos (by unfold InR; omega), ckO_pos (by unfold InR; omega), succ_cast, ih (i + 1) _ (by simp [hl]) (fun v hv => by
        rcases List.mem_or_eq_of_mem_set hv with h1 | h1
        · have := hb v h1; omega
        · omega) (by omega) (by omega)]
      conv => rhs; unfold addL
      rw [hx]; rfl
theorem bd_zero (n : Nat) : bd 0 (List.replicate n 0) := fun v hv => by rw [List.mem_replicate] at hv; omega
theorem F68_eq (N : Nat) (chs : List Ch) (cs : List Ce) (d : Dr) (hg : okG chs cs) (hd : hasD cs.length d) (hN : 30 ≤ N) : F68 N chs cs (extM noM 0 chs) d = some (linksOf chs cs d) := by
  unfold F68
  have h1 := hg.1; have h2 := hg.2.1
  have hd' := hd
  unfold hasD at hd'
  rw [gdO_pos (by omega), gdO_pos (by omega), ckO_pos (by unfold InR; omega), gdO_pos (by omega), gdO_pos (by omega), gdO_pos (by omega)]
  have hs : (segC cs d).length ≤ 24 := by rw [seg_len hd]; omega
  have := F68l1_eq chs cs d hg hd N 0 (List.replicate chs.length 0) (by simp) (by simpa using bd_zero chs.length) (by omega) (by omega)
  simpa [linksOf] using this
theorem links_ok {chs : List Ch} {cs : List Ce} {d : Dr} (hg : okG chs cs) (hd : hasD cs.length d) : (linksOf chs cs d).length = chs.length ∧ bd 24000 (linksOf chs cs d) := by
  refine ⟨by simp [linksOf, addL_len], ?_⟩
  have hs : (segC cs d).length ≤ 24 := by rw [seg_len hd]; have := hg.2.1; unfold hasD at hd; omega
  have := addL_bd (fstCh 0 chs) (segC cs d) (List.replicate chs.length 0) 0 (bd_zero _) (fun c hc => by
    have := (okG_ce hg (mem_seg hc)).1; unfold vCe at this; omega) (by omega)
  intro v hv
  have := this v hv
  omega
/-! sums -/
theorem F74l1_eq (l : List Int) (B : Int) (hB : 0 ≤ B ∧ B ≤ 1000000000000) (hb : bd B l) (hn : l.length ≤ 100) : ∀ (m i : Nat) (t : Int), -(B * i) ≤ t ∧ t ≤ B * i → i ≤ l.length → l.length < m + i → F74l1 l m t (i : Int) = some (t + (l.drop i).sum) := by
  intro m; induction m with
  | zero => intro i t ht h0 h; omega
  | succ m ih =>
    intro i t ht h0 h
    show F74b1 l (F74l1 l m) t (i : Int) = _
    unfold F74b1
    rcases drop_cases l i with ⟨h1, h2⟩ | ⟨c, h1, h2, h3⟩
    · rw [if_neg (by omega), h2]; simp
    · have hc := bd_get hb h2
      have e : B * ((i + 1 : Nat) : Int) = B * i + B := by rw [Int.natCast_add, Int.mul_add]; simp
      have hm : B * (i : Int) ≤ 1000000000000 * 100 := Int.mul_le_mul hB.2 (by omega) (by omega) (by omega)
      rw [if_pos (by omega), gdO_pos (by omega), Int.toNat_natCast, h2, bindO_some, h3, ckO_pos (by unfold InR; omega), ckO_pos (by unfold InR; omega), succ_cast, ih (i + 1) _ (by omega) (by omega) (by omega)]
      simp [Int.add_assoc]
theorem F74_eq (N : Nat) (l : List Int) (B : Int) (hB : 0 ≤ B ∧ B ≤ 1000000000000) (hb : bd B l) (hn : l.length ≤ 100) (hN : 101 ≤ N) : F74 N l = some l.sum := by
  unfold F74
  have := F74l1_eq l B hB hb hn N 0 0 (by simp) (by omega) (by omega)
  simpa using this
/-! spans -/
def mn (c : Ch) (n : Int) : Int := if n * c.hi < n * c.lo then n * c.hi else n * c.lo
def mx (c : Ch) (n : Int) : Int := if n * c.hi > n * c.lo then n * c.hi else n * c.lo
def mins (chs : List Ch) (l : List Int) : List Int := List.zipWith mn chs l
def maxs (chs : List Ch) (l : List Int) : List Int := List.zipWith mx chs l
def spanOf (chs : List Ch) (l : List Int) : Int × Int := ((mins chs l).sum, (maxs chs l).sum)
theorem prod_bd {c : Ch} {n : Int} (hc : vCh c) (hn : -100000 ≤ n ∧ n ≤ 100000) : (-100000000 ≤ n * c.lo ∧ n * c.lo ≤ 100000000) ∧ -100000000 ≤ n * c.hi ∧ n * c.hi ≤ 100000000 := by
  unfold vCh at hc
  have h1 := mul_bd (B := 100000) (C := 1000) hn (c := c.lo) (by omega) (by omega)
  have h2 := mul_bd (B := 100000) (C := 1000) hn (c := c.hi) (by omega) (by omega)
  omega
theorem mins_bd {chs : List Ch} {l : List Int} (hv : ∀ c ∈ chs, vCh c) (hb : bd 100000 l) : bd 100000000 (mins chs l) ∧ bd 100000000 (maxs chs l) := by
  constructor <;> intro v hv'
  · obtain ⟨i, hi⟩ := List.mem_iff_getElem?.1 hv'
    rw [mins, List.getElem?_zipWith_eq_some] at hi
    obtain ⟨c, n, h1, h2, rfl⟩ := hi
    have := prod_bd (hv c (List.mem_of_getElem? h1)) (bd_get hb h2)
    unfold mn; split <;> omega
  · obtain ⟨i, hi⟩ := List.mem_iff_getElem?.1 hv'
    rw [maxs, List.getElem?_zipWith_eq_some] at hi
    obtain ⟨c, n, h1, h2, rfl⟩ := hi
    have := prod_bd (hv c (List.mem_of_getElem? h1)) (bd_get hb h2)
    unfold mx; split <;> omega
theorem F67l2_eq (chs : List Ch) (ls : List Int) (N : Nat) (hl : ls.length = chs.length) (hk : chs.length ≤ 6) (hv : ∀ c ∈ chs, vCh c) (hb : bd 100000 ls) : ∀ (m i : Nat) (a b : List Int), a.length = i → b.length = i → i ≤ chs.length → chs.length < m + i → F67l2 chs ls N m a b (i : Int) = F67j1 N (a ++ mins (chs.drop i) (ls.drop i)) (b ++ maxs (chs.drop i) (ls.drop i)) := by
  intro m; induction m with
  | zero => intro i a b ha hb' h0 h; omega
  | succ m ih =>
    intro i a b ha hb' h0 h
    show F67b2 chs ls N (F67l2 chs ls N m) a b (i : Int) = _
    unfold F67b2
    rcases drop_cases chs i with ⟨h1, h2⟩ | ⟨c, h1, h2, h3⟩
    · rw [if_neg (by omega), h2]; simp [mins, maxs]
    · rcases drop_cases ls i with ⟨g1, g2⟩ | ⟨n, g1, g2, g3⟩
      · omega
      · have hp := prod_bd (hv c (List.mem_of_getElem? h2)) (bd_get hb g2)
        rw [if_pos (by omega), gdO_pos (by omega), Int.toNat_natCast, h2, bindO_some, g2, bindO_some, ckO_pos (by unfold InR; omega), ckO_pos (by unfold InR; omega), gdO_pos (by omega), gdO_pos (by omega), ckO_pos (by unfold InR; omega), succ_cast, ih (i + 1) _ _ (by simp [ha]) (by simp [hb']) (by omega) (by omega), h3, g3]
        simp [mins, maxs, mn, mx]
theorem F67_eq (N : Nat) (chs : List Ch) (cs : List Ce) (M : Int → Option Int) (ls : List Int) (hl : ls.length = chs.length) (hk : chs.length ≤ 6) (hv : ∀ c ∈ chs, vCh c) (hb : bd 100000 ls) (hN : 101 ≤ N) : F67 N chs cs M ls = some (spanOf chs ls) := by
  unfold F67
  have := F67l2_eq chs ls N hl hk hv hb N 0 [] [] rfl rfl (by omega) (by omega)
  simp only [List.drop_zero, Int.natCast_zero, List.nil_append] at this
  rw [this]
  unfold F67j1
  obtain ⟨b1, b2⟩ := mins_bd hv hb
  have l1 : (mins chs ls).length ≤ 6 := by simp [mins]; omega
  have l2 : (maxs chs ls).length ≤ 6 := by simp [maxs]; omega
  rw [F74_eq N _ 100000000 (by omega) b1 (by omega) hN, F74_eq N _ 100000000 (by omega) b2 (by omega) hN, bindO_some, bindO_some]
  rfl
/-! Length -/
theorem bd_le {a b : Int} {l : List Int} (h : bd a l) (hab : a ≤ b) : bd b l := fun v hv => by have := h v hv; omega
theorem F25_eq (N : Nat) (chs : List Ch) (cs : List Ce) (d : Dr) (hN : 101 ≤ N) : F25 N chs cs d = some (if okG chs cs then (if hasD cs.length d then ((spanOf chs (linksOf chs cs d)).1, (spanOf chs (linksOf chs cs d)).2, 0) else (0, 0, 45)) else (0, 0, 42)) := by
  unfold F25
  rw [F66_eq N chs cs _ (by simp) (by omega)]
  by_cases hg : okG chs cs
  · by_cases hd : hasD cs.length d
    · obtain ⟨l1, l2⟩ := links_ok hg hd
      rw [if_pos hg, if_pos (by simpa using hd), bindS3_3, F68_eq N chs cs d hg hd (by omega), bindO_some, F67_eq N chs cs _ _ l1 hg.1.2 (okChs_all chs 0 hg.2.2.1) (bd_le l2 (by omega)) hN, bindO_some, if_pos hg, if_pos hd]
    · rw [if_pos hg, if_neg (by simpa using hd), bindS3_2, if_pos hg, if_neg hd]
  · rw [if_neg hg, bindS3_1, if_neg hg]
/-! Longer -/
def subAt : Nat → List Int → List Int → List Int
  | _, a, [] => a
  | i, a, x :: r => subAt (i + 1) (a.set i ((a[i]?).getD 0 - x)) r
theorem subAt_len : ∀ (r : List Int) (i : Nat) (a : List Int), (subAt i a r).length = a.length
  | [], _, _ => rfl
  | x :: r, i, a => by unfold subAt; rw [subAt_len r]; simp
def bd2 (B C : Int) (i : Nat) (a : List Int) : Prop := ∀ j v, a[j]? = some v → if j < i then -(B + C) ≤ v ∧ v ≤ B + C else -B ≤ v ∧ v ≤ B
theorem bd2_set {B C : Int} {i : Nat} {a : List Int} {n x : Int} (h : bd2 B C i a) (hn : a[i]? = some n) (hx : -C ≤ x ∧ x ≤ C) : bd2 B C (i + 1) (a.set i (n - x)) := fun j v hv => by
  have hi : i < a.length := by rcases Nat.lt_or_ge i a.length with h1 | h1; exact h1; rw [List.getElem?_eq_none h1] at hn; cases hn
  rw [List.getElem?_set] at hv
  by_cases e : i = j
  · subst e
    simp only [if_true, hi, Option.some.injEq] at hv
    have := h i n hn
    rw [if_neg (by omega)] at this
    rw [if_pos (by omega)]; omega
  · rw [if_neg e] at hv
    have := h j v hv
    split at this
    · rw [if_pos (by omega)]; exact this
    · rw [if_neg (by omega)]; exact this
theorem subAt_bd {B C : Int} (hB : 0 ≤ B) (hC : 0 ≤ C) : ∀ (r : List Int) (i : Nat) (a : List Int), bd2 B C i a → bd C r → i + r.length ≤ a.length → bd (B + C) (subAt i a r)
  | [], i, a, h, _, _ => fun v hv => by
    obtain ⟨j, hj⟩ := List.mem_iff_getElem?.1 hv
    have := h j v hj
    split at this <;> omega
  | x :: r, i, a, h, hr, hl => by
    unfold subAt
    simp only [List.length_cons] at hl
    have hg : a[i]? = some (a[i]'(by omega)) := List.getElem?_eq_getElem _
    have hx := hr x (by simp)
    rw [hg, Option.getD_some]
    exact subAt_bd hB hC r (i + 1) _ (bd2_set h hg hx) (fun v hv => hr v (by simp [hv])) (by simp; omega)
theorem F27l2_eq (chs : List Ch) (cs : List Ce) (N : Nat) (M : Int → Option Int) (b : List Int) (hb : bd 24000 b) (hk : b.length ≤ 6) : ∀ (m i : Nat) (a : List Int), a.length = b.length → bd2 24000 24000 i a → i ≤ b.length → b.length < m + i → F27l2 chs cs N M b m a (i : Int) = F27j1 chs cs N M (subAt i a (b.drop i)) := by
  intro m; induction m with
  | zero => intro i a ha h2 h0 h; omega
  | succ m ih =>
    intro i a ha hba h0 h
    show F27b2 chs cs N M b (F27l2 chs cs N M b m) a (i : Int) = _
    unfold F27b2
    rcases drop_cases b i with ⟨h1, h2⟩ | ⟨x, h1, h2, h3⟩
    · rw [if_neg (by omega), h2]; rfl
    · have hx := bd_get hb h2
      have hg : a[i]? = some (a[i]'(by omega)) := List.getElem?_eq_getElem _
      have hgb := hba i _ hg
      rw [if_neg (by omega)] at hgb
      rw [if_pos (by omega), gdO_pos (by omega), Int.toNat_natCast, h2, bindO_some, hg, bindO_some, ckO_pos (by unfold InR; omega), ckO_pos (by unfold InR; omega), succ_cast, ih (i + 1) _ (by simp [ha]) (bd2_set hba hg hx) (by omega) (by omega), h3]
      conv => rhs; unfold subAt
      rw [hg, Option.getD_some]
def moreOf (chs : List Ch) (cs : List Ce) (a b : Dr) : List Int := subAt 0 (linksOf chs cs a) (linksOf chs cs b)
def longerOf (chs : List Ch) (cs : List Ce) (a b : Dr) : Int := if 0 < (spanOf chs (moreOf chs cs a b)).1 then 1 else if (spanOf chs (moreOf chs cs a b)).2 ≤ 0 then 0 else 2
theorem more_ok {chs : List Ch} {cs : List Ce} {a b : Dr} (hg : okG chs cs) (ha : hasD cs.length a) (hb : hasD cs.length b) : (moreOf chs cs a b).length = chs.length ∧ bd 48000 (moreOf chs cs a b) := by
  obtain ⟨l1, l2⟩ := links_ok hg ha
  obtain ⟨k1, k2⟩ := links_ok hg hb
  refine ⟨by simp [moreOf, subAt_len, l1], subAt_bd (B := 24000) (C := 24000) (by omega) (by omega) _ 0 _ (fun j v hv => ?_) k2 (by omega)⟩
  rw [if_neg (by omega)]; exact bd_get l2 hv
theorem F27_eq (N : Nat) (chs : List Ch) (cs : List Ce) (a b : Dr) (hN : 101 ≤ N) : F27 N chs cs a b = some (if okG chs cs then (if hasD cs.length a ∧ hasD cs.length b then (longerOf chs cs a b, 0) else (0, 45)) else (0, 42)) := by
  unfold F27
  rw [F66_eq N chs cs _ (by simp) (by omega)]
  by_cases hg : okG chs cs
  · by_cases hd : hasD cs.length a ∧ hasD cs.length b
    · obtain ⟨l1, l2⟩ := links_ok hg hd.1
      obtain ⟨k1, k2⟩ := links_ok hg hd.2
      obtain ⟨m1, m2⟩ := more_ok hg hd.1 hd.2
      have h6 := hg.1
      rw [if_pos hg, if_pos (by simpa using hd), bindS3_3, F68_eq N chs cs a hg hd.1 (by omega), bindO_some, F68_eq N chs cs b hg hd.2 (by omega), bindO_some]
      have := F27l2_eq chs cs N (extM noM 0 chs) _ k2 (by omega) N 0 (linksOf chs cs a) (by omega) (fun j v hv => by rw [if_neg (by omega)]; exact bd_get l2 hv) (by omega) (by omega)
      simp only [List.drop_zero, Int.natCast_zero] at this
      rw [this]
      unfold F27j1
      show bindO (F67 N chs cs _ (moreOf chs cs a b)) _ = _
      rw [F67_eq N chs cs _ _ m1 hg.1.2 (okChs_all chs 0 hg.2.2.1) (bd_le m2 (by omega)) hN, bindO_some, if_pos hg, if_pos hd]
      unfold longerOf; repeat' split
      all_goals rfl
    · rw [if_pos hg, if_neg (by simpa using hd), bindS3_2, if_pos hg, if_neg hd]
  · rw [if_neg hg, bindS3_1, if_neg hg]
/-! Truly -/
def trueL : List Ch → List Int → Prop
  | [], _ => True
  | _ :: _, [] => True
  | c :: l, n :: r => (c.lo ≤ n ∧ n ≤ c.hi) ∧ trueL l r
instance trueLD : (l : List Ch) → (r : List Int) → Decidable (trueL l r)
  | [], _ => isTrue trivial
  | _ :: _, [] => isTrue trivial
  | c :: l, n :: r => by unfold trueL; have := trueLD l r; infer_instance
theorem trueL_cons (c : Ch) (l : List Ch) (n : Int) (r : List Int) : trueL (c :: l) (n :: r) ↔ (c.lo ≤ n ∧ n ≤ c.hi) ∧ trueL l r := ⟨fun h => h, fun h => h⟩
theorem F72l1_eq (chs : List Ch) (ls : List Int) (hl : ls.length = chs.length) (hn : chs.length ≤ 9223372036854775807) : ∀ (m i : Nat), i ≤ chs.length → chs.length < m + i → F72l1 chs ls m (i : Int) = some (decide (trueL (chs.drop i) (ls.drop i))) := by
  intro m; induction m with
  | zero => intro i h0 h; omega
  | succ m ih =>
    intro i h0 h
    show F72b1 chs ls (F72l1 chs ls m) (i : Int) = _
    unfold F72b1
    rcases drop_cases chs i with ⟨h1, h2⟩ | ⟨c, h1, h2, h3⟩
    · rw [if_neg (by omega), h2]; exact congrArg some (decide_eq_true (show trueL [] _ from trivial)).symm
    · rcases drop_cases ls i with ⟨g1, g2⟩ | ⟨n, g1, g2, g3⟩
      · omega
      · rw [if_pos (by omega), gdO_pos (by omega), Int.toNat_natCast, h2, bindO_some, g2, bindO_some, F59_eq, bindO_some, ckO_pos (inR_succ h1 hn), succ_cast, ih (i + 1) (by omega) (by omega), h3, g3]
        simp only [trueL_cons]
        by_cases hv : c.lo ≤ n ∧ n ≤ c.hi <;> simp [hv]
def areL (chs : List Ch) (ls : List Int) : Prop := ls.length = chs.length ∧ trueL chs ls
instance (chs : List Ch) (ls : List Int) : Decidable (areL chs ls) := by unfold areL; infer_instance
theorem F72_eq (N : Nat) (chs : List Ch) (cs : List Ce) (M : Int → Option Int) (ls : List Int) (hn : chs.length ≤ 9223372036854775807) (hN : chs.length < N) : F72 N chs cs M ls = some (decide (areL chs ls)) := by
  unfold F72 areL
  by_cases h : ls.length = chs.length
  · rw [if_pos (by omega)]
    have := F72l1_eq chs ls h hn N 0 (by omega) (by omega)
    simpa [h] using this
  · rw [if_neg (by omega)]; simp [h]
def prods (a b : List Int) : List Int := List.zipWith (fun x y => x * y) a b
theorem trueL_get : ∀ (chs : List Ch) (ls : List Int), trueL chs ls → (∀ c ∈ chs, vCh c) → ls.length = chs.length → ∀ v ∈ ls, 0 ≤ v ∧ v ≤ 1000
  | _, [], _, _, _, v, hv => by simp at hv
  | [], _ :: _, _, _, h, _, _ => by simp at h
  | c :: chs, n :: ls, h, hc, hl, v, hv => by
    have hcv := hc c (by simp)
    unfold vCh at hcv
    rcases List.mem_cons.1 hv with rfl | hv
    · have := h.1; omega
    · exact trueL_get chs ls h.2 (fun c hc' => hc c (by simp [hc'])) (by simpa using hl) v hv
theorem F29l2_eq (ls y : List Int) (N : Nat) (hl : ls.length = y.length) (hk : y.length ≤ 6) (hy : bd 24000 y) (hls : ∀ v ∈ ls, 0 ≤ v ∧ v ≤ 1000) : ∀ (m i : Nat) (a : List Int), a.length = i → i ≤ y.length → y.length < m + i → F29l2 ls N y m a (i : Int) = F29j1 N (a ++ prods (y.drop i) (ls.drop i)) := by
  intro m; induction m with
  | zero => intro i a ha h0 h; omega
  | succ m ih =>
    intro i a ha h0 h
    show F29b2 ls N y (F29l2 ls N y m) a (i : Int) = _
    unfold F29b2
    rcases drop_cases y i with ⟨h1, h2⟩ | ⟨x, h1, h2, h3⟩
    · rw [if_neg (by omega), h2]; simp [prods]
    · rcases drop_cases ls i with ⟨g1, g2⟩ | ⟨n, g1, g2, g3⟩
      · omega
      · have := mul_bd (bd_get hy h2) (hls n (List.mem_of_getElem? g2)) (by omega)
        rw [if_pos (by omega), gdO_pos (by omega), Int.toNat_natCast, h2, bindO_some, g2, bindO_some, ckO_pos (by unfold InR; omega), gdO_pos (by omega), ckO_pos (by unfold InR; omega), succ_cast, ih (i + 1) _ (by simp [ha]) (by omega) (by omega), h3, g3]
        simp [prods]
theorem prods_bd {y ls : List Int} (hy : bd 24000 y) (hls : ∀ v ∈ ls, 0 ≤ v ∧ v ≤ 1000) : bd 24000000 (prods y ls) := fun v hv => by
  obtain ⟨i, hi⟩ := List.mem_iff_getElem?.1 hv
  rw [prods, List.getElem?_zipWith_eq_some] at hi
  obtain ⟨a, b, h1, h2, rfl⟩ := hi
  have := mul_bd (bd_get hy h1) (hls b (List.mem_of_getElem? h2)) (by omega)
  omega
def trulyR (chs : List Ch) (cs : List Ce) (ls : List Int) (d : Dr) : Int × Int := if okG chs cs then (if areL chs ls then (if hasD cs.length d then ((prods (linksOf chs cs d) ls).sum, 0) else (0, 45)) else (0, 1)) else (0, 42)
theorem F29_eq (N : Nat) (chs : List Ch) (cs : List Ce) (ls : List Int) (d : Dr) (hN : 101 ≤ N) : F29 N chs cs ls d = some (trulyR chs cs ls d) := by
  unfold F29 trulyR
  rw [F62_eq N chs cs (by omega)]
  by_cases hg : okG chs cs
  · have h6 := hg.1
    rw [if_pos hg, bindS_inr, F72_eq N chs cs _ ls (by omega) (by omega), bindO_some, if_pos hg]
    by_cases hl : areL chs ls
    · rw [if_pos (by simpa using hl), F73_eq, bindO_some, if_pos hl]
      by_cases hd : hasD cs.length d
      · obtain ⟨l1, l2⟩ := links_ok hg hd
        have hls := trueL_get chs ls hl.2 (okChs_all chs 0 hg.2.2.1) hl.1
        have hll := hl.1
        rw [if_pos (by simpa using hd), F68_eq N chs cs d hg hd (by omega), bindO_some, if_pos hd]
        have := F29l2_eq ls (linksOf chs cs d) N (by omega) (by omega) l2 hls N 0 [] rfl (by omega) (by omega)
        simp only [List.drop_zero, Int.natCast_zero, List.nil_append] at this
        rw [this]
        unfold F29j1
        rw [F74_eq N _ 24000000 (by omega) (prods_bd l2 hls) (by simp [prods]; omega) hN, bindO_some]
      · rw [if_neg (by simpa using hd), if_neg hd]
    · rw [if_neg (by simpa using hl), if_neg hl]
  · rw [if_neg hg, bindS_inl, if_neg hg]
/-! worth -/
def worthOf (cs : List Ce) (a b : Int) : Int := (((cs.drop a.toNat).take ((b + 1).toNat - a.toNat)).map Ce.wo).sum
/-! gains -/
def vGn (a : Gn) : Prop := (0 ≤ a.num ∧ a.num ≤ 1000000) ∧ 1 ≤ a.den ∧ a.den ≤ 1000000
instance (a : Gn) : Decidable (vGn a) := by unfold vGn; infer_instance
end Go.K
