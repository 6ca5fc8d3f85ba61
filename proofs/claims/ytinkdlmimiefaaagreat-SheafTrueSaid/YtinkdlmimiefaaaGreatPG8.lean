/- The made numbers are true, and what is told of a made plot is true of them. -/
import Derived.Test.YtinkdlmimiefaaaGreatPGG
import Derived.Test.YtinkdlmimiefaaaGreatPM36
namespace Go.K
set_option linter.unusedVariables false
set_option linter.unusedSimpArgs false
/-- The number of a source. -/
def numF : List (Ld × Int) → Int → Int
  | [], _ => 0
  | y :: xs, j => if y.1.src = j then y.2 else numF xs j
theorem num_ok : ∀ {xs : List (Ld × Int)} {k h l : Int}, LOk k h l xs → ∀ x ∈ xs, numF xs x.1.src = x.2
  | [], _, _, _, _, x, hx => by simp at hx
  | (y, u) :: xs, k, h, l, ⟨h1, h2, h3, h4, h5, h6⟩, x, hx => by
    rw [List.mem_cons] at hx
    rcases hx with rfl | hx
    · simp [numF]
    · have := (LOk.hours h6 x.1 (List.mem_map.2 ⟨x, hx, rfl⟩)).2.2.1
      have hne : ¬ y.src = x.1.src := by omega
      simp only [numF]
      rw [if_neg hne]
      exact num_ok h6 x hx
theorem lefts_sub {N : Int → Int} : ∀ (xs : List (Ld × Int)) (l : Int) (i : Nat), i ≤ xs.length → (∀ x ∈ xs, N x.1.src = x.2) → (lefts l (xs.map Prod.snd))[i]? = some (subF N l ((xs.map Prod.fst).take i))
  | xs, l, 0, _, _ => by rw [lefts_0]; rfl
  | [], l, i + 1, h, _ => by simp at h
  | (y, t) :: xs, l, i + 1, h, hN => by
    have ih := lefts_sub xs (l - t) i (by simpa using h) fun x hx => hN x (List.mem_cons_of_mem _ hx)
    have e : N y.src = t := hN (y, t) List.mem_cons_self
    simp only [List.map_cons, lefts, List.getElem?_cons_succ, List.take_succ_cons]
    rw [ih, subF, subF, List.foldl_cons, e]
theorem leftF_there {N : Int → Int} {xs : List (Ld × Int)} {k h l : Int} (hx : LOk k h l xs) (hN : ∀ x ∈ xs, N x.1.src = x.2) (g : Int) : leftF (xs.map Prod.fst) N l g = thereF xs g l := by
  have h1 := hx.there (g := g)
  have h2 := cart_le (xs.map Prod.fst) g
  rw [List.length_map] at h2
  rw [lefts_sub xs l _ h2 hN] at h1
  injection h1
theorem get_pair {xs : List (Ld × Int)} {i : Nat} {x : Ld} {t : Int} (hx : (xs.map Prod.fst)[i]? = some x) (ht : (xs.map Prod.snd)[i]? = some t) : (x, t) ∈ xs := by
  rw [List.getElem?_map] at hx ht
  cases h : xs[i]? with
  | none => rw [h] at hx; cases hx
  | some z =>
    rw [h] at hx ht
    simp at hx ht
    have := mem_of_get h
    rw [← hx, ← ht]
    exact this
theorem LOk.in_ : ∀ {xs : List (Ld × Int)} {k h l : Int}, LOk k h l xs → ∀ z ∈ xs, 0 ≤ z.2 ∧ z.2 ≤ l ∧ z.1.lo ≤ z.2 ∧ z.2 ≤ z.1.hi
  | [], _, _, _, _, z, hz => by simp at hz
  | (y, u) :: xs, k, h, l, ⟨h1, h2, h3, h4, h5, h6⟩, z, hz => by
    rw [List.mem_cons] at hz
    rcases hz with rfl | hz
    · exact ⟨h3.1, h3.2, h4.2.1, h4.2.2.1⟩
    · have := LOk.in_ h6 z hz
      omega
/-- Numbers that are true on a scene, and what was left by them. -/
theorem true_of {q : Pl} {xs : List (Ld × Int)} {l : Int} (hx : LOk 0 20 l xs) (h0 : 0 ≤ l ∧ l ≤ 200) (hlo : q.lo ≤ l ∧ l ≤ q.hi) (hs : ∀ x ∈ q.stands, x.lo ≤ thereF xs x.hr l ∧ thereF xs x.hr l ≤ x.hi) : True_ q (xs.map Prod.fst) (lefts l (xs.map Prod.snd)) := by
  refine ⟨by rw [lefts_len]; simp, bounds_in (fun t ht => ?_) (fun t ht => ?_) (fun x hxx => ⟨_, hx.there, hs x hxx⟩), hx.took⟩
  · rw [lefts_0] at ht
    injection ht with ht
    subst ht
    exact hlo
  · have := hx.nonneg h0.1 t ht
    omega
section made
variable (x0 x1 : Int) (ls ss ps : List A4)
theorem made_crt : crtF (madeF x0 x1 ls ss ps) 20 = (mLoads 0 20 (x0 % 200) (ls.take 6)).map Prod.fst := by
  unfold crtF
  rw [made_scn]
  exact sortF_id (made_lok x0 ls).srt
theorem made_sown : (madeF x0 x1 ls ss ps).lo ≤ x0 % 200 ∧ x0 % 200 ≤ (madeF x0 x1 ls ss ps).hi := by
  have a1 := Int.emod_nonneg x0 (show (200 : Int) ≠ 0 by decide)
  have b1 := Int.emod_nonneg (x0.tdiv 200) (show (9 : Int) ≠ 0 by decide)
  have c1 := Int.emod_nonneg (x0.tdiv 1800) (show (9 : Int) ≠ 0 by decide)
  show max 0 (x0 % 200 - x0.tdiv 200 % 9) ≤ x0 % 200 ∧ x0 % 200 ≤ x0 % 200 + x0.tdiv 1800 % 9
  omega
theorem made_true_at : TrueAt (scnF (madeF x0 x1 ls ss ps) 20) (crtF (madeF x0 x1 ls ss ps) 20) (x0 % 200) ((mLoads 0 20 (x0 % 200) (ls.take 6)).map Prod.snd) (numF (mLoads 0 20 (x0 % 200) (ls.take 6))) := by
  have a1 := Int.emod_nonneg x0 (show (200 : Int) ≠ 0 by decide)
  have a2 := Int.emod_lt_of_pos x0 (show (0 : Int) < 200 by decide)
  have hk := made_lok x0 ls
  have hN := num_ok hk
  have hl := leftF_there hk hN
  have hso := made_sown x0 x1 ls ss ps
  have hst := mStands_ok hk a1 (by omega) (ss.take 6) 0
  rw [made_crt, made_scn]
  refine ⟨?_, by omega, fun x hx => hx, fun x hx => ?_, fun i x t hx ht => hN _ (get_pair hx ht), ?_, fun i x t hx ht => ?_, fun x hx => ?_, ?_⟩
  · show (List.map Prod.snd _).length = (List.map Prod.fst _).length
    rw [List.length_map, List.length_map]
  · obtain ⟨z, hz, rfl⟩ := List.mem_map.1 hx
    have := hk.in_ z hz
    rw [hN z hz]
    omega
  · simp only [inB, Bool.and_eq_true, decide_eq_true_eq]
    exact hso
  · have := hk.in_ _ (get_pair hx ht)
    simp only [inB, Bool.and_eq_true, decide_eq_true_eq]
    exact this.2.2
  · have := (hst x hx).2.2.1
    rw [hl]
    simp only [inB, Bool.and_eq_true, decide_eq_true_eq]
    exact ⟨this.2.1, this.2.2.1⟩
  · rw [hl]
    exact (hk.there_bd a1 99999).1
/-- What is told of a plot is so by true numbers. -/
structure Told (p : Pl) (dy h s : Int) (ts : List Int) (N : Int → Int) : Prop where
  e1 : (stoodC p h dy).2 = 0
  e3 : (clearC p h dy).2 = 0
  e4 : (openC p h dy).2 = 0
  e5 : (firstC p dy).2 = 0
  lo : ¬ leftF (crtF p dy) N s h < (stoodC p h dy).1.lo
  hi : ¬ (stoodC p h dy).1.hi < leftF (crtF p dy) N s h
  yes : (clearC p h dy).1 = 1 → ¬ 0 < leftF (crtF p dy) N s h
  no : (clearC p h dy).1 = 0 → ¬ leftF (crtF p dy) N s h = 0
  oyes : (openC p h dy).1 = 1 → trulyF (scnF p dy) (crtF p dy) N s h = true
  ono : (openC p h dy).1 = 0 → trulyF (scnF p dy) (crtF p dy) N s h = false
  tr : trulyF (scnF p dy) (crtF p dy) N s h = true → ¬ 0 < leftF (crtF p dy) N s h
  f1 : leftF (crtF p dy) N s h = 0 → ¬ h < (firstC p dy).1.lo
  f2 : 0 < leftF (crtF p dy) N s h → ¬ (firstC p dy).1.hi ≤ h
  ce : ∀ (i : Nat) (x : Ld), p.loads[i]? = some x → (cartedC p x.src dy).2 = 0
  clo : ∀ (i : Nat) (x : Ld) (t : Int), p.loads[i]? = some x → ts[i]? = some t → ¬ t < (cartedC p x.src dy).1.lo
  chi : ∀ (i : Nat) (x : Ld) (t : Int), p.loads[i]? = some x → ts[i]? = some t → ¬ (cartedC p x.src dy).1.hi < t
theorem answer_yes {a b : Bool} (h : answerI a b = 1) : b = true := by
  cases a <;> cases b <;> simp [answerI] at h ⊢
theorem answer_no {a b : Bool} (h : answerI a b = 0) : a = false := by
  cases a <;> cases b <;> simp [answerI] at h ⊢
theorem idx_at {s : Int} : ∀ {l : List Ld} {i : Nat} {x : Ld}, l.Pairwise (fun x y => x.src < y.src) → l[i]? = some x → x.src = s → idxI (fun y : Ld => decide (y.src = s)) l = i := by
  intro l i x hp hx hs
  have key : ∀ (q : Nat) (y : Ld), q < i → l[q]? = some y → decide (y.src = s) = false := fun q y hq hy => by
    have := List.pairwise_iff_getElem.1 hp q i (by have := lt_of_get hy; exact this) (lt_of_get hx) hq
    rw [List.getElem?_eq_getElem (lt_of_get hx)] at hx
    rw [List.getElem?_eq_getElem (lt_of_get hy)] at hy
    injection hx with hx; injection hy with hy
    rw [hx, hy] at this
    exact decide_eq_false (by omega)
  exact idx_hit key hx (by simpa using hs)
theorem lefts_step : ∀ {ts : List Int} {l : Int} {i : Nat} {a t : Int}, (lefts l ts)[i]? = some a → ts[i]? = some t → (lefts l ts)[i + 1]? = some (a - t)
  | [], _, i, a, t, _, ht => by simp at ht
  | u :: ts, l, 0, a, t, ha, ht => by
    simp only [lefts, List.getElem?_cons_zero, Option.some.injEq] at ha ht
    subst ha; subst ht
    simp only [lefts, List.getElem?_cons_succ]
    exact lefts_0 _ _
  | u :: ts, l, i + 1, a, t, ha, ht => by
    simp only [lefts, List.getElem?_cons_succ] at ha ht ⊢
    exact lefts_step ha ht
theorem with_sound {q : Pl} {xs : List (Ld × Int)} {l g lo hi : Int} (hx : LOk 0 20 l xs) (h0 : 0 ≤ l ∧ l ≤ 200) (hlo : q.lo ≤ l ∧ l ≤ q.hi) (hs : ∀ x ∈ q.stands, x.lo ≤ thereF xs x.hr l ∧ thereF xs x.hr l ≤ x.hi) (h1 : lo ≤ thereF xs g l) (h2 : thereF xs g l ≤ hi) :
    (stoodF (withF q g lo hi) (xs.map Prod.fst)).2 = true ∧ ∀ x ∈ (withF q g lo hi).stands, x.lo ≤ thereF xs x.hr l ∧ thereF xs x.hr l ≤ x.hi := by
  have hs' : ∀ x ∈ (withF q g lo hi).stands, x.lo ≤ thereF xs x.hr l ∧ thereF xs x.hr l ≤ x.hi := fun x hxx => by
    rcases List.mem_append.1 hxx with h | h
    · exact hs x h
    · rw [List.mem_singleton] at h
      subst h
      exact ⟨h1, h2⟩
  exact ⟨(stoodF_in (true_of hx h0 (q := withF q g lo hi) hlo hs')).1, hs'⟩
set_option maxHeartbeats 800000 in
theorem made_told {h : Int} (hh : isHourB h = true) : Told (madeF x0 x1 ls ss ps) 20 h (x0 % 200) ((mLoads 0 20 (x0 % 200) (ls.take 6)).map Prod.snd) (numF (mLoads 0 20 (x0 % 200) (ls.take 6))) := by
  have a1 := Int.emod_nonneg x0 (show (200 : Int) ≠ 0 by decide)
  have a2 := Int.emod_lt_of_pos x0 (show (0 : Int) < 200 by decide)
  have hk := made_lok x0 ls
  have hN := num_ok hk
  have hl := leftF_there hk hN
  have hso := made_sown x0 x1 ls ss ps
  have hst : ∀ x ∈ (madeF x0 x1 ls ss ps).stands, x.lo ≤ thereF (mLoads 0 20 (x0 % 200) (ls.take 6)) x.hr (x0 % 200) ∧ thereF (mLoads 0 20 (x0 % 200) (ls.take 6)) x.hr (x0 % 200) ≤ x.hi := fun x hx => by
    have := (mStands_ok hk a1 (by omega) (ss.take 6) 0 x hx).2.2.1
    exact ⟨this.2.1, this.2.2.1⟩
  have hG := made_grows x0 x1 ls ss ps hh hh (Int.le_refl h)
  have hv := made_valid x0 x1 ls ss ps
  have hnb := fun g => hk.there_bd a1 g
  have hin := stoodF_in (true_of hk ⟨a1, by omega⟩ hso hst)
  have hrise := hk.rise
  have hcr := made_crt x0 x1 ls ss ps
  have hsc := made_scn x0 x1 ls ss ps
  have hlo0 : 0 ≤ (madeF x0 x1 ls ss ps).lo := by
    show 0 ≤ max 0 (x0 % 200 - x0.tdiv 200 % 9)
    omega
  have hloads : (madeF x0 x1 ls ss ps).loads = (mLoads 0 20 (x0 % 200) (ls.take 6)).map Prod.fst := rfl
  generalize (mLoads 0 20 (x0 % 200) (ls.take 6)) = xs at *
  generalize madeF x0 x1 ls ss ps = p at *
  generalize x0 % 200 = l at *
  have hH : hourI p h 20 = 0 := by simp [hourI, hv, hh, show isDayB 20 = true by decide]
  have hD : dayI p 20 = 0 := by simp [dayI, hv, show isDayB 20 = true by decide]
  obtain ⟨s1, s2, s3⟩ := hin
  have hat : ∀ i, i ≤ xs.length → (stoodF p (xs.map Prod.fst)).1[i]? = some ((stoodF p (xs.map Prod.fst)).1.getD i ⟨0, 0⟩) := fun i hi => by
    rw [List.length_map] at s2
    rw [List.getD_eq_getElem?_getD, List.getElem?_eq_getElem (by omega), Option.getD_some]
  have hcl := cart_le (xs.map Prod.fst) h
  rw [List.length_map] at hcl
  have hr := s3 _ _ _ (hat _ hcl) hk.there
  have hpos := stoodF_pos hlo0 s1 (hat _ hcl)
  have hS : stoodC p h 20 = ((stoodF p (xs.map Prod.fst)).1.getD (cartF (xs.map Prod.fst) h) ⟨0, 0⟩, 0) := by simp [stoodC, hH, stoodAtF, hsc, hcr, s1]
  have hC : clearC p h 20 = (answerI (decide ((stoodC p h 20).1.lo = 0)) (decide ((stoodC p h 20).1.hi = 0)), 0) := by simp [clearC, hS]
  have hO : openC p h 20 = if shutF p h then (0, 0) else if (geeseF p h).2 then (answerI (stoodF (withF (withF p h 0 0) (geeseF p h).1 1 10000) (xs.map Prod.fst)).2 (!((stoodF (withF p h 1 10000) (xs.map Prod.fst)).2 || (stoodF (withF p (geeseF p h).1 0 0) (xs.map Prod.fst)).2)), 0) else (answerI (stoodF (withF p h 0 0) (xs.map Prod.fst)).2 (!(stoodF (withF p h 1 10000) (xs.map Prod.fst)).2), 0) := by
    unfold openC
    rw [if_pos hH, hsc, hcr, if_pos s1]
  have hyes : (clearC p h 20).1 = 1 → ¬ 0 < thereF xs h l := fun e => by
    rw [hC] at e
    have := answer_yes e
    rw [decide_eq_true_eq, hS] at this
    simp only at this
    have := hr.2
    omega
  have hno : (clearC p h 20).1 = 0 → ¬ thereF xs h l = 0 := fun e => by
    rw [hC] at e
    have := answer_no e
    rw [decide_eq_false_iff_not, hS] at this
    simp only at this
    have := hr.1
    omega
  have w1 : ∀ {g}, thereF xs g l = 0 → (stoodF (withF p g 0 0) (xs.map Prod.fst)).2 = true := fun e => (with_sound hk ⟨a1, by omega⟩ hso hst (by omega) (by omega)).1
  have w2 : 0 < thereF xs h l → (stoodF (withF p h 1 10000) (xs.map Prod.fst)).2 = true := fun e => (with_sound hk ⟨a1, by omega⟩ hso hst (by omega) (by have := hnb h; omega)).1
  have w3 : ∀ {g}, thereF xs h l = 0 → 0 < thereF xs g l → (stoodF (withF (withF p h 0 0) g 1 10000) (xs.map Prod.fst)).2 = true := fun {g} e e' =>
    (with_sound (q := withF p h 0 0) hk ⟨a1, by omega⟩ hso (with_sound hk ⟨a1, by omega⟩ hso hst (by omega) (by omega)).2 (by omega) (by have := hnb g; omega)).1
  have hT : trulyF p (xs.map Prod.fst) (numF xs) l h = if shutF p h || decide (0 < thereF xs h l) then false else !(geeseF p h).2 || decide (0 < thereF xs (geeseF p h).1 l) := by
    unfold trulyF
    rw [hl, hl]
  have hn0 := (hnb h).1
  have hb0 := (hnb (geeseF p h).1).1
  have carted : ∀ (i : Nat) (x : Ld) (t : Int), p.loads[i]? = some x → (xs.map Prod.snd)[i]? = some t → (cartedC p x.src 20).2 = 0 ∧ (cartedC p x.src 20).1.lo ≤ t ∧ t ≤ (cartedC p x.src 20).1.hi := fun i x t hx ht => by
    rw [hloads] at hx
    have hi := lt_of_get hx
    rw [List.length_map] at hi
    have hp : placeF (xs.map Prod.fst) x.src = ((i : Int), true) := by
      have := idx_at hrise hx rfl
      unfold placeF
      rw [this, if_pos (by omega)]
    have hb := hat i (by omega)
    have ha := hat (i + 1) (by omega)
    have hq : (lefts l (xs.map Prod.snd))[i]? = some (thereF (xs.take 0) 0 0 + (lefts l (xs.map Prod.snd)).getD i 0) := by
      have h9 : i < (lefts l (xs.map Prod.snd)).length := by rw [lefts_len, List.length_map]; omega
      rw [List.getD_eq_getElem?_getD, List.getElem?_eq_getElem h9, Option.getD_some, List.take_zero]
      show some _ = some (0 + _)
      rw [Int.zero_add]
    have r1 := s3 _ _ _ hb hq
    have r2 := s3 _ _ _ ha (lefts_step hq ht)
    have r3 := hk.in_ _ (get_pair hx ht)
    have e : cartedC p x.src 20 = (meetF ⟨x.lo, x.hi⟩ ⟨((stoodF p (xs.map Prod.fst)).1.getD i ⟨0, 0⟩).lo - ((stoodF p (xs.map Prod.fst)).1.getD (i + 1) ⟨0, 0⟩).hi, ((stoodF p (xs.map Prod.fst)).1.getD i ⟨0, 0⟩).hi - ((stoodF p (xs.map Prod.fst)).1.getD (i + 1) ⟨0, 0⟩).lo⟩, 0) := by
      unfold cartedC
      rw [if_pos hD, hsc, hcr, hp, if_pos rfl, if_pos s1]
      simp only [Int.toNat_natCast]
      rw [show (xs.map Prod.fst).getD i ⟨0, 0, 0, 0, 0, 0⟩ = x by rw [List.getD_eq_getElem?_getD, hx]; rfl]
    rw [e]
    have := meetF_in (r := ⟨x.lo, x.hi⟩) (s := ⟨((stoodF p (xs.map Prod.fst)).1.getD i ⟨0, 0⟩).lo - ((stoodF p (xs.map Prod.fst)).1.getD (i + 1) ⟨0, 0⟩).hi, ((stoodF p (xs.map Prod.fst)).1.getD i ⟨0, 0⟩).hi - ((stoodF p (xs.map Prod.fst)).1.getD (i + 1) ⟨0, 0⟩).lo⟩) (t := t) ⟨r3.2.2.1, r3.2.2.2⟩ (by
      have q1 := r1.1; have q2 := r1.2; have q3 := r2.1; have q4 := r2.2
      constructor
      · show _ - _ ≤ t; omega
      · show t ≤ _ - _; omega)
    exact ⟨rfl, this.1, this.2⟩
  have htk : ∀ i x, p.loads[i]? = some x → ∃ t, (xs.map Prod.snd)[i]? = some t := fun i x hx => get_lt (by
    have := lt_of_get hx
    rw [hloads, List.length_map] at this
    rw [List.length_map]; exact this)
  have hf1 : thereF xs h l = 0 → ¬ h < (firstC p 20).1.lo := fun e e' => hno (hG.none.2 e') e
  have hf2 : 0 < thereF xs h l → ¬ (firstC p 20).1.hi ≤ h := fun e e' => hyes (hG.sure.2 e') e
  refine ⟨hG.e1, hG.e3, ?_, hG.e5, ?_, ?_, ?_, ?_, ?_, ?_, ?_, ?_, ?_, fun i x hx => ?_, fun i x t hx ht => ?_, fun i x t hx ht => ?_⟩
  · rw [hO]
    split
    · rfl
    · split <;> rfl
  · rw [hcr, hl, hS]
    have := hr.1
    simp only
    omega
  · rw [hcr, hl, hS]
    have := hr.2
    simp only
    omega
  · rw [hcr, hl]; exact hyes
  · rw [hcr, hl]; exact hno
  · rw [hcr, hsc, hO, hT]
    intro e
    by_cases hsh : shutF p h = true
    · rw [if_pos hsh] at e
      cases e
    · rw [if_neg hsh] at e
      have hsh' : shutF p h = false := by simpa using hsh
      by_cases hg : (geeseF p h).2 = true
      · rw [if_pos hg] at e
        have h5 := answer_yes e
        simp only [Bool.not_eq_true', Bool.or_eq_false_iff] at h5
        have h6 : ¬ 0 < thereF xs h l := fun h7 => by rw [w2 h7] at h5; exact absurd h5.1 (by decide)
        have h8 : 0 < thereF xs (geeseF p h).1 l := by
          rcases Int.lt_or_le 0 (thereF xs (geeseF p h).1 l) with h9 | h9
          · exact h9
          · rw [w1 (g := (geeseF p h).1) (by omega)] at h5; exact absurd h5.2 (by decide)
        simp [hsh', h6, h8]
      · rw [if_neg hg] at e
        have h5 := answer_yes e
        simp only [Bool.not_eq_true'] at h5
        have h6 : ¬ 0 < thereF xs h l := fun h7 => by rw [w2 h7] at h5; exact absurd h5 (by decide)
        have hg' : (geeseF p h).2 = false := by simpa using hg
        simp [hsh', h6, hg']
  · rw [hcr, hsc, hO, hT]
    intro e
    by_cases hsh : shutF p h = true
    · simp [hsh]
    · rw [if_neg hsh] at e
      by_cases h6 : 0 < thereF xs h l
      · simp [h6]
      · have h0 : thereF xs h l = 0 := by omega
        by_cases hg : (geeseF p h).2 = true
        · rw [if_pos hg] at e
          have h5 := answer_no e
          have h8 : ¬ 0 < thereF xs (geeseF p h).1 l := fun h9 => by rw [w3 h0 h9] at h5; exact absurd h5 (by decide)
          simp [hg, h8]
        · rw [if_neg hg] at e
          have h5 := answer_no e
          rw [w1 h0] at h5
          exact absurd h5 (by decide)
  · rw [hcr, hsc, hl, hT]
    intro e h6
    simp [h6] at e
  · rw [hcr, hl]; exact hf1
  · rw [hcr, hl]; exact hf2
  · obtain ⟨t, ht⟩ := htk i x hx
    exact (carted i x t hx ht).1
  · have := (carted i x t hx ht).2.1
    omega
  · have := (carted i x t hx ht).2.2
    omega
end made
end Go.K
