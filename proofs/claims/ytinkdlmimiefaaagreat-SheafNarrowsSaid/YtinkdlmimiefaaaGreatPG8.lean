/- The made numbers are true, and what is told of a made plot is true of them. -/
import Derived.Test.YtinkdlmimiefaaaGreatPGG
import Derived.Test.YtinkdlmimiefaaaGreatPM36
namespace Go.K
set_option linter.unusedVariables false
set_option linter.unusedSimpArgs false
/-- The number of a source. -/
def numF : List (Ld × Int) → Int → Int
  | [], _ => 0
  | y :: xs, j => if y.1.src = j then y.2 else numF xs j
theorem num_ok : ∀ {xs : List (Ld × Int)} {k h l : Int}, LOk k h l xs → ∀ x ∈ xs, numF xs x.1.src = x.2
  | [], _, _, _, _, x, hx => by simp at hx
  | (y, u) :: xs, k, h, l, ⟨h1, h2, h3, h4, h5, h6⟩, x, hx => by
    rw [List.mem_cons] at hx
    rcases hx with rfl | hx
    · simp [numF]
    · have := (LOk.hours h6 x.1 (List.mem_map.2 ⟨x, hx, rfl⟩)).2.2.1
      have hne : ¬ y.src = x.1.src := by omega
      simp only [numF]
      rw [if_neg hne]
      exact num_ok h6 x hx
theorem lefts_sub {N : Int → Int} : ∀ (xs : List (Ld × Int)) (l : Int) (i : Nat), i ≤ xs.length → (∀ x ∈ xs, N x.1.src = x.2) → (lefts l (xs.map Prod.snd))[i]? = some (subF N l ((xs.map Prod.fst).take i))
  | xs, l, 0, _, _ => by rw [lefts_0]; rfl
  | [], l, i + 1, h, _ => by simp at h
  | (y, t) :: xs, l, i + 1, h, hN => by
    have ih := lefts_sub xs (l - t) i (by simpa using h) fun x hx => hN x (List.mem_cons_of_mem _ hx)
    have e : N y.src = t := hN (y, t) List.mem_cons_self
    simp only [List.map_cons, lefts, List.getElem?_cons_succ, List.take_succ_cons]
    rw [ih, subF, subF, List.foldl_cons, e]
theorem leftF_there {N : Int → Int} {xs : List (Ld × Int)} {k h l : Int} (hx : LOk k h l xs) (hN : ∀ x ∈ xs, N x.1.src = x.2) (g : Int) : leftF (xs.map Prod.fst) N l g = thereF xs g l := by
  have h1 := hx.there (g := g)
  have h2 := cart_le (xs.map Prod.fst) g
  rw [List.length_map] at h2
  rw [lefts_sub xs l _ h2 hN] at h1
  injection h1
theorem get_pair {xs : List (Ld × Int)} {i : Nat} {x : Ld} {t : Int} (hx : (xs.map Prod.fst)[i]? = some x) (ht : (xs.map Prod.snd)[i]? = some t) : (x, t) ∈ xs := by
  rw [List.getElem?_map] at hx ht
  cases h : xs[i]? with
  | none => rw [h] at hx; cases hx
  | some z =>
    rw [h] at hx ht
    simp at hx ht
    have := mem_of_get h
    rw [← hx, ← ht]
    exact this
theorem LOk.in_ : ∀ {xs : List (Ld × Int)} {k h l : Int}, LOk k h l xs → ∀ z ∈ xs, 0 ≤ z.2 ∧ z.2 ≤ l ∧ z.1.lo ≤ z.2 ∧ z.2 ≤ z.1.hi
  | [], _, _, _, _, z, hz => by simp at hz
  | (y, u) :: xs, k, h, l, ⟨h1, h2, h3, h4, h5, h6⟩, z, hz => by
    rw [List.mem_cons] at hz
    rcases hz with rfl | hz
    · exact ⟨h3.1, h3.2, h4.2.1, h4.2.2.1⟩
    · have := LOk.in_ h6 z hz
      omega
/-- Numbers that are true on a scene, and what was left by them. -/
theorem true_of {q : Pl} {xs : List (Ld × Int)} {l : Int} (hx : LOk 0 20 l xs) (h0 : 0 ≤ l ∧ l ≤ 200) (hlo : q.lo ≤ l ∧ l ≤ q.hi) (hs : ∀ x ∈ q.stands, x.lo ≤ thereF xs x.hr l ∧ thereF xs x.hr l ≤ x.hi) : True_ q (xs.map Prod.fst) (lefts l (xs.map Prod.snd)) := by
  refine ⟨by rw [lefts_len]; simp, bounds_in (fun t ht => ?_) (fun t ht => ?_) (fun x hxx => ⟨_, hx.there, hs x hxx⟩), hx.took⟩
  · rw [lefts_0] at ht
    injection ht with ht
    subst ht
    exact hlo
  · have := hx.nonneg h0.1 t ht
    omega
section made
variable (x0 x1 : Int) (ls ss ps : List A4)
theorem made_crt : crtF (madeF x0 x1 ls ss ps) 20 = (mLoads 0 20 (x0 % 200) (ls.take 6)).map Prod.fst := by
  unfold crtF
  rw [made_scn]
  exact sortF_id (made_lok x0 ls).srt
theorem made_sown : (madeF x0 x1 ls ss ps).lo ≤ x0 % 200 ∧ x0 % 200 ≤ (madeF x0 x1 ls ss ps).hi := by
  have a1 := Int.emod_nonneg x0 (show (200 : Int) ≠ 0 by decide)
  have b1 := Int.emod_nonneg (x0.tdiv 200) (show (9 : Int) ≠ 0 by decide)
  have c1 := Int.emod_nonneg (x0.tdiv 1800) (show (9 : Int) ≠ 0 by decide)
  show max 0 (x0 % 200 - x0.tdiv 200 % 9) ≤ x0 % 200 ∧ x0 % 200 ≤ x0 % 200 + x0.tdiv 1800 % 9
  omega
theorem made_true_at : TrueAt (scnF (madeF x0 x1 ls ss ps) 20) (crtF (madeF x0 x1 ls ss ps) 20) (x0 % 200) ((mLoads 0 20 (x0 % 200) (ls.take 6)).map Prod.snd) (numF (mLoads 0 20 (x0 % 200) (ls.take 6))) := by
  have a1 := Int.emod_nonneg x0 (show (200 : Int) ≠ 0 by decide)
  have a2 := Int.emod_lt_of_pos x0 (show (0 : Int) < 200 by decide)
  have hk := made_lok x0 ls
  have hN := num_ok hk
  have hl := leftF_there hk hN
  have hso := made_sown x0 x1 ls ss ps
  have hst := mStands_ok hk a1 (by omega) (ss.take 6) 0
  rw [made_crt, made_scn]
  refine ⟨?_, by omega, fun x hx => hx, fun x hx => ?_, fun i x t hx ht => hN _ (get_pair hx ht), ?_, fun i x t hx ht => ?_, fun x hx => ?_, ?_⟩
  · show (List.map Prod.snd _).length = (List.map Prod.fst _).length
    rw [List.length_map, List.length_map]
  · obtain ⟨z, hz, rfl⟩ := List.mem_map.1 hx
    have := hk.in_ z hz
    rw [hN z hz]
    omega
  · simp only [inB, Bool.and_eq_true, decide_eq_true_eq]
    exact hso
  · have := hk.in_ _ (get_pair hx ht)
    simp only [inB, Bool.and_eq_true, decide_eq_true_eq]
    exact this.2.2
  · have := (hst x hx).2.2.1
    rw [hl]
    simp only [inB, Bool.and_eq_true, decide_eq_true_eq]
    exact ⟨this.2.1, this.2.2.1⟩
  · rw [hl]
    exact (hk.there_bd a1 99999).1
/-- What is told of a plot is so by true numbers. -/
structure Told (p : Pl) (dy h s : Int) (ts : List Int) (N : Int → Int) : Prop where
  e1 : (stoodC p h dy).2 = 0
  e3 : (clearC p h dy).2 = 0
  e4 : (openC p h dy).2 = 0
  e5 : (firstC p dy).2 = 0
  lo : ¬ leftF (crtF p dy) N s h < (stoodC p h dy).1.lo
  hi : ¬ (stoodC p h dy).1.hi < leftF (crtF p dy) N s h
  yes : (clearC p h dy).1 = 1 → ¬ 0 < leftF (crtF p dy) N s h
  no : (clearC p h dy).1 = 0 → ¬ leftF (crtF p dy) N s h = 0
  oyes : (openC p h dy).1 = 1 → trulyF (scnF p dy) (crtF p dy) N s h = true
  ono : (openC p h dy).1 = 0 → trulyF (scnF p dy) (crtF p dy) N s h = false
  tr : trulyF (scnF p dy) (crtF p dy) N s h = true → ¬ 0 < leftF (crtF p dy) N s h
  f1 : leftF (crtF p dy) N s h = 0 → ¬ h < (firstC p dy).1.lo
  f2 : 0 < leftF (crtF p dy) N s h → ¬ (firstC p dy).1.hi ≤ h
  ce : ∀ (i : Nat) (x : Ld), p.loads[i]? = some x → (cartedC p x.src dy).2 = 0
  clo : ∀ (i : Nat) (x : Ld) (t : Int), p.loads[i]? = some x → ts[i]? = some t → ¬ t < (cartedC p x.src dy).1.lo
  chi : ∀ (i : Nat) (x : Ld) (t : Int), p.loads[i]? = some x → ts[i]? = some t → ¬ (cartedC p x.src dy).1.hi < t
theorem idx_at {s : Int} : ∀ {l : List Ld} {i : Nat} {x : Ld}, l.Pairwise (fun x y => x.src < y.src) → l[i]? = some x → x.src = s → idxI (fun y : Ld => decide (y.src = s)) l = i := by
  intro l i x hp hx hs
  have key : ∀ (q : Nat) (y : Ld), q < i → l[q]? = some y → decide (y.src = s) = false := fun q y hq hy => by
    have := List.pairwise_iff_getElem.1 hp q i (by have := lt_of_get hy; exact this) (lt_of_get hx) hq
    rw [List.getElem?_eq_getElem (lt_of_get hx)] at hx
    rw [List.getElem?_eq_getElem (lt_of_get hy)] at hy
    injection hx with hx; injection hy with hy
    rw [hx, hy] at this
    exact decide_eq_false (by omega)
  exact idx_hit key hx (by simpa using hs)
theorem with_sound {q : Pl} {xs : List (Ld × Int)} {l g lo hi : Int} (hx : LOk 0 20 l xs) (h0 : 0 ≤ l ∧ l ≤ 200) (hlo : q.lo ≤ l ∧ l ≤ q.hi) (hs : ∀ x ∈ q.stands, x.lo ≤ thereF xs x.hr l ∧ thereF xs x.hr l ≤ x.hi) (h1 : lo ≤ thereF xs g l) (h2 : thereF xs g l ≤ hi) :
    (stoodF (withF q g lo hi) (xs.map Prod.fst)).2 = true ∧ ∀ x ∈ (withF q g lo hi).stands, x.lo ≤ thereF xs x.hr l ∧ thereF xs x.hr l ≤ x.hi := by
  have hs' : ∀ x ∈ (withF q g lo hi).stands, x.lo ≤ thereF xs x.hr l ∧ thereF xs x.hr l ≤ x.hi := fun x hxx => by
    rcases List.mem_append.1 hxx with h | h
    · exact hs x h
    · rw [List.mem_singleton] at h
      subst h
      exact ⟨h1, h2⟩
  exact ⟨(stoodF_in (true_of hx h0 (q := withF q g lo hi) hlo hs')).1, hs'⟩
end made
end Go.K
