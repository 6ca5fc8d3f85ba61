/- Loads and stands that contradict each other. -/
import Derived.Test.YtinkdlmimiefaaaGreatPM41
import Derived.Test.YtinkdlmimiefaaaGreatPG11
namespace Go.K
set_option linter.unusedVariables false
set_option linter.unusedSimpArgs false
/-- True numbers, said plainly. -/
structure TrueN (p : Pl) (cs : List Ld) (ts : List Int) : Prop where
  len : ts.length = cs.length + 1
  s0 : ∀ t, ts[0]? = some t → p.lo ≤ t ∧ t ≤ p.hi
  pos : ∀ t ∈ ts, 0 ≤ t ∧ t ≤ 10000
  st : ∀ x ∈ p.stands, ∃ t, ts[cartF cs x.hr]? = some t ∧ x.lo ≤ t ∧ t ≤ x.hi
  took : ∀ (i : Nat) (x : Ld) (a b : Int), cs[i]? = some x → ts[i]? = some a → ts[i + 1]? = some b → x.lo ≤ a - b ∧ a - b ≤ x.hi
theorem TrueN.sound {p : Pl} {cs : List Ld} {ts : List Int} (h : TrueN p cs ts) : (stoodF p cs).2 = true :=
  (stoodF_in (ts := ts) ⟨h.len, bounds_in h.s0 h.pos h.st, h.took⟩).1
theorem sound_true {p : Pl} {cs : List Ld} (hp : 0 ≤ p.lo ∧ p.hi ≤ 10000) (hx : ∀ x ∈ cs, x.lo ≤ x.hi) (hs : (stoodF p cs).2 = true) : ∃ ts, TrueN p cs ts := by
  have hT := ends_true hx hs false
  have hb := bounds_len p cs
  have hl := stoodF_len hs
  have hel := ends_len false (stoodF p cs).1
  refine ⟨_, hT.len, fun t ht => ?_, fun t ht => ?_, fun x hxx => ?_, hT.took⟩
  · obtain ⟨b, hbb⟩ := get_lt (l := boundsF p cs) (i := 0) (by omega)
    have h1 := hT.bnd 0 b t hbb ht
    obtain ⟨c, hc, c1, c2⟩ := fold_nar _ _ _ _ hbb
    simp only [List.getElem?_cons_zero, Option.some.injEq] at hc
    subst hc
    unfold Rng at h1
    simp only at c1 c2
    omega
  · obtain ⟨i, hi, e⟩ := List.getElem_of_mem ht
    obtain ⟨b, hbb⟩ := get_lt (l := boundsF p cs) (i := i) (by omega)
    have h1 := hT.bnd i b t hbb (by rw [List.getElem?_eq_getElem hi, e])
    obtain ⟨c, hc, c1, c2⟩ := fold_nar _ _ _ _ hbb
    unfold Rng at h1
    cases i with
    | zero =>
      simp only [List.getElem?_cons_zero, Option.some.injEq] at hc
      subst hc
      simp only at c1 c2
      omega
    | succ i =>
      rw [List.getElem?_cons_succ] at hc
      have := mem_of_get hc
      rw [List.mem_replicate] at this
      rw [this.2] at c1 c2
      simp only at c1 c2
      omega
  · have hc := cart_le cs x.hr
    obtain ⟨b, hbb⟩ := get_lt (l := boundsF p cs) (i := cartF cs x.hr) (by omega)
    obtain ⟨t, ht⟩ := get_lt (l := endsF false (stoodF p cs).1) (i := cartF cs x.hr) (by omega)
    have h1 := hT.bnd _ b t hbb ht
    have h2 := fold_stand _ _ _ hxx hbb
    unfold Rng at h1
    exact ⟨t, ht, by omega, by omega⟩
theorem cart_same {h : Int} : ∀ {cs ds : List Ld}, cs.map Ld.hr = ds.map Ld.hr → cartF cs h = cartF ds h
  | [], [], _ => rfl
  | [], y :: ds, e => by simp at e
  | x :: cs, [], e => by simp at e
  | x :: cs, y :: ds, e => by
    simp only [List.map_cons, List.cons.injEq] at e
    have ih := cart_same (h := h) e.2
    unfold cartF at ih ⊢
    rw [List.takeWhile_cons, List.takeWhile_cons, e.1]
    split
    · rw [List.length_cons, List.length_cons, ih]
    · rfl
theorem byC_hr (cs : List Ld) (S : Int → Bool) : (byC cs S).map Ld.hr = cs.map Ld.hr := by
  unfold byC
  rw [List.map_map]
  apply List.map_congr_left
  intro x _
  show Ld.hr (if S x.src then x else _) = x.hr
  split <;> rfl
theorem byC_at {cs : List Ld} {S : Int → Bool} {i : Nat} {x : Ld} (h : cs[i]? = some x) : (byC cs S)[i]? = some (if S x.src then x else ⟨x.src, x.hr, 0, 10000, x.kn, x.un⟩) := by
  unfold byC
  rw [List.getElem?_map, h]
  rfl
structure ScB (q : Pl) (cs : List Ld) : Prop where
  p : 0 ≤ q.lo ∧ q.lo ≤ q.hi ∧ q.hi ≤ 10000
  ld : ∀ x ∈ cs, 0 ≤ x.lo ∧ x.lo ≤ x.hi ∧ x.hi ≤ 10000
theorem ScB.by_ {q : Pl} {cs : List Ld} (h : ScB q cs) (S : Int → Bool) : ∀ x ∈ byC cs S, 0 ≤ x.lo ∧ x.lo ≤ x.hi ∧ x.hi ≤ 10000 := fun x hx => by
  obtain ⟨y, hy, rfl⟩ := List.mem_map.1 hx
  split
  · exact h.ld y hy
  · exact ⟨by show (0 : Int) ≤ 0; decide, by show (0 : Int) ≤ 10000; decide, by show (10000 : Int) ≤ 10000; decide⟩
theorem snd_iff {q : Pl} {cs : List Ld} (h : ScB q cs) (S : Int → Bool) : sndB q cs S = true ↔ ∃ ts, TrueN (byP q S) (byC cs S) ts := by
  refine ⟨fun e => sound_true (p := byP q S) ⟨h.p.1, h.p.2.2⟩ (fun x hx => (h.by_ S x hx).2.1) e, fun ⟨ts, e⟩ => e.sound⟩
theorem snd_mono {q : Pl} {cs : List Ld} (h : ScB q cs) {S T : Int → Bool} (hST : ∀ j, T j = true → S j = true) (hs : sndB q cs S = true) : sndB q cs T = true := by
  obtain ⟨ts, e⟩ := (snd_iff h S).1 hs
  refine (snd_iff h T).2 ⟨ts, ?_, e.s0, e.pos, fun x hx => ?_, fun i x a b hx ha hb => ?_⟩
  · rw [e.len, byC_len, byC_len]
  · obtain ⟨hx1, hx2⟩ := List.mem_filter.1 hx
    have := e.st x (List.mem_filter.2 ⟨hx1, hST _ hx2⟩)
    rw [cart_same ((byC_hr cs S).trans (byC_hr cs T).symm)] at this
    exact this
  · obtain ⟨y, hy⟩ := get_lt (l := cs) (i := i) (by have := lt_of_get hx; rwa [byC_len] at this)
    have h1 := e.took i _ a b (byC_at hy) ha hb
    have h2 := h.ld y (mem_of_get hy)
    rw [byC_at hy] at hx
    injection hx with hx
    subst hx
    cases hT : T y.src with
    | true =>
      rw [hST _ hT] at h1
      simpa using h1
    | false =>
      show (0 : Int) ≤ a - b ∧ a - b ≤ 10000
      cases hS : S y.src with
      | true =>
        rw [hS] at h1
        simp only [if_true] at h1
        omega
      | false =>
        rw [hS] at h1
        have h3 : (0 : Int) ≤ a - b ∧ a - b ≤ 10000 := h1
        exact h3
theorem snd_none {q : Pl} {cs : List Ld} (h : ScB q cs) {S : Int → Bool} (hS : ∀ j, S j = false) : sndB q cs S = true := by
  have hp := h.p
  refine (snd_iff h S).2 ⟨List.replicate (cs.length + 1) q.lo, by rw [List.length_replicate, byC_len], fun t ht => ?_, fun t ht => ?_, fun x hx => ?_, fun i x a b hx ha hb => ?_⟩
  · have := List.eq_of_mem_replicate (mem_of_get ht)
    subst this
    exact ⟨Int.le_refl _, hp.2.1⟩
  · have := List.eq_of_mem_replicate ht
    omega
  · have := (List.mem_filter.1 hx).2
    rw [hS] at this
    cases this
  · obtain ⟨y, hy⟩ := get_lt (l := cs) (i := i) (by have := lt_of_get hx; rwa [byC_len] at this)
    rw [byC_at hy, hS] at hx
    injection hx with hx
    subst hx
    have h1 := List.eq_of_mem_replicate (mem_of_get ha)
    have h2 := List.eq_of_mem_replicate (mem_of_get hb)
    subst h1; subst h2
    show (0 : Int) ≤ q.lo - q.lo ∧ q.lo - q.lo ≤ 10000
    omega
def minus (S : Int → Bool) (s j : Int) : Bool := if j = s then false else S j
theorem clash_inv {q : Pl} {cs : List Ld} (h : ScB q cs) : ∀ (ds : List Int) (S0 : Int → Bool) (out0 : List Int), ds.Nodup → sndB q cs S0 = false → (∀ j, j ∉ ds → (S0 j = true ↔ j ∈ out0)) → (∀ j ∈ ds, S0 j = true) → (∀ s ∈ out0, s ∉ ds) → (∀ s ∈ out0, sndB q cs (minus S0 s) = true) →
    sndB q cs (ds.foldl (clashStep q cs) (S0, out0)).1 = false ∧ (∀ j, (ds.foldl (clashStep q cs) (S0, out0)).1 j = true ↔ j ∈ (ds.foldl (clashStep q cs) (S0, out0)).2) ∧ (∀ s ∈ (ds.foldl (clashStep q cs) (S0, out0)).2, sndB q cs (minus (ds.foldl (clashStep q cs) (S0, out0)).1 s) = true) ∧ ∃ o, (ds.foldl (clashStep q cs) (S0, out0)).2 = out0 ++ o ∧ o.Sublist ds
  | [], S0, out0, _, h1, h2, _, _, h5 => ⟨h1, fun j => h2 j (by simp), h5, [], by simp, List.Sublist.slnil⟩
  | s :: ds, S0, out0, hn, h1, h2, h3, h4, h5 => by
    obtain ⟨hn1, hn2⟩ := List.nodup_cons.1 hn
    rw [List.foldl_cons]
    have hs0 := h3 s List.mem_cons_self
    by_cases hc : sndB q cs (minus S0 s) = true
    · have e : clashStep q cs (S0, out0) s = (S0, out0 ++ [s]) := by
        unfold clashStep
        dsimp only
        have hc' : (stoodF (byP q fun j => if j = s then false else S0 j) (byC cs fun j => if j = s then false else S0 j)).2 = true := hc
        rw [if_pos hc']
        congr 1
        funext j
        by_cases ej : j = s
        · simp [ej, hs0]
        · simp [ej]
      rw [e]
      obtain ⟨r1, r2, r3, o, r4, r5⟩ := clash_inv h ds S0 (out0 ++ [s]) hn2 h1 (fun j hj => by
        by_cases ej : j = s
        · simp [ej, hs0]
        · rw [h2 j (by simp [ej, hj])]; simp [ej]) (fun j hj => h3 j (List.mem_cons_of_mem _ hj)) (fun t ht => by
        rcases List.mem_append.1 ht with ht | ht
        · exact fun hh => h4 t ht (List.mem_cons_of_mem _ hh)
        · rw [List.mem_singleton] at ht; subst ht; exact hn1) (fun t ht => by
        rcases List.mem_append.1 ht with ht | ht
        · exact h5 t ht
        · rw [List.mem_singleton] at ht; subst ht; exact hc)
      exact ⟨r1, r2, r3, s :: o, by rw [r4, List.append_assoc]; rfl, r5.cons_cons s⟩
    · have hc2 : sndB q cs (minus S0 s) = false := by simpa using hc
      have e : clashStep q cs (S0, out0) s = (minus S0 s, out0) := by
        unfold clashStep
        dsimp only
        have hc' : (stoodF (byP q fun j => if j = s then false else S0 j) (byC cs fun j => if j = s then false else S0 j)).2 = false := hc2
        rw [if_neg (by rw [hc']; decide)]
        rfl
      rw [e]
      obtain ⟨r1, r2, r3, o, r4, r5⟩ := clash_inv h ds (minus S0 s) out0 hn2 hc2 (fun j hj => by
        unfold minus
        by_cases ej : j = s
        · subst ej
          have hno : ¬ j ∈ out0 := fun hh => h4 j hh List.mem_cons_self
          simp [hno]
        · rw [if_neg ej]; exact h2 j (by simp [ej, hj])) (fun j hj => by
        unfold minus
        have ej : ¬ j = s := fun ej => hn1 (by rw [← ej]; exact hj)
        rw [if_neg ej]
        exact h3 j (List.mem_cons_of_mem _ hj)) (fun t ht hh => h4 t ht (List.mem_cons_of_mem _ hh)) (fun t ht => snd_mono h (fun j hj => by
          unfold minus at hj ⊢
          by_cases e1 : j = t
          · rw [if_pos e1] at hj; cases hj
          · rw [if_neg e1] at hj ⊢
            by_cases e2 : j = s
            · rw [if_pos e2] at hj; cases hj
            · rw [if_neg e2] at hj; exact hj) (h5 t ht))
      exact ⟨r1, r2, r3, o, r4, r5.cons s⟩
theorem someB_of {q : Pl} : ∀ {l : List Int} {last : Int}, l.Pairwise (· < ·) → (∀ x ∈ l, last < x) → (∀ x ∈ l, srcB q x = true) → someB q last l = true
  | [], _, _, _, _ => rfl
  | x :: l, last, hp, h1, h2 => by
    obtain ⟨p1, p2⟩ := List.pairwise_cons.1 hp
    have a := h1 x List.mem_cons_self
    have b := h2 x List.mem_cons_self
    have c := someB_of (q := q) p2 p1 fun y hy => h2 y (List.mem_cons_of_mem _ hy)
    simp [someB, a, b, c]
theorem scB_of {p : Pl} (hv : plotB p = true) (dy : Int) : ScB (scnF p dy) (crtF p dy) := by
  have hr := (plotB_iff p).1 hv
  have hso := hr.sown
  simp only [areSheavesB, Bool.and_eq_true, decide_eq_true_eq] at hso
  refine ⟨⟨hso.1.1, hso.1.2, hso.2⟩, fun x hx => ?_⟩
  have h9 := hr.o1 x (List.mem_filter.1 (sortF_mem.1 hx)).1
  have := codeI_ok h9 (by decide)
  simp only [loadB, areSheavesB, Bool.and_eq_true, decide_eq_true_eq] at this
  omega
theorem by_self {q : Pl} {cs : List Ld} (hc : ∀ x ∈ cs, x ∈ q.loads) : byP q (srcB q) = q ∧ byC cs (srcB q) = cs := by
  constructor
  · unfold byP
    have : q.stands.filter (fun x => srcB q x.src) = q.stands := List.filter_eq_self.2 fun x hx => by
      simp only [srcB, decide_eq_true_eq, List.mem_append]
      exact .inr (List.mem_map.2 ⟨x, hx, rfl⟩)
    rw [this]
  · unfold byC
    conv => rhs; rw [← List.map_id cs]
    apply List.map_congr_left
    intro x hx
    have : srcB q x.src = true := by
      simp only [srcB, decide_eq_true_eq, List.mem_append]
      exact .inl (List.mem_map.2 ⟨x, hc x hx, rfl⟩)
    rw [this]
    rfl
theorem sort_lt {l : List Int} (h : l.Nodup) : (sortI l).Pairwise (· < ·) := by
  have h1 : (sortI l).Pairwise fun a b => decide (a ≤ b) = true := List.pairwise_mergeSort (le := fun x y => decide (x ≤ y)) (fun a b c => by simp only [decide_eq_true_eq]; omega) (fun a b => by simp only [Bool.or_eq_true, decide_eq_true_eq]; omega) l
  have h2 : (sortI l).Nodup := (List.mergeSort_perm l _).nodup_iff.2 h
  refine (h1.and h2).imp fun h => ?_
  have := h.1
  have := h.2
  simp only [decide_eq_true_eq] at *
  omega
theorem clash_ok {p : Pl} {dy : Int} (hv : plotB p = true) (hd : isDayB dy = true) (hu : (stoodF (scnF p dy) (crtF p dy)).2 = false) : (clashC p dy).2 = 0 ∧ ¬ (clashC p dy).1.length = 0 ∧ clashB (scnF p dy) (crtF p dy) (clashC p dy).1 = true := by
  have hr := (plotB_iff p).1 hv
  have hD : dayI p dy = 0 := by simp [dayI, hv, hd]
  have hB := scB_of hv dy
  have hn := srcL_nodup hv dy
  have hc : ∀ x ∈ crtF p dy, x ∈ (scnF p dy).loads := fun x hx => sortF_mem.1 hx
  have e : clashC p dy = ((clashF (scnF p dy) (crtF p dy) (fallF (scnF p dy))).2.reverse, 0) := by simp [clashC, hD, hu]
  have hpos : ∀ j ∈ srcL (scnF p dy), 0 < j := fun j hj => by
    rcases List.mem_append.1 hj with hj | hj
    · obtain ⟨x, hx, rfl⟩ := List.mem_map.1 hj
      exact okL_pos (by decide) (hr.o1 x (List.mem_filter.1 hx).1)
    · obtain ⟨x, hx, rfl⟩ := List.mem_map.1 hj
      exact okL_pos (by decide) (hr.o2 x (List.mem_filter.1 hx).1)
  have hmem : ∀ j, j ∈ fallF (scnF p dy) ↔ j ∈ srcL (scnF p dy) := fun j => by
    unfold fallF
    rw [List.mem_reverse]
    exact (List.mergeSort_perm _ _).mem_iff
  have hsrc : ∀ j, srcB (scnF p dy) j = true ↔ j ∈ srcL (scnF p dy) := fun j => by simp [srcB, srcL]
  have hself := by_self hc
  have h0 : sndB (scnF p dy) (crtF p dy) (srcB (scnF p dy)) = false := by
    unfold sndB
    rw [hself.1, hself.2, hu]
  obtain ⟨r1, r2, r3, o, r4, r5⟩ := clash_inv hB (fallF (scnF p dy)) (srcB (scnF p dy)) [] (by
      unfold fallF
      exact (List.reverse_perm _).nodup_iff.2 ((List.mergeSort_perm _ _).nodup_iff.2 hn)) h0 (fun j hj => by
      rw [hmem] at hj
      simp only [List.not_mem_nil, iff_false]
      exact fun hh => hj ((hsrc j).1 hh)) (fun j hj => (hsrc j).2 ((hmem j).1 hj)) (fun s hs => by cases hs) (fun s hs => by cases hs)
  have ec : clashF (scnF p dy) (crtF p dy) (fallF (scnF p dy)) = (fallF (scnF p dy)).foldl (clashStep (scnF p dy) (crtF p dy)) (srcB (scnF p dy), []) := rfl
  rw [← ec] at r1 r2 r3 r4
  rw [List.nil_append] at r4
  rw [e]
  generalize clashF (scnF p dy) (crtF p dy) (fallF (scnF p dy)) = R at *
  obtain ⟨S, out⟩ := R
  simp only at r1 r2 r3 r4 ⊢
  subst r4
  have hS : S = fun j => decide (j ∈ out.reverse) := by
    funext j
    have := r2 j
    rw [Bool.eq_iff_iff, this, decide_eq_true_eq, List.mem_reverse]
  have hsub : out.reverse.Sublist (sortI (srcL (scnF p dy))) := by
    have := r5.reverse
    unfold fallF at this
    rwa [List.reverse_reverse] at this
  refine ⟨trivial, fun hl => ?_, clashB_all (someB_of (List.Pairwise.sublist hsub (sort_lt hn)) (fun x hx => ?_) (fun x hx => ?_)) (by rw [← hS]; exact r1) (fun i s hi hs => ?_)⟩
  · rw [List.length_reverse] at hl
    have ho : out = [] := List.length_eq_zero_iff.1 hl
    have := snd_none hB (S := S) (fun j => by
      cases hj : S j with
      | false => rfl
      | true => have := (r2 j).1 hj; rw [ho] at this; cases this)
    rw [this] at r1
    cases r1
  · exact hpos x ((hmem x).1 (r5.subset (List.mem_reverse.1 hx)))
  · exact (hsrc x).2 ((hmem x).1 (r5.subset (List.mem_reverse.1 hx)))
  · have := r3 s (List.mem_reverse.1 (mem_of_get hs))
    have em : lessS out.reverse s = minus S s := by
      funext j
      rw [hS]
      rfl
    rw [em]
    exact this
theorem map_inj {α : Type} {f : α → Int} : ∀ {l : List α} {x y : α}, (l.map f).Nodup → x ∈ l → y ∈ l → f x = f y → x = y
  | [], x, y, _, hx, _, _ => by simp at hx
  | z :: l, x, y, hn, hx, hy, e => by
    rw [List.map_cons, List.nodup_cons] at hn
    rcases List.mem_cons.1 hx with h1 | h1 <;> rcases List.mem_cons.1 hy with h2 | h2
    · rw [h1, h2]
    · exact absurd (List.mem_map.2 ⟨y, h2, by rw [← e, h1]⟩) hn.1
    · exact absurd (List.mem_map.2 ⟨x, h1, by rw [e, h2]⟩) hn.1
    · exact map_inj hn.2 h1 h2 e
theorem TrueN.falls {p : Pl} {cs : List Ld} {ts : List Int} (h : TrueN p cs ts) (hx : ∀ x ∈ cs, 0 ≤ x.lo) : ∀ (k : Nat) (a b : Int), ts[0]? = some a → ts[k]? = some b → b ≤ a
  | 0, a, b, ha, hb => by
    rw [ha] at hb
    injection hb with hb
    omega
  | k + 1, a, b, ha, hb => by
    have hk := lt_of_get hb
    have hl := h.len
    obtain ⟨c, hc⟩ := get_lt (l := ts) (i := k) (by omega)
    obtain ⟨x, hxx⟩ := get_lt (l := cs) (i := k) (by omega)
    have h1 := TrueN.falls h hx k a c ha hc
    have h2 := h.took k x c b hxx hc hb
    have h3 := hx x (mem_of_get hxx)
    omega
theorem insR_perm (x : Ld) (acc : List Ld) : (insR x acc).Perm (x :: acc) := by
  have h := List.takeWhile_append_dropWhile (p := fun y => decide (x.hr < y.hr)) (l := acc.reverse)
  have e : insR x acc = (acc.reverse.dropWhile fun y => decide (x.hr < y.hr)).reverse ++ x :: (acc.reverse.takeWhile fun y => decide (x.hr < y.hr)).reverse := by
    unfold insR
    simp
  rw [e]
  refine List.perm_middle.trans (List.Perm.cons x ?_)
  rw [← List.reverse_append, h, List.reverse_reverse]
theorem sortL_perm : ∀ (l acc : List Ld), (l.foldl (fun acc x => insR x acc) acc).Perm (l ++ acc)
  | [], acc => List.Perm.refl _
  | x :: l, acc => by
    rw [List.foldl_cons]
    refine (sortL_perm l (insR x acc)).trans ?_
    refine ((insR_perm x acc).append_left l).trans ?_
    exact List.perm_middle
theorem sortF_perm (l : List Ld) : (sortF l).Perm l := by
  have := sortL_perm l []
  rwa [List.append_nil] at this
/-- One load alone contradicts exactly if it took more than was sown. -/
theorem alone_iff {p : Pl} {dy : Int} (hv : plotB p = true) {x : Ld} (hx : x ∈ p.loads) (hcnt : countsB x.kn x.un dy = decide (x.kn ≤ dy)) : clashB (scnF p dy) (crtF p dy) [x.src] = (decide (x.kn ≤ dy) && decide (p.hi < x.lo)) := by
  have hr := (plotB_iff p).1 hv
  have hB := scB_of hv dy
  have hnd := hr.nd
  unfold srcsOf at hnd
  rw [List.nodup_append, List.nodup_append] at hnd
  obtain ⟨⟨n1, n2, n3⟩, _, _⟩ := hnd
  have hpos := okL_pos (by decide) (hr.o1 x hx)
  have hst : ∀ y ∈ (scnF p dy).stands, ¬ y.src = x.src := fun y hy e => n3 x.src (List.mem_map.2 ⟨x, hx, rfl⟩) y.src (List.mem_map.2 ⟨y, (List.mem_filter.1 hy).1, rfl⟩) e.symm
  have hld : ∀ y ∈ (scnF p dy).loads, y.src = x.src → y = x := fun y hy e => map_inj n1 (List.mem_filter.1 hy).1 hx e
  by_cases hc : x.kn ≤ dy
  · have hq : x ∈ (scnF p dy).loads := List.mem_filter.2 ⟨hx, by show countsB x.kn x.un dy = true; rw [hcnt]; exact decide_eq_true hc⟩
    have hsb : someB (scnF p dy) 0 [x.src] = true := by
      have h1 : srcB (scnF p dy) x.src = true := by
        simp only [srcB, decide_eq_true_eq, List.mem_append]
        exact .inl (List.mem_map.2 ⟨x, hq, rfl⟩)
      simp [someB, h1, hpos]
    have hless : sndB (scnF p dy) (crtF p dy) (lessS [x.src] x.src) = true := snd_none hB fun j => by
      unfold lessS
      by_cases e : j = x.src <;> simp [e]
    have hqc : x ∈ crtF p dy := sortF_mem.2 hq
    obtain ⟨i, hi, e⟩ := List.getElem_of_mem hqc
    have hxi : (crtF p dy)[i]? = some x := by rw [List.getElem?_eq_getElem hi, e]
    have hstands : (byP (scnF p dy) fun j => decide (j ∈ [x.src])).stands = [] := by
      show (scnF p dy).stands.filter (fun y => decide (y.src ∈ [x.src])) = []
      rw [List.filter_eq_nil_iff]
      intro y hy hh
      simp only [List.mem_singleton, decide_eq_true_eq] at hh
      exact hst y hy hh
    have hsnd : sndB (scnF p dy) (crtF p dy) (fun j => decide (j ∈ [x.src])) = decide (x.lo ≤ p.hi) := by
      rw [Bool.eq_iff_iff, snd_iff hB, decide_eq_true_eq]
      constructor
      · rintro ⟨ts, h⟩
        have hl := h.len
        rw [byC_len] at hl
        obtain ⟨t0, h0⟩ := get_lt (l := ts) (i := 0) (by omega)
        obtain ⟨a, ha⟩ := get_lt (l := ts) (i := i) (by omega)
        obtain ⟨b, hb⟩ := get_lt (l := ts) (i := i + 1) (by omega)
        have f1 := h.falls (fun y hy => (hB.by_ _ y hy).1) i t0 a h0 ha
        have f2 := (h.s0 t0 h0).2
        have f3 := (h.pos b (mem_of_get hb)).1
        have f4 := h.took i _ a b (byC_at hxi) ha hb
        have e1 : decide (x.src ∈ [x.src]) = true := by simp
        rw [e1] at f4
        simp only [if_true] at f4
        have f5 : (byP (scnF p dy) fun j => decide (j ∈ [x.src])).hi = p.hi := rfl
        omega
      · intro hle
        have hb := hB.p
        have hbx := hB.ld x (sortF_mem.2 hq)
        have q1 : (scnF p dy).lo = p.lo := rfl
        have q2 : (scnF p dy).hi = p.hi := rfl
        have hget : ∀ (k : Nat) (t : Int), ((List.range ((crtF p dy).length + 1)).map fun k => if k ≤ i then p.hi else p.hi - x.lo)[k]? = some t → t = if k ≤ i then p.hi else p.hi - x.lo := fun k t ht => by
          have hk := lt_of_get ht
          rw [List.length_map, List.length_range] at hk
          rw [List.getElem?_map, List.getElem?_range hk] at ht
          simp only [Option.map_some, Option.some.injEq] at ht
          exact ht.symm
        refine ⟨(List.range ((crtF p dy).length + 1)).map fun k => if k ≤ i then p.hi else p.hi - x.lo, by rw [List.length_map, List.length_range, byC_len], fun t ht => ?_, fun t ht => ?_, fun y hy => absurd (hstands ▸ hy) List.not_mem_nil, fun k y a b hy ha hb => ?_⟩
        · have := hget 0 t ht
          rw [if_pos (by omega)] at this
          subst this
          show p.lo ≤ p.hi ∧ p.hi ≤ p.hi
          omega
        · obtain ⟨k, hk, e⟩ := List.getElem_of_mem ht
          have := hget k t (by rw [List.getElem?_eq_getElem hk, e])
          split at this <;> omega
        · have ga := hget k a ha
          have gb := hget (k + 1) b hb
          obtain ⟨z, hz⟩ := get_lt (l := crtF p dy) (i := k) (by have := lt_of_get hy; rwa [byC_len] at this)
          rw [byC_at hz] at hy
          injection hy with hy
          by_cases ek : k = i
          · subst ek
            rw [hxi] at hz
            injection hz with hz
            subst hz
            have e1 : decide (x.src ∈ [x.src]) = true := by simp
            rw [e1] at hy
            simp only [if_true] at hy
            subst hy
            rw [if_pos (by omega)] at ga
            rw [if_neg (by omega)] at gb
            omega
          · have hne : ¬ z.src = x.src := fun ee => by
              have := hld z (sortF_mem.1 (mem_of_get hz)) ee
              subst this
              exact ek (by
                have hns : ((crtF p dy).map Ld.src).Nodup := by
                  have hs : ((scnF p dy).loads.map Ld.src).Nodup := List.Nodup.sublist (List.Sublist.map _ List.filter_sublist) n1
                  have hp : (crtF p dy).Perm (scnF p dy).loads := sortF_perm _
                  exact (hp.map Ld.src).nodup_iff.2 hs
                have h5 := List.getElem?_map (f := Ld.src) (l := crtF p dy) (i := k)
                have h6 := List.getElem?_map (f := Ld.src) (l := crtF p dy) (i := i)
                rw [hz] at h5
                rw [hxi] at h6
                have hk' := lt_of_get hz
                exact (List.getElem_inj (h₀ := by rw [List.length_map]; exact hk') (h₁ := by rw [List.length_map]; exact hi) hns).1 (by
                  rw [List.getElem?_eq_getElem (by rw [List.length_map]; exact hk')] at h5
                  rw [List.getElem?_eq_getElem (by rw [List.length_map]; exact hi)] at h6
                  simp only [Option.map_some, Option.some.injEq] at h5 h6
                  rw [h5, h6]))
            have e1 : decide (z.src ∈ [x.src]) = false := by simpa using hne
            rw [e1] at hy
            have hy' : (⟨z.src, z.hr, 0, 10000, z.kn, z.un⟩ : Ld) = y := hy
            subst hy'
            show (0 : Int) ≤ a - b ∧ a - b ≤ 10000
            rcases Nat.lt_or_ge k i with h7 | h7
            · rw [if_pos (by omega)] at ga gb
              omega
            · rw [if_neg (by omega)] at ga gb
              omega
    unfold clashB
    rw [hsb, hsnd]
    simp only [List.all_cons, List.all_nil, hless, Bool.and_true, Bool.true_and, decide_eq_true hc]
    rw [Bool.eq_iff_iff]
    simp only [Bool.not_eq_true', decide_eq_false_iff_not, decide_eq_true_eq]
    omega
  · have hno : srcB (scnF p dy) x.src = false := by
      simp only [srcB, decide_eq_false_iff_not, List.mem_append]
      rintro (h | h)
      · obtain ⟨y, hy, e⟩ := List.mem_map.1 h
        have := hld y hy e
        subst this
        have h2 := (List.mem_filter.1 hy).2
        have h3 : countsB y.kn y.un dy = true := h2
        rw [hcnt] at h3
        exact hc (of_decide_eq_true h3)
      · obtain ⟨y, hy, e⟩ := List.mem_map.1 h
        exact hst y hy e
    simp [clashB, someB, hno, hc]
end Go.K
