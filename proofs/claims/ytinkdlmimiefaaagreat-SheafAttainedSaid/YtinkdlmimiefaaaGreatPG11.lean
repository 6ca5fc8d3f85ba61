/- The numbers that Attain returns are true, and attain what they should. -/
import Derived.Test.YtinkdlmimiefaaaGreatPM39
import Derived.Test.YtinkdlmimiefaaaGreatPG9
namespace Go.K
set_option linter.unusedVariables false
set_option linter.unusedSimpArgs false
theorem boundS_nar {cs : List Ld} {bs : List Rg} {x : Ld} {i : Nat} {b' : Rg} (h : (boundS cs bs x)[i]? = some b') : ∃ b, bs[i]? = some b ∧ b.lo ≤ b'.lo ∧ b'.hi ≤ b.hi := by
  unfold boundS at h
  have hi := lt_of_get h
  rw [List.length_set] at hi
  by_cases e : cartF cs x.hr = i
  · subst e
    rw [List.getElem?_set_self hi] at h
    injection h with h
    subst h
    refine ⟨_, List.getElem?_eq_getElem hi, ?_⟩
    rw [List.getD_eq_getElem?_getD, List.getElem?_eq_getElem hi, Option.getD_some]
    exact ⟨meetF_le.1, meetF_le.2.1⟩
  · rw [List.getElem?_set_ne e] at h
    exact ⟨b', h, Int.le_refl _, Int.le_refl _⟩
theorem fold_nar {cs : List Ld} : ∀ (l : List Ld) (bs : List Rg) (i : Nat) (b' : Rg), (l.foldl (boundS cs) bs)[i]? = some b' → ∃ b, bs[i]? = some b ∧ b.lo ≤ b'.lo ∧ b'.hi ≤ b.hi
  | [], bs, i, b', h => ⟨b', h, Int.le_refl _, Int.le_refl _⟩
  | x :: l, bs, i, b', h => by
    obtain ⟨c, hc, c1, c2⟩ := fold_nar l (boundS cs bs x) i b' h
    obtain ⟨b, hb, b1, b2⟩ := boundS_nar hc
    exact ⟨b, hb, by omega, by omega⟩
theorem fold_stand {cs : List Ld} {x : Ld} : ∀ (l : List Ld) (bs : List Rg) (b' : Rg), x ∈ l → (l.foldl (boundS cs) bs)[cartF cs x.hr]? = some b' → x.lo ≤ b'.lo ∧ b'.hi ≤ x.hi
  | [], bs, b', hm, h => by simp at hm
  | y :: l, bs, b', hm, h => by
    rw [List.foldl_cons] at h
    rcases List.mem_cons.1 hm with rfl | hm
    · obtain ⟨c, hc, c1, c2⟩ := fold_nar l _ _ b' h
      unfold boundS at hc
      have hi := lt_of_get hc
      rw [List.length_set] at hi
      rw [List.getElem?_set_self hi] at hc
      injection hc with hc
      subst hc
      have := @meetF_le (bs.getD (cartF cs x.hr) ⟨0, 0⟩) ⟨x.lo, x.hi⟩
      have q1 : (⟨x.lo, x.hi⟩ : Rg).lo = x.lo := rfl
      have q2 : (⟨x.lo, x.hi⟩ : Rg).hi = x.hi := rfl
      omega
    · exact fold_stand l _ b' hm h
theorem subF_ends {p : Pl} {cs : List Ld} {ts : List Int} {N : Int → Int} (hT : True_ p cs ts) (hN : NumOf cs ts N) : ∀ i, i ≤ cs.length → ts[i]? = some (subF N (ts.getD 0 0) (cs.take i))
  | 0, _ => by
    obtain ⟨t, ht⟩ := get_lt (l := ts) (i := 0) (by have := hT.len; omega)
    rw [List.getD_eq_getElem?_getD, ht]
    rfl
  | i + 1, h => by
    have ih := subF_ends hT hN i (by omega)
    obtain ⟨x, hx⟩ := get_lt (l := cs) (i := i) (by omega)
    obtain ⟨b, hb⟩ := get_lt (l := ts) (i := i + 1) (by have := hT.len; omega)
    have hn := hN i x _ b hx ih hb
    rw [hb, take_get hx]
    have e : subF N (ts.getD 0 0) (cs.take i ++ [x]) = subF N (ts.getD 0 0) (cs.take i) - N x.src := by
      unfold subF
      rw [List.foldl_append]
      rfl
    rw [e, hn]
    congr 1
    omega
theorem attain_true {p : Pl} {dy : Int} (hv : plotB p = true) (hs : (stoodF (scnF p dy) (crtF p dy)).2 = true) (most : Bool) {N : Int → Int} (hN : NumOf (crtF p dy) (endsF most (stoodF (scnF p dy) (crtF p dy)).1) N) :
    TrueAt (scnF p dy) (crtF p dy) ((endsF most (stoodF (scnF p dy) (crtF p dy)).1).getD 0 0) ((scnF p dy).loads.map fun x => N x.src) N ∧ ∀ h, leftF (crtF p dy) N ((endsF most (stoodF (scnF p dy) (crtF p dy)).1).getD 0 0) h = (if most then ((stoodF (scnF p dy) (crtF p dy)).1.getD (cartF (crtF p dy) h) ⟨0, 0⟩).hi else ((stoodF (scnF p dy) (crtF p dy)).1.getD (cartF (crtF p dy) h) ⟨0, 0⟩).lo) := by
  have hr := (plotB_iff p).1 hv
  have hso := hr.sown
  simp only [areSheavesB, Bool.and_eq_true, decide_eq_true_eq] at hso
  have hp : 0 ≤ (scnF p dy).lo := by show 0 ≤ p.lo; omega
  have hok := scn_ok hv dy
  have hx : ∀ x ∈ crtF p dy, Fd x ∧ 0 ≤ x.hr ∧ x.hr ≤ 99999 := fun x hx => okL_sh (by decide) (hr.o1 x (List.mem_filter.1 (sortF_mem.1 hx)).1)
  have hle : ∀ x ∈ crtF p dy, x.lo ≤ x.hi := fun x hxx => by
    have h9 := hr.o1 x (List.mem_filter.1 (sortF_mem.1 hxx)).1
    have := codeI_ok h9 (by decide)
    simp only [loadB, areSheavesB, Bool.and_eq_true, decide_eq_true_eq] at this
    omega
  have hT := ends_true hle hs most
  have hsub := subF_ends hT hN
  have hbd := ends_bd hok hs most
  have hlen := stoodF_len hs
  have hpos := fun {i r} => @stoodF_pos (scnF p dy) (crtF p dy) hp hs i r
  have hE : ∀ h, (endsF most (stoodF (scnF p dy) (crtF p dy)).1)[cartF (crtF p dy) h]? = some (leftF (crtF p dy) N ((endsF most (stoodF (scnF p dy) (crtF p dy)).1).getD 0 0) h) := fun h => hsub _ (cart_le _ _)
  have hnn : ∀ t ∈ endsF most (stoodF (scnF p dy) (crtF p dy)).1, 0 ≤ t ∧ t ≤ 10000 := fun t ht => by
    have h1 := hbd t ht
    rw [endsF, List.mem_map] at ht
    obtain ⟨s, hsm, rfl⟩ := ht
    obtain ⟨i, hi, e⟩ := List.getElem_of_mem hsm
    have := hpos (i := i) (r := s) (by rw [List.getElem?_eq_getElem hi, e])
    cases most
    · have h2 : -10000 ≤ s.lo ∧ s.lo ≤ 10000 := h1
      show 0 ≤ s.lo ∧ s.lo ≤ 10000
      omega
    · have h2 : -10000 ≤ s.hi ∧ s.hi ≤ 10000 := h1
      show 0 ≤ s.hi ∧ s.hi ≤ 10000
      omega
  have htook : ∀ x ∈ crtF p dy, x.lo ≤ N x.src ∧ N x.src ≤ x.hi := fun x hxx => by
    obtain ⟨i, hi, e⟩ := List.getElem_of_mem hxx
    have hxi : (crtF p dy)[i]? = some x := by rw [List.getElem?_eq_getElem hi, e]
    obtain ⟨a, ha⟩ := get_lt (l := endsF most (stoodF (scnF p dy) (crtF p dy)).1) (i := i) (by have := hT.len; omega)
    obtain ⟨b, hb⟩ := get_lt (l := endsF most (stoodF (scnF p dy) (crtF p dy)).1) (i := i + 1) (by have := hT.len; omega)
    have := hT.took i x a b hxi ha hb
    rw [hN i x a b hxi ha hb]
    exact this
  have h00 : (endsF most (stoodF (scnF p dy) (crtF p dy)).1)[0]? = some ((endsF most (stoodF (scnF p dy) (crtF p dy)).1).getD 0 0) := by
    obtain ⟨t, ht⟩ := get_lt (l := endsF most (stoodF (scnF p dy) (crtF p dy)).1) (i := 0) (by have := hT.len; omega)
    rw [List.getD_eq_getElem?_getD, ht]
    rfl
  have hsw : (scnF p dy).lo ≤ (endsF most (stoodF (scnF p dy) (crtF p dy)).1).getD 0 0 ∧ (endsF most (stoodF (scnF p dy) (crtF p dy)).1).getD 0 0 ≤ (scnF p dy).hi := by
    obtain ⟨b, hb⟩ := get_lt (l := boundsF (scnF p dy) (crtF p dy)) (i := 0) (by rw [bounds_len]; omega)
    have h1 := hT.bnd 0 b _ hb h00
    obtain ⟨c, hc, c1, c2⟩ := fold_nar _ _ _ _ hb
    simp only [List.getElem?_cons_zero, Option.some.injEq] at hc
    subst hc
    unfold Rng at h1
    simp only at c1 c2
    omega
  refine ⟨⟨List.length_map .., ?_, fun x hx => sortF_mem.1 hx, fun x hxx => ?_, fun i x t hxi ht => ?_, ?_, fun i x t hxi ht => ?_, fun x hxx => ?_, ?_⟩, fun h => ?_⟩
  · exact hnn _ (mem_of_get h00)
  · have h1 := htook x hxx
    have h2 := (hx x hxx).1
    have q1 := h2.a
    have q2 := h2.d
    omega
  · rw [List.getElem?_map, hxi] at ht
    simpa using ht
  · simp only [inB, Bool.and_eq_true, decide_eq_true_eq]
    exact hsw
  · rw [List.getElem?_map, hxi] at ht
    simp only [Option.map_some, Option.some.injEq] at ht
    subst ht
    have := htook x (sortF_mem.2 (mem_of_get hxi))
    simp only [inB, Bool.and_eq_true, decide_eq_true_eq]
    exact this
  · obtain ⟨b, hb⟩ := get_lt (l := boundsF (scnF p dy) (crtF p dy)) (i := cartF (crtF p dy) x.hr) (by rw [bounds_len]; have := cart_le (crtF p dy) x.hr; omega)
    have h1 := hT.bnd _ b _ hb (hE x.hr)
    have h2 := fold_stand _ _ _ hxx hb
    unfold Rng at h1
    simp only [inB, Bool.and_eq_true, decide_eq_true_eq]
    omega
  · exact (hnn _ (mem_of_get (hE 99999))).1
  · have h1 := hE h
    have hc := cart_le (crtF p dy) h
    have hcl : cartF (crtF p dy) h < (stoodF (scnF p dy) (crtF p dy)).1.length := by omega
    have h2 := ends_at (most := most) (List.getElem?_eq_getElem hcl)
    rw [h1] at h2
    injection h2 with h2
    have h3 : (stoodF (scnF p dy) (crtF p dy)).1.getD (cartF (crtF p dy) h) ⟨0, 0⟩ = (stoodF (scnF p dy) (crtF p dy)).1[cartF (crtF p dy) h] := by
      rw [List.getD_eq_getElem?_getD, List.getElem?_eq_getElem hcl, Option.getD_some]
    rw [h3]
    exact h2
def numE : List Ld → List Int → Int → Int
  | x :: cs, a :: b :: ts, j => if x.src = j then a - b else numE cs (b :: ts) j
  | _, _, _ => 0
theorem numE_ok : ∀ {cs : List Ld} {ts : List Int}, cs.Pairwise (fun x y => x.src < y.src) → NumOf cs ts (numE cs ts)
  | [], ts, _, i, x, a, b, hx, _, _ => by simp at hx
  | y :: cs, [], _, i, x, a, b, hx, ha, _ => by simp at ha
  | y :: cs, [c], _, i, x, a, b, hx, ha, hb => by simp at hb
  | y :: cs, c :: d :: ts, hp, 0, x, a, b, hx, ha, hb => by
    simp only [List.getElem?_cons_zero, Option.some.injEq, List.getElem?_cons_succ] at hx ha hb
    subst hx; subst ha; subst hb
    simp [numE]
  | y :: cs, c :: d :: ts, hp, i + 1, x, a, b, hx, ha, hb => by
    simp only [List.getElem?_cons_succ] at hx ha hb
    have h1 := (List.pairwise_cons.1 hp).1 x (mem_of_get hx)
    simp only [numE]
    rw [if_neg (by omega)]
    exact numE_ok (List.pairwise_cons.1 hp).2 i x a b hx ha hb
/-- What the law of attained ends asks. -/
structure Att (p : Pl) (h dy : Int) : Prop where
  e0 : (soundC p dy).2 = 0
  se : (soundC p dy).1 = (stoodF (scnF p dy) (crtF p dy)).2
  n1 : (soundC p dy).1 = false → (stoodC p h dy).2 = 14
  n2 : (soundC p dy).1 = false → (clearC p h dy).2 = 14
  y1 : (soundC p dy).1 = true → (stoodC p h dy).2 = 0
  y2 : (soundC p dy).1 = true → (clearC p h dy).2 = 0
  le : (soundC p dy).1 = true → (stoodC p h dy).1.lo ≤ (stoodC p h dy).1.hi
  may : (soundC p dy).1 = true → ((clearC p h dy).1 = 2 ↔ (stoodC p h dy).1.lo = 0 ∧ 0 < (stoodC p h dy).1.hi)
  yes : (soundC p dy).1 = true → ((clearC p h dy).1 = 1 ↔ (stoodC p h dy).1.hi = 0)
  no : (soundC p dy).1 = true → ((clearC p h dy).1 = 0 ↔ 0 < (stoodC p h dy).1.lo)
  low : (soundC p dy).1 = true → ∀ most : Bool, ∃ N, NumOf (crtF p dy) (endsF most (stoodF (scnF p dy) (crtF p dy)).1) N ∧ TrueAt (scnF p dy) (crtF p dy) ((endsF most (stoodF (scnF p dy) (crtF p dy)).1).getD 0 0) ((scnF p dy).loads.map fun x => N x.src) N ∧ leftF (crtF p dy) N ((endsF most (stoodF (scnF p dy) (crtF p dy)).1).getD 0 0) h = (if most then (stoodC p h dy).1.hi else (stoodC p h dy).1.lo)
theorem att_of {p : Pl} {h dy : Int} (hv : plotB p = true) (hh : isHourB h = true) (hd : isDayB dy = true) (hp : (crtF p dy).Pairwise fun x y => x.src < y.src) : Att p h dy := by
  have hH : hourI p h dy = 0 := by simp [hourI, hv, hh, hd]
  have hD : dayI p dy = 0 := by simp [dayI, hv, hd]
  have hso := ((plotB_iff p).1 hv).sown
  simp only [areSheavesB, Bool.and_eq_true, decide_eq_true_eq] at hso
  have hlo : 0 ≤ (scnF p dy).lo := by show 0 ≤ p.lo; omega
  have es : soundC p dy = ((stoodF (scnF p dy) (crtF p dy)).2, 0) := by simp [soundC, hD]
  have eY : (stoodF (scnF p dy) (crtF p dy)).2 = true → stoodC p h dy = ((stoodF (scnF p dy) (crtF p dy)).1.getD (cartF (crtF p dy) h) ⟨0, 0⟩, 0) := fun hs => by simp [stoodC, hH, stoodAtF, hs]
  have eN : (stoodF (scnF p dy) (crtF p dy)).2 = false → stoodC p h dy = (⟨0, 0⟩, 14) := fun hs => by simp [stoodC, hH, stoodAtF, hs]
  have hpos : (stoodF (scnF p dy) (crtF p dy)).2 = true → 0 ≤ (stoodC p h dy).1.lo ∧ (stoodC p h dy).1.lo ≤ (stoodC p h dy).1.hi := fun hs => by
    rw [eY hs]
    have hl := stoodF_len hs
    have hc := cart_le (crtF p dy) h
    exact stoodF_pos hlo hs (i := cartF (crtF p dy) h) (by rw [List.getD_eq_getElem?_getD, List.getElem?_eq_getElem (by omega), Option.getD_some])
  have eC : (stoodF (scnF p dy) (crtF p dy)).2 = true → clearC p h dy = (answerI (decide ((stoodC p h dy).1.lo = 0)) (decide ((stoodC p h dy).1.hi = 0)), 0) := fun hs => by
    unfold clearC
    rw [if_pos (by rw [eY hs])]
  have cases3 : ∀ {a b : Bool}, (b = true → a = true) → ((answerI a b = 2 ↔ a = true ∧ b = false) ∧ (answerI a b = 1 ↔ b = true) ∧ (answerI a b = 0 ↔ a = false)) := fun {a b} hab => by
    cases a <;> cases b <;> simp [answerI] at hab ⊢
  refine ⟨by rw [es], by rw [es], fun e => ?_, fun e => ?_, fun e => ?_, fun e => ?_, fun e => ?_, fun e => ?_, fun e => ?_, fun e => ?_, fun e most => ?_⟩ <;> rw [es] at e <;> simp only at e
  · rw [eN e]
  · unfold clearC
    rw [if_neg (by rw [eN e]; decide), eN e]
  · rw [eY e]
  · rw [eC e]
  · exact (hpos e).2
  · have hq := hpos e
    rw [eC e]
    have := (cases3 (a := decide ((stoodC p h dy).1.lo = 0)) (b := decide ((stoodC p h dy).1.hi = 0)) (by simp only [decide_eq_true_eq]; omega)).1
    simp only [decide_eq_true_eq, decide_eq_false_iff_not] at this
    rw [this]
    omega
  · have hq := hpos e
    rw [eC e]
    have := (cases3 (a := decide ((stoodC p h dy).1.lo = 0)) (b := decide ((stoodC p h dy).1.hi = 0)) (by simp only [decide_eq_true_eq]; omega)).2.1
    simp only [decide_eq_true_eq, decide_eq_false_iff_not] at this
    exact this
  · have hq := hpos e
    rw [eC e]
    have := (cases3 (a := decide ((stoodC p h dy).1.lo = 0)) (b := decide ((stoodC p h dy).1.hi = 0)) (by simp only [decide_eq_true_eq]; omega)).2.2
    simp only [decide_eq_true_eq, decide_eq_false_iff_not] at this
    rw [this]
    omega
  · have hN := numE_ok (ts := endsF most (stoodF (scnF p dy) (crtF p dy)).1) hp
    have := attain_true hv e most hN
    refine ⟨_, hN, this.1, ?_⟩
    rw [this.2 h, eY e]
theorem madeB_crt (x0 x1 : Int) (ls ss ps : List A4) (rt : Bool) (dy : Int) : (crtF (madeB x0 x1 ls ss ps rt) dy).Pairwise fun x y => x.src < y.src := by
  have hk := made_lok x0 ls
  have hsub : (scnF (madeB x0 x1 ls ss ps rt) dy).loads.Sublist ((mLoads 0 20 (x0 % 200) (ls.take 6)).map Prod.fst) := List.filter_sublist
  unfold crtF
  rw [sortF_id (List.Pairwise.sublist hsub hk.srt)]
  exact List.Pairwise.sublist hsub hk.rise
end Go.K
