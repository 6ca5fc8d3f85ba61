/- A stand that is right by true numbers narrows what is told (P1.6). -/
import Derived.Test.YtinkdlmimiefaaaGreatPG8
import Derived.Test.YtinkdlmimiefaaaGreatPM8
namespace Go.K
set_option linter.unusedVariables false
set_option linter.unusedSimpArgs false
def Sub1 (r' r : Rg) : Prop := r.lo ≤ r'.lo ∧ r'.hi ≤ r.hi
def SubL : List Rg → List Rg → Prop
  | [], [] => True
  | a :: l, b :: m => Sub1 a b ∧ SubL l m
  | _, _ => False
theorem SubL.refl : ∀ l : List Rg, SubL l l
  | [] => trivial
  | a :: l => ⟨⟨Int.le_refl _, Int.le_refl _⟩, SubL.refl l⟩
theorem SubL.append : ∀ {l m l' m' : List Rg}, SubL l m → SubL l' m' → SubL (l ++ l') (m ++ m')
  | [], [], _, _, _, h' => h'
  | a :: l, b :: m, _, _, h, h' => ⟨h.1, SubL.append h.2 h'⟩
  | [], b :: m, _, _, h, _ => h.elim
  | a :: l, [], _, _, h, _ => h.elim
theorem SubL.reverse : ∀ {l m : List Rg}, SubL l m → SubL l.reverse m.reverse
  | [], [], _ => trivial
  | a :: l, b :: m, h => by rw [List.reverse_cons, List.reverse_cons]; exact (SubL.reverse h.2).append ⟨h.1, trivial⟩
  | [], b :: m, h => h.elim
  | a :: l, [], h => h.elim
theorem SubL.len : ∀ {l m : List Rg}, SubL l m → l.length = m.length
  | [], [], _ => rfl
  | a :: l, b :: m, h => by rw [List.length_cons, List.length_cons, h.2.len]
  | [], b :: m, h => h.elim
  | a :: l, [], h => h.elim
theorem SubL.get : ∀ {l m : List Rg} {i : Nat} {a b : Rg}, SubL l m → l[i]? = some a → m[i]? = some b → Sub1 a b
  | [], [], _, _, _, _, h, _ => by simp at h
  | a :: l, b :: m, 0, x, y, h, h1, h2 => by simp at h1 h2; subst h1; subst h2; exact h.1
  | a :: l, b :: m, i + 1, x, y, h, h1, h2 => h.2.get (by simpa using h1) (by simpa using h2)
  | [], b :: m, _, _, _, h, _, _ => h.elim
  | a :: l, [], _, _, _, h, _, _ => h.elim
theorem SubL.set : ∀ {l m : List Rg} {a b : Rg} (i : Nat), SubL l m → Sub1 a b → SubL (l.set i a) (m.set i b)
  | [], [], _, _, _, _, _ => trivial
  | x :: l, y :: m, _, _, 0, h, h' => ⟨h', h.2⟩
  | x :: l, y :: m, _, _, i + 1, h, h' => ⟨h.1, h.2.set i h'⟩
  | [], b :: m, _, _, _, h, _ => h.elim
  | a :: l, [], _, _, _, h, _ => h.elim
theorem SubL.getD {l m : List Rg} (h : SubL l m) (i : Nat) (z : Rg) : Sub1 (l.getD i z) (m.getD i z) := by
  rw [List.getD_eq_getElem?_getD, List.getD_eq_getElem?_getD]
  have hl := h.len
  rcases Nat.lt_or_ge i l.length with hi | hi
  · rw [List.getElem?_eq_getElem hi, List.getElem?_eq_getElem (by omega)]
    exact h.get (List.getElem?_eq_getElem hi) (List.getElem?_eq_getElem (by omega))
  · rw [List.getElem?_eq_none hi, List.getElem?_eq_none (by omega)]
    exact ⟨Int.le_refl _, Int.le_refl _⟩
theorem meet_sub {r r' s s' : Rg} (h : Sub1 r' r) (h' : Sub1 s' s) : Sub1 (meetF r' s') (meetF r s) := by
  unfold Sub1 at *
  simp only [meetF]
  constructor <;> (split <;> split <;> omega)
theorem meet_sub1 {r s : Rg} : Sub1 (meetF r s) r := ⟨meetF_le.1, meetF_le.2.1⟩
theorem pf_sub {f : Pf} {r r' : Rg} (h : Sub1 r' r) : Sub1 (pfF f r') (pfF f r) := by
  obtain ⟨b, x⟩ := f
  unfold Sub1 at *
  cases b <;> simp only [pfF, cond_true, cond_false] <;> omega
theorem passL_sub : ∀ {bs bs' : List Rg} {p p' : Rg} {fs : List Pf}, Sub1 p' p → SubL bs' bs → SubL (passL p' bs' fs) (passL p bs fs)
  | [], [], _, _, _, _, _ => by simp [passL, SubL]
  | b :: bs, b' :: bs', p, p', [], _, _ => by simp [passL, SubL]
  | b :: bs, b' :: bs', p, p', f :: fs, h, h' => by
    have := meet_sub (pf_sub (f := f) h) h'.1
    exact ⟨this, passL_sub this h'.2⟩
  | [], b :: m, _, _, _, _, h => h.elim
  | a :: l, [], _, _, _, _, h => h.elim
theorem passAll_sub {bs bs' : List Rg} {fs : List Pf} (h : SubL bs' bs) : SubL (passAll bs' fs) (passAll bs fs) := by
  cases bs with
  | nil => cases bs' with
    | nil => trivial
    | cons _ _ => exact h.elim
  | cons b bs => cases bs' with
    | nil => exact h.elim
    | cons b' bs' => exact ⟨h.1, passL_sub h.1 h.2⟩
theorem SubL.all : ∀ {l m : List Rg}, SubL l m → l.all (fun r => decide (r.lo ≤ r.hi)) = true → m.all (fun r => decide (r.lo ≤ r.hi)) = true
  | [], [], _, _ => rfl
  | a :: l, b :: m, h, h' => by
    rw [List.all_cons, Bool.and_eq_true, decide_eq_true_eq] at h' ⊢
    have := h.1
    unfold Sub1 at this
    exact ⟨by omega, h.2.all h'.2⟩
  | [], b :: m, h, _ => h.elim
  | a :: l, [], h, _ => h.elim
theorem passF_sub {bs bs' : List Rg} {fs : List Pf} (h : SubL bs' bs) (hs : (passF bs' fs).2 = true) : (passF bs fs).2 = true ∧ SubL (passF bs' fs).1 (passF bs fs).1 := by
  have h1 := passAll_sub (fs := fs) h
  unfold passF at hs ⊢
  split at hs
  · rename_i h2
    rw [if_pos h2, if_pos (h1.all h2)]
    exact ⟨rfl, h1⟩
  · cases hs
theorem stoodF_sub {p q : Pl} {cs : List Ld} (h : SubL (boundsF q cs) (boundsF p cs)) (hs : (stoodF q cs).2 = true) : (stoodF p cs).2 = true ∧ SubL (stoodF q cs).1 (stoodF p cs).1 := by
  unfold stoodF at hs ⊢
  split at hs
  · rename_i h2
    obtain ⟨g1, g2⟩ := passF_sub h.reverse h2
    rw [if_pos h2, if_pos g1]
    exact passF_sub g2.reverse hs
  · cases hs
theorem boundS_sub {cs : List Ld} {bs bs' : List Rg} {x : Ld} (h : SubL bs' bs) : SubL (boundS cs bs' x) (boundS cs bs x) :=
  h.set _ (meet_sub (h.getD _ _) ⟨Int.le_refl _, Int.le_refl _⟩)
theorem boundS_sub1 {cs : List Ld} {bs : List Rg} {x : Ld} : SubL (boundS cs bs x) bs := by
  unfold boundS
  generalize cartF cs x.hr = i
  generalize (⟨x.lo, x.hi⟩ : Rg) = s
  induction bs generalizing i with
  | nil => exact trivial
  | cons b bs ih =>
    cases i with
    | zero => exact ⟨meet_sub1, SubL.refl _⟩
    | succ i => exact ⟨⟨Int.le_refl _, Int.le_refl _⟩, ih i⟩
/-- A plot with one stand more, at its end. -/
def plusF (p : Pl) (x : Ld) : Pl := { p with stands := p.stands ++ [x] }
theorem plus_bounds (p : Pl) (x : Ld) (cs : List Ld) : boundsF (plusF p x) cs = boundS cs (boundsF p cs) x := by
  show (p.stands ++ [x]).foldl _ _ = _
  rw [List.foldl_append]
  rfl
theorem plus_sub (p : Pl) (x : Ld) (cs : List Ld) : SubL (boundsF (plusF p x) cs) (boundsF p cs) := by
  rw [plus_bounds]; exact boundS_sub1
theorem with_bounds (p : Pl) (h lo hi : Int) (cs : List Ld) : boundsF (withF p h lo hi) cs = boundS cs (boundsF p cs) ⟨0, h, lo, hi, 0, 0⟩ := plus_bounds p ⟨0, h, lo, hi, 0, 0⟩ cs
theorem with_sub {p q : Pl} {cs : List Ld} (h lo hi : Int) (hs : SubL (boundsF q cs) (boundsF p cs)) : SubL (boundsF (withF q h lo hi) cs) (boundsF (withF p h lo hi) cs) := by
  rw [with_bounds, with_bounds]; exact boundS_sub hs
theorem sound_sub {p q : Pl} {cs : List Ld} (hs : SubL (boundsF q cs) (boundsF p cs)) (h : (stoodF p cs).2 = false) : (stoodF q cs).2 = false := by
  cases e : (stoodF q cs).2 with
  | false => rfl
  | true => rw [(stoodF_sub hs e).1] at h; cases h
theorem plus_scn {p : Pl} {x : Ld} {dy : Int} (hx : countsB x.kn x.un dy = true) : scnF (plusF p x) dy = plusF (scnF p dy) x := by
  unfold scnF keepP plusF
  simp only
  rw [List.filter_append]
  congr 1
  congr 1
  rw [List.filter_cons_of_pos (by exact hx)]
  rfl
theorem plus_valid {p : Pl} {x : Ld} (h : RefOk p) (hn : p.stands.length < 60) (hx : okL 11 x = 0) (hm : ∀ j ∈ srcsOf p, j < x.src) : RefOk (plusF p x) := by
  refine ⟨h.sown, h.g0, h.g1, h.l1, by show (p.stands ++ [x]).length ≤ 60; rw [List.length_append, List.length_singleton]; omega, h.l3, h.o1, h.a1, fun y hy => ?_, adj_iff.2 ?_, h.o3, h.a3, ?_⟩
  · rcases List.mem_append.1 hy with e | e
    · exact h.o2 y e
    · rw [List.mem_singleton] at e; subst e; exact hx
  · show (p.stands ++ [x]).Pairwise _
    rw [List.pairwise_append]
    refine ⟨adj_iff.1 h.a2, List.pairwise_singleton _ _, fun a ha b hb => ?_⟩
    rw [List.mem_singleton] at hb
    subst hb
    exact hm _ (by unfold srcsOf; exact List.mem_append_left _ (List.mem_append_right _ (List.mem_map.2 ⟨a, ha, rfl⟩)))
  · have e : srcsOf (plusF p x) = (p.loads.map Ld.src ++ p.stands.map Ld.src) ++ x.src :: p.spells.map Sp.src := by
      unfold srcsOf plusF
      simp only [List.map_append, List.map_cons, List.map_nil, List.append_assoc, List.cons_append, List.nil_append]
    rw [e]
    refine List.perm_middle.nodup_iff.2 (List.nodup_cons.2 ⟨fun hc => ?_, h.nd⟩)
    have := hm _ hc
    omega
theorem insAt_end {x : Ld} {l : List Ld} (h : ∀ y ∈ l, y.src < x.src) : insAt x l = l ++ [x] := by
  have := insAt_at (x := x) l l.length (fun i y _ hy => h y (mem_of_get hy)) (fun y hy => by rw [List.getElem?_eq_none (Nat.le_refl _)] at hy; cases hy) (Nat.le_refl _)
  rw [this, List.take_length, List.drop_length, List.append_nil]
theorem plus_stands {p : Pl} {x : Ld} (h : plotB p = true) (hn : p.stands.length < 60) (hx : okL 11 x = 0) (hm : ∀ j ∈ srcsOf p, j < x.src) : standsF p x = (plusF p x, 0) := by
  have hh : hasB p x.src = false := by
    cases e : hasB p x.src with
    | false => rfl
    | true =>
      rw [hasB, List.any_eq_true] at e
      obtain ⟨y, hy, e⟩ := e
      rw [decide_eq_true_eq] at e
      have : y.s ∈ srcsOf p := by
        simp only [notesOf, List.mem_append, List.mem_map] at hy
        simp only [srcsOf, List.mem_append, List.mem_map]
        rcases hy with (⟨x, hx, rfl⟩ | ⟨x, hx, rfl⟩) | ⟨x, hx, rfl⟩
        · exact .inl (.inl ⟨x, hx, rfl⟩)
        · exact .inl (.inr ⟨x, hx, rfl⟩)
        · exact .inr ⟨x, hx, rfl⟩
      have := hm _ this
      omega
  unfold standsF
  rw [if_pos h, if_pos ⟨hx, hh⟩, if_neg (by omega), insAt_end fun y hy => hm _ (by unfold srcsOf; exact List.mem_append_left _ (List.mem_append_right _ (List.mem_map.2 ⟨y, hy, rfl⟩)))]
  rfl
/-- With the stand nothing that was told is wider. -/
structure Nar (p q : Pl) (dy h : Int) : Prop where
  s1 : (stoodC p h dy).2 = 0
  s2 : (stoodC q h dy).2 = 0
  o1 : (openC p h dy).2 = 0
  o2 : (openC q h dy).2 = 0
  lo : ¬ (stoodC q h dy).1.lo < (stoodC p h dy).1.lo
  hi : ¬ (stoodC p h dy).1.hi < (stoodC q h dy).1.hi
  op : ¬ (openC p h dy).1 = 2 → (openC p h dy).1 = (openC q h dy).1
  c1 : ∀ (i : Nat) (x : Ld), p.loads[i]? = some x → (cartedC p x.src dy).2 = 0
  c2 : ∀ (i : Nat) (x : Ld), p.loads[i]? = some x → (cartedC q x.src dy).2 = 0
  clo : ∀ (i : Nat) (x : Ld), p.loads[i]? = some x → ¬ (cartedC q x.src dy).1.lo < (cartedC p x.src dy).1.lo
  chi : ∀ (i : Nat) (x : Ld), p.loads[i]? = some x → ¬ (cartedC p x.src dy).1.hi < (cartedC q x.src dy).1.hi
theorem answer_sub {a b a' b' : Bool} (ha : a = false → a' = false) (hb : b = true → b' = true) (hn : a = false → b = false → b' = false) (h : ¬ answerI a b = 2) : answerI a b = answerI a' b' := by
  cases a <;> cases b <;> simp [answerI] at h ⊢
  · have h1 := ha rfl; have h2 := hn rfl rfl
    subst h1; subst h2; rfl
  · have h2 := hb rfl; subst h2; intro h9; cases h9
  · have h2 := hb rfl; subst h2; intro h9; cases h9
section made
variable (x0 x1 : Int) (ls ss ps : List A4)
theorem made_src : ∀ j ∈ srcsOf (madeF x0 x1 ls ss ps), j < 99 := by
  have a1 := Int.emod_nonneg x0 (show (200 : Int) ≠ 0 by decide)
  have a2 := Int.emod_lt_of_pos x0 (show (0 : Int) < 200 by decide)
  have hk := made_lok x0 ls
  have hl := mLoads_len (ls.take 6) 0 20 (x0 % 200)
  have k1 : (ls.take 6).length ≤ 6 := by rw [List.length_take]; omega
  have k2 : (ss.take 6).length ≤ 6 := by rw [List.length_take]; omega
  have k3 : (ps.take 4).length ≤ 4 := by rw [List.length_take]; omega
  have o1 := hk.hours
  have o2 := mStands_ok hk a1 (by omega) (ss.take 6) 0
  have o3 := mSpells_ok (ps.take 4) 0
  intro j hj
  unfold srcsOf at hj
  rcases List.mem_append.1 hj with hj | hj
  · rcases List.mem_append.1 hj with hj | hj
    · obtain ⟨x, hx, rfl⟩ := List.mem_map.1 hj
      have := o1 x hx; omega
    · obtain ⟨x, hx, rfl⟩ := List.mem_map.1 hj
      have := o2 x hx; omega
  · obtain ⟨x, hx, rfl⟩ := List.mem_map.1 hj
    have := o3 x hx; omega
/-- The stand that is told besides is right. -/
structure Rt (x : Ld) : Prop where
  src : x.src = 99
  hr : 0 ≤ x.hr ∧ x.hr ≤ 99999
  lo : 0 ≤ x.lo
  l : x.lo ≤ thereF (mLoads 0 20 (x0 % 200) (ls.take 6)) x.hr (x0 % 200)
  h : thereF (mLoads 0 20 (x0 % 200) (ls.take 6)) x.hr (x0 % 200) ≤ x.hi
  hi : x.hi ≤ 10000
  kn : x.kn = 0
  un : x.un = 0
variable {x : Ld} (hx : Rt x0 ls x)
include hx
theorem rt_ok : okL 11 x = 0 := by
  obtain ⟨h1, h2, h3, h4, h5, h6, h7, h8⟩ := hx
  have e : loadB x.src x.hr x.lo x.hi x.kn x.un = true := by
    simp only [loadB, validB, isDayB, isHourB, areSheavesB, Bool.and_eq_true, Bool.or_eq_true, decide_eq_true_eq]
    omega
  rw [okL, e]; rfl
omit hx in
theorem made_st60 : (madeF x0 x1 ls ss ps).stands.length < 60 := by
  show (mStands _ _ _ _).length < 60
  rw [mStands_len, List.length_take]; omega
theorem nar_valid : plotB (plusF (madeF x0 x1 ls ss ps) x) = true :=
  (plotB_iff _).2 (plus_valid ((plotB_iff _).1 (made_valid x0 x1 ls ss ps)) (made_st60 x0 x1 ls ss ps) (rt_ok x0 ls hx) (by rw [hx.src]; exact made_src x0 x1 ls ss ps))
theorem nar_stands : standsF (madeF x0 x1 ls ss ps) x = (plusF (madeF x0 x1 ls ss ps) x, 0) :=
  plus_stands (made_valid x0 x1 ls ss ps) (made_st60 x0 x1 ls ss ps) (rt_ok x0 ls hx) (by rw [hx.src]; exact made_src x0 x1 ls ss ps)
theorem nar_scn : scnF (plusF (madeF x0 x1 ls ss ps) x) 20 = plusF (madeF x0 x1 ls ss ps) x := by
  rw [plus_scn (by rw [hx.kn, hx.un]; rfl), made_scn]
theorem nar_crt : crtF (plusF (madeF x0 x1 ls ss ps) x) 20 = crtF (madeF x0 x1 ls ss ps) 20 := by
  unfold crtF
  rw [nar_scn x0 x1 ls ss ps hx, made_scn]
  rfl
theorem nar_true : TrueAt (scnF (plusF (madeF x0 x1 ls ss ps) x) 20) (crtF (plusF (madeF x0 x1 ls ss ps) x) 20) (x0 % 200) ((mLoads 0 20 (x0 % 200) (ls.take 6)).map Prod.snd) (numF (mLoads 0 20 (x0 % 200) (ls.take 6))) := by
  have hT := made_true_at x0 x1 ls ss ps
  have hk := made_lok x0 ls
  have hl := leftF_there hk (num_ok hk)
  rw [nar_scn x0 x1 ls ss ps hx, nar_crt x0 x1 ls ss ps hx]
  rw [made_scn] at hT
  refine ⟨hT.len, hT.s0, hT.cin, hT.nb, hT.nt, hT.sown, hT.ld, fun y hy => ?_, hT.mx⟩
  rcases List.mem_append.1 hy with e | e
  · exact hT.st y e
  · rw [List.mem_singleton] at e
    subst e
    rw [made_crt, hl]
    simp only [inB, Bool.and_eq_true, decide_eq_true_eq]
    exact ⟨hx.l, hx.h⟩
set_option maxHeartbeats 800000 in
theorem nar_nar {h : Int} (hh : isHourB h = true) : Nar (madeF x0 x1 ls ss ps) (plusF (madeF x0 x1 ls ss ps) x) 20 h := by
  have a1 := Int.emod_nonneg x0 (show (200 : Int) ≠ 0 by decide)
  have a2 := Int.emod_lt_of_pos x0 (show (0 : Int) < 200 by decide)
  have hk := made_lok x0 ls
  have hso := made_sown x0 x1 ls ss ps
  have hst : ∀ y ∈ (madeF x0 x1 ls ss ps).stands, y.lo ≤ thereF (mLoads 0 20 (x0 % 200) (ls.take 6)) y.hr (x0 % 200) ∧ thereF (mLoads 0 20 (x0 % 200) (ls.take 6)) y.hr (x0 % 200) ≤ y.hi := fun y hy => by
    have := (mStands_ok hk a1 (by omega) (ss.take 6) 0 y hy).2.2.1
    exact ⟨this.2.1, this.2.2.1⟩
  have hst2 : ∀ y ∈ (plusF (madeF x0 x1 ls ss ps) x).stands, y.lo ≤ thereF (mLoads 0 20 (x0 % 200) (ls.take 6)) y.hr (x0 % 200) ∧ thereF (mLoads 0 20 (x0 % 200) (ls.take 6)) y.hr (x0 % 200) ≤ y.hi := fun y hy => by
    rcases List.mem_append.1 hy with e | e
    · exact hst y e
    · rw [List.mem_singleton] at e
      subst e
      exact ⟨hx.l, hx.h⟩
  have hv := made_valid x0 x1 ls ss ps
  have hv2 := nar_valid x0 x1 ls ss ps hx
  have hnb := fun g => hk.there_bd a1 g
  have hrise := hk.rise
  have hcr := made_crt x0 x1 ls ss ps
  have hsc := made_scn x0 x1 ls ss ps
  have hcr2 := nar_crt x0 x1 ls ss ps hx
  have hsc2 := nar_scn x0 x1 ls ss ps hx
  rw [hcr] at hcr2
  have hloads : (madeF x0 x1 ls ss ps).loads = (mLoads 0 20 (x0 % 200) (ls.take 6)).map Prod.fst := rfl
  have hsub := plus_sub (madeF x0 x1 ls ss ps) x ((mLoads 0 20 (x0 % 200) (ls.take 6)).map Prod.fst)
  have hge : ∀ g, geeseF (plusF (madeF x0 x1 ls ss ps) x) g = geeseF (madeF x0 x1 ls ss ps) g := fun _ => rfl
  have hsh : ∀ g, shutF (plusF (madeF x0 x1 ls ss ps) x) g = shutF (madeF x0 x1 ls ss ps) g := fun _ => rfl
  have hlo2 : (plusF (madeF x0 x1 ls ss ps) x).lo = (madeF x0 x1 ls ss ps).lo := rfl
  have hhi2 : (plusF (madeF x0 x1 ls ss ps) x).hi = (madeF x0 x1 ls ss ps).hi := rfl
  clear hx
  generalize (mLoads 0 20 (x0 % 200) (ls.take 6)) = xs at *
  generalize plusF (madeF x0 x1 ls ss ps) x = q at *
  generalize madeF x0 x1 ls ss ps = p at *
  generalize x0 % 200 = l at *
  have hin := stoodF_in (true_of (q := q) hk ⟨a1, by omega⟩ (by rw [hlo2, hhi2]; exact hso) hst2)
  obtain ⟨s1, s2, s3⟩ := hin
  obtain ⟨t1, t2⟩ := stoodF_sub hsub s1
  have hH : hourI p h 20 = 0 := by simp [hourI, hv, hh, show isDayB 20 = true by decide]
  have hH2 : hourI q h 20 = 0 := by simp [hourI, hv2, hh, show isDayB 20 = true by decide]
  have hD : dayI p 20 = 0 := by simp [dayI, hv, show isDayB 20 = true by decide]
  have hD2 : dayI q 20 = 0 := by simp [dayI, hv2, show isDayB 20 = true by decide]
  have hS : stoodC p h 20 = ((stoodF p (xs.map Prod.fst)).1.getD (cartF (xs.map Prod.fst) h) ⟨0, 0⟩, 0) := by simp [stoodC, hH, stoodAtF, hsc, hcr, t1]
  have hS2 : stoodC q h 20 = ((stoodF q (xs.map Prod.fst)).1.getD (cartF (xs.map Prod.fst) h) ⟨0, 0⟩, 0) := by simp [stoodC, hH2, stoodAtF, hsc2, hcr2, s1]
  have hO : openC p h 20 = if shutF p h then (0, 0) else if (geeseF p h).2 then (answerI (stoodF (withF (withF p h 0 0) (geeseF p h).1 1 10000) (xs.map Prod.fst)).2 (!((stoodF (withF p h 1 10000) (xs.map Prod.fst)).2 || (stoodF (withF p (geeseF p h).1 0 0) (xs.map Prod.fst)).2)), 0) else (answerI (stoodF (withF p h 0 0) (xs.map Prod.fst)).2 (!(stoodF (withF p h 1 10000) (xs.map Prod.fst)).2), 0) := by
    unfold openC
    rw [if_pos hH, hsc, hcr, if_pos t1]
  have hO2 : openC q h 20 = if shutF p h then (0, 0) else if (geeseF p h).2 then (answerI (stoodF (withF (withF q h 0 0) (geeseF p h).1 1 10000) (xs.map Prod.fst)).2 (!((stoodF (withF q h 1 10000) (xs.map Prod.fst)).2 || (stoodF (withF q (geeseF p h).1 0 0) (xs.map Prod.fst)).2)), 0) else (answerI (stoodF (withF q h 0 0) (xs.map Prod.fst)).2 (!(stoodF (withF q h 1 10000) (xs.map Prod.fst)).2), 0) := by
    unfold openC
    rw [if_pos hH2, hsc2, hcr2, if_pos s1, hge, hsh]
  have w1 : ∀ {g}, thereF xs g l = 0 → (stoodF (withF q g 0 0) (xs.map Prod.fst)).2 = true := fun e => (with_sound hk ⟨a1, by omega⟩ (by rw [hlo2, hhi2]; exact hso) hst2 (by omega) (by omega)).1
  have w2 : 0 < thereF xs h l → (stoodF (withF q h 1 10000) (xs.map Prod.fst)).2 = true := fun e => (with_sound hk ⟨a1, by omega⟩ (by rw [hlo2, hhi2]; exact hso) hst2 (by omega) (by have := hnb h; omega)).1
  have w3 : ∀ {g}, thereF xs h l = 0 → 0 < thereF xs g l → (stoodF (withF (withF p h 0 0) g 1 10000) (xs.map Prod.fst)).2 = true := fun {g} e e' =>
    (with_sound (q := withF p h 0 0) hk ⟨a1, by omega⟩ hso (with_sound hk ⟨a1, by omega⟩ hso hst (by omega) (by omega)).2 (by omega) (by have := hnb g; omega)).1
  have w4 : thereF xs h l = 0 → (stoodF (withF p h 0 0) (xs.map Prod.fst)).2 = true := fun e => (with_sound hk ⟨a1, by omega⟩ hso hst (by omega) (by omega)).1
  have hn0 := (hnb h).1
  have hb0 := (hnb (geeseF p h).1).1
  have carted : ∀ (i : Nat) (x : Ld), p.loads[i]? = some x → ((cartedC p x.src 20).2 = 0 ∧ (cartedC q x.src 20).2 = 0) ∧ Sub1 (cartedC q x.src 20).1 (cartedC p x.src 20).1 := fun i x hx => by
    rw [hloads] at hx
    have hp : placeF (xs.map Prod.fst) x.src = ((i : Int), true) := by
      have := idx_at hrise hx rfl
      unfold placeF
      rw [this, if_pos (by omega)]
    have e : ∀ r : Pl, dayI r 20 = 0 → scnF r 20 = r → crtF r 20 = xs.map Prod.fst → (stoodF r (xs.map Prod.fst)).2 = true → cartedC r x.src 20 = (meetF ⟨x.lo, x.hi⟩ ⟨((stoodF r (xs.map Prod.fst)).1.getD i ⟨0, 0⟩).lo - ((stoodF r (xs.map Prod.fst)).1.getD (i + 1) ⟨0, 0⟩).hi, ((stoodF r (xs.map Prod.fst)).1.getD i ⟨0, 0⟩).hi - ((stoodF r (xs.map Prod.fst)).1.getD (i + 1) ⟨0, 0⟩).lo⟩, 0) := fun r g1 g2 g3 g4 => by
      unfold cartedC
      rw [if_pos g1, g2, g3, hp, if_pos rfl, if_pos g4]
      simp only [Int.toNat_natCast]
      rw [show (xs.map Prod.fst).getD i ⟨0, 0, 0, 0, 0, 0⟩ = x by rw [List.getD_eq_getElem?_getD, hx]; rfl]
    rw [e p hD hsc hcr t1, e q hD2 hsc2 hcr2 s1]
    refine ⟨⟨rfl, rfl⟩, meet_sub ⟨Int.le_refl _, Int.le_refl _⟩ ?_⟩
    have r1 := t2.getD i ⟨0, 0⟩
    have r2 := t2.getD (i + 1) ⟨0, 0⟩
    unfold Sub1 at *
    simp only
    omega
  have hr := t2.getD (cartF (xs.map Prod.fst) h) ⟨0, 0⟩
  unfold Sub1 at hr
  have hgo : (openC p h 20).2 = 0 ∧ (openC q h 20).2 = 0 := by
    rw [hO, hO2]
    constructor
    · split
      · rfl
      · split <;> rfl
    · split
      · rfl
      · split <;> rfl
  refine ⟨by rw [hS], by rw [hS2], hgo.1, hgo.2, by rw [hS, hS2]; simp only; omega, by rw [hS, hS2]; simp only; omega, ?_, fun i x hx => (carted i x hx).1.1, fun i x hx => (carted i x hx).1.2, fun i x hx => ?_, fun i x hx => ?_⟩
  · rw [hO, hO2]
    by_cases hshut : shutF p h = true
    · rw [if_pos hshut, if_pos hshut]; intro _; rfl
    · rw [if_neg hshut, if_neg hshut]
      by_cases hg : (geeseF p h).2 = true
      · rw [if_pos hg, if_pos hg]
        simp only
        refine answer_sub (fun e => sound_sub (with_sub _ _ _ (with_sub _ _ _ hsub)) e) (fun e => ?_) (fun e _ => ?_)
        · rw [Bool.not_eq_true', Bool.or_eq_false_iff] at e ⊢
          exact ⟨sound_sub (with_sub _ _ _ hsub) e.1, sound_sub (with_sub _ _ _ hsub) e.2⟩
        · rw [Bool.not_eq_false', Bool.or_eq_true]
          rcases Int.lt_or_le 0 (thereF xs h l) with h6 | h6
          · exact .inl (w2 h6)
          · right
            refine w1 ?_
            rcases Int.lt_or_le 0 (thereF xs (geeseF p h).1 l) with h7 | h7
            · rw [w3 (by omega) h7] at e; cases e
            · omega
      · rw [if_neg hg, if_neg hg]
        simp only
        refine answer_sub (fun e => sound_sub (with_sub _ _ _ hsub) e) (fun e => ?_) (fun e _ => ?_)
        · rw [Bool.not_eq_true'] at e ⊢
          exact sound_sub (with_sub _ _ _ hsub) e
        · rw [Bool.not_eq_false']
          rcases Int.lt_or_le 0 (thereF xs h l) with h6 | h6
          · exact w2 h6
          · rw [w4 (by omega)] at e; cases e
  · have := (carted i x hx).2
    unfold Sub1 at this
    omega
  · have := (carted i x hx).2
    unfold Sub1 at this
    omega
end made
end Go.K
