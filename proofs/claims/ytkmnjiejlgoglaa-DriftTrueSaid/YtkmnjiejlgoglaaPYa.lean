/- DriftTrue answers true: a drift's true length lies within its bounds, and so does the difference of two. No condition. -/
import Derived.Test.YtkmnjiejlgoglaaPY9
namespace Go.K
open Go.RowKit
set_option linter.unusedVariables false
set_option linter.unusedSimpArgs false
theorem F55_eq (chs : List Ch) (cs : List Ce) (p : A2) (h : 1 ≤ cs.length ∧ cs.length ≤ 24) : ∃ a b, F55 chs cs p = some (a, b) ∧ hasD cs.length ⟨a, b⟩ := by
  unfold F55
  obtain ⟨r, h1, h2, h3⟩ := F56_eq p.a cs.length (by omega) (by omega)
  obtain ⟨s, k1, k2, k3⟩ := F56_eq p.b ((cs.length : Int) - r) (by omega) (by omega)
  rw [h1, bindO_some, ckO_pos (by unfold InR; omega), k1, bindO_some, ckO_pos (by unfold InR; omega)]
  exact ⟨r, r + s, rfl, by unfold hasD; dsimp only; omega⟩
theorem addL_nn (ix : Int → Int) : ∀ (r : List Ce) (ls : List Int), (∀ v ∈ ls, 0 ≤ v) → (∀ c ∈ r, 0 ≤ c.ln) → ∀ v ∈ addL ix ls r, 0 ≤ v
  | [], ls, h, _ => h
  | c :: r, ls, h, hr => by
    unfold addL
    refine addL_nn ix r _ (fun v hv => ?_) (fun c hc => hr c (by simp [hc]))
    have hc := hr c (by simp)
    rcases List.mem_or_eq_of_mem_set hv with h1 | h1
    · exact h v h1
    · cases hq : ls[(ix c.ch).toNat]? with
      | none => rw [hq] at h1; simp at h1; omega
      | some z => rw [hq] at h1; simp at h1; have := h z (List.mem_of_getElem? hq); omega
theorem links_nn {chs : List Ch} {cs : List Ce} {d : Dr} (hg : okG chs cs) : ∀ v ∈ linksOf chs cs d, 0 ≤ v :=
  addL_nn _ _ _ (fun v hv => by rw [List.mem_replicate] at hv; omega) (fun c hc => by have := (okG_ce hg (mem_seg hc)).1; unfold vCe at this; omega)
def dot (a b : List Int) : Int := (prods a b).sum
theorem dot_cons (x y : Int) (a b : List Int) : dot (x :: a) (y :: b) = x * y + dot a b := by simp [dot, prods]
theorem subAt_eq : ∀ (b a pre : List Int), a.length = b.length → subAt pre.length (pre ++ a) b = pre ++ List.zipWith (fun x y => x - y) a b
  | [], a, pre, h => by
    have : a = [] := List.length_eq_zero_iff.1 (by simpa using h)
    subst this; simp [subAt]
  | y :: b, [], pre, h => by simp at h
  | y :: b, x :: a, pre, h => by
    unfold subAt
    have e1 : (pre ++ x :: a)[pre.length]? = some x := by rw [List.getElem?_append_right (by omega)]; simp
    have e2 : (pre ++ x :: a).set pre.length (x - y) = (pre ++ [x - y]) ++ a := by rw [List.set_append_right _ _ (by omega)]; simp
    rw [e1, Option.getD_some, e2]
    have := subAt_eq b a (pre ++ [x - y]) (by simpa using h)
    simp only [List.length_append, List.length_singleton] at this
    rw [this]; simp
theorem dot_sub : ∀ (a b u : List Int), a.length = b.length → u.length = a.length → dot (List.zipWith (fun x y => x - y) a b) u = dot a u - dot b u
  | [], [], u, _, hu => by
    have : u = [] := List.length_eq_zero_iff.1 (by simpa using hu)
    subst this; simp [dot, prods]
  | x :: a, y :: b, [], _, hu => by simp at hu
  | x :: a, y :: b, z :: u, h, hu => by
    have := dot_sub a b u (by simpa using h) (by simpa using hu)
    rw [List.zipWith_cons_cons, dot_cons, dot_cons, dot_cons, this, Int.sub_mul]; omega
  | [], _ :: _, _, h, _ => by simp at h
  | _ :: _, [], _, h, _ => by simp at h
theorem mn_le {c : Ch} {n v : Int} (h : c.lo ≤ v ∧ v ≤ c.hi) : mn c n ≤ n * v ∧ n * v ≤ mx c n := by
  unfold mn mx
  rcases Int.le_total 0 n with hn | hn
  · have h1 := Int.mul_le_mul_of_nonneg_left h.1 hn
    have h2 := Int.mul_le_mul_of_nonneg_left h.2 hn
    split <;> split <;> omega
  · have h1 := Int.mul_le_mul_of_nonpos_left hn h.1
    have h2 := Int.mul_le_mul_of_nonpos_left hn h.2
    split <;> split <;> omega
theorem span_dot : ∀ (chs : List Ch) (ns us : List Int), ns.length = chs.length → us.length = chs.length → trueL chs us → (spanOf chs ns).1 ≤ dot ns us ∧ dot ns us ≤ (spanOf chs ns).2
  | [], ns, us, hn, hu, _ => by
    have e1 : ns = [] := List.length_eq_zero_iff.1 (by simpa using hn)
    subst e1; simp [spanOf, mins, maxs, dot, prods]
  | c :: chs, [], us, hn, _, _ => by simp at hn
  | c :: chs, n :: ns, [], _, hu, _ => by simp at hu
  | c :: chs, n :: ns, v :: us, hn, hu, ht => by
    have ih := span_dot chs ns us (by simpa using hn) (by simpa using hu) ht.2
    have h1 := mn_le (n := n) ht.1
    rw [dot_cons]
    simp only [spanOf, mins, maxs, List.zipWith_cons_cons, List.sum_cons] at *
    omega
/-- The links that a choice gives: of each chain the least or the greatest. -/
def pickL2 (chs : List Ch) (f : Nat → Bool) : Nat → List Int
  | _ => (List.range chs.length).map fun j => match chs[j]? with | some c => if f j then c.hi else c.lo | none => 0
def chosen (f : Nat → Bool) : Nat → List Ch → List Int
  | _, [] => []
  | j, c :: l => (if f j then c.hi else c.lo) :: chosen f (j + 1) l
theorem dot_lo (f : Nat → Bool) : ∀ (chs : List Ch) (ns : List Int) (j : Nat), ns.length = chs.length → (∀ (i : Nat) (c : Ch) (n : Int), chs[i]? = some c → ns[i]? = some n → (f (j + i) = true ↔ n * c.hi < n * c.lo)) → dot ns (chosen f j chs) = (spanOf chs ns).1
  | [], ns, j, hn, _ => by
    have e1 : ns = [] := List.length_eq_zero_iff.1 (by simpa using hn)
    subst e1; rfl
  | c :: chs, [], j, hn, _ => by simp at hn
  | c :: chs, n :: ns, j, hn, h => by
    have ih := dot_lo f chs ns (j + 1) (by simpa using hn) (fun i c n h1 h2 => by rw [show j + 1 + i = j + (i + 1) by omega]; exact h (i + 1) c n (by simpa using h1) (by simpa using h2))
    have h0 := h 0 c n rfl rfl
    unfold chosen
    rw [dot_cons, ih]
    simp only [spanOf, mins, List.zipWith_cons_cons, List.sum_cons]
    rw [Nat.add_zero] at h0
    unfold mn
    by_cases hf : f j = true
    · rw [if_pos hf, if_pos (h0.1 hf)]
    · rw [if_neg hf, if_neg (fun hx => hf (h0.2 hx))]
theorem dot_hi (f : Nat → Bool) : ∀ (chs : List Ch) (ns : List Int) (j : Nat), ns.length = chs.length → (∀ (i : Nat) (c : Ch) (n : Int), chs[i]? = some c → ns[i]? = some n → (f (j + i) = true ↔ n * c.hi > n * c.lo)) → dot ns (chosen f j chs) = (spanOf chs ns).2
  | [], ns, j, hn, _ => by
    have e1 : ns = [] := List.length_eq_zero_iff.1 (by simpa using hn)
    subst e1; rfl
  | c :: chs, [], j, hn, _ => by simp at hn
  | c :: chs, n :: ns, j, hn, h => by
    have ih := dot_hi f chs ns (j + 1) (by simpa using hn) (fun i c n h1 h2 => by rw [show j + 1 + i = j + (i + 1) by omega]; exact h (i + 1) c n (by simpa using h1) (by simpa using h2))
    have h0 := h 0 c n rfl rfl
    unfold chosen
    rw [dot_cons, ih]
    simp only [spanOf, maxs, List.zipWith_cons_cons, List.sum_cons]
    rw [Nat.add_zero] at h0
    unfold mx
    by_cases hf : f j = true
    · rw [if_pos hf, if_pos (h0.1 hf)]
    · rw [if_neg hf, if_neg (fun hx => hf (h0.2 hx))]
theorem span_ends : ∀ (chs : List Ch) (ns : List Int), ns.length = chs.length → (∀ c ∈ chs, vCh c) → (∀ n ∈ ns, 0 ≤ n) → ∀ j, dot ns (chosen (fun _ => false) j chs) = (spanOf chs ns).1 ∧ dot ns (chosen (fun _ => true) j chs) = (spanOf chs ns).2
  | [], ns, hn, _, _, j => by
    have e1 : ns = [] := List.length_eq_zero_iff.1 (by simpa using hn)
    subst e1; exact ⟨rfl, rfl⟩
  | c :: chs, [], hn, _, _, _ => by simp at hn
  | c :: chs, n :: ns, hn, hc, h0, j => by
    have ih := span_ends chs ns (by simpa using hn) (fun c h => hc c (by simp [h])) (fun n h => h0 n (by simp [h])) (j + 1)
    have hcv := hc c (by simp); unfold vCh at hcv
    have hnn := h0 n (by simp)
    have := Int.mul_le_mul_of_nonneg_left hcv.1.2.1 hnn
    unfold chosen
    rw [dot_cons, dot_cons, ih.1, ih.2]
    have e1 : mn c n = n * c.lo := by unfold mn; rw [if_neg (by omega)]
    have e2 : mx c n = n * c.hi := by unfold mx; split <;> omega
    simp only [spanOf, mins, maxs, List.zipWith_cons_cons, List.sum_cons, e1, e2]
    exact ⟨by simp, by simp⟩
def bitI (s : Int) (j : Nat) : Int := andI (s.fdiv (2 ^ ((j : Int)).toNat)) 1
theorem bits_any (f : Nat → Bool) (k : Nat) (hk : k ≤ 3) : ∃ s : Nat, s < 2 ^ k ∧ ∀ j, j < k → (bitI s j = 1 ↔ f j = true) := by
  have key : ∀ (k : Nat), k ≤ 3 → ∀ (a b c : Bool), ∃ s : Nat, s < 2 ^ k ∧ ∀ j, j < k → (bitI s j = 1 ↔ (if j = 0 then a else if j = 1 then b else c) = true) := by
    intro k hk a b c
    have : ∃ s : Nat, s < 8 ∧ s < 2 ^ k ∧ ∀ j, j < 3 → j < k → (bitI s j = 1 ↔ (if j = 0 then a else if j = 1 then b else c) = true) := by
      have h : k = 0 ∨ k = 1 ∨ k = 2 ∨ k = 3 := by omega
      rcases h with rfl | rfl | rfl | rfl <;> cases a <;> cases b <;> cases c <;> decide
    obtain ⟨s, _, h2, h3⟩ := this
    exact ⟨s, h2, fun j hj => h3 j (by omega) hj⟩
  obtain ⟨s, h1, h2⟩ := key k hk (f 0) (f 1) (f 2)
  refine ⟨s, h1, fun j hj => ?_⟩
  rw [h2 j hj]
  have h : j = 0 ∨ j = 1 ∨ j = 2 := by omega
  rcases h with rfl | rfl | rfl <;> simp
theorem bits_all (k : Nat) (hk : k ≤ 3) : ∀ j, j < k → bitI ((2 ^ k - 1 : Nat) : Int) j = 1 := by
  intro j hj
  have h : (k = 1 ∧ j = 0) ∨ (k = 2 ∧ (j = 0 ∨ j = 1)) ∨ (k = 3 ∧ (j = 0 ∨ j = 1 ∨ j = 2)) := by omega
  rcases h with ⟨rfl, rfl⟩ | ⟨rfl, rfl | rfl⟩ | ⟨rfl, rfl | rfl | rfl⟩ <;> decide
theorem bits_none (j : Nat) (hj : j < 3) : ¬ bitI 0 j = 1 := by
  have h : j = 0 ∨ j = 1 ∨ j = 2 := by omega
  rcases h with rfl | rfl | rfl <;> decide
/-- What links of a set are. -/
def okU (chs : List Ch) (set : Int) (us : List Int) : Prop := ∀ (i : Nat) (c : Ch) (v : Int), chs[i]? = some c → us[i]? = some v → (c.lo ≤ v ∧ v ≤ c.hi) ∧ (¬ set = 2 ^ chs.length → v = if bitI set i = 1 then c.hi else c.lo)
theorem trueL_of : ∀ (chs : List Ch) (us : List Int), us.length = chs.length → (∀ (i : Nat) (c : Ch) (v : Int), chs[i]? = some c → us[i]? = some v → c.lo ≤ v ∧ v ≤ c.hi) → trueL chs us
  | [], _, _, _ => trivial
  | c :: l, [], h, _ => by simp at h
  | c :: l, v :: us, h, hp => ⟨hp 0 c v rfl rfl, trueL_of l us (by simpa using h) (fun i c v h1 h2 => hp (i + 1) c v (by simpa using h1) (by simpa using h2))⟩
theorem chosen_get (f : Nat → Bool) : ∀ (l : List Ch) (j i : Nat), (chosen f j l)[i]? = l[i]?.map fun c => if f (j + i) then c.hi else c.lo
  | [], _, _ => by simp [chosen]
  | c :: l, j, 0 => by simp [chosen]
  | c :: l, j, i + 1 => by
    unfold chosen
    rw [List.getElem?_cons_succ, List.getElem?_cons_succ, chosen_get f l (j + 1) i, show j + 1 + i = j + (i + 1) by omega]
theorem okU_chosen {chs : List Ch} {set : Int} {us : List Int} (h : okU chs set us) (hl : us.length = chs.length) (hs : ¬ set = 2 ^ chs.length) (f : Nat → Bool) (hf : ∀ j, j < chs.length → (bitI set j = 1 ↔ f j = true)) : us = chosen f 0 chs := by
  apply List.ext_getElem?
  intro i
  rw [chosen_get, Nat.zero_add]
  rcases Nat.lt_or_ge i chs.length with hi | hi
  · have e1 : chs[i]? = some (chs[i]'hi) := List.getElem?_eq_getElem _
    have e2 : us[i]? = some (us[i]'(by omega)) := List.getElem?_eq_getElem _
    have := (h i _ _ e1 e2).2 hs
    rw [e2, e1, Option.map_some, this]
    by_cases hb : bitI set i = 1
    · rw [if_pos hb, if_pos ((hf i hi).1 hb)]
    · rw [if_neg hb, if_neg (fun hx => hb ((hf i hi).2 hx))]
  · rw [List.getElem?_eq_none (by omega), List.getElem?_eq_none hi]; rfl
theorem pow2_cast (k : Nat) : (1 : Int) * 2 ^ ((k : Int)).toNat = ((2 ^ k : Nat) : Int) := by
  rw [Int.toNat_natCast, Int.one_mul]; simp
section loop
variable (lp2 : List Int) (N : Nat) (rec3 : Bool → Bool → Int → Option Bool) (chs : List Ch) (cs : List Ce) (l : List Cl) (y6621 y6627 : Int × Int) (y6633 : Int × Int × Int) (y6638 : Int × Int) (is nt : Bool) (set : Nat)
theorem F6l8_eq (hg : okG chs cs) (hk : chs.length ≤ 3) (hset : set ≤ 2 ^ chs.length) : ∀ (m j : Nat) (u : List Int), u.length = j → okU chs set u → j ≤ chs.length → chs.length < m + j → ∃ us, F6l8 lp2 N rec3 (chs, cs, l) y6621 y6627 y6633 y6638 is nt set m u (j : Int) = F6j5 N rec3 (chs, cs, l) y6621 y6627 y6633 y6638 is nt set us ∧ us.length = chs.length ∧ okU chs set us := by
  intro m; induction m with
  | zero => intro j u hu h1 h2 h3; omega
  | succ m ih =>
    intro j u hu h1 h2 h3
    have hp8 : (2 : Nat) ^ chs.length ≤ 8 := by
      have : chs.length = 0 ∨ chs.length = 1 ∨ chs.length = 2 ∨ chs.length = 3 := by omega
      rcases this with h | h | h | h <;> rw [h] <;> decide
    show ∃ us, F6b8 lp2 N rec3 (chs, cs, l) y6621 y6627 y6633 y6638 is nt set (F6l8 lp2 N rec3 (chs, cs, l) y6621 y6627 y6633 y6638 is nt set m) u (j : Int) = _ ∧ _
    unfold F6b8
    dsimp only
    rcases drop_cases chs j with ⟨g1, g2⟩ | ⟨c, g1, g2, g3⟩
    · rw [if_neg (by omega)]; exact ⟨u, rfl, by omega, h1⟩
    · have hcv := okChs_all chs 0 hg.2.2.1 c (List.mem_of_getElem? g2)
      unfold vCh at hcv
      have hq : 0 ≤ ((set : Int)).fdiv (2 ^ ((j : Int)).toNat) ∧ ((set : Int)).fdiv (2 ^ ((j : Int)).toNat) ≤ 8 := by
        have hpos : (0 : Int) < 2 ^ ((j : Int)).toNat := Int.pow_pos (by decide)
        rw [Int.fdiv_eq_ediv_of_nonneg _ (by omega)]
        refine ⟨Int.ediv_nonneg (by omega) (by omega), ?_⟩
        have := Int.ediv_le_self (2 ^ ((j : Int)).toNat) (show (0 : Int) ≤ set by omega)
        omega
      have step : ∀ v : Int, (c.lo ≤ v ∧ v ≤ c.hi) → (¬ (set : Int) = 2 ^ chs.length → v = if bitI set j = 1 then c.hi else c.lo) → ∃ us, F6j10 (F6l8 lp2 N rec3 (chs, cs, l) y6621 y6627 y6633 y6638 is nt set m) u (j : Int) v = F6j5 N rec3 (chs, cs, l) y6621 y6627 y6633 y6638 is nt set us ∧ us.length = chs.length ∧ okU chs set us := fun v v1 v2 => by
        unfold F6j10
        rw [gdO_pos (by omega), ckO_pos (by unfold InR; omega), succ_cast]
        refine ih (j + 1) (u ++ [v]) (by simp [hu]) (fun i c' v' k1 k2 => ?_) (by omega) (by omega)
        rcases get_snoc k2 with k2 | ⟨rfl, rfl⟩
        · exact h1 i c' v' k1 k2
        · rw [hu, g2] at k1
          injection k1 with k1; subst k1
          rw [hu]; exact ⟨v1, v2⟩
      have main : ∀ v : Int, (c.lo ≤ v ∧ v ≤ c.hi) → (v = if bitI set j = 1 then c.hi else c.lo) → ∃ us, F6j9 lp2 (F6l8 lp2 N rec3 (chs, cs, l) y6621 y6627 y6633 y6638 is nt set m) (chs, cs, l) set u (j : Int) c v = F6j5 N rec3 (chs, cs, l) y6621 y6627 y6633 y6638 is nt set us ∧ us.length = chs.length ∧ okU chs set us := fun v v1 v2 => by
        unfold F6j9 F6j11
        dsimp only
        split
        · rename_i he
          split
          · rename_i hp
            have e0 : 0 ≤ (j : Int).tmod (lp2.length : Int) := Int.tmod_nonneg _ (by omega)
            have e1 : (j : Int).tmod (lp2.length : Int) < (lp2.length : Int) := Int.tmod_lt_of_pos _ hp
            have hx : lp2[((j : Int).tmod (lp2.length : Int)).toNat]? = some (lp2[((j : Int).tmod (lp2.length : Int)).toNat]'(by omega)) := List.getElem?_eq_getElem _
            rw [gdO_pos e0, hx, bindO_some]
            obtain ⟨r, r1, r2, r3⟩ := F56_eq (lp2[((j : Int).tmod (lp2.length : Int)).toNat]'(by omega)) (c.hi - c.lo + 1) (by omega) (by omega)
            rw [ckO_pos (by unfold InR; omega), ckO_pos (by unfold InR; omega), r1, bindO_some, ckO_pos (by unfold InR; omega)]
            refine step (c.lo + r) (by omega) (fun hne => absurd ?_ hne)
            rw [pow2_cast] at he; rw [he]; simp
          · exact step v v1 (fun _ => v2)
        · exact step v v1 (fun _ => v2)
      rw [if_pos (by omega), gdO_pos (by omega), Int.toNat_natCast j, g2, bindO_some, gdO_pos (by omega)]
      rw [Int.toNat_natCast] at hq
      rw [gdO_pos (by omega), ckO_pos (by unfold InR; omega)]
      have hb : bitI set j = andI (((set : Int)).fdiv (2 ^ j)) 1 := by unfold bitI; rw [Int.toNat_natCast]
      by_cases hbit : andI (((set : Int)).fdiv (2 ^ j)) 1 = 1
      · rw [if_pos hbit]; exact main c.hi (by omega) (by rw [hb, if_pos hbit])
      · rw [if_neg hbit]; exact main c.lo (by omega) (by rw [hb, if_neg hbit])
end loop
theorem F6j6_eq (rec3 : Bool → Bool → Int → Option Bool) (is nt : Bool) (set : Int) (x y : Int) (h : InR (set + 1)) : F6j6 rec3 is nt set (x, 0) (y, 0) = rec3 (is || decide (y < x)) (nt || decide (x ≤ y)) (set + 1) := by
  have h4 : ∀ a b, F6j4 rec3 set a b = rec3 a b (set + 1) := fun a b => by unfold F6j4; rw [ckO_pos h]
  have h7 : ∀ a, F6j7 rec3 nt set (x, 0) (y, 0) a = rec3 a (nt || decide (x ≤ y)) (set + 1) := fun a => by
    unfold F6j7
    rw [h4, h4]
    by_cases hx : x ≤ y <;> cases nt <;> simp [hx]
  unfold F6j6
  rw [h7, h7]
  by_cases hx : y < x <;> cases is <;> simp [hx]
theorem F6j5_eq (N : Nat) (rec3 : Bool → Bool → Int → Option Bool) (chs : List Ch) (cs : List Ce) (l : List Cl) (a b : Dr) (is nt : Bool) (set : Int) (us : List Int) (hN : 101 ≤ N) (hg : okG chs cs) (ha : hasD cs.length a) (hb : hasD cs.length b) (hu : us.length = chs.length) (ht : trueL chs us) (h0 : 0 ≤ set ∧ set ≤ 8)
    (L : Int) (hL : L = longerOf chs cs a b) (hz : set = 0 → dot (linksOf chs cs a) us = (spanOf chs (linksOf chs cs a)).1) (ho : set = ((2 ^ chs.length : Nat) : Int) - 1 → dot (linksOf chs cs a) us = (spanOf chs (linksOf chs cs a)).2) (hk : chs.length ≤ 3) :
    F6j5 N rec3 (chs, cs, l) (a.fr, a.to) (b.fr, b.to) ((spanOf chs (linksOf chs cs a)).1, (spanOf chs (linksOf chs cs a)).2, 0) (L, 0) is nt set us = rec3 (is || decide (dot (linksOf chs cs b) us < dot (linksOf chs cs a) us)) (nt || decide (dot (linksOf chs cs a) us ≤ dot (linksOf chs cs b) us)) (set + 1) := by
  obtain ⟨l1, l2⟩ := links_ok hg ha
  obtain ⟨k1, k2⟩ := links_ok hg hb
  obtain ⟨m1, m2⟩ := more_ok hg ha hb
  have sa := span_dot chs (linksOf chs cs a) us l1 hu ht
  have sm := span_dot chs (moreOf chs cs a b) us m1 hu ht
  have em : dot (moreOf chs cs a b) us = dot (linksOf chs cs a) us - dot (linksOf chs cs b) us := by
    have := subAt_eq (linksOf chs cs b) (linksOf chs cs a) [] (by omega)
    simp only [List.length_nil, List.nil_append] at this
    unfold moreOf
    rw [this]
    exact dot_sub _ _ _ (by omega) (by omega)
  have hp8 : (2 : Nat) ^ chs.length ≤ 8 := by
    have : chs.length = 0 ∨ chs.length = 1 ∨ chs.length = 2 ∨ chs.length = 3 := by omega
    rcases this with h | h | h | h <;> rw [h] <;> decide
  have hl1 : L = 1 → 0 < (spanOf chs (moreOf chs cs a b)).1 := fun h => by
    rw [hL] at h; unfold longerOf at h
    split at h
    · assumption
    · split at h <;> omega
  have hl0 : L = 0 → (spanOf chs (moreOf chs cs a b)).2 ≤ 0 := fun h => by
    rw [hL] at h; unfold longerOf at h
    split at h
    · omega
    · split at h
      · assumption
      · omega
  have ea : (⟨(a.fr, a.to).1, (a.fr, a.to).2⟩ : Dr) = a := rfl
  have eb : (⟨(b.fr, b.to).1, (b.fr, b.to).2⟩ : Dr) = b := rfl
  unfold F6j5
  rw [ea, eb]
  dsimp only
  have tr : ∀ d, hasD cs.length d → F29 N chs cs us d = some (dot (linksOf chs cs d) us, 0) := fun d hd => by
    rw [F29_eq N chs cs us d hN]
    unfold trulyR
    rw [if_pos hg, if_pos (show areL chs us from ⟨hu, ht⟩), if_pos hd]; rfl
  rw [tr a ha, tr b hb, bindO_some, bindO_some]
  dsimp only
  rw [pow2_cast, ← F6j6_eq rec3 is nt set _ _ (by unfold InR; omega)]
  generalize (2 ^ chs.length : Nat) = P at *
  generalize dot (linksOf chs cs a) us = x at *
  generalize dot (linksOf chs cs b) us = y at *
  generalize hT : F6j6 rec3 is nt set (x, 0) (y, 0) = T
  generalize (spanOf chs (linksOf chs cs a)).1 = lo at *
  generalize (spanOf chs (linksOf chs cs a)).2 = hi at *
  rw [if_pos rfl, if_pos rfl, if_neg (by omega), if_neg (by omega)]
  have tail : (if L = 1 then (if x ≤ y then some false else if L = 0 then (if y < x then some false else T) else T) else if L = 0 then (if y < x then some false else T) else T) = T := by
    by_cases e1 : L = 1
    · have := hl1 e1
      rw [if_pos e1, if_neg (by omega), if_neg (by omega)]
    · rw [if_neg e1]
      by_cases e0 : L = 0
      · have := hl0 e0
        rw [if_pos e0, if_neg (by omega)]
      · rw [if_neg e0]
  have last : ckO ((P : Int) - 1) (if set = (P : Int) - 1 then (if x = hi then T else some false) else T) = T := by
    rw [ckO_pos (by unfold InR; omega)]
    by_cases e : set = (P : Int) - 1
    · rw [if_pos e, if_pos (ho e)]
    · rw [if_neg e]
  rw [tail]
  by_cases e : set = 0
  · rw [if_pos e, if_pos (hz e)]; exact last
  · rw [if_neg e]; exact last
theorem F6l3_eq (lp2 : List Int) (N : Nat) (chs : List Ch) (cs : List Ce) (l : List Cl) (a b : Dr) (hN : 101 ≤ N) (hg : okG chs cs) (hk : chs.length ≤ 3) (ha : hasD cs.length a) (hb : hasD cs.length b) (L : Int) (hL : L = longerOf chs cs a b)
    (s1 s2 : Nat) (hs1 : L = 2 → s1 < 2 ^ chs.length ∧ ∀ us, us.length = chs.length → okU chs s1 us → dot (linksOf chs cs b) us < dot (linksOf chs cs a) us) (hs2 : L = 2 → s2 < 2 ^ chs.length ∧ ∀ us, us.length = chs.length → okU chs s2 us → dot (linksOf chs cs a) us ≤ dot (linksOf chs cs b) us) :
    ∀ (m : Nat) (set : Nat) (is nt : Bool), (is = true → L ≠ 0) → (nt = true → L ≠ 1) → (L = 2 → (is = true ∨ set ≤ s1) ∧ (nt = true ∨ set ≤ s2)) → set ≤ 2 ^ chs.length + 1 → 2 ^ chs.length + 1 < m + set → F6l3 lp2 N (chs, cs, l) (a.fr, a.to) (b.fr, b.to) ((spanOf chs (linksOf chs cs a)).1, (spanOf chs (linksOf chs cs a)).2, 0) (L, 0) m is nt set = some true := by
  have hp8 : (2 : Nat) ^ chs.length ≤ 8 := by
    have : chs.length = 0 ∨ chs.length = 1 ∨ chs.length = 2 ∨ chs.length = 3 := by omega
    rcases this with h | h | h | h <;> rw [h] <;> decide
  have hLv : L = 0 ∨ L = 1 ∨ L = 2 := by
    rw [hL]; unfold longerOf
    split
    · omega
    · split <;> omega
  intro m; induction m with
  | zero => intro set is nt _ _ _ h1 h2; omega
  | succ m ih =>
    intro set is nt c1 c2 c3 h1 h2
    show F6b3 lp2 N (chs, cs, l) (a.fr, a.to) (b.fr, b.to) _ (L, 0) (F6l3 lp2 N (chs, cs, l) (a.fr, a.to) (b.fr, b.to) _ (L, 0) m) is nt set = _
    unfold F6b3
    dsimp only
    rw [gdO_pos (by omega), pow2_cast, ckO_pos (by unfold InR; omega)]
    by_cases hle : (set : Int) ≤ ((2 ^ chs.length : Nat) : Int)
    · rw [if_pos hle]
      obtain ⟨us, e1, e2, e3⟩ := F6l8_eq lp2 N (F6l3 lp2 N (chs, cs, l) (a.fr, a.to) (b.fr, b.to) ((spanOf chs (linksOf chs cs a)).1, (spanOf chs (linksOf chs cs a)).2, 0) (L, 0) m) chs cs l (a.fr, a.to) (b.fr, b.to) ((spanOf chs (linksOf chs cs a)).1, (spanOf chs (linksOf chs cs a)).2, 0) (L, 0) is nt set hg hk (by omega) N 0 [] rfl (fun i c v _ h => by simp at h) (by omega) (by omega)
      have e1' := e1
      rw [Int.natCast_zero] at e1'
      rw [e1']
      have ht := trueL_of chs us e2 (fun i c v k1 k2 => (e3 i c v k1 k2).1)
      have hends := span_ends chs (linksOf chs cs a) (links_ok hg ha).1 (okChs_all chs 0 hg.2.2.1) (links_nn hg) 0
      have hne : ∀ z : Nat, z < 2 ^ chs.length → ¬ (z : Int) = 2 ^ chs.length := fun z hz he => by
        have : ((2 ^ chs.length : Nat) : Int) = 2 ^ chs.length := by simp
        omega
      rw [F6j5_eq N _ chs cs l a b is nt set us hN hg ha hb e2 ht (by omega) L hL (fun hz => by
        have hz0 : set = 0 := by omega
        subst hz0
        rw [okU_chosen e3 e2 (hne 0 (Nat.pow_pos (by decide))) (fun _ => false) (fun j hj => by
          have := bits_none j (by omega)
          simpa using this)]
        exact hends.1) (fun ho => by
        have hs : set = 2 ^ chs.length - 1 := by omega
        have hpos : 0 < 2 ^ chs.length := Nat.pow_pos (by decide)
        rw [okU_chosen e3 e2 (hne set (by omega)) (fun _ => true) (fun j hj => by
          rw [hs]; have := bits_all chs.length hk j hj
          simpa using this)]
        exact hends.2) hk, succ_cast]
      have sa := span_dot chs (moreOf chs cs a b) us (more_ok hg ha hb).1 e2 ht
      have em : dot (moreOf chs cs a b) us = dot (linksOf chs cs a) us - dot (linksOf chs cs b) us := by
        have := subAt_eq (linksOf chs cs b) (linksOf chs cs a) [] (by rw [(links_ok hg ha).1, (links_ok hg hb).1])
        simp only [List.length_nil, List.nil_append] at this
        unfold moreOf
        rw [this]
        exact dot_sub _ _ _ (by rw [(links_ok hg ha).1, (links_ok hg hb).1]) (by rw [(links_ok hg ha).1, e2])
      have hlo : L = 0 → dot (linksOf chs cs a) us ≤ dot (linksOf chs cs b) us := fun h => by
        rw [hL] at h; unfold longerOf at h
        split at h
        · omega
        · split at h <;> omega
      have hhi : L = 1 → dot (linksOf chs cs b) us < dot (linksOf chs cs a) us := fun h => by
        rw [hL] at h; unfold longerOf at h
        split at h
        · omega
        · split at h <;> omega
      refine ih (set + 1) _ _ (fun h => ?_) (fun h => ?_) (fun h => ?_) (by omega) (by omega)
      · simp only [Bool.or_eq_true, decide_eq_true_eq] at h
        rcases h with h | h
        · exact c1 h
        · intro h0; have := hlo h0; omega
      · simp only [Bool.or_eq_true, decide_eq_true_eq] at h
        rcases h with h | h
        · exact c2 h
        · intro h0; have := hhi h0; omega
      · simp only [Bool.or_eq_true, decide_eq_true_eq]
        obtain ⟨d1, d2⟩ := c3 h
        constructor
        · rcases d1 with d1 | d1
          · exact .inl (.inl d1)
          · by_cases he : set = s1
            · subst he; exact .inl (.inr ((hs1 h).2 us e2 e3))
            · exact .inr (by omega)
        · rcases d2 with d2 | d2
          · exact .inl (.inl d2)
          · by_cases he : set = s2
            · subst he; exact .inl (.inr ((hs2 h).2 us e2 e3))
            · exact .inr (by omega)
    · rw [if_neg hle]
      unfold F6j2
      dsimp only
      have hfin : L = 2 → is = true ∧ nt = true := fun h => by
        obtain ⟨d1, d2⟩ := c3 h
        have q1 := (hs1 h).1; have q2 := (hs2 h).1
        refine ⟨?_, ?_⟩
        · rcases d1 with d1 | d1
          · exact d1
          · omega
        · rcases d2 with d2 | d2
          · exact d2
          · omega
      by_cases h : L = 2
      · obtain ⟨rfl, rfl⟩ := hfin h
        simp [h]
      · cases is <;> cases nt <;> simp [h]
        have := c1 rfl; have := c2 rfl
        omega
theorem true_any (N : Nat) (hN : 101 ≤ N) (hs0 : F11 N = some true) (r0 : List A2) (r1 r2 : List A3) (n0 n1 n2 n3 : Int) (lp2 : List Int) : F6 N r0 r1 r2 n0 n1 n2 n3 lp2 = some true := by
  unfold F6
  rw [hs0, bindO_some, if_pos rfl]
  unfold F6j1
  obtain ⟨chs, cs, l, h1, hm⟩ := F54_eq N r0 r1 r2 (by omega)
  rw [h1, bindO_some]
  dsimp only
  have hg := hm.g
  obtain ⟨a0, a1, k1, k2⟩ := F55_eq chs cs ⟨n0, n1⟩ hg.2.1
  obtain ⟨b0, b1, l1, l2⟩ := F55_eq chs cs ⟨n2, n3⟩ hg.2.1
  rw [k1, bindO_some, l1, bindO_some]
  dsimp only
  rw [F25_eq N chs cs ⟨a0, a1⟩ hN, bindO_some, if_pos hg, if_pos k2, F27_eq N chs cs ⟨a0, a1⟩ ⟨b0, b1⟩ hN, bindO_some, if_pos hg, if_pos (show hasD cs.length ⟨a0, a1⟩ ∧ hasD cs.length ⟨b0, b1⟩ from ⟨k2, l2⟩), if_pos rfl, if_pos rfl, if_pos rfl]
  have hk := hm.n1
  obtain ⟨m1, m2⟩ := more_ok hg k2 l2
  -- the sets at which both ends of the difference are reached
  have hget : ∀ (j : Nat), j < chs.length → ∃ c n, chs[j]? = some c ∧ (moreOf chs cs ⟨a0, a1⟩ ⟨b0, b1⟩)[j]? = some n := fun j hj => ⟨_, _, List.getElem?_eq_getElem hj, List.getElem?_eq_getElem (by omega)⟩
  let fl : Nat → Bool := fun j => match chs[j]?, (moreOf chs cs ⟨a0, a1⟩ ⟨b0, b1⟩)[j]? with | some c, some n => decide (n * c.hi < n * c.lo) | _, _ => false
  let fh : Nat → Bool := fun j => match chs[j]?, (moreOf chs cs ⟨a0, a1⟩ ⟨b0, b1⟩)[j]? with | some c, some n => decide (n * c.hi > n * c.lo) | _, _ => false
  obtain ⟨sl, p1, p2⟩ := bits_any fl chs.length hk
  obtain ⟨sh, q1, q2⟩ := bits_any fh chs.length hk
  have hne : ∀ z : Nat, z < 2 ^ chs.length → ¬ (z : Int) = 2 ^ chs.length := fun z hz he => by
    have : ((2 ^ chs.length : Nat) : Int) = 2 ^ chs.length := by simp
    omega
  have em : ∀ us : List Int, us.length = chs.length → dot (moreOf chs cs ⟨a0, a1⟩ ⟨b0, b1⟩) us = dot (linksOf chs cs ⟨a0, a1⟩) us - dot (linksOf chs cs ⟨b0, b1⟩) us := fun us e2 => by
    have := subAt_eq (linksOf chs cs ⟨b0, b1⟩) (linksOf chs cs ⟨a0, a1⟩) [] (by rw [(links_ok hg k2).1, (links_ok hg l2).1])
    simp only [List.length_nil, List.nil_append] at this
    unfold moreOf
    rw [this]
    exact dot_sub _ _ _ (by rw [(links_ok hg k2).1, (links_ok hg l2).1]) (by rw [(links_ok hg k2).1, e2])
  have hdl := dot_lo fl chs (moreOf chs cs ⟨a0, a1⟩ ⟨b0, b1⟩) 0 m1 (fun i c n e1 e2 => by simp only [fl, Nat.zero_add, e1, e2, decide_eq_true_eq])
  have hdh := dot_hi fh chs (moreOf chs cs ⟨a0, a1⟩ ⟨b0, b1⟩) 0 m1 (fun i c n e1 e2 => by simp only [fh, Nat.zero_add, e1, e2, decide_eq_true_eq])
  have h2 : longerOf chs cs ⟨a0, a1⟩ ⟨b0, b1⟩ = 2 → (spanOf chs (moreOf chs cs ⟨a0, a1⟩ ⟨b0, b1⟩)).1 ≤ 0 ∧ 0 < (spanOf chs (moreOf chs cs ⟨a0, a1⟩ ⟨b0, b1⟩)).2 := fun h => by
    unfold longerOf at h
    split at h
    · omega
    · split at h <;> omega
  have hp8 : (2 : Nat) ^ chs.length ≤ 8 := by
    have : chs.length = 0 ∨ chs.length = 1 ∨ chs.length = 2 ∨ chs.length = 3 := by omega
    rcases this with h | h | h | h <;> rw [h] <;> decide
  exact F6l3_eq lp2 N chs cs l ⟨a0, a1⟩ ⟨b0, b1⟩ hN hg hk k2 l2 _ rfl sh sl
    (fun h => ⟨q1, fun us u1 u2 => by
      have := em us u1
      rw [okU_chosen u2 u1 (hne sh q1) fh q2] at *
      have := (h2 h).2
      omega⟩)
    (fun h => ⟨p1, fun us u1 u2 => by
      have := em us u1
      rw [okU_chosen u2 u1 (hne sl p1) fl p2] at *
      have := (h2 h).1
      omega⟩) N 0 false false (fun h => by cases h) (fun h => by cases h) (fun h => ⟨.inr (by omega), .inr (by omega)⟩) (by omega) (by omega)
theorem true4 (r0 : List A2) (r1 r2 : List A3) (n0 n1 n2 n3 : Int) (lp2 : List Int) : F6 (140 + 60) r0 r1 r2 n0 n1 n2 n3 lp2 = some true := true_any _ (by omega) (sane4 _) r0 r1 r2 n0 n1 n2 n3 lp2
end Go.K
