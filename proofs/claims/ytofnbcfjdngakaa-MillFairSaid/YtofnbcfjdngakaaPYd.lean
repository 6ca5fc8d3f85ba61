/- MillServed and MillFair. No condition. -/
import Derived.Test.YtofnbcfjdngakaaPYc
namespace Go.K
open Go.RowKit
set_option linter.unusedVariables false
set_option linter.unusedSimpArgs false
theorem and_bt2 {x : Int} (k : Nat) : (andI x ((2 ^ k : Nat) : Int) = 0) ↔ bt x k = false := by
  unfold andI bt
  rw [Int.toNat_natCast]
  generalize x.toNat = n
  constructor
  · intro q
    have q2 : n &&& 2 ^ k = 0 := by omega
    have := congrArg (fun z => Nat.testBit z k) q2
    simp only [Nat.testBit_and, Nat.testBit_two_pow_self, Bool.and_true, Nat.zero_testBit] at this
    exact this
  · intro q
    have : n &&& 2 ^ k = 0 := Nat.eq_of_testBit_eq fun i => by
      rw [Nat.testBit_and, Nat.testBit_two_pow, Nat.zero_testBit]
      by_cases e : k = i
      · subst e; rw [q]; rfl
      · rw [decide_eq_false e, Bool.and_false]
    rw [this]; rfl
/-! fair -/
theorem F42_ok {H : Nat} {l : List Cm} (ok : okM (H : Int) l) {N : Nat} (hN : 2000 ≤ N) {R hs : List Int} (e : F80 N (H : Int) l = some ((H : Int), R, hs)) (hhl : hs.length = l.length) {s Q : List Int} (hsh : shr l H hs s Q) : F42 N (H : Int) l s = some 0 := by
  have hH := ok.1
  have hn := ok.2.1
  have hC := okM_okC ok
  obtain ⟨q1, q2, q3, q4⟩ := hsh
  unfold F42
  rw [F23_ok ok (by omega), bindO_some, if_pos rfl, e, bindO_some, if_pos (show (s.length : Int) = (H : Int) by omega), gdO_pos (by omega), gdO_pos (by omega), Int.toNat_natCast]
  have loop6 : ∀ (rec3 : List Int → Int → Option Int) (u : List Int) (v : Nat) (j : Nat) (c : Cm), v < H → l[j]? = some c → bt c.hrs v = true → ∀ (m i : Nat), i ≤ j → l.length < m + i →
      F42l6 l N rec3 ((H : Int), R, hs) u (v : Int) c.fam m (i : Int) = bindO u[j]? fun y => ckO (y + 1) (F42j4 rec3 (v : Int) (u.set j (y + 1))) := by
    intro rec3 u v j c hv hc hb m
    induction m with
    | zero => intro i h1 h2; have := (List.getElem?_eq_some_iff.1 hc).1; omega
    | succ m ih =>
      intro i h1 h2
      have step : F42l6 l N rec3 ((H : Int), R, hs) u (v : Int) c.fam (m + 1) (i : Int) = F42b6 l N rec3 ((H : Int), R, hs) u (v : Int) c.fam (F42l6 l N rec3 ((H : Int), R, hs) u (v : Int) c.fam m) (i : Int) := rfl
      rw [step]
      unfold F42b6
      have hj := (List.getElem?_eq_some_iff.1 hc).1
      rcases drop_cases l i with ⟨hi, _⟩ | ⟨d, hi, hd, _⟩
      · omega
      · have hdb := okC_24 (by omega) hC hd
        rw [if_pos (by omega), gdO_pos (by omega), Int.toNat_natCast, hd, bindO_some]
        by_cases hf : d.fam = c.fam
        · have := fam_one ok hc hd hf
          subst this
          rw [hc] at hd; injection hd with hd; subst hd
          rw [if_pos rfl, F92_eq (by omega) (by omega), bindO_some, Int.toNat_natCast, if_pos hb]
        · rw [if_neg hf]
          unfold F42j7
          rw [ckO_pos (by unfold InR; omega), succ_cast]
          refine ih (i + 1) ?_ (by omega)
          rcases Nat.eq_or_lt_of_le h1 with r | r
          · subst r; rw [hc] at hd; injection hd with hd; subst hd; exact absurd rfl hf
          · exact r
  have loop3 : ∀ (m v : Nat) (u : List Int), v ≤ H → H < m + v → u.length = l.length → (∀ j, j < l.length → u[j]? = some (cnt (Q.take v) j)) → F42l3 l s N ((H : Int), R, hs) m u (v : Int) = some 0 := by
    intro m
    induction m with
    | zero => intro v u h1 h2; omega
    | succ m ih =>
      intro v u h1 h2 h4 h5
      show F42b3 l s N ((H : Int), R, hs) (F42l3 l s N ((H : Int), R, hs) m) u (v : Int) = _
      unfold F42b3
      by_cases hv : v < H
      · obtain ⟨y, hy⟩ : ∃ y, Q[v]? = some y := ⟨_, List.getElem?_eq_getElem (show v < Q.length by omega)⟩
        have htk : ∀ j : Nat, cnt (Q.take (v + 1)) j = cnt (Q.take v) j + if y = (j : Int) then 1 else 0 := fun j => by
          rw [List.take_add_one, hy]
          exact cnt_snoc _ y j
        rcases q3 v y hy with ⟨r1, r2⟩ | ⟨c, r1, r2, r3, r4⟩
        · rw [if_pos (by omega), gdO_pos (by omega), Int.toNat_natCast, r2, bindO_some, if_pos rfl]
          unfold F42j4
          rw [ckO_pos (by unfold InR; omega), succ_cast]
          refine ih (v + 1) u (by omega) (by omega) h4 fun j hj => ?_
          rw [htk, if_neg (by omega), Int.add_zero]; exact h5 j hj
        · obtain ⟨k, rfl⟩ : ∃ k : Nat, y = k := ⟨y.toNat, by omega⟩
          rw [Int.toNat_natCast] at r2
          have hk := (List.getElem?_eq_some_iff.1 r2).1
          have hf := ((okM_iff.1 ok).2.2.1 c (List.mem_iff_getElem?.2 ⟨k, r2⟩)).1.1
          have b6 := loop6 (F42l3 l s N ((H : Int), R, hs) m) u v k c hv r2 r3 N 0 (by omega) (by omega)
          rw [show ((0 : Nat) : Int) = 0 from rfl] at b6
          have hcn : cnt (Q.take v) k ≤ 24 ∧ 0 ≤ cnt (Q.take v) k := by
            have := List.count_le_length (a := (k : Int)) (l := Q.take v)
            rw [List.length_take] at this
            unfold cnt; omega
          rw [if_pos (by omega), gdO_pos (by omega), Int.toNat_natCast, r4, bindO_some, if_neg (by omega), b6, h5 k hk, bindO_some, ckO_pos (by unfold InR; omega)]
          unfold F42j4
          rw [ckO_pos (by unfold InR; omega), succ_cast]
          refine ih (v + 1) _ (by omega) (by omega) (by rw [List.length_set]; exact h4) fun j hj => ?_
          rw [htk, List.getElem?_set]
          by_cases r : k = j
          · subst r; rw [if_pos rfl, if_pos (by omega), if_pos rfl]
          · rw [if_neg r, if_neg (by omega), Int.add_zero]; exact h5 j hj
      · have e : v = H := by omega
        subst e
        rw [if_neg (by omega)]
        unfold F42j2 F42j1
        have hu : u = hs := List.ext_getElem? fun j => by
          by_cases hj : j < l.length
          · rw [h5 j hj, q4 j hj, List.take_of_length_le (by omega)]
          · rw [List.getElem?_eq_none (by omega), List.getElem?_eq_none (by omega)]
        subst hu
        have eqs : ∀ (a : List Int), a.length ≤ 1000 → F85 N a a = some true := fun a ha => by
          unfold F85
          rw [if_pos rfl]
          have loop : ∀ (m i : Nat), i ≤ a.length → a.length < m + i → F85l1 a a m (i : Int) = some true := by
            intro m
            induction m with
            | zero => intro i h1 h2; omega
            | succ m ih =>
              intro i h1 h2
              show F85b1 a a (F85l1 a a m) (i : Int) = _
              unfold F85b1
              by_cases hi : i < a.length
              · obtain ⟨x, hx⟩ : ∃ x, a[i]? = some x := ⟨_, List.getElem?_eq_getElem hi⟩
                rw [if_pos (by omega), gdO_pos (by omega), Int.toNat_natCast, hx, bindO_some, bindO_some, if_pos rfl, ckO_pos (by unfold InR; omega), succ_cast]
                exact ih (i + 1) hi (by omega)
              · rw [if_neg (by omega)]
          exact loop N 0 (by omega) (by omega)
        have e85 : F85 N u ((v : Int), R, u).2.2 = some true := eqs u (by omega)
        rw [if_pos rfl]
        first
          | (rw [e85, bindO_some, if_pos rfl])
          | (have e85' := eqs u (by omega); rw [e85', bindO_some, if_pos rfl])
  exact loop3 N 0 _ (by omega) (by omega) List.length_replicate (fun j hj => by rw [List.getElem?_replicate, if_pos hj, List.take_zero]; rfl)
theorem F61_eq (s : List Int) (f : Int) (hs : s.length ≤ 9223372036854775807) : ∀ (m i : Nat) (n : Nat), i ≤ s.length → s.length < m + i → n ≤ i → F61l1 s f m (n : Int) (i : Int) = some (((n + (s.drop i).count f : Nat)) : Int) := by
  intro m
  induction m with
  | zero => intro i n g1 g2; omega
  | succ m ih =>
    intro i n g1 g2 g3
    show F61b1 s f (F61l1 s f m) (n : Int) (i : Int) = _
    unfold F61b1
    rcases drop_cases s i with ⟨hi, e⟩ | ⟨x, hi, hx, e⟩
    · rw [if_neg (by omega), e]; rfl
    · rw [if_pos (by omega), gdO_pos (by omega), Int.toNat_natCast, hx, bindO_some, e, List.count_cons]
      unfold F61j2
      by_cases h : x = f
      · rw [if_pos h, ckO_pos (by unfold InR; omega), ckO_pos (by unfold InR; omega), succ_cast, succ_cast, ih (i + 1) (n + 1) hi (by omega) (by omega), if_pos (beq_iff_eq.2 h)]
        congr 2; omega
      · rw [if_neg h, ckO_pos (by unfold InR; omega), succ_cast, ih (i + 1) n hi (by omega) (by omega), if_neg (by simpa using h)]
        rfl
theorem count_pt {f j : Int} : ∀ (a b : List Int), a.length = b.length → (∀ (h : Nat) x y, a[h]? = some x → b[h]? = some y → (x = f ↔ y = j)) → a.count f = b.count j
  | [], [], _, _ => rfl
  | [], _ :: _, h, _ => by simp at h
  | _ :: _, [], h, _ => by simp at h
  | x :: a, y :: b, h, hp => by
    have ih := count_pt a b (by simpa using h) fun i u v hu hv => hp (i + 1) u v (by simpa using hu) (by simpa using hv)
    have h0 := hp 0 x y rfl rfl
    rw [List.count_cons, List.count_cons, ih]
    by_cases e : x = f
    · rw [if_pos (beq_iff_eq.2 e), if_pos (beq_iff_eq.2 (h0.1 e))]
    · rw [if_neg (by simpa using e), if_neg (by simpa using fun q => e (h0.2 q))]
theorem shr_count {H : Nat} {l : List Cm} (ok : okM (H : Int) l) {s Q : List Int} (hl : Q.length = H) (hs : s.length = H) (hp : ∀ h x, Q[h]? = some x → posS l s h x) {i : Nat} {c : Cm} (hc : l[i]? = some c) : ((s.count c.fam : Nat) : Int) = cnt Q i := by
  have hf := ((okM_iff.1 ok).2.2.1 c (List.mem_iff_getElem?.2 ⟨i, hc⟩)).1.1
  have := count_pt (f := c.fam) (j := (i : Int)) s Q (by omega) fun h x y hx hy => by
    rcases hp h y hy with ⟨r1, r2⟩ | ⟨d, r1, r2, r3, r4⟩
    · rw [hx] at r2; injection r2 with r2
      constructor
      · intro z; omega
      · intro z; omega
    · rw [hx] at r4; injection r4 with r4
      constructor
      · intro z
        have := fam_one ok hc r2 (r4.symm.trans z); omega
      · intro z
        have e : y.toNat = i := by omega
        rw [e, hc] at r2; injection r2 with r2; subst r2; exact r4
  unfold cnt; omega
theorem F62_eq {H : Nat} {l : List Cm} (ok : okM (H : Int) l) {N : Nat} (hN : 2000 ≤ N) (s : List Int) : ∃ z, F62 N (H : Int) l s = some z ∧ (z.2 = true → s.length = H ∧ ∃ Q : List Int, Q.length = H ∧ ∀ h x, Q[h]? = some x → posS l s h x) := by
  have hH := ok.1
  have hn := ok.2.1
  have hC := okM_okC ok
  unfold F62
  rw [gdO_pos (by omega), gdO_pos (by omega), Int.toNat_natCast]
  by_cases hl : (s.length : Int) = (H : Int)
  · rw [if_pos hl]
    have loop : ∀ (m v : Nat) (u Q : List Int), v ≤ H → H < m + v → u.length = l.length → (∀ x ∈ u, 0 ≤ x ∧ x ≤ v) → Q.length = v → (∀ h x, Q[h]? = some x → posS l s h x) →
        ∃ z, F62l1 (H : Int) l s N m u (v : Int) = some z ∧ (z.2 = true → s.length = H ∧ ∃ Q : List Int, Q.length = H ∧ ∀ h x, Q[h]? = some x → posS l s h x) := by
      intro m
      induction m with
      | zero => intro v u Q h1 h2; omega
      | succ m ih =>
        intro v u Q h1 h2 h4 h5 h3 h6
        show ∃ z, F62b1 (H : Int) l s N (F62l1 (H : Int) l s N m) u (v : Int) = _ ∧ _
        unfold F62b1
        by_cases hv : v < H
        · obtain ⟨x, hx⟩ : ∃ x, s[v]? = some x := ⟨_, List.getElem?_eq_getElem (show v < s.length by omega)⟩
          have okQ : ∀ y, posS l s v y → ∀ h z, (Q ++ [y])[h]? = some z → posS l s h z := fun y hy h z hz => by
            rcases Nat.lt_or_ge h v with q | q
            · rw [List.getElem?_append_left (by omega)] at hz; exact h6 h z hz
            · rw [List.getElem?_append_right (by omega)] at hz
              have : h = v := by
                have := (List.getElem?_eq_some_iff.1 hz).1
                simp at this; omega
              subst this
              rw [h3, Nat.sub_self] at hz
              have hz : y = z := by simpa using hz
              subst hz; exact hy
          rw [if_pos (by omega), gdO_pos (by omega), Int.toNat_natCast, hx, bindO_some]
          unfold F62j2
          by_cases h0 : x = 0
          · rw [if_pos h0, ckO_pos (by unfold InR; omega), succ_cast]
            exact ih (v + 1) u (Q ++ [-1]) (by omega) (by omega) h4 (fun z hz => by have := h5 z hz; omega) (by simp [h3]) (okQ _ (.inl ⟨rfl, by rw [hx, h0]⟩))
          · rw [if_neg h0, F65_eq N _ l x hn (by omega), bindO_some]
            rcases ix_ge x l 0 with q | ⟨j, c, ej, hc, hf⟩
            · rw [q, if_pos (by decide)]; exact ⟨_, rfl, fun q => by cases q⟩
            · rw [Nat.zero_add] at ej
              have hj := (List.getElem?_eq_some_iff.1 hc).1
              have hcb := okC_24 (by omega) hC hc
              have hp := p2_ck (k := v) (by omega)
              rw [ej, if_neg (by omega)]
              unfold F94
              rw [if_neg (by omega), gdO_pos (by omega), Int.toNat_natCast, hc, bindO_some, gdO_pos (by omega), Int.toNat_natCast, p2_cast', ckO_pos (by unfold InR; omega), gdO_pos (by omega), gdO_pos (by omega), ckO_pos (by unfold InR; omega)]
              by_cases hb : andI c.hrs ((2 ^ v : Nat) : Int) = 0
              · rw [if_pos hb, bindO_some, if_neg (by decide)]; exact ⟨_, rfl, fun q => by cases q⟩
              · have hbt : bt c.hrs v = true := by
                  cases e : bt c.hrs v with
                  | true => rfl
                  | false => exact absurd ((and_bt2 v).2 e) hb
                obtain ⟨y, hy⟩ : ∃ y, u[j]? = some y := ⟨_, List.getElem?_eq_getElem (by omega)⟩
                have hyb := h5 y (List.mem_iff_getElem?.2 ⟨j, hy⟩)
                rw [if_neg hb, bindO_some, if_pos rfl, gdO_pos (by omega), hy, bindO_some, ckO_pos (by unfold InR; omega), ckO_pos (by unfold InR; omega), succ_cast]
                refine ih (v + 1) _ (Q ++ [(j : Int)]) (by omega) (by omega) (by rw [List.length_set]; exact h4) (fun z hz => ?_) (by simp [h3]) (okQ _ (.inr ⟨c, by omega, by rw [Int.toNat_natCast]; exact hc, hbt, by rw [hx, hf]⟩))
                rcases List.mem_or_eq_of_mem_set hz with r | r
                · have := h5 z r; omega
                · omega
        · have e : v = H := by omega
          subst e
          rw [if_neg (by omega)]
          exact ⟨_, rfl, fun _ => ⟨by omega, Q, h3, h6⟩⟩
    exact loop N 0 _ [] (by omega) (by omega) List.length_replicate (fun x hx => by have := List.eq_of_mem_replicate hx; omega) rfl (fun h x hx => by simp at hx)
  · rw [if_neg hl]; exact ⟨_, rfl, fun q => by cases q⟩
theorem lev_all {H : Nat} {l : List Cm} {R hs : List Int} (f : filld l H R hs) {L : Int} (hf : FeasL l H L) : ∀ (j : Nat) c, l[j]? = some c → L ≤ cnt R j ∨ c.wants ≤ cnt R j := fun j c hc => by
  obtain ⟨h1, h2, h3, h4, h5⟩ := f
  rcases (h5 j c hc).2 with q | ⟨A, c1, c2, c3⟩
  · exact .inr (by omega)
  · rcases Int.lt_or_le (cnt R j) L with q | q
    · rcases Int.lt_or_le (cnt R j) c.wants with q2 | q2
      · exfalso
        obtain ⟨Q, hQ, hlQ, hge⟩ := hf
        have s1 := c2 Q hQ hlQ
        have s2 := sumS_lt (S := inS l A) (f := cnt R) (g := cnt Q) l.length (fun i hi hS => by
          obtain ⟨d, hd, _⟩ := inS_iff.1 hS
          have := (c3 i hi hS).1
          have := (h5 i d hd).1
          rcases hge i d hd with r | r <;> omega) j (inS_lt c1) c1 (by rcases hge j c hc with r | r <;> omega)
        omega
      · exact .inr q2
    · exact .inl q
def nx (L : Int) (c : Cm) : Int := if c.wants < (L + 1) then c.wants else (L + 1)
theorem fair_any (N : Nat) (hN : 2100 ≤ N) (hs0 : F25 N = some true) (p : Int) (q : List A2) (t : List Int) (ht : t.length ≤ 9223372036854775807) (hNt : t.length < N) : F10 N p q t = some true := by
  obtain ⟨H, l, e0, hH10, ok, hn6, _⟩ := F60_eq p q (N := N) (by omega)
  obtain ⟨R, hs, e1, f⟩ := F80_eq ok (N := N) (by omega)
  rw [Int.toNat_natCast] at f
  obtain ⟨s0, e2, hsh⟩ := F40_eq ok (N := N) (by omega) e1 f
  obtain ⟨L, eL, hL⟩ := F36_eq ok (N := N) (by omega)
  rw [Int.toNat_natCast] at hL
  have hH := ok.1
  have hn := ok.2.1
  have h1 := f.2.2.1
  have hbd := hs_bd ok f
  have hl0 := hsh.2.1
  have all := lev_all f hL.2.1
  have hlb := hL.1
  have cw : ∀ c ∈ l, 0 ≤ c.wants ∧ c.wants ≤ 24 := fun c hc => by
    have := ((okM_iff.1 ok).2.2.1 c hc).1
    unfold vCm at this; exact this.2.2
  unfold F10
  rw [e0, bindO_some, e2, bindO_some, eL, bindO_some, F80_hs ok (by omega) e1, bindO_some, if_pos rfl, if_pos rfl, if_pos rfl, if_pos (show (s0.length : Int) = (H : Int) by omega), if_pos (show (hs.length : Int) = (l.length : Int) by omega), F42_ok ok (by omega) e1 h1 hsh, bindO_some, if_pos rfl, gdO_pos (show (0 : Int) ≤ (hs.length : Int) by omega), gdO_pos (show (hs.length : Int) ≤ 1000000 by omega)]
  have sane : F10j4 N = some true := by unfold F10j4; rw [hs0]; rfl
  -- nobody could have one more
  have loop5 : ∀ (m i : Nat), i ≤ l.length → l.length < m + i → F10l5 N ((H : Int), l) (hs, 0) m (i : Int) = some true := by
    intro m
    induction m with
    | zero => intro i g1 g2; omega
    | succ m ih =>
      intro i g1 g2
      show F10b5 N ((H : Int), l) (hs, 0) (F10l5 N ((H : Int), l) (hs, 0) m) (i : Int) = _
      unfold F10b5
      rcases drop_cases l i with ⟨hi, _⟩ | ⟨c, hi, hc, _⟩
      · rw [if_neg (show ¬ (i : Int) < (hs.length : Int) by omega)]; exact sane
      · have hx : ((hs, (0 : Int)).1)[i]? = some (cnt R i) := f.2.2.2.1 i hi
        have hc' : (((H : Int), l).2)[i]? = some c := hc
        have nxt : F10j6 (F10l5 N ((H : Int), l) (hs, 0) m) (i : Int) = some true := by
          unfold F10j6
          rw [ckO_pos (by unfold InR; omega), succ_cast]; exact ih (i + 1) hi (by omega)
        have hw := cw c (List.mem_iff_getElem?.2 ⟨i, hc⟩)
        have nn := cnt_nn R i
        rw [if_pos (show (i : Int) < (hs.length : Int) by omega), gdO_pos (by omega), Int.toNat_natCast, hx, bindO_some, hc', bindO_some]
        by_cases hle : c.wants ≤ cnt R i
        · rw [if_pos hle]; exact nxt
        · obtain ⟨b, eb, hb⟩ := F44_ok ok (N := N) (by omega) (d := hs.set i (cnt R i + 1)) (by rw [List.length_set]; exact h1) (fun x hx => by
            rcases List.mem_or_eq_of_mem_set hx with r | r
            · exact hbd x r
            · omega)
          have eb' : F44 N ((H : Int), l).1 ((H : Int), l).2 (((hs, (0 : Int)).1).set i (cnt R i + 1)) = some (b, 0) := eb
          have hno : ¬ b = true := fun r => by
            obtain ⟨Q, hQ, hlQ, hge⟩ := hb.1 r
            rcases (f.2.2.2.2 i c hc).2 with z | ⟨A, c1, c2, c3⟩
            · omega
            · have s1 := c2 Q hQ hlQ
              have s2 := sumS_lt (S := inS l A) (f := cnt R) (g := cnt Q) l.length (fun j hj hS => by
                by_cases e : i = j
                · subst e
                  have := hge i (cnt R i + 1) (by rw [List.getElem?_set, if_pos rfl, if_pos (by omega)]); omega
                · exact hge j (cnt R j) (by rw [List.getElem?_set, if_neg e]; exact f.2.2.2.1 j hj)) i hi c1 (by
                have := hge i (cnt R i + 1) (by rw [List.getElem?_set, if_pos rfl, if_pos (by omega)]); omega)
              omega
          rw [if_neg hle, gdO_pos (show 0 + hs.length ≤ 1000000000 by omega), ckO_pos (by unfold InR; omega), eb', bindO_some, if_neg hno, if_pos rfl]; exact nxt
  have j3 : F10j3 N ((H : Int), l) (hs, 0) = some true := loop5 N 0 (by omega) (by omega)
  have nxl : ∀ x ∈ l.map (nx L), L < 24 → 0 ≤ x ∧ x ≤ 24 := fun x hx hlt => by
    obtain ⟨c, hc, rfl⟩ := List.mem_map.1 hx
    have := cw c hc
    unfold nx; split <;> omega
  have feasN : Feas l H (l.map (nx L)) → FeasL l H (L + 1) := fun ⟨Q, a, b, c⟩ => ⟨Q, a, b, fun j d hd => by
    have := c j (nx L d) (by rw [List.getElem?_map, hd]; rfl)
    unfold nx at this; split at this
    · exact .inr this
    · exact .inl this⟩
  have j2 : F10j2 N ((H : Int), l) (L, 0) (hs, 0) (l.map (nx L)) = some true := by
    unfold F10j2
    by_cases hlt : L < 24
    · obtain ⟨b, eb, hb⟩ := F44_ok ok (N := N) (by omega) (d := l.map (nx L)) (by simp) (fun x hx => nxl x hx hlt)
      have eb' : F44 N ((H : Int), l).1 ((H : Int), l).2 (l.map (nx L)) = some (b, 0) := eb
      have hno : ¬ b = true := fun r => hL.2.2 hlt (feasN (hb.1 r))
      rw [if_pos hlt, eb', bindO_some, if_neg hno, if_pos rfl]; exact j3
    · rw [if_neg hlt]; exact j3
  have j1 : ∀ v : Bool, (v = true → ∀ (j : Nat) c, l[j]? = some c → nx L c ≤ ((t.count c.fam : Nat) : Int)) → F10j1 t N ((H : Int), l) (L, 0) (hs, 0) v (l.map (nx L)) = some true := fun v hv => by
    unfold F10j1
    obtain ⟨z, ez, hz⟩ := F62_eq ok (N := N) (by omega) t
    have ez' : F62 N ((H : Int), l).1 ((H : Int), l).2 t = some z := ez
    rw [ez', bindO_some]
    by_cases hz2 : z.2 = true
    · rw [if_pos hz2]
      by_cases hvt : v = true
      · have hge : ¬ L < 24 := fun hlt => by
          obtain ⟨tl, Q, lQ, pQ⟩ := hz hz2
          refine hL.2.2 hlt ⟨Q, fun h x hx => ?_, lQ, fun j c hc => ?_⟩
          · rcases pQ h x hx with r | ⟨c, a, b, d, _⟩
            · exact .inl r.1
            · exact .inr ⟨a, c, b, d⟩
          · have a := hv hvt j c hc
            rw [shr_count ok lQ tl pQ hc] at a
            unfold nx at a; split at a
            · exact .inr a
            · exact .inl a
        rw [if_pos hvt, if_neg hge]; exact j2
      · rw [if_neg hvt]; exact j2
    · rw [if_neg hz2, ite_self]; exact j2
  have loop7 : ∀ (m i : Nat) (v : Bool) (u : List Int), i ≤ l.length → l.length < m + i → u.length = l.length → (∀ (j : Nat) c, j < i → l[j]? = some c → u[j]? = some (nx L c)) → (v = true → ∀ (j : Nat) c, j < i → l[j]? = some c → nx L c ≤ ((t.count c.fam : Nat) : Int)) →
      F10l7 t N ((H : Int), l) (s0, 0) (L, 0) (hs, 0) m v u (i : Int) = some true := by
    intro m
    induction m with
    | zero => intro i v u g1 g2; omega
    | succ m ih =>
      intro i v u g1 g2 g3 g4 g5
      show F10b7 t N ((H : Int), l) (s0, 0) (L, 0) (hs, 0) (F10l7 t N ((H : Int), l) (s0, 0) (L, 0) (hs, 0) m) v u (i : Int) = _
      unfold F10b7
      rcases drop_cases l i with ⟨hi, _⟩ | ⟨c, hi, hc, _⟩
      · rw [if_neg (show ¬ (i : Int) < (hs.length : Int) by omega)]
        have hu : u = l.map (nx L) := List.ext_getElem? fun j => by
          rw [List.getElem?_map]
          by_cases r : j < l.length
          · rw [g4 j l[j] (by omega) (List.getElem?_eq_getElem r), List.getElem?_eq_getElem r]; rfl
          · rw [List.getElem?_eq_none (by omega), List.getElem?_eq_none (by omega)]; rfl
        subst hu
        exact j1 v fun hv j c hc => g5 hv j c (by have := (List.getElem?_eq_some_iff.1 hc).1; omega) hc
      · have hx : ((hs, (0 : Int)).1)[i]? = some (cnt R i) := f.2.2.2.1 i hi
        have hc' : (((H : Int), l).2)[i]? = some c := hc
        have hw := cw c (List.mem_iff_getElem?.2 ⟨i, hc⟩)
        have hcw := (f.2.2.2.2 i c hc).1
        have a := all i c hc
        have e61 := F61_eq s0 c.fam (by omega) N 0 0 (by omega) (by omega) (Nat.le_refl _)
        rw [List.drop_zero, Nat.zero_add, shr_count ok hsh.1 hsh.2.1 hsh.2.2.1 hc] at e61
        have e61' : F61 N (s0, (0 : Int)).1 c.fam = some (cnt R i) := e61
        have e61t := F61_eq t c.fam ht N 0 0 (by omega) (by omega) (Nat.le_refl _)
        rw [List.drop_zero, Nat.zero_add] at e61t
        have e61t' : F61 N t c.fam = some ((t.count c.fam : Nat) : Int) := e61t
        have hlow : ¬ cnt R i < (if c.wants < L then c.wants else L) := by split <;> omega
        obtain ⟨y, hy⟩ : ∃ y, u[i]? = some y := ⟨_, List.getElem?_eq_getElem (by omega)⟩
        have hset : (u.set i (nx L c))[i]? = some (nx L c) := by rw [List.getElem?_set, if_pos rfl, if_pos (by omega)]
        have nxt : ∀ v' : Bool, (v' = true → v = true ∧ nx L c ≤ ((t.count c.fam : Nat) : Int)) → F10j8 (F10l7 t N ((H : Int), l) (s0, 0) (L, 0) (hs, 0) m) (i : Int) v' (u.set i (nx L c)) = some true := fun v' hv' => by
          unfold F10j8
          rw [ckO_pos (by unfold InR; omega), succ_cast]
          refine ih (i + 1) v' _ hi (by omega) (by rw [List.length_set]; exact g3) (fun j d hj hd => ?_) (fun hvt j d hj hd => ?_)
          · rw [List.getElem?_set]
            by_cases r : i = j
            · subst r; rw [hc] at hd; injection hd with hd; subst hd
              rw [if_pos rfl, if_pos (by omega)]
            · rw [if_neg r]; exact g4 j d (by omega) hd
          · by_cases r : i = j
            · subst r; rw [hc] at hd; injection hd with hd; subst hd
              exact (hv' hvt).2
            · exact g5 (hv' hvt).1 j d (by omega) hd
        rw [if_pos (show (i : Int) < (hs.length : Int) by omega), gdO_pos (by omega), Int.toNat_natCast, hc', bindO_some, e61', bindO_some, hx, bindO_some, if_pos rfl, if_neg hlow, if_neg (by omega), ckO_pos (by unfold InR; omega), hy, bindO_some]
        show (if v = true then bindO (F61 N t c.fam) fun y4700 => bindO ((u.set i (nx L c))[i]?) fun x4702 => if x4702 ≤ y4700 then F10j8 _ (i : Int) true (u.set i (nx L c)) else F10j8 _ (i : Int) false (u.set i (nx L c)) else F10j8 _ (i : Int) false (u.set i (nx L c))) = some true
        by_cases hvt : v = true
        · rw [if_pos hvt, e61t', bindO_some, hset, bindO_some]
          by_cases hle : nx L c ≤ ((t.count c.fam : Nat) : Int)
          · rw [if_pos hle]; exact nxt true fun _ => ⟨hvt, hle⟩
          · rw [if_neg hle]; exact nxt false fun r => by cases r
        · rw [if_neg hvt]; exact nxt false fun r => by cases r
  exact loop7 N 0 true _ (by omega) (by omega) (by simp; omega) (fun j c hj => by omega) (fun _ j c hj => by omega)
theorem sane5n (N : Nat) (h : 2100 ≤ N) : F25 N = some true := by
  obtain ⟨n, rfl⟩ : ∃ n, N = n + 2100 := ⟨N - 2100, by omega⟩
  exact sane5 n
theorem fair5 (p : Int) (q : List A2) (t : List Int) (ht : t.length ≤ 9223372036854775807) : F10 (t.length + 2100) p q t = some true := fair_any _ (by omega) (sane5n _ (by omega)) p q t ht (by omega)
end Go.K
