/- Comes, Idle and Moved, of the program and of the reference: MillComes. No condition. -/
import Derived.Test.YtofnbcfjdngakaaPYg
namespace Go.K
open Go.RowKit
set_option linter.unusedVariables false
set_option linter.unusedSimpArgs false
theorem F95_eq {H : Nat} {l : List Cm} (ok : okM (H : Int) l) {v : Nat} (hv : v < 24) {N : Nat} (hN : 2000 ≤ N) (h : Int) : F95 N h l (v : Int) = some (h, l.map (clr v)) := by
  have hn := ok.2.1
  have hH := ok.1
  have hC := okM_okC ok
  have hp := p2_ck hv
  have loop : ∀ (m i : Nat) (o : List Cm), i ≤ l.length → l.length < m + i → o.length = i → F95l1 h l (v : Int) m o (i : Int) = some (h, o ++ (l.drop i).map (clr v)) := by
    intro m
    induction m with
    | zero => intro i o h1 h2; omega
    | succ m ih =>
      intro i o h1 h2 h3
      show F95b1 h l (v : Int) (F95l1 h l (v : Int) m) o (i : Int) = _
      unfold F95b1
      rcases drop_cases l i with ⟨hi, e⟩ | ⟨c, hi, hc, e⟩
      · rw [if_neg (by omega), e]; simp
      · have hcb := okC_24 (by omega) hC hc
        rw [if_pos (by omega), gdO_pos (by omega), Int.toNat_natCast, hc, bindO_some, gdO_pos (by omega), Int.toNat_natCast, p2_cast', ckO_pos (by unfold InR; omega), gdO_pos (by omega), gdO_pos (by omega), ckO_pos (by unfold InR; omega), gdO_pos (by omega), ckO_pos (by unfold InR; omega), succ_cast, ih (i + 1) _ hi (by omega) (by simp; omega), e]
        simp [clr]
  have := loop N 0 [] (by omega) (by omega) rfl
  rw [List.drop_zero, List.nil_append] at this
  exact this
theorem clr_get {l : List Cm} {v : Nat} {j : Nat} {d : Cm} (h : (l.map (clr v))[j]? = some d) : ∃ c, l[j]? = some c ∧ d = clr v c := by
  rw [List.getElem?_map] at h
  cases e : l[j]? with
  | none => rw [e] at h; cases h
  | some c => rw [e] at h; exact ⟨c, rfl, by simpa using h.symm⟩
/-- shut for all: nobody has the hour -/
theorem clr_hold {l : List Cm} {H : Nat} (hH : H ≤ 24) (hC : okC l H) {v : Nat} (hv : v < 24) {Q : List Int} (hQ : okH (l.map (clr v)) Q) : okH l Q ∧ ∀ x, Q[v]? = some x → x = -1 := by
  refine ⟨fun h x hx => ?_, fun x hx => ?_⟩
  · rcases hQ h x hx with q | ⟨a, d, hd, hb⟩
    · exact .inl q
    · obtain ⟨c, hc, rfl⟩ := clr_get hd
      have hb : bt (andNotI c.hrs ((2 ^ v : Nat) : Int)) h = true := hb
      rw [clr_bt (okC_24 hH hC hc) hv] at hb
      exact .inr ⟨a, c, hc, by simp at hb; exact hb.1⟩
  · rcases hQ v x hx with q | ⟨a, d, hd, hb⟩
    · exact q
    · obtain ⟨c, hc, rfl⟩ := clr_get hd
      have hb : bt (andNotI c.hrs ((2 ^ v : Nat) : Int)) v = true := hb
      rw [clr_bt (okC_24 hH hC hc) hv] at hb
      simp at hb
theorem hold_clr {l : List Cm} {H : Nat} (hH : H ≤ 24) (hC : okC l H) {v : Nat} (hv : v < 24) {Q : List Int} (hQ : okH l Q) (hq : ∀ x, Q[v]? = some x → x = -1) : okH (l.map (clr v)) Q := by
  rw [← clrs_all]
  exact okH_clrs hH hC hv hQ fun x d hx h0 => by have := hq x hx; omega
theorem okH_drop {l : List Cm} {Q : List Int} (hQ : okH l Q) (v : Nat) : okH l (Q.set v (-1)) := fun h x hx => by
  rw [List.getElem?_set] at hx
  by_cases e : v = h
  · rw [if_pos e] at hx
    by_cases q : v < Q.length
    · rw [if_pos q] at hx; injection hx with hx; exact .inl hx.symm
    · rw [if_neg q] at hx; cases hx
  · rw [if_neg e] at hx; exact hQ h x hx
theorem cnt_drop {Q : List Int} {v : Nat} {k : Nat} (h : Q[v]? = some (k : Int)) (j : Nat) : cnt (Q.set v (-1)) j = cnt Q j - if j = k then 1 else 0 := by
  have a := cnt_set (t := -1) h (j : Int)
  rw [if_neg (show ¬ (-1 : Int) = (j : Int) by omega)] at a
  unfold cnt
  by_cases e : j = k
  · rw [if_pos (by omega)] at a; rw [if_pos e]; omega
  · rw [if_neg (by omega)] at a; rw [if_neg e]; omega
theorem cnt_take {Q : List Int} {v : Nat} (h : Q[v]? = some (-1)) (k j : Nat) : cnt (Q.set v (k : Int)) j = cnt Q j + if j = k then 1 else 0 := by
  have a := cnt_set (t := (k : Int)) h (j : Int)
  rw [if_neg (show ¬ (-1 : Int) = (j : Int) by omega)] at a
  unfold cnt
  by_cases e : j = k
  · rw [if_pos (by omega)] at a; rw [if_pos e]; omega
  · rw [if_neg (by omega)] at a; rw [if_neg e]; omega
/-- the demands without one hour of a comer -/
def less1 (hs : List Int) (i : Nat) : List Int := hs.set i ((hs[i]?).getD 0 - 1)
theorem less_le {hs : List Int} {i : Nat} {x : Int} (hx : hs[i]? = some x) {j : Nat} {y : Int} (hy : (less1 hs i)[j]? = some y) : ∃ z, hs[j]? = some z ∧ y = z - if j = i then 1 else 0 := by
  unfold less1 at hy
  rw [hx, Option.getD_some, List.getElem?_set] at hy
  by_cases e : i = j
  · subst e
    rw [if_pos rfl, if_pos (List.getElem?_eq_some_iff.1 hx).1] at hy
    injection hy with hy
    exact ⟨x, hx, by rw [if_pos rfl]; exact hy.symm⟩
  · rw [if_neg e] at hy
    exact ⟨y, hy, by rw [if_neg (fun q => e q.symm)]; omega⟩
theorem less_get {hs : List Int} {i : Nat} {x : Int} (hx : hs[i]? = some x) {j : Nat} {z : Int} (hz : hs[j]? = some z) : (less1 hs i)[j]? = some (z - if j = i then 1 else 0) := by
  unfold less1
  rw [hx, Option.getD_some, List.getElem?_set]
  by_cases e : i = j
  · subst e
    rw [if_pos rfl, if_pos (List.getElem?_eq_some_iff.1 hx).1, if_pos rfl]
    rw [hx] at hz; injection hz with hz; rw [hz]
  · rw [if_neg e, if_neg (fun q => e q.symm), hz]; congr 1; omega
section hour
variable {H : Nat} {l : List Cm} {R hs : List Int} {v i : Nat} {c : Cm}
/-- by whom an hour can be had otherwise -/
theorem free_iff (ok : okM (H : Int) l) (f : filld l H R hs) (hv : v < H) (hc : l[i]? = some c) :
    Feas (l.map (clrs v [c.fam])) H hs ↔ Feas (l.map (clr v)) H hs ∨ ∃ (k : Nat) (d : Cm) (x : Int), k ≠ i ∧ l[k]? = some d ∧ bt d.hrs v = true ∧ hs[k]? = some x ∧ 0 < x ∧ Feas (l.map (clr v)) H (less1 hs k) := by
  have hH := ok.1
  have hH' : H ≤ 24 := by omega
  have hC := okM_okC ok
  have h1 := f.2.2.1
  have hbd := hs_bd ok f
  constructor
  · rintro ⟨Q, hQ, hlQ, hge⟩
    have hQl : okH l Q := fun h x hx => by
      rcases hQ h x hx with q | ⟨a, d, hd, hb⟩
      · exact .inl q
      · rw [List.getElem?_map] at hd
        cases e : l[x.toNat]? with
        | none => rw [e] at hd; cases hd
        | some d' =>
          rw [e] at hd
          have hd : clrs v [c.fam] d' = d := by simpa using hd
          subst hd
          refine .inr ⟨a, d', rfl, ?_⟩
          unfold clrs at hb
          split at hb
          · have hb : bt (andNotI d'.hrs ((2 ^ v : Nat) : Int)) h = true := hb
            rw [clr_bt (okC_24 hH' hC e) (by omega)] at hb
            simp at hb; exact hb.1
          · exact hb
    obtain ⟨y, hy⟩ : ∃ y, Q[v]? = some y := ⟨_, List.getElem?_eq_getElem (show v < Q.length by omega)⟩
    rcases hQ v y hy with q | ⟨a, d, hd, hb⟩
    · exact .inl ⟨Q, hold_clr hH' hC (by omega) hQl (fun x hx => by rw [hy] at hx; injection hx with hx; omega), hlQ, hge⟩
    · obtain ⟨k, rfl⟩ : ∃ k : Nat, y = k := ⟨y.toNat, by omega⟩
      rw [Int.toNat_natCast, List.getElem?_map] at hd
      cases e : l[k]? with
      | none => rw [e] at hd; cases hd
      | some d' =>
        rw [e] at hd
        have hd : clrs v [c.fam] d' = d := by simpa using hd
        subst hd
        have hk := (List.getElem?_eq_some_iff.1 e).1
        obtain ⟨x, hx⟩ : ∃ x, hs[k]? = some x := ⟨_, List.getElem?_eq_getElem (by omega)⟩
        have hxb := hbd x (List.mem_iff_getElem?.2 ⟨k, hx⟩)
        have hne : d'.fam ∉ [c.fam] := fun hm => by
          unfold clrs at hb
          rw [if_pos hm] at hb
          have hb : bt (andNotI d'.hrs ((2 ^ v : Nat) : Int)) v = true := hb
          rw [clr_bt (okC_24 hH' hC e) (by omega)] at hb
          simp at hb
        have hb' : bt d'.hrs v = true := by unfold clrs at hb; rw [if_neg hne] at hb; exact hb
        have okd := hold_clr hH' hC (v := v) (by omega) (okH_drop hQl v) (fun x hx => by
          rw [List.getElem?_set, if_pos rfl, if_pos (by omega)] at hx; injection hx with hx; omega)
        by_cases hx0 : 0 < x
        · refine .inr ⟨k, d', x, fun q => ?_, e, hb', hx, hx0, ⟨Q.set v (-1), okd, by rw [List.length_set]; exact hlQ, fun j w hw => ?_⟩⟩
          · subst q; rw [e] at hc; injection hc with hc; subst hc; exact hne (by simp)
          · obtain ⟨z, hz, rfl⟩ := less_le hx hw
            have := hge j z hz
            rw [cnt_drop hy]
            split <;> omega
        · refine .inl ⟨Q.set v (-1), okd, by rw [List.length_set]; exact hlQ, fun j w hw => ?_⟩
          have := hge j w hw
          rw [cnt_drop hy]
          have nn := cnt_nn Q j
          by_cases q : j = k
          · subst q; rw [hx] at hw; injection hw with hw
            have : 0 < cnt Q j := by
              have : 0 < Q.count (j : Int) := List.count_pos_iff.2 (List.mem_iff_getElem?.2 ⟨v, hy⟩)
              unfold cnt; omega
            rw [if_pos rfl]; omega
          · rw [if_neg q]; omega
  · rintro (⟨Q, hQ, hlQ, hge⟩ | ⟨k, d, x, hki, hd, hb, hx, hx0, Q, hQ, hlQ, hge⟩)
    · obtain ⟨a, b⟩ := clr_hold hH' hC (by omega) hQ
      exact ⟨Q, okH_clrs hH' hC (by omega) a (fun x d hx h0 => by have := b x hx; omega), hlQ, hge⟩
    · obtain ⟨a, b⟩ := clr_hold hH' hC (by omega) hQ
      obtain ⟨y, hy⟩ : ∃ y, Q[v]? = some y := ⟨_, List.getElem?_eq_getElem (show v < Q.length by omega)⟩
      have hy1 := b y hy
      subst hy1
      have okt : okH l (Q.set v (k : Int)) := okH_set a (by omega) (by rw [Int.toNat_natCast]; exact hd) hb
      refine ⟨Q.set v (k : Int), okH_clrs hH' hC (by omega) okt (fun x' d' hx' h0 hd' => ?_), by rw [List.length_set]; exact hlQ, fun j w hw => ?_⟩
      · rw [List.getElem?_set, if_pos rfl, if_pos (by omega)] at hx'; injection hx' with hx'
        subst hx'
        rw [Int.toNat_natCast, hd] at hd'; injection hd' with hd'; subst hd'
        intro hm
        exact hki (fam_one ok hc hd (by simpa using hm))
      · have := hge j _ (less_get hx hw)
        rw [cnt_take hy]
        split at this <;> split <;> omega
/-- who surely has the hour can have it -/
theorem can_of (ok : okM (H : Int) l) (f : filld l H R hs) (hv : v < H) (hc : l[i]? = some c) (h : ¬ Feas (l.map (clrs v [c.fam])) H hs) : bt c.hrs v = true ∧ ∃ x, hs[i]? = some x ∧ 0 < x ∧ Feas (l.map (clr v)) H (less1 hs i) := by
  have hH := ok.1
  have hH' : H ≤ 24 := by omega
  have hC := okM_okC ok
  obtain ⟨f1, f2, f3, f4, f5⟩ := f
  have hi := (List.getElem?_eq_some_iff.1 hc).1
  obtain ⟨y, hy⟩ : ∃ y, R[v]? = some y := ⟨_, List.getElem?_eq_getElem (show v < R.length by omega)⟩
  have hge : ∀ (j : Nat) x, hs[j]? = some x → x ≤ cnt R j := fun j x hx => by
    have hj : j < l.length := by have := (List.getElem?_eq_some_iff.1 hx).1; omega
    have := f4 j hj
    rw [hx] at this; injection this with this; omega
  have hyi : y = (i : Int) := by
    refine Classical.byContradiction fun hne => h ⟨R, okH_clrs hH' hC (by omega) f1 (fun x d hx h0 hd hm => ?_), f2, hge⟩
    rw [hy] at hx; injection hx with hx; subst hx
    have := fam_one ok hc hd (by simpa using hm)
    omega
  subst hyi
  have hb : bt c.hrs v = true := by
    rcases f1 v _ hy with q | ⟨_, d, hd, hb⟩
    · omega
    · rw [Int.toNat_natCast, hc] at hd; injection hd with hd; subst hd; exact hb
  have hpos : 0 < cnt R i := by
    have : 0 < R.count (i : Int) := List.count_pos_iff.2 (List.mem_iff_getElem?.2 ⟨v, hy⟩)
    unfold cnt; omega
  refine ⟨hb, cnt R i, f4 i hi, hpos, R.set v (-1), hold_clr hH' hC (by omega) (okH_drop f1 v) (fun x hx => by
    rw [List.getElem?_set, if_pos rfl, if_pos (by omega)] at hx; injection hx with hx; omega), by rw [List.length_set]; exact f2, fun j w hw => ?_⟩
  obtain ⟨z, hz, rfl⟩ := less_le (f4 i hi) hw
  have := hge j z hz
  rw [cnt_drop hy]
  split <;> omega
end hour
theorem less_bd {hs : List Int} (hb : ∀ x ∈ hs, 0 ≤ x ∧ x ≤ 24) {i : Nat} {x : Int} (hx : hs[i]? = some x) (h0 : 0 < x) : ∀ y ∈ less1 hs i, 0 ≤ y ∧ y ≤ 24 := fun y hy => by
  unfold less1 at hy
  rw [hx, Option.getD_some] at hy
  have := hb x (List.mem_iff_getElem?.2 ⟨i, hx⟩)
  rcases List.mem_or_eq_of_mem_set hy with q | q
  · exact hb y q
  · omega
theorem F94_eq {H : Nat} {l : List Cm} (ok : okM (H : Int) l) (h : Int) {i v : Nat} {c : Cm} (hc : l[i]? = some c) (hv : v < 24) : F94 h l (i : Int) (v : Int) = some (bt c.hrs v) := by
  have hH := ok.1
  have hcb := okC_24 (by omega) (okM_okC ok) hc
  have hp := p2_ck hv
  unfold F94
  rw [gdO_pos (by omega), Int.toNat_natCast, hc, bindO_some, gdO_pos (by omega), Int.toNat_natCast, p2_cast', ckO_pos (by unfold InR; omega), gdO_pos (by omega), gdO_pos (by omega), ckO_pos (by unfold InR; omega)]
  cases e : bt c.hrs v with
  | false => rw [if_pos ((and_bt2 v).2 e)]
  | true => rw [if_neg (fun q => by rw [(and_bt2 v).1 q] at e; cases e)]
/-- one of the others can do without the hour -/
def otherR (l : List Cm) (H : Nat) (hs : List Int) (v i k : Nat) : Prop := ∃ (j : Nat) (d : Cm) (x : Int), k ≤ j ∧ j ≠ i ∧ l[j]? = some d ∧ bt d.hrs v = true ∧ hs[j]? = some x ∧ 0 < x ∧ Feas (l.map (clr v)) H (less1 hs j)
theorem F5354 {H : Nat} {l : List Cm} (ok : okM (H : Int) l) {N : Nat} (hN : 2000 ≤ N) {R hs : List Int} (e : F80 N (H : Int) l = some ((H : Int), R, hs)) (f : filld l H R hs) (p q : Int) : ∃ z, F53 N (H : Int) l p q = some z ∧ F54 N (H : Int) l p q = some z := by
  have hH := ok.1
  have hn := ok.2.1
  have hC := okM_okC ok
  have hH' : H ≤ 24 := by omega
  have h1 := f.2.2.1
  have hbd := hs_bd ok f
  rcases ix_ge p l 0 with hix | ⟨i, c, hix, hc, hp⟩
  · refine ⟨(0, 57), ?_, ?_⟩
    · unfold F53 F66
      rw [F23_ok ok (by omega), bindO_some, if_pos rfl, F98_eq N _ l p hn (by omega), bindO_some, hix, if_pos rfl, bindO_some, if_neg (by decide)]
    · unfold F54
      rw [F24_ok ok (by omega), bindO_some, if_pos rfl, F65_eq N _ l p hn (by omega), bindO_some, hix, if_pos (by decide)]
  rw [Nat.zero_add] at hix
  subst hp
  have hi : i < l.length := (List.getElem?_eq_some_iff.1 hc).1
  by_cases hr : 0 ≤ q ∧ q ≤ (H : Int) - 1
  · obtain ⟨v, rfl⟩ : ∃ v : Nat, q = v := ⟨q.toNat, by omega⟩
    have hv : v < H := by omega
    have hcb := okC_24 hH' hC hc
    have hx : hs[i]? = some (cnt R i) := f.2.2.2.1 i hi
    have nn := cnt_nn R i
    have cw := (hbd _ (List.mem_iff_getElem?.2 ⟨i, hx⟩)).2
    have hfree := free_iff ok f hv hc
    have okc := okM_clr ok v
    have hcl : (l.map (clr v)).length = l.length := by simp
    obtain ⟨b, eb, hb⟩ := F87_eq hH' (okC_clrs hC v [c.fam]) (by rw [List.length_map]; exact hn) (d := hs) (by rw [List.length_map, h1]) hbd (N := N) (by omega)
    have eb' : F87 N ((H : Int), l.map (clrs v [c.fam])).1 ((H : Int), l.map (clrs v [c.fam])).2 ((H : Int), R, hs).2.2 = some b := eb
    -- the reference's second part
    obtain ⟨P1, b1, e1, hb1, _⟩ := F81_eq okc (d := hs) (by rw [hcl, h1]) hbd (N := N) (by omega)
    have e1' : F81 N ((H : Int), l.map (clr v)).1 ((H : Int), l.map (clr v)).2 hs = some (P1, b1) := e1
    have loop3 : ∀ (m k : Nat) (fr : Bool), k ≤ l.length → l.length < m + k → ((fr = true ∨ otherR l H hs v i k) → F54l3 (H : Int) l (v : Int) N (i : Int) hs ((H : Int), l.map (clr v)) m fr (k : Int) = some (2, 0)) ∧
        (¬ (fr = true ∨ otherR l H hs v i k) → F54l3 (H : Int) l (v : Int) N (i : Int) hs ((H : Int), l.map (clr v)) m fr (k : Int) = some (1, 0)) := by
      intro m
      induction m with
      | zero => intro k fr g1 g2; omega
      | succ m ih =>
        intro k fr g1 g2
        show (_ → F54b3 (H : Int) l (v : Int) N (i : Int) hs ((H : Int), l.map (clr v)) (F54l3 (H : Int) l (v : Int) N (i : Int) hs ((H : Int), l.map (clr v)) m) fr (k : Int) = _) ∧ (_ → F54b3 (H : Int) l (v : Int) N (i : Int) hs ((H : Int), l.map (clr v)) (F54l3 (H : Int) l (v : Int) N (i : Int) hs ((H : Int), l.map (clr v)) m) fr (k : Int) = _)
        unfold F54b3 F54j4 F54j2
        cases fr with
        | true =>
          rw [if_pos rfl, if_pos rfl, ite_self]
          exact ⟨fun _ => rfl, fun q => absurd (.inl rfl) q⟩
        | false =>
          rw [if_neg (by decide)]
          rcases drop_cases l k with ⟨hk, _⟩ | ⟨d, hk, hd, _⟩
          · rw [if_neg (show ¬ (k : Int) < (hs.length : Int) by omega), if_neg (by decide)]
            refine ⟨fun q => ?_, fun _ => rfl⟩
            rcases q with q | ⟨j, d, x, hj, _, hd, _⟩
            · cases q
            · have := (List.getElem?_eq_some_iff.1 hd).1; omega
          · rw [if_pos (show (k : Int) < (hs.length : Int) by omega)]
            have skip : (otherR l H hs v i k → otherR l H hs v i (k + 1)) → ((false = true ∨ otherR l H hs v i k) → F54j6 (F54l3 (H : Int) l (v : Int) N (i : Int) hs ((H : Int), l.map (clr v)) m) (k : Int) = some (2, 0)) ∧
                (¬ (false = true ∨ otherR l H hs v i k) → F54j6 (F54l3 (H : Int) l (v : Int) N (i : Int) hs ((H : Int), l.map (clr v)) m) (k : Int) = some (1, 0)) := fun hsame => by
              unfold F54j6 F54j5
              rw [ckO_pos (by unfold InR; omega), succ_cast]
              obtain ⟨a1, a2⟩ := ih (k + 1) false hk (by omega)
              exact ⟨fun q => a1 (q.imp id hsame), fun q => a2 fun r => q (r.imp id fun ⟨j, d, x, hj, r⟩ => ⟨j, d, x, by omega, r⟩)⟩
            by_cases hki : (k : Int) = (i : Int)
            · rw [if_pos hki]
              refine skip fun ⟨j, d, x, hj, hne, r⟩ => ⟨j, d, x, ?_, hne, r⟩
              omega
            · have hy : hs[k]? = some (cnt R k) := f.2.2.2.1 k hk
              have hyb := hbd _ (List.mem_iff_getElem?.2 ⟨k, hy⟩)
              rw [if_neg hki, F94_eq ok _ hd (by omega), bindO_some]
              by_cases hbk : bt d.hrs v = true
              · rw [if_pos hbk, gdO_pos (by omega), Int.toNat_natCast, hy, bindO_some]
                by_cases hpos : 0 < cnt R k
                · have el : hs.set k (cnt R k - 1) = less1 hs k := by unfold less1; rw [hy]; rfl
                  obtain ⟨P2, b2, e2, hb2, _⟩ := F81_eq okc (d := less1 hs k) (by rw [hcl]; unfold less1; rw [List.length_set, h1]) (less_bd hbd hy hpos) (N := N) (by omega)
                  have e2' : F81 N ((H : Int), l.map (clr v)).1 ((H : Int), l.map (clr v)).2 (less1 hs k) = some (P2, b2) := e2
                  rw [if_pos hpos, gdO_pos (show 0 + hs.length ≤ 1000000000 by omega), ckO_pos (by unfold InR; omega), el, e2', bindO_some]
                  unfold F54j5
                  rw [ckO_pos (by unfold InR; omega), succ_cast]
                  obtain ⟨a1, a2⟩ := ih (k + 1) b2 hk (by omega)
                  refine ⟨fun q => a1 ?_, fun q => a2 fun r => q ?_⟩
                  · rcases q with q | ⟨j, d', x, hj, r1, r2, r3, r4, r5, r6⟩
                    · cases q
                    · rcases Nat.eq_or_lt_of_le hj with z | z
                      · subst z; exact .inl (hb2.2 r6)
                      · exact .inr ⟨j, d', x, z, r1, r2, r3, r4, r5, r6⟩
                  · rcases r with r | ⟨j, d', x, hj, r⟩
                    · exact .inr ⟨k, d, _, Nat.le_refl _, by omega, hd, hbk, hy, hpos, hb2.1 r⟩
                    · exact .inr ⟨j, d', x, by omega, r⟩
                · rw [if_neg hpos]
                  refine skip fun ⟨j, d', x, hj, r1, r2, r3, r4, r5, r6⟩ => ⟨j, d', x, ?_, r1, r2, r3, r4, r5, r6⟩
                  rcases Nat.eq_or_lt_of_le hj with z | z
                  · subst z; rw [hy] at r4; injection r4 with r4; omega
                  · exact z
              · rw [if_neg hbk]
                refine skip fun ⟨j, d', x, hj, r1, r2, r3, r4, r5, r6⟩ => ⟨j, d', x, ?_, r1, r2, r3, r4, r5, r6⟩
                rcases Nat.eq_or_lt_of_le hj with z | z
                · subst z; rw [hd] at r2; injection r2 with r2; subst r2; exact absurd r3 hbk
                · exact z
    obtain ⟨l3a, l3b⟩ := loop3 N 0 b1 (by omega) (by omega)
    rw [show ((0 : Nat) : Int) = 0 from rfl] at l3a l3b
    have hany : (b1 = true ∨ otherR l H hs v i 0) ↔ Feas (l.map (clrs v [c.fam])) H hs := by
      rw [hfree, hb1]
      exact ⟨fun r => r.imp id fun ⟨j, d, x, _, r⟩ => ⟨j, d, x, r⟩, fun r => r.imp id fun ⟨j, d, x, r⟩ => ⟨j, d, x, Nat.zero_le _, r⟩⟩
    -- the reference
    have el : hs.set i (cnt R i - 1) = less1 hs i := by unfold less1; rw [hx]; rfl
    have j1t : F54j1 (H : Int) l (v : Int) N (i : Int) hs true = F54l3 (H : Int) l (v : Int) N (i : Int) hs ((H : Int), l.map (clr v)) N b1 0 := by
      unfold F54j1
      rw [if_pos rfl, F95_eq ok (by omega) hN, bindO_some, e1', bindO_some]
    have j1f : F54j1 (H : Int) l (v : Int) N (i : Int) hs false = some (0, 0) := by
      unfold F54j1
      rw [if_neg (by decide)]
    have ref : F54 N (H : Int) l c.fam (v : Int) = (if bt c.hrs v = true then (if 0 < cnt R i then bindO (F81 N (H : Int) (l.map (clr v)) (less1 hs i)) fun y => F54j1 (H : Int) l (v : Int) N (i : Int) hs y.2 else some (0, 0)) else some (0, 0)) := by
      unfold F54
      rw [F24_ok ok (by omega), bindO_some, if_pos rfl, F65_eq N _ l _ hn (by omega), bindO_some, hix, if_neg (by omega), ckO_pos (by unfold InR; omega), F71_eq, bindO_some, decide_eq_true hr, if_pos rfl, F83_hs ok (by omega) f, bindO_some, F94_eq ok _ hc (by omega), bindO_some]
      unfold F54j7
      rw [j1f]
      by_cases hbt : bt c.hrs v = true
      · rw [if_pos hbt, if_pos hbt, gdO_pos (by omega), Int.toNat_natCast, hx, bindO_some]
        by_cases h0 : 0 < cnt R i
        · rw [if_pos h0, if_pos h0, gdO_pos (show 0 + hs.length ≤ 1000000000 by omega), ckO_pos (by unfold InR; omega), F95_eq ok (by omega) hN, bindO_some, el]
        · rw [if_neg h0, if_neg h0]
      · rw [if_neg hbt, if_neg hbt]
    have prog0 : F53 N (H : Int) l c.fam (v : Int) = (if b = true then (if cnt R i = 0 then some (0, 0) else if bt c.hrs v = true then (bindO (F87 N (H : Int) (l.map (clr v)) (less1 hs i)) fun y => if y = true then some (2, 0) else some (0, 0)) else some (0, 0)) else some (1, 0)) := by
      unfold F53
      rw [F66_ok ok (by omega) hc, bindO_some, if_pos rfl, ckO_pos (by unfold InR; omega), F70_eq, bindO_some, decide_eq_true hr, if_pos rfl, e, bindO_some, F91_eq hH' hC hn (by omega) (by simp) hN, bindO_some, eb', bindO_some]
      have hx' : (((H : Int), R, hs).2.2)[i]? = some (cnt R i) := hx
      by_cases hbt : b = true
      · rw [if_pos hbt, if_pos hbt, gdO_pos (by omega), Int.toNat_natCast, hx', bindO_some]
        by_cases h0 : cnt R i = 0
        · rw [if_pos h0, if_pos h0]
        · rw [if_neg h0, if_neg h0, hc, bindO_some, F92_eq (by omega) (by omega), bindO_some, Int.toNat_natCast]
          by_cases hbv : bt c.hrs v = true
          · rw [if_pos hbv, if_pos hbv, ckO_pos (by unfold InR; omega), F93_eq _ (by omega) hN, bindO_some, F91_eq hH' hC hn (by omega) (by rw [List.length_map]; omega) hN, bindO_some, clrs_all, ← el]
          · rw [if_neg hbv, if_neg hbv]
      · rw [if_neg hbt, if_neg hbt]
    rw [ref, prog0]
    by_cases hF : Feas (l.map (clrs v [c.fam])) H hs
    · rw [if_pos (hb.2 hF)]
      by_cases hbv : bt c.hrs v = true
      · by_cases h0 : cnt R i = 0
        · rw [if_pos h0, if_pos hbv, if_neg (by omega)]; exact ⟨_, rfl, rfl⟩
        · obtain ⟨P2, b2, e2, hb2, _⟩ := F81_eq okc (d := less1 hs i) (by rw [hcl]; unfold less1; rw [List.length_set, h1]) (less_bd hbd hx (by omega)) (N := N) (by omega)
          obtain ⟨b3, e3, hb3⟩ := F87_eq hH' (okM_okC okc) (by rw [hcl]; exact hn) (d := less1 hs i) (by rw [hcl]; unfold less1; rw [List.length_set, h1]) (less_bd hbd hx (by omega)) (N := N) (by omega)
          rw [if_neg h0, if_pos hbv, if_pos hbv, if_pos (by omega), e2, bindO_some, e3, bindO_some]
          show ∃ z, (if b3 = true then some (2, 0) else some (0, 0)) = some z ∧ F54j1 (H : Int) l (v : Int) N (i : Int) hs b2 = some z
          by_cases hq : b2 = true
          · rw [if_pos (hb3.2 (hb2.1 hq)), hq, j1t, l3a (hany.2 hF)]; exact ⟨_, rfl, rfl⟩
          · have hq2 : b2 = false := by simpa using hq
            rw [if_neg (fun r => hq (hb2.2 (hb3.1 r))), hq2, j1f]; exact ⟨_, rfl, rfl⟩
      · rw [if_neg hbv, if_neg hbv, ite_self]; exact ⟨_, rfl, rfl⟩
    · obtain ⟨c1, x, c2, c3, c4⟩ := can_of ok f hv hc hF
      rw [hx] at c2; injection c2 with c2; subst c2
      obtain ⟨P2, b2, e2, hb2, _⟩ := F81_eq okc (d := less1 hs i) (by rw [hcl]; unfold less1; rw [List.length_set, h1]) (less_bd hbd hx c3) (N := N) (by omega)
      rw [if_neg (fun r => hF (hb.1 r)), if_pos c1, if_pos c3, e2, bindO_some]
      show ∃ z, some (1, 0) = some z ∧ F54j1 (H : Int) l (v : Int) N (i : Int) hs b2 = some z
      rw [hb2.2 c4, j1t, l3b (fun r => hF (hany.1 r))]
      exact ⟨_, rfl, rfl⟩
  · refine ⟨(0, 7), ?_, ?_⟩
    · unfold F53
      rw [F66_ok ok (by omega) hc, bindO_some, if_pos rfl, ckO_pos (by unfold InR; omega), F70_eq, bindO_some, decide_eq_false hr, if_neg (by decide)]
    · unfold F54
      rw [F24_ok ok (by omega), bindO_some, if_pos rfl, F65_eq N _ l _ hn (by omega), bindO_some, hix, if_neg (by omega), ckO_pos (by unfold InR; omega), F71_eq, bindO_some, decide_eq_false hr, if_neg (by decide)]
theorem F5556 {H : Nat} {l : List Cm} (ok : okM (H : Int) l) {N : Nat} (hN : 2000 ≤ N) {R hs : List Int} (e : F80 N (H : Int) l = some ((H : Int), R, hs)) (f : filld l H R hs) : ∃ z, F55 N (H : Int) l = some (z, 0) ∧ F56 N (H : Int) l = some (z, 0) ∧ z.length ≤ 24 := by
  have hH := ok.1
  have hn := ok.2.1
  have hC := okM_okC ok
  have hH' : H ≤ 24 := by omega
  have h1 := f.2.2.1
  have hbd := hs_bd ok f
  unfold F55 F56
  rw [F23_ok ok (by omega), bindO_some, if_pos rfl, e, bindO_some, F24_ok ok (by omega), bindO_some, if_pos rfl, F83_hs ok (by omega) f, bindO_some]
  have loop : ∀ (m i : Nat) (o : List Int), i ≤ H → H < m + i → o.length ≤ i → ∃ z, F55l1 (H : Int) l N ((H : Int), R, hs) m o (i : Int) = some (z, 0) ∧ F56l1 (H : Int) l N hs m o (i : Int) = some (z, 0) ∧ z.length ≤ 24 := by
    intro m
    induction m with
    | zero => intro i o g1 g2; omega
    | succ m ih =>
      intro i o g1 g2 g3
      show ∃ z, F55b1 (H : Int) l N ((H : Int), R, hs) (F55l1 (H : Int) l N ((H : Int), R, hs) m) o (i : Int) = _ ∧ F56b1 (H : Int) l N hs (F56l1 (H : Int) l N hs m) o (i : Int) = _ ∧ _
      unfold F55b1 F56b1
      by_cases hi : i < H
      · have okc := okM_clr ok i
        have hcl : (l.map (clr i)).length = l.length := by simp
        obtain ⟨b, eb, hb⟩ := F87_eq hH' (okM_okC okc) (by rw [hcl]; exact hn) (d := hs) (by rw [hcl, h1]) hbd (N := N) (by omega)
        obtain ⟨P, b2, e2, hb2, _⟩ := F81_eq okc (d := hs) (by rw [hcl, h1]) hbd (N := N) (by omega)
        have hbb : b = b2 := by cases b <;> cases b2 <;> simp_all
        subst hbb
        have eb' : F87 N ((H : Int), l.map (clr i)).1 ((H : Int), l.map (clr i)).2 ((H : Int), R, hs).2.2 = some b := eb
        have e2' : F81 N ((H : Int), l.map (clr i)).1 ((H : Int), l.map (clr i)).2 hs = some (P, b) := e2
        rw [if_pos (by omega), if_pos (by omega), F93_eq _ (by omega) hN, bindO_some, F91_eq hH' hC hn (by omega) (by rw [List.length_map]; omega) hN, bindO_some, clrs_all, eb', bindO_some, F95_eq ok (by omega) hN, bindO_some, e2', bindO_some]
        unfold F55j2 F56j2
        have ck : InR ((i : Int) + 1) := by unfold InR; omega
        cases b with
        | true =>
          rw [if_pos rfl, if_pos rfl, gdO_pos (by omega), gdO_pos (by omega), ckO_pos ck, ckO_pos ck, succ_cast]
          exact ih (i + 1) _ (by omega) (by omega) (by simp; omega)
        | false =>
          rw [if_neg (show ¬ false = true by decide), if_neg (show ¬ false = true by decide), ckO_pos ck, ckO_pos ck, succ_cast]
          exact ih (i + 1) o (by omega) (by omega) (by omega)
      · rw [if_neg (by omega), if_neg (by omega)]
        exact ⟨o, rfl, rfl, by omega⟩
  exact loop N 0 [] (by omega) (by omega) (by simp)
/-! whom it moves -/
theorem ris_eq : ∀ (a b : List Int), a.Pairwise (· < ·) → b.Pairwise (· < ·) → (∀ x, x ∈ a ↔ x ∈ b) → a = b
  | [], [], _, _, _ => rfl
  | [], y :: b, _, _, h => by have := (h y).2 (List.mem_cons_self ..); cases this
  | x :: a, [], _, _, h => by have := (h x).1 (List.mem_cons_self ..); cases this
  | x :: a, y :: b, ha, hb, h => by
    obtain ⟨a1, a2⟩ := List.pairwise_cons.1 ha
    obtain ⟨b1, b2⟩ := List.pairwise_cons.1 hb
    have e : x = y := by
      rcases List.mem_cons.1 ((h x).1 (List.mem_cons_self ..)) with q | q
      · exact q
      · have l1 := b1 x q
        rcases List.mem_cons.1 ((h y).2 (List.mem_cons_self ..)) with r | r
        · exact r.symm
        · have l2 := a1 y r; omega
    subst e
    rw [ris_eq a b a2 b2 fun z => ⟨fun q => ?_, fun q => ?_⟩]
    · have l1 := a1 z q
      rcases List.mem_cons.1 ((h z).1 (List.mem_cons_of_mem _ q)) with r | r
      · omega
      · exact r
    · have l1 := b1 z q
      rcases List.mem_cons.1 ((h z).2 (List.mem_cons_of_mem _ q)) with r | r
      · omega
      · exact r
theorem F96_ok2 {l : List Int} (hn : l.length ≤ 1000) {k : Nat} (hk : k < l.length) : F96 l (k : Int) ((k : Int) + 1) = some (l.eraseIdx k) := by
  have hlen : (l.take k ++ l.drop (k + 1)).length ≤ l.length := by rw [List.length_append, List.length_take, List.length_drop]; omega
  unfold F96
  rw [gdO_pos (by omega), gdO_pos (by omega)]
  simp only [show ((k : Int) + 1).toNat = k + 1 by omega, Int.toNat_natCast]
  rw [gdO_pos (by omega), if_neg (by omega), gdO_pos (by omega), gdO_pos (by omega), gdO_pos hlen, gdO_pos (by omega), gdO_pos hlen, ← List.eraseIdx_eq_take_drop_succ]
def movd (few : List Cm) (bef aft : List Int) (i : Nat) (x : Int) : Prop := ∃ (j : Nat) (d : Cm), i ≤ j ∧ few[j]? = some d ∧ bef[j]? ≠ aft[j]? ∧ d.fam = x
theorem F57_ris {H : Nat} {l : List Cm} (ok : okM (H : Int) l) {N : Nat} (hN : 100 ≤ N) {k : Nat} {c : Cm} (hc : l[k]? = some c) {R hs R' hs' : List Int} (e1 : F80 N (H : Int) l = some ((H : Int), R, hs)) (h1 : hs.length = l.length) (e2 : F80 N (H : Int) (l.eraseIdx k) = some ((H : Int), R', hs')) (h2 : hs'.length = (l.eraseIdx k).length) :
    ∃ mv, F57 N (H : Int) l c.fam = some (mv, 0) ∧ mv.length ≤ 12 ∧ mv.Pairwise (· < ·) ∧ ∀ x, x ∈ mv ↔ movd (l.eraseIdx k) (hs.eraseIdx k) hs' 0 x := by
  have hk : k < l.length := (List.getElem?_eq_some_iff.1 hc).1
  have hn := ok.2.1
  have okf := okM_erase ok k
  have hfl : (l.eraseIdx k).length = l.length - 1 := List.length_eraseIdx_of_lt hk
  have hbl : (hs.eraseIdx k).length = l.length - 1 := by rw [List.length_eraseIdx_of_lt (by omega), h1]
  unfold F57
  rw [F66_ok ok hN hc, bindO_some, if_pos rfl, F67_ok hn hk, bindO_some, e1, bindO_some, ckO_pos (by unfold InR; omega), gdO_pos (show 0 < hs.length by omega), F96_ok2 (show hs.length ≤ 1000 by omega) (show k < hs.length by omega), bindO_some, e2, bindO_some]
  generalize l.eraseIdx k = few at *
  generalize hs.eraseIdx k = bef at *
  have loop : ∀ (m i : Nat) (o : List Int), i ≤ few.length → few.length < m + i → o.length ≤ i → o.Nodup → (∀ x ∈ o, ∃ (j : Nat) (d : Cm), j < i ∧ few[j]? = some d ∧ d.fam = x) →
      ∃ o', F57l2 ((H : Int), few) bef ((H : Int), R', hs') m o (i : Int) = F57j1 o' ∧ o'.length ≤ few.length ∧ o'.Nodup ∧ ∀ x, x ∈ o' ↔ x ∈ o ∨ movd few bef hs' i x := by
    intro m
    induction m with
    | zero => intro i o g1 g2; omega
    | succ m ih =>
      intro i o g1 g2 g3 g4 g5
      show ∃ o', F57b2 ((H : Int), few) bef ((H : Int), R', hs') (F57l2 ((H : Int), few) bef ((H : Int), R', hs') m) o (i : Int) = _ ∧ _
      unfold F57b2
      rcases drop_cases few i with ⟨hi, _⟩ | ⟨d, hi, hd, _⟩
      · rw [if_neg (show ¬ (i : Int) < (few.length : Int) by omega)]
        refine ⟨o, rfl, by omega, g4, fun x => ⟨.inl, fun q => q.elim id fun ⟨j, d, hj, hd, _⟩ => ?_⟩⟩
        have := (List.getElem?_eq_some_iff.1 hd).1; omega
      · have hb : bef[i]? = some bef[i] := List.getElem?_eq_getElem (by omega)
        have ha : hs'[i]? = some hs'[i] := List.getElem?_eq_getElem (by omega)
        rw [if_pos (show (i : Int) < (few.length : Int) by omega), gdO_pos (by omega), Int.toNat_natCast, hd, bindO_some, hb, bindO_some, ha, bindO_some]
        by_cases e : bef[i] = hs'[i]
        · rw [if_pos e]
          unfold F57j3
          rw [ckO_pos (by unfold InR; omega), succ_cast]
          obtain ⟨o', a1, a2, a3, a4⟩ := ih (i + 1) o hi (by omega) (by omega) g4 fun x hx => by
            obtain ⟨j, d, r1, r2⟩ := g5 x hx
            exact ⟨j, d, by omega, r2⟩
          refine ⟨o', a1, a2, a3, fun x => (a4 x).trans ⟨fun q => q.imp id fun ⟨j, d', hj, r⟩ => ⟨j, d', by omega, r⟩, fun q => q.imp id fun ⟨j, d', hj, r1, r2, r3⟩ => ⟨j, d', ?_, r1, r2, r3⟩⟩⟩
          rcases Nat.eq_or_lt_of_le hj with q | q
          · subst q; rw [hb, ha, e] at r2; exact absurd rfl r2
          · exact q
        · rw [if_neg e, gdO_pos (by omega)]
          unfold F57j3
          rw [ckO_pos (by unfold InR; omega), succ_cast]
          have hnew : d.fam ∉ o := fun q => by
            obtain ⟨j, d', r1, r2, r3⟩ := g5 _ q
            have := fam_one okf hd r2 r3; omega
          obtain ⟨o', a1, a2, a3, a4⟩ := ih (i + 1) (o ++ [d.fam]) hi (by omega) (by rw [List.length_append]; simp; omega) (by
            rw [List.nodup_append]
            exact ⟨g4, by simp, fun a ha b hb => by rw [List.mem_singleton.1 hb]; exact fun q => hnew (q ▸ ha)⟩) fun x hx => by
            rcases List.mem_append.1 hx with hx | hx
            · obtain ⟨j, d, r1, r2⟩ := g5 x hx
              exact ⟨j, d, by omega, r2⟩
            · exact ⟨i, d, by omega, hd, (List.mem_singleton.1 hx).symm⟩
          refine ⟨o', a1, a2, a3, fun x => (a4 x).trans ⟨fun q => ?_, fun q => ?_⟩⟩
          · rcases q with q | ⟨j, d', hj, r⟩
            · rcases List.mem_append.1 q with q | q
              · exact .inl q
              · exact .inr ⟨i, d, Nat.le_refl _, hd, by rw [hb, ha]; exact fun z => e (Option.some.inj z), (List.mem_singleton.1 q).symm⟩
            · exact .inr ⟨j, d', by omega, r⟩
          · rcases q with q | ⟨j, d', hj, r1, r2, r3⟩
            · exact .inl (List.mem_append_left _ q)
            · rcases Nat.eq_or_lt_of_le hj with q | q
              · subst q; rw [hd] at r1; injection r1 with r1; subst r1
                exact .inl (List.mem_append_right _ (List.mem_singleton.2 r3.symm))
              · exact .inr ⟨j, d', q, r1, r2, r3⟩
  obtain ⟨o', a1, a2, a3, a4⟩ := loop N 0 [] (by omega) (by omega) (by simp) (by simp) (fun x hx => by cases hx)
  rw [show ((0 : Nat) : Int) = 0 from rfl] at a1
  rw [a1]
  unfold F57j1
  rw [gdO_pos (by omega)]
  have hnd : (sortI o').Nodup := (sortI_perm o').symm.nodup a3
  refine ⟨_, rfl, by rw [sortI_len]; omega, ?_, fun x => (sortI_perm o').mem_iff.trans ((a4 x).trans ⟨fun q => q.elim (fun z => by cases z) id, .inr⟩)⟩
  have h1 : (sortI o').Pairwise fun a b => a ≤ b ∧ a ≠ b := List.pairwise_and_iff.2 ⟨sortI_srt o', hnd⟩
  exact h1.imp fun ⟨a, b⟩ => by omega
theorem F5758 {H : Nat} {l : List Cm} (ok : okM (H : Int) l) {N : Nat} (hN : 2000 ≤ N) (p : Int) : ∃ z, F57 N (H : Int) l p = some z ∧ F58 N (H : Int) l p = some z ∧ z.1.length ≤ 12 := by
  have hH := ok.1
  have hn := ok.2.1
  rcases ix_ge p l 0 with hix | ⟨k, c, hix, hc, hp⟩
  · refine ⟨([], 57), ?_, ?_, by simp⟩
    · unfold F57 F66
      rw [F23_ok ok (by omega), bindO_some, if_pos rfl, F98_eq N _ l p hn (by omega), bindO_some, hix, if_pos rfl, bindO_some, if_neg (by decide)]
    · unfold F58
      rw [F24_ok ok (by omega), bindO_some, if_pos rfl, F65_eq N _ l p hn (by omega), bindO_some, hix, if_pos (by decide)]
  rw [Nat.zero_add] at hix
  subst hp
  have hk : k < l.length := (List.getElem?_eq_some_iff.1 hc).1
  have okf := okM_erase ok k
  obtain ⟨R, hs, e1, f1⟩ := F80_eq ok (N := N) (by omega)
  obtain ⟨R', hs', e2, f2⟩ := F80_eq okf (N := N) (by omega)
  rw [Int.toNat_natCast] at f1 f2
  have l1 := f1.2.2.1
  have l2 := f2.2.2.1
  obtain ⟨mv, em, ml, mr, mm⟩ := F57_ris ok (N := N) (by omega) hc e1 l1 e2 l2
  have hfl : (l.eraseIdx k).length = l.length - 1 := List.length_eraseIdx_of_lt hk
  refine ⟨_, em, ?_, ml⟩
  have e68 : F68 N (H : Int) l c.fam = some ((H : Int), l.eraseIdx k) := by
    unfold F68
    have := F68l1_eq (H : Int) l c.fam (by omega) N 0 [] (by simp) (by omega) (by omega)
    rw [show ((0 : Nat) : Int) = 0 from rfl, List.drop_zero, List.nil_append, filter_del ok hc, ← List.eraseIdx_eq_take_drop_succ] at this
    exact this
  unfold F58
  have e83' : F83 N ((H : Int), l.eraseIdx k).1 ((H : Int), l.eraseIdx k).2 = some hs' := F83_hs okf (by omega) f2
  rw [F24_ok ok (by omega), bindO_some, if_pos rfl, F65_eq N _ l _ hn (by omega), bindO_some, hix, if_neg (by omega), e68, bindO_some, F83_hs ok (by omega) f1, bindO_some, e83', bindO_some]
  -- the families, from 1 to 99
  have nf : (l.eraseIdx k).length ≤ 12 := by omega
  have hit : ∀ (fm : Int), movd (l.eraseIdx k) (hs.eraseIdx k) hs' 0 fm ↔ ∃ (i j : Nat) (x y : Int), ixOf fm l 0 = (i : Int) ∧ ixOf fm (l.eraseIdx k) 0 = (j : Int) ∧ hs[i]? = some x ∧ hs'[j]? = some y ∧ x ≠ y := by
    intro fm
    have place : ∀ (j : Nat) (d : Cm), (l.eraseIdx k)[j]? = some d → ∃ i, l[i]? = some d ∧ (hs.eraseIdx k)[j]? = hs[i]? := fun j d hd => by
      rw [List.getElem?_eraseIdx] at hd ⊢
      by_cases q : j < k
      · rw [if_pos q] at hd ⊢; exact ⟨j, hd, rfl⟩
      · rw [if_neg q] at hd ⊢; exact ⟨j + 1, hd, rfl⟩
    constructor
    · rintro ⟨j, d, _, hd, hne, rfl⟩
      obtain ⟨i, hi, hb⟩ := place j d hd
      have hil := (List.getElem?_eq_some_iff.1 hi).1
      have hjl := (List.getElem?_eq_some_iff.1 hd).1
      refine ⟨i, j, hs[i], hs'[j], ix_at ok hi, ix_at okf hd, List.getElem?_eq_getElem (by omega), List.getElem?_eq_getElem (by omega), fun q => hne ?_⟩
      rw [hb, List.getElem?_eq_getElem (by omega), List.getElem?_eq_getElem (by omega), q]
    · rintro ⟨i, j, x, y, h1, h2, h3, h4, h5⟩
      rcases ix_ge fm (l.eraseIdx k) 0 with q | ⟨j', d, q, hd, hf⟩
      · omega
      · have : j' = j := by omega
        subst this
        obtain ⟨i', hi', hb⟩ := place j' d hd
        have := ix_at ok hi'
        rw [hf, h1] at this
        have : i' = i := by omega
        subst this
        refine ⟨j', d, Nat.zero_le _, hd, ?_, hf⟩
        rw [hb, h3, h4]
        exact fun q => h5 (Option.some.inj q)
  have loop : ∀ (m fm : Nat) (o : List Int), 1 ≤ fm → fm ≤ 100 → 100 < m + fm → o.length < fm → o.Pairwise (· < ·) → (∀ x, x ∈ o ↔ (1 ≤ x ∧ x < fm ∧ movd (l.eraseIdx k) (hs.eraseIdx k) hs' 0 x)) →
      ∃ o', F58l1 (H : Int) l N ((H : Int), l.eraseIdx k) hs hs' m o (fm : Int) = some (o', 0) ∧ o'.Pairwise (· < ·) ∧ ∀ x, x ∈ o' ↔ (1 ≤ x ∧ x < 100 ∧ movd (l.eraseIdx k) (hs.eraseIdx k) hs' 0 x) := by
    intro m
    induction m with
    | zero => intro fm o g1 g2 g3; omega
    | succ m ih =>
      intro fm o g1 g2 g3 g4 g5 g6
      show ∃ o', F58b1 (H : Int) l N ((H : Int), l.eraseIdx k) hs hs' (F58l1 (H : Int) l N ((H : Int), l.eraseIdx k) hs hs' m) o (fm : Int) = _ ∧ _
      unfold F58b1
      by_cases hfm : fm ≤ 99
      · have skip : ¬ movd (l.eraseIdx k) (hs.eraseIdx k) hs' 0 (fm : Int) → ∃ o', F58j3 (F58l1 (H : Int) l N ((H : Int), l.eraseIdx k) hs hs' m) o (fm : Int) = some (o', 0) ∧ o'.Pairwise (· < ·) ∧ ∀ x, x ∈ o' ↔ (1 ≤ x ∧ x < 100 ∧ movd (l.eraseIdx k) (hs.eraseIdx k) hs' 0 x) := fun hno => by
          unfold F58j3 F58j2
          rw [ckO_pos (by unfold InR; omega), succ_cast]
          refine ih (fm + 1) o (by omega) (by omega) (by omega) (by omega) g5 fun x => (g6 x).trans ⟨fun ⟨a, b, c⟩ => ⟨a, by omega, c⟩, fun ⟨a, b, c⟩ => ⟨a, ?_, c⟩⟩
          by_cases q : x = (fm : Int)
          · subst q; exact absurd c hno
          · omega
        have e65 : F65 N ((H : Int), l.eraseIdx k).1 ((H : Int), l.eraseIdx k).2 (fm : Int) = some (ixOf (fm : Int) (l.eraseIdx k) 0) := F65_eq N _ _ _ nf (by omega)
        rw [if_pos (by omega), F65_eq N _ l _ hn (by omega), bindO_some, e65, bindO_some]
        rcases ix_ge (fm : Int) l 0 with q1 | ⟨i, d, q1, hd, hf⟩
        · rw [q1, if_neg (by decide)]
          exact skip fun r => by
            obtain ⟨i, j, x, y, h1, _⟩ := (hit _).1 r
            omega
        · rw [Nat.zero_add] at q1
          rcases ix_ge (fm : Int) (l.eraseIdx k) 0 with q2 | ⟨j, d', q2, hd', hf'⟩
          · rw [q1, q2, if_pos (by omega), if_neg (by decide)]
            exact skip fun r => by
              obtain ⟨i, j, x, y, _, h2, _⟩ := (hit _).1 r
              omega
          · rw [Nat.zero_add] at q2
            have hil := (List.getElem?_eq_some_iff.1 hd).1
            have hjl := (List.getElem?_eq_some_iff.1 hd').1
            obtain ⟨x, hx⟩ : ∃ x, hs[i]? = some x := ⟨_, List.getElem?_eq_getElem (by omega)⟩
            obtain ⟨y, hy⟩ : ∃ y, hs'[j]? = some y := ⟨_, List.getElem?_eq_getElem (by omega)⟩
            have i0 : (if 0 > (i : Int) then (0 : Int) else (i : Int)) = (i : Int) := if_neg (by omega)
            have j0 : (if 0 > (j : Int) then (0 : Int) else (j : Int)) = (j : Int) := if_neg (by omega)
            rw [q1, q2, if_pos (by omega), if_pos (by omega), i0, j0, gdO_pos (by omega), Int.toNat_natCast, hx, bindO_some, gdO_pos (by omega), Int.toNat_natCast, hy, bindO_some]
            by_cases hxy : x = y
            · rw [if_pos hxy]
              exact skip fun r => by
                obtain ⟨i', j', x', y', h1, h2, h3, h4, h5⟩ := (hit _).1 r
                have e1 : i' = i := by omega
                have e2 : j' = j := by omega
                subst e1; subst e2
                rw [hx] at h3; rw [hy] at h4; injection h3 with h3; injection h4 with h4
                exact h5 (by rw [← h3, ← h4, hxy])
            · have yes : movd (l.eraseIdx k) (hs.eraseIdx k) hs' 0 (fm : Int) := (hit _).2 ⟨i, j, x, y, q1, q2, hx, hy, hxy⟩
              rw [if_neg hxy, gdO_pos (by omega)]
              unfold F58j2
              rw [ckO_pos (by unfold InR; omega), succ_cast]
              refine ih (fm + 1) _ (by omega) (by omega) (by omega) (by simp; omega) ?_ fun z => ?_
              · rw [List.pairwise_append]
                refine ⟨g5, by simp, fun a ha b hb => ?_⟩
                have := ((g6 a).1 ha).2.1
                rw [List.mem_singleton.1 hb]; exact this
              · rw [List.mem_append, g6 z, List.mem_singleton]
                constructor
                · rintro (⟨a, b, c⟩ | rfl)
                  · exact ⟨a, by omega, c⟩
                  · exact ⟨by omega, by omega, yes⟩
                · rintro ⟨a, b, c⟩
                  by_cases q : z = (fm : Int)
                  · exact .inr q
                  · exact .inl ⟨a, by omega, c⟩
      · have e : fm = 100 := by omega
        subst e
        rw [if_neg (by omega)]
        exact ⟨o, rfl, g5, g6⟩
  obtain ⟨o', a1, a2, a3⟩ := loop N 1 [] (by omega) (by omega) (by omega) (by simp) (by simp) (fun x => ⟨fun q => (by cases q), fun ⟨a, b, _⟩ => by omega⟩)
  have a1' : F58l1 (H : Int) l N ((H : Int), l.eraseIdx k) hs hs' N [] 1 = some (o', 0) := a1
  rw [a1']
  have : o' = mv := ris_eq _ _ a2 mr fun x => (a3 x).trans ⟨fun q => (mm x).2 q.2.2, fun q => by
    have hq := (mm x).1 q
    refine ⟨?_, ?_, hq⟩
    · obtain ⟨j, d, _, hd, _, rfl⟩ := hq
      exact ((okM_iff.1 okf).2.2.1 d (List.mem_iff_getElem?.2 ⟨j, hd⟩)).1.1.1
    · obtain ⟨j, d, _, hd, _, rfl⟩ := hq
      have := ((okM_iff.1 okf).2.2.1 d (List.mem_iff_getElem?.2 ⟨j, hd⟩)).1.1.2
      omega⟩
  rw [this]
theorem comes_any (N : Nat) (hN : 2100 ≤ N) (hs0 : F25 N = some true) (h : Int) (l : List Cm) (p q : Int) : F7 N h l p q = some true := by
  obtain ⟨z, e23, e24, hz, okz⟩ := F2324 N h l (by omega)
  have same : ∀ a : List Int, a.length ≤ 24 → F41 N a a = some true := fun a ha => by
    obtain ⟨y, ey, hy⟩ := F41_eq N a a (by omega) (by omega)
    rw [ey, hy.2 rfl]
  rcases hz with rfl | rfl
  · have ok := okz rfl
    obtain ⟨H, rfl, _⟩ := okM_C ok
    obtain ⟨R, hs, e1, f⟩ := F80_eq ok (N := N) (by omega)
    rw [Int.toNat_natCast] at f
    obtain ⟨a, a1, a2⟩ := F5354 ok (N := N) (by omega) e1 f p q
    obtain ⟨b, b1, b2, bl⟩ := F5556 ok (N := N) (by omega) e1 f
    obtain ⟨c, c1, c2, cl⟩ := F5758 ok (N := N) (by omega) p
    have sb : F41 N (b, (0 : Int)).1 (b, (0 : Int)).1 = some true := same b bl
    unfold F7
    rw [a1, bindO_some, a2, bindO_some, b1, bindO_some, b2, bindO_some, c1, bindO_some, c2, bindO_some, if_pos rfl, if_pos rfl, sb, bindO_some, if_pos rfl, if_pos rfl, same c.1 (by omega), bindO_some, if_pos rfl, if_pos rfl, hs0]
    rfl
  · have b53 : F53 N h l p q = some (0, 52) := by unfold F53 F66; rw [e23, bindO_some, if_neg (by decide), bindO_some, if_neg (by decide)]
    have b54 : F54 N h l p q = some (0, 52) := by unfold F54; rw [e24, bindO_some, if_neg (by decide)]
    have b55 : F55 N h l = some ([], 52) := by unfold F55; rw [e23, bindO_some, if_neg (by decide)]
    have b56 : F56 N h l = some ([], 52) := by unfold F56; rw [e24, bindO_some, if_neg (by decide)]
    have b57 : F57 N h l p = some ([], 52) := by unfold F57 F66; rw [e23, bindO_some, if_neg (by decide), bindO_some, if_neg (by decide)]
    have b58 : F58 N h l p = some ([], 52) := by unfold F58; rw [e24, bindO_some, if_neg (by decide)]
    have s0 : F41 N (([] : List Int), (52 : Int)).1 (([] : List Int), (52 : Int)).1 = some true := same [] (by simp)
    unfold F7
    rw [b53, bindO_some, b54, bindO_some, b55, bindO_some, b56, bindO_some, b57, bindO_some, b58, bindO_some, if_pos rfl, if_pos rfl, s0, bindO_some, if_pos rfl, if_pos rfl, bindO_some, if_pos rfl, if_pos rfl, hs0]
    rfl
theorem comes5 (h : Int) (l : List Cm) (p q : Int) : F7 (0 + 2100) h l p q = some true := comes_any _ (by omega) (sane5 _) h l p q
end Go.K
