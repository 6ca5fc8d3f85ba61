import Derived.Test.YtinkdlmimiefaaaGreatPG1
import Derived.Test.YtinkdlmimiefaaaGreatPM17
import Derived.Test.YtinkdlmimiefaaaGreatPSS
namespace Go.K
set_option linter.unusedVariables false
theorem cart_len (h:Int) (cs:List Ld):dz cs h≤cs.length:=by
  unfold dz; exact (List.takeWhile_prefix _).length_le
theorem set_all {α:Type} {Q:α→Prop} {l:List α} {i:Nat} {x:α} (h:∀ r∈l,Q r) (hx:Q x):∀ r∈l.set i x,Q r:=fun r hr=>by
  rcases List.mem_or_eq_of_mem_set hr with h1 | h1
  · exact h r h1
  rw [h1]; exact hx
theorem bounds_pos {p:Pl} {cs:List Ld} (h:0≤p.lo):∀ r∈bj p cs,0≤r.lo:=by
  unfold bj
  have key:∀ (l:List Ld) (bs:List Rg),(∀ r∈bs,0≤r.lo)→∀ r∈l.foldl (gk cs) bs,0≤r.lo:=by
    intro l
    induction l with
    | nil=>intro bs hb; exact hb
    | cons x l ih =>
      intro bs hb
      rw [List.foldl_cons]
      refine ih _ ?_
      unfold gk
      refine set_all hb ?_
      refine Int.le_trans ?_ (jf).1
      rw [List.getD_eq_getElem?_getD]
      cases hq:bs[dz cs x.hr]? with
      | none=>exact Int.le_refl _
      | some r=>exact hb r (bz hq)
  refine key _ _ fun r hr=>?_
  rcases List.mem_cons.1 hr with rfl | hr
  · exact h
  rw [List.mem_replicate] at hr; rw [hr.2]; decide
theorem stoodF_pos {p:Pl} {cs:List Ld} (h:0≤p.lo) (hs:(ay p cs).2=true) {i:Nat} {r:Rg} (hr:(ay p cs).1[i]?=some r):0≤r.lo∧r.lo≤r.hi:=by
  unfold ay at hs hr
  split at hs
  · rename_i h1
    rw [if_pos h1] at hr
    have e1:(dd (bj p cs).reverse (cs.map (Pf.mk true)).reverse).1=cr (bj p cs).reverse (cs.map (Pf.mk true)).reverse:=by
      unfold dd at h1 ⊢
      split
      · rfl
      rename_i h2; rw [if_neg h2] at h1; cases h1
    rw [e1] at hs hr
    unfold dd at hs hr
    split at hs
    · rename_i h2
      rw [if_pos h2] at hr
      rw [List.all_eq_true] at h2
      obtain ⟨a,ha,ha1,_⟩:=iu hr
      have hi:=bu ha
      rw [List.length_reverse] at hi
      rw [List.getElem?_reverse hi] at ha
      obtain ⟨b,hb,hb1,_⟩:=iu ha
      have:=bounds_pos (cs:=cs) h b (by have:=bz hb; rwa [List.mem_reverse] at this)
      have h3:=h2 r (bz hr)
      simp only [decide_eq_true_eq] at h3
      omega
    cases hs
  cases hs
end Go.K
