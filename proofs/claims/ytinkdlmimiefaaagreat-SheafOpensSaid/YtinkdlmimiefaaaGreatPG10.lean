import Derived.Test.YtinkdlmimiefaaaGreatPG2
namespace Go.K
set_option linter.unusedVariables false
set_option linter.unusedSimpArgs false
theorem passL_len2:∀ {bs:List Rg} {fs:List Pf} {p:Rg},bs.length≤fs.length→(gi p bs fs).length=bs.length
  | [],fs,p,_=>by simp [gi]
  | b :: bs,[],p,h=>by simp at h
  | b :: bs,f :: fs,p,h=>by simp only [gi,List.length_cons]; rw [passL_len2 (by simpa using h)]
theorem jg {bs:List Rg} {fs:List Pf} (h:bs.length≤fs.length+1):(cr bs fs).length=bs.length:=by
  cases bs with
  | nil=>rfl
  | cons b bs=>simp only [cr,List.length_cons]; rw [passL_len2 (by simpa using h)]
theorem passF_yes {bs:List Rg} {fs:List Pf} (h:(dd bs fs).2=true):(dd bs fs).1=cr bs fs∧∀ r∈cr bs fs,r.lo≤r.hi:=by
  unfold dd at h ⊢
  split
  · rename_i h1
    refine ⟨rfl,fun r hr=>?_⟩
    have:=List.all_eq_true.1 h1 r hr
    simpa using this
  rename_i h1
  rw [if_neg h1] at h
  cases h
structure Shape (p:Pl) (cs:List Ld) (S K:List Rg):Prop where
  len:S.length=cs.length+1
  klen:K.length=cs.length+1
  ord:∀ r∈S,r.lo≤r.hi
  sk:∀ (i:Nat) (s:Rg),S[i]?=some s→∃ k,K[i]?=some k∧k.lo≤s.lo∧s.hi≤k.hi
  step:∀ (i:Nat) (x:Ld) (s s':Rg),cs[i]?=some x→S[i]?=some s→S[i+1]?=some s'→∃ k',K[i+1]?=some k'∧s'=er ⟨s.lo - x.hi,s.hi - x.lo⟩ k'
  back:∀ (i:Nat) (x:Ld) (k k':Rg),cs[i]?=some x→K[i]?=some k→K[i+1]?=some k'→k'.lo+x.lo≤k.lo∧k.hi≤k'.hi+x.hi
  kb:∀ (i:Nat) (k:Rg),K[i]?=some k→∃ b,(bj p cs)[i]?=some b∧b.lo≤k.lo∧k.hi≤b.hi
theorem stood_shape {p:Pl} {cs:List Ld} (hs:(ay p cs).2=true):∃ K,Shape p cs (ay p cs).1 K:=by
  have hb:=gu p cs
  unfold ay at hs ⊢
  split at hs
  · rename_i h1
    rw [if_pos h1]
    obtain ⟨e1,o1⟩:=passF_yes h1
    rw [e1] at hs ⊢
    obtain ⟨e2,o2⟩:=passF_yes hs
    rw [e2]
    have l1:(cr (bj p cs).reverse (cs.map (Pf.mk true)).reverse).length=cs.length+1:=by
      rw [jg (by simp [hb]),List.length_reverse,hb]
    have l2:(cr (cr (bj p cs).reverse (cs.map (Pf.mk true)).reverse).reverse (cs.map (Pf.mk false))).length=cs.length+1:=by
      rw [jg (by simp [l1]),List.length_reverse,l1]
    refine ⟨(cr (bj p cs).reverse (cs.map (Pf.mk true)).reverse).reverse,l2,by rw [List.length_reverse,l1],o2,fun i s hi=>iu hi,fun i x s s' hx h2 h3=>?_,fun i x k k' hx h2 h3=>?_,fun i k hk=>?_⟩
    · obtain ⟨f,b,q,g1,g2,g3,rfl⟩:=passAll_at h3
      rw [h2] at g3
      injection g3 with g3
      subst g3
      rw [List.getElem?_map,hx] at g1
      simp only [Option.map_some,Option.some.injEq] at g1
      subst g1
      exact ⟨b,g2,rfl⟩
    · have hi:=bu h2
      have hj:=bu h3
      rw [List.length_reverse] at hi hj
      rw [List.getElem?_reverse hi] at h2
      rw [List.getElem?_reverse hj] at h3
      rw [l1] at h2 h3 hi hj
      rw [show cs.length+1 - 1 - i=(cs.length+1 - 1 - (i+1))+1 by omega] at h2
      obtain ⟨f,b,q,g1,g2,g3,rfl⟩:=passAll_at h2
      rw [h3] at g3
      injection g3 with g3
      subst g3
      have hi2:=bu hx
      rw [List.getElem?_reverse (by rw [List.length_map]; omega),List.length_map,List.getElem?_map] at g1
      rw [show cs.length - 1 - (cs.length+1 - 1 - (i+1))=i by omega,hx] at g1
      simp only [Option.map_some,Option.some.injEq] at g1
      subst g1
      have m1 := @jf (pfF ⟨true,x⟩ k') b
      have p1:(pfF ⟨true,x⟩ k').lo=k'.lo+x.lo:=rfl
      have p2:(pfF ⟨true,x⟩ k').hi=k'.hi+x.hi:=rfl
      omega
    have hi:=bu hk
    rw [List.length_reverse] at hi
    rw [List.getElem?_reverse hi] at hk
    obtain ⟨b,g1,g2,g3⟩:=iu hk
    have hj:=bu g1
    rw [List.length_reverse] at hj
    rw [List.getElem?_reverse hj] at g1
    refine ⟨b,?_,g2,g3⟩
    rw [← g1]
    congr 1
    rw [l1]
    omega
  cases hs
theorem meet_lo (r s:Rg):(er r s).lo=r.lo∨(er r s).lo=s.lo:=jf.2.2.2.2
theorem meet_hi (r s:Rg):(er r s).hi=r.hi∨(er r s).hi=s.hi:=by
  unfold er
  simp only
  split
  · exact .inr rfl
  exact .inl rfl
def endsF (most:Bool) (S:List Rg):List Int:=S.map fun r=>if most then r.hi else r.lo
theorem lb {p:Pl} {cs:List Ld} (hx:∀ x∈cs,x.lo≤x.hi) (hs:(ay p cs).2=true) (most:Bool):True_ p cs (endsF most (ay p cs).1):=by
  obtain ⟨K,h⟩:=stood_shape hs
  generalize (ay p cs).1=S at *
  refine ⟨by rw [endsF,List.length_map,h.len],fun i r t hr ht=>?_,fun i x a b hxi ha hb=>?_⟩
  · rw [endsF,List.getElem?_map,Option.map_eq_some_iff] at ht
    obtain ⟨s,hsi,rfl⟩:=ht
    obtain ⟨k,hk,k1,k2⟩:=h.sk i s hsi
    obtain ⟨b,hb,b1,b2⟩:=h.kb i k hk
    rw [hr] at hb
    injection hb with hb
    subst hb
    have:=h.ord s (bz hsi)
    unfold Rng
    split <;> omega
  rw [endsF,List.getElem?_map,Option.map_eq_some_iff] at ha hb
  obtain ⟨s,hsi,rfl⟩:=ha
  obtain ⟨s',hsi',rfl⟩:=hb
  obtain ⟨k',hk',rfl⟩:=h.step i x s s' hxi hsi hsi'
  obtain ⟨k,hk,k1,k2⟩:=h.sk i s hsi
  have hbk:=h.back i x k k' hxi hk hk'
  have hxx:=hx x (bz hxi)
  have q1:(⟨s.lo - x.hi,s.hi - x.lo⟩:Rg).lo=s.lo - x.hi:=rfl
  have q2:(⟨s.lo - x.hi,s.hi - x.lo⟩:Rg).hi=s.hi - x.lo:=rfl
  have m := @jf ⟨s.lo - x.hi,s.hi - x.lo⟩ k'
  split
  · rcases meet_hi ⟨s.lo - x.hi,s.hi - x.lo⟩ k' with e | e <;> rw [e] <;> omega
  rcases meet_lo ⟨s.lo - x.hi,s.hi - x.lo⟩ k' with e | e <;> rw [e] <;> omega
end Go.K
