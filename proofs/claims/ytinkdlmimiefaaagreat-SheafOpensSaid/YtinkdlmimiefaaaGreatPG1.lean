import Derived.Test.YtinkdlmimiefaaaGreatPM12
namespace Go.K
set_option linter.unusedVariables false
def Rng (r:Rg) (t:Int):Prop:=r.lo≤t∧t≤r.hi
theorem meetF_in {r s:Rg} {t:Int} (h:Rng r t) (h':Rng s t):Rng (er r s) t:=by
  unfold Rng er at *
  constructor <;> simp only <;> split <;> omega
theorem jf {r s:Rg}:r.lo≤(er r s).lo∧(er r s).hi≤r.hi∧s.lo≤(er r s).lo∧(er r s).hi≤s.hi∧((er r s).lo=r.lo∨(er r s).lo=s.lo):=by
  unfold er
  refine ⟨?_,?_,?_,?_,?_⟩ <;> simp only <;> split <;> omega
def Steps (fs:List Pf) (ts:List Int):Prop:=∀ (i:Nat) (f:Pf) (a b:Int),fs[i]?=some f→ts[i]?=some a→ts[i+1]?=some b→∀ r,Rng r a→Rng (pfF f r) b
def iy (bs:List Rg) (ts:List Int):Prop:=∀ (i:Nat) (r:Rg) (t:Int),bs[i]?=some r→ts[i]?=some t→Rng r t
theorem Steps.tail {f:Pf} {fs:List Pf} {t:Int} {ts:List Int} (h:Steps (f :: fs) (t :: ts)):Steps fs ts:=fun i g a b h1 h2 h3=>h (i+1) g a b (by simpa using h1) (by simpa using h2) (by simpa using h3)
theorem iy.tail {b:Rg} {bs:List Rg} {t:Int} {ts:List Int} (h:iy (b :: bs) (t :: ts)):iy bs ts:=fun i r u h1 h2=>h (i+1) r u (by simpa using h1) (by simpa using h2)
theorem passL_in:∀ {bs:List Rg} {fs:List Pf} {p:Rg} {t:Int} {ts:List Int},Rng p t→ts.length=bs.length→bs.length≤fs.length→iy bs ts→Steps fs (t :: ts)→(gi p bs fs).length=bs.length∧iy (gi p bs fs) ts
  | [],fs,p,t,ts,_,_,_,_,_=>⟨by simp [gi],fun i r u h=>by simp [gi] at h⟩
  | b :: bs,[],p,t,ts,_,_,h,_,_=>by simp at h
  | b :: bs,f :: fs,p,t,[],_,h,_,_,_=>by simp at h
  | b :: bs,f :: fs,p,t,u :: ts,hp,hl,hf,hw,hs=>by
    have h1:Rng (er (pfF f p) b) u:=meetF_in (hs 0 f t u rfl rfl rfl p hp) (hw 0 b u rfl rfl)
    have ih:=passL_in (bs:=bs) (fs:=fs) h1 (by simpa using hl) (by simpa using hf) hw.tail hs.tail
    simp only [gi]
    refine ⟨by simp [ih.1],fun i r v h2 h3=>?_⟩
    cases i with
    | zero =>
      simp only [List.getElem?_cons_zero,Option.some.injEq] at h2 h3
      subst h2; subst h3; exact h1
    | succ i=>exact ih.2 i r v (by simpa using h2) (by simpa using h3)
theorem passF_in {bs:List Rg} {fs:List Pf} {ts:List Int} (hl:ts.length=bs.length) (hf:bs.length≤fs.length+1) (hw:iy bs ts) (hs:Steps fs ts):dd bs fs=(cr bs fs,true)∧(cr bs fs).length=bs.length∧iy (cr bs fs) ts:=by
  have key:(cr bs fs).length=bs.length∧iy (cr bs fs) ts:=by
    cases bs with
    | nil=>exact ⟨rfl,fun i r u h=>by simp [cr] at h⟩
    | cons b bs =>
      cases ts with
      | nil=>simp at hl
      | cons t ts =>
        have h0:=hw 0 b t rfl rfl
        have:=passL_in (bs:=bs) (fs:=fs) h0 (by simpa using hl) (by simpa using hf) hw.tail hs
        simp only [cr]
        refine ⟨by simp [this.1],fun i r v h2 h3=>?_⟩
        cases i with
        | zero =>
          simp only [List.getElem?_cons_zero,Option.some.injEq] at h2 h3
          subst h2; subst h3; exact h0
        | succ i=>exact this.2 i r v (by simpa using h2) (by simpa using h3)
  refine ⟨?_,key⟩
  unfold dd
  rw [if_pos]
  rw [List.all_eq_true]
  intro r hr
  obtain ⟨i,hi,he⟩:=List.getElem_of_mem hr
  have h1:(cr bs fs)[i]?=some r:=by rw [List.getElem?_eq_getElem hi,he]
  have h2:i < ts.length:=by rw [hl,← key.1]; exact hi
  have:=key.2 i r ts[i] h1 (List.getElem?_eq_getElem h2)
  unfold Rng at this
  simp only [decide_eq_true_eq]; omega
structure True_ (p:Pl) (cs:List Ld) (ts:List Int):Prop where
  len:ts.length=cs.length+1
  bnd:iy (bj p cs) ts
  took:∀ (i:Nat) (x:Ld) (a b:Int),cs[i]?=some x→ts[i]?=some a→ts[i+1]?=some b→x.lo≤a - b∧a - b≤x.hi
theorem gu (p:Pl) (cs:List Ld):(bj p cs).length=cs.length+1:=by
  unfold bj; rw [boundsL_len]; simp
theorem lc {p:Pl} {cs:List Ld} {ts:List Int} (h:True_ p cs ts):(ay p cs).2=true∧(ay p cs).1.length=cs.length+1∧iy (ay p cs).1 ts:=by
  have hb:=gu p cs
  have b1:=passF_in (bs:=(bj p cs).reverse) (fs:=(cs.map (Pf.mk true)).reverse) (ts:=ts.reverse) (by simp [hb,h.len]) (by simp [hb]) (fun i r t h1 h2=>by
    have hi:=bu h1
    have hj:=bu h2
    rw [List.length_reverse] at hi hj
    rw [List.getElem?_reverse hi] at h1
    rw [List.getElem?_reverse hj] at h2
    rw [show ts.length - 1 - i=(bj p cs).length - 1 - i by rw [hb,h.len]] at h2
    exact h.bnd _ r t h1 h2) (fun i f a b h1 h2 h3 r hr=>by
    have hi:=bu h1
    have hj:=bu h3
    simp only [List.length_reverse,List.length_map] at hi hj
    have hl:=h.len
    rw [List.getElem?_reverse (by simpa using hi),List.getElem?_map] at h1
    rw [List.getElem?_reverse (by omega)] at h2 h3
    simp only [List.length_map,Option.map_eq_some_iff] at h1
    obtain ⟨x,hx,rfl⟩:=h1
    have:=h.took (cs.length - 1 - i) x b a hx (by rw [← h3]; congr 1; omega) (by rw [← h2]; congr 1; omega)
    unfold Rng pfF at *
    simp only [cond_true]
    omega)
  have b2:=passF_in (bs:=(cr (bj p cs).reverse (cs.map (Pf.mk true)).reverse).reverse) (fs:=cs.map (Pf.mk false)) (ts:=ts) (by simp [b1.2.1,hb,h.len]) (by simp [b1.2.1,hb]) (fun i r t h1 h2=>by
    have hi:=bu h1
    have hj:=bu h2
    rw [List.length_reverse] at hi
    rw [List.getElem?_reverse hi] at h1
    have hl:=b1.2.1
    rw [List.length_reverse,hb] at hl
    refine b1.2.2 _ r t h1 ?_
    rw [List.getElem?_reverse (by have:=h.len; omega),← h2]
    congr 1
    have:=h.len; omega) (fun i f a b h1 h2 h3 r hr=>by
    rw [List.getElem?_map,Option.map_eq_some_iff] at h1
    obtain ⟨x,hx,rfl⟩:=h1
    have:=h.took i x a b hx h2 h3
    unfold Rng pfF at *
    simp only [cond_false]
    omega)
  unfold ay
  rw [b1.1]
  simp only [if_true]
  rw [b2.1]
  refine ⟨rfl,?_,b2.2.2⟩
  rw [b2.2.1,List.length_reverse,b1.2.1,List.length_reverse,hb]
theorem passL_at:∀ {bs:List Rg} {fs:List Pf} {p:Rg} {i:Nat} {r:Rg},(gi p bs fs)[i]?=some r→∃ f b q,fs[i]?=some f∧bs[i]?=some b∧(p :: gi p bs fs)[i]?=some q∧r=er (pfF f q) b
  | [],fs,p,i,r,h=>by simp [gi] at h
  | b :: bs,[],p,i,r,h=>by simp [gi] at h
  | b :: bs,f :: fs,p,i,r,h=>by
    simp only [gi] at h ⊢
    cases i with
    | zero =>
      simp only [List.getElem?_cons_zero,Option.some.injEq] at h
      exact ⟨f,b,p,rfl,rfl,rfl,h.symm⟩
    | succ i =>
      obtain ⟨g,c,q,h1,h2,h3,h4⟩:=passL_at (p:=er (pfF f p) b) (bs:=bs) (fs:=fs) (by simpa using h)
      exact ⟨g,c,q,by simpa using h1,by simpa using h2,by simpa using h3,h4⟩
theorem passAll_at {bs:List Rg} {fs:List Pf} {i:Nat} {r:Rg} (h:(cr bs fs)[i+1]?=some r):∃ f b q,fs[i]?=some f∧bs[i+1]?=some b∧(cr bs fs)[i]?=some q∧r=er (pfF f q) b:=by
  cases bs with
  | nil=>simp [cr] at h
  | cons b bs =>
    simp only [cr] at h ⊢
    obtain ⟨f,c,q,h1,h2,h3,h4⟩:=passL_at (by simpa using h)
    exact ⟨f,c,q,h1,by simpa using h2,h3,h4⟩
theorem iu {bs:List Rg} {fs:List Pf} {i:Nat} {r:Rg} (h:(cr bs fs)[i]?=some r):∃ b,bs[i]?=some b∧b.lo≤r.lo∧r.hi≤b.hi:=by
  cases i with
  | zero =>
    cases bs with
    | nil=>simp [cr] at h
    | cons b bs =>
      simp only [cr,List.getElem?_cons_zero,Option.some.injEq] at h
      exact ⟨b,rfl,by rw [h]; exact Int.le_refl _,by rw [h]; exact Int.le_refl _⟩
  | succ i =>
    obtain ⟨f,b,q,_,h2,_,rfl⟩:=passAll_at h
    exact ⟨b,h2,jf.2.2.1,jf.2.2.2.1⟩
end Go.K
