/- Yh, Yk, Yi. -/
import Derived.Test.YtinkdlmimiefaaaGreatPYB
import Derived.Test.YtinkdlmimiefaaaGreatPE2
set_option linter.unusedVariables false
set_option linter.unusedSimpArgs false
section
namespace Go.K
open Go.RowKit
def cartR (cs:List Ld) (st:List Rg) (i:Nat):Option (Int × Int × Int) :=
  bp cs[i]? fun x=>bp st[i]? fun b=>bp st[i+1]? fun a=>some ((er ⟨x.lo,x.hi⟩ ⟨b.lo - a.hi,b.hi - a.lo⟩).lo,(er ⟨x.lo,x.hi⟩ ⟨b.lo - a.hi,b.hi - a.lo⟩).hi,0)
def cartedI (p:Pl) (s dy:Int):Option (Int × Int × Int) :=
  if fi p dy=0 then if (placeF (ax p dy) s).2=true then if (ay (ae p dy) (ax p dy)).2=true then cartR (ax p dy) (ay (ae p dy) (ax p dy)).1 (placeF (ax p dy) s).1.toNat else some (0,0,14) else some (0,0,17) else some (0,0,fi p dy)
theorem dayI_v {p:Pl} {dy:Int} (h:fi p dy=0):dw p=true:=(dayI_ok h).1
theorem ku {p:Pl} (hv:dw p=true) (dy:Int):(ax p dy).length≤60:=by
  have h1:=ij p dy
  have h2:=(jn p dy).1
  have:=((ek p).1 hv).l1
  omega
end Go.K
end
section
namespace Go.K
open Go.RowKit
theorem boundS_inK {cs:List Ld} {bs:List Rg} {ts:List Int} {x:Ld} {t:Int} (hl:bs.length=cs.length+1) (hw:iy bs ts) (ht:ts[dz cs x.hr]?=some t) (h1:x.lo≤t) (h2:t≤x.hi):iy (gk cs bs x) ts:=fun i r u hr hu=>by
  unfold gk at hr
  have hc:=cart_len x.hr cs
  by_cases e:i=dz cs x.hr
  · subst e
    rw [List.getElem?_set_self (by omega)] at hr
    injection hr with hr
    rw [ht] at hu
    injection hu with hu
    subst hr; subst hu
    refine meetF_in ?_ ⟨h1,h2⟩
    rw [List.getD_eq_getElem?_getD,List.getElem?_eq_getElem (by omega),Option.getD_some]
    exact hw _ _ _ (List.getElem?_eq_getElem (by omega)) ht
  rw [List.getElem?_set_ne (fun h=>e h.symm)] at hr
  exact hw i r u hr hu
theorem bounds_inK {p:Pl} {cs:List Ld} {ts:List Int} (h0:∀ t,ts[0]?=some t→p.lo≤t∧t≤p.hi) (hpos:∀ t∈ts,0≤t∧t≤10000) (hs:∀ x∈p.stands,∃ t,ts[dz cs x.hr]?=some t∧x.lo≤t∧t≤x.hi):iy (bj p cs) ts:=by
  have key:∀ (l:List Ld) (bs:List Rg),bs.length=cs.length+1→(∀ x∈l,∃ t,ts[dz cs x.hr]?=some t∧x.lo≤t∧t≤x.hi)→iy bs ts→iy (l.foldl (gk cs) bs) ts:=by
    intro l
    induction l with
    | nil=>intro bs _ _ hb; exact hb
    | cons x l ih =>
      intro bs hl hx hb
      rw [List.foldl_cons]
      obtain ⟨t,t1,t2,t3⟩:=hx x List.mem_cons_self
      exact ih _ (by simp [gk,hl]) (fun y hy=>hx y (List.mem_cons_of_mem _ hy)) (boundS_inK hl hb t1 t2 t3)
  refine key p.stands _ (by simp) hs fun i r t hr ht=>?_
  cases i with
  | zero =>
    simp only [List.getElem?_cons_zero,Option.some.injEq] at hr
    subst hr
    exact h0 t ht
  | succ i =>
    rw [List.getElem?_cons_succ] at hr
    have:=bz hr
    rw [List.mem_replicate] at this
    rw [this.2]
    exact hpos t (bz ht)
theorem boundS_narK {cs:List Ld} {bs:List Rg} {x:Ld} {i:Nat} {b':Rg} (h:(gk cs bs x)[i]?=some b'):∃ b,bs[i]?=some b∧b.lo≤b'.lo∧b'.hi≤b.hi:=by
  unfold gk at h
  have hi:=bu h
  rw [List.length_set] at hi
  by_cases e:dz cs x.hr=i
  · subst e
    rw [List.getElem?_set_self hi] at h
    injection h with h
    subst h
    refine ⟨_,List.getElem?_eq_getElem hi,?_⟩
    rw [List.getD_eq_getElem?_getD,List.getElem?_eq_getElem hi,Option.getD_some]
    exact ⟨jf.1,jf.2.1⟩
  rw [List.getElem?_set_ne e] at h
  exact ⟨b',h,Int.le_refl _,Int.le_refl _⟩
theorem fold_narK {cs:List Ld}:∀ (l:List Ld) (bs:List Rg) (i:Nat) (b':Rg),(l.foldl (gk cs) bs)[i]?=some b'→∃ b,bs[i]?=some b∧b.lo≤b'.lo∧b'.hi≤b.hi
  | [],bs,i,b',h=>⟨b',h,Int.le_refl _,Int.le_refl _⟩
  | x :: l,bs,i,b',h=>by
    obtain ⟨c,hc,c1,c2⟩:=fold_narK l (gk cs bs x) i b' h
    obtain ⟨b,hb,b1,b2⟩:=boundS_narK hc
    exact ⟨b,hb,by omega,by omega⟩
theorem fold_standK {cs:List Ld} {x:Ld}:∀ (l:List Ld) (bs:List Rg) (b':Rg),x∈l→(l.foldl (gk cs) bs)[dz cs x.hr]?=some b'→x.lo≤b'.lo∧b'.hi≤x.hi
  | [],bs,b',hm,h=>by simp at hm
  | y :: l,bs,b',hm,h=>by
    rw [List.foldl_cons] at h
    rcases List.mem_cons.1 hm with rfl | hm
    · obtain ⟨c,hc,c1,c2⟩:=fold_narK l _ _ b' h
      unfold gk at hc
      have hi:=bu hc
      rw [List.length_set] at hi
      rw [List.getElem?_set_self hi] at hc
      injection hc with hc
      subst hc
      have := @jf (bs.getD (dz cs x.hr) ⟨0,0⟩) ⟨x.lo,x.hi⟩
      have q1:(⟨x.lo,x.hi⟩:Rg).lo=x.lo:=rfl
      have q2:(⟨x.lo,x.hi⟩:Rg).hi=x.hi:=rfl
      omega
    exact fold_standK l _ b' hm h
def nsF (p:Pl) (dy:Int) (ts:List Int):List Int:=(ax p dy).map fun x=>kw (ae p dy).loads ts x.src
theorem F110l4_eq (ts:List Int) (dy:Int) (rec1:List Int→Int→Option (List Int)) (cs:List Ld) (u:List Int) (i:Nat) (P S:List Ld) (c:Ld) (hc:cs[i]?=some c) (hl:P.length≤100000) (hP:∀ x∈P,x.src < c.src):∀ (m k:Nat),k≤P.length→P.length < m+k →
    F110l4 (P++c :: S) ts dy rec1 cs u (i:Int) m (((P.take k).filter fun x=>bo x.kn x.un dy).length:Nat) (k:Int)=F110j3 ts rec1 u (i:Int) ((P.filter fun x=>bo x.kn x.un dy).length:Nat)
  | 0,k,h1,h2=>by omega
  | m+1,k,h1,h2=>by
    show F110b4 (P++c :: S) ts dy rec1 cs u (i:Int) (F110l4 (P++c :: S) ts dy rec1 cs u (i:Int) m) _ (k:Int)=_
    have hf:=List.length_filter_le (fun x:Ld=>bo x.kn x.un dy) (P.take k)
    rw [List.length_take] at hf
    unfold F110b4
    rw [if_pos (by rw [List.length_append,List.length_cons]; omega),du (by omega),Int.toNat_natCast]
    by_cases hk:k < P.length
    · have hx:P[k]?=some P[k]:=List.getElem?_eq_getElem hk
      rw [List.getElem?_append_left hk,hx,ba,du (by omega),Int.toNat_natCast,hc,ba,if_pos (hP _ (bz hx)),F147_eq,ba]
      have hs:(P.take (k+1)).filter (fun x=>bo x.kn x.un dy)=(P.take k).filter (fun x=>bo x.kn x.un dy)++[P[k]].filter (fun x=>bo x.kn x.un dy):=by
        rw [fe hx,List.filter_append]
      have ih:=F110l4_eq ts dy rec1 cs u i P S c hc hl hP m (k+1) (by omega) (by omega)
      rw [hs,List.length_append] at ih
      by_cases hb:bo P[k].kn P[k].un dy=true
      · rw [if_pos hb,dr (by unfold InR; omega)]
        unfold F110j6
        rw [dr (by unfold InR; omega),eh,eh]
        simpa [hb] using ih
      rw [if_neg hb]
      unfold F110j6
      rw [dr (by unfold InR; omega),eh]
      simpa [hb] using ih
    have hk:k=P.length:=by omega
    subst hk
    rw [List.getElem?_append_right (Nat.le_refl _),Nat.sub_self,List.getElem?_cons_zero,ba,du (by omega),Int.toNat_natCast,hc,ba,if_neg (by omega),List.take_length]
    rfl
theorem F110l1_eq (N:Nat) (hN:1000≤N) {p:Pl} (hv:dw p=true) (dy:Int) (ts:List Int) (ht:ts.length=(ae p dy).loads.length):∀ (m i:Nat),i≤(ax p dy).length→(ax p dy).length < m+i →
    F110l1 p.loads ts dy N (ax p dy) m ((nsF p dy ts).take i) (i:Int)=some (nsF p dy ts)
  | 0,i,h1,h2=>by omega
  | m+1,i,h1,h2=>by
    show F110b1 p.loads ts dy N (ax p dy) (F110l1 p.loads ts dy N (ax p dy) m) _ (i:Int)=_
    have hr:=(ek p).1 hv
    have h60:=ku hv dy
    have hl60:=hr.l1
    have hn:(nsF p dy ts).length=(ax p dy).length:=List.length_map ..
    unfold F110b1
    by_cases hi:i < (ax p dy).length
    · rw [if_pos (by omega)]
      have hc:(ax p dy)[i]?=some (ax p dy)[i]:=List.getElem?_eq_getElem hi
      have hm:=crt_loads (bz hc)
      have hm2:=List.mem_filter.1 hm
      obtain ⟨P,S,e⟩:=List.append_of_mem hm2.1
      have hpw:p.loads.Pairwise (fun x y=>x.src < y.src):=jb.1 hr.a1
      have hP:∀ x∈P,x.src < ((ax p dy)[i]).src:=fun x hx=>by
        rw [e,List.pairwise_append] at hpw
        exact hpw.2.2 x hx _ List.mem_cons_self
      have hPl:P.length≤60:=by
        have:=congrArg List.length e
        rw [List.length_append] at this
        omega
      have hsl:(ae p dy).loads=P.filter (fun x=>bo x.kn x.un dy)++(ax p dy)[i] :: S.filter (fun x=>bo x.kn x.un dy):=by
        have hcb:bo ((ax p dy)[i]).kn ((ax p dy)[i]).un dy=true:=hm2.2
        show p.loads.filter (fun x=>bo x.kn x.un dy)=_
        rw [← List.filter_cons_of_pos (p:=fun x:Ld=>bo x.kn x.un dy) hcb,← List.filter_append,← e]
      have hq:(ae p dy).loads[(P.filter fun x=>bo x.kn x.un dy).length]?=some (ax p dy)[i]:=by
        rw [hsl,List.getElem?_append_right (Nat.le_refl _),Nat.sub_self,List.getElem?_cons_zero]
      have hq2:=bu hq
      have hf:=List.length_filter_le (fun x:Ld=>bo x.kn x.un dy) P
      obtain ⟨t,htq⟩:=bq (l:=ts) (i:=(P.filter fun x=>bo x.kn x.un dy).length) (by omega)
      have hnum:=numF_at (nd_loads hv dy) _ _ _ hq htq
      have key:=F110l4_eq ts dy (F110l1 p.loads ts dy N (ax p dy) m) (ax p dy) ((nsF p dy ts).take i) i P S _ hc (by omega) hP N 0 (by omega) (by omega)
      rw [← e] at key
      refine key.trans ?_
      unfold F110j3
      have hgi:(nsF p dy ts)[i]?=some t:=by
        unfold nsF
        rw [List.getElem?_map,hc,Option.map_some,hnum]
      rw [du (by omega),Int.toNat_natCast,htq,ba,du (by rw [List.length_take]; omega),← fe hgi]
      unfold F110j2
      rw [dr (by unfold InR; omega),eh]
      exact F110l1_eq N hN hv dy ts ht m (i+1) (by omega) (by omega)
    rw [if_neg (by omega),List.take_of_length_le (by omega)]
theorem F110_eq (N:Nat) (hN:1000≤N) {p:Pl} (hv:dw p=true) (dy s:Int) (ts:List Int) (ht:ts.length=(ae p dy).loads.length):F110 N p.lo p.hi p.loads p.stands p.spells p.geese s ts dy=some (nsF p dy ts):=by
  have hr:=(ek p).1 hv
  have:=hr.l1
  have h60:=ku hv dy
  unfold F110
  rw [F104_eq N _ _ _ _ _ _ _ (by omega) (by omega),ba]
  exact F110l1_eq N hN hv dy ts ht N 0 (by omega) (by omega)
theorem subF_take {N:Int→Int} {s:Int} {cs:List Ld} {i:Nat} {x:Ld} (hx:cs[i]?=some x):jd N s (cs.take (i+1))=jd N s (cs.take i) - N x.src:=by
  rw [fe hx]
  unfold jd
  rw [List.foldl_append]
  rfl
theorem subF_anti {N:Int→Int} {s:Int} {cs:List Ld} (hN:∀ x∈cs,0≤N x.src) {i:Nat}:∀ (k:Nat),i+k≤cs.length→jd N s (cs.take (i+k))≤jd N s (cs.take i)
  | 0,_=>Int.le_refl _
  | k+1,h=>by
    have ih:=subF_anti (s:=s) (i:=i) hN k (by omega)
    obtain ⟨x,hx⟩:=bq (l:=cs) (i:=i+k) (by omega)
    have:=hN x (bz hx)
    rw [← Nat.add_assoc,subF_take hx]
    omega
theorem F108l1_eq (h:Int) (M:Nat) (N:Int→Int) (s:Int) (cs:List Ld) (ns:List Int) (hns:ns=cs.map fun x=>N x.src) (hc:cs.length≤1000) (hM:cs.length < M) (hs:0≤s∧s≤10000) (hb:∀ x∈cs,0≤N x.src∧N x.src≤10000):∀ (m i:Nat),i≤dz cs h→dz cs h < m+i →
    F108l1 h M ns cs m (jd N s (cs.take i)) (i:Int)=some (fg cs N s h)
  | 0,i,h1,h2=>by omega
  | m+1,i,h1,h2=>by
    show F108b1 h M ns cs (F108l1 h M ns cs m) _ (i:Int)=_
    have hk:=ko cs h
    unfold F108b1
    rw [F100_eq M cs [] h (by omega) hM,ba]
    by_cases hi:i < dz cs h
    · obtain ⟨x,hx⟩:=bq (l:=cs) (i:=i) (by omega)
      have hn:ns[i]?=some (N x.src):=by rw [hns,List.getElem?_map,hx]; rfl
      have b1:=subF_bd (N:=N) (s:=s) (cs.take i) (fun y hy=>hb y (List.mem_of_mem_take hy))
      have b2:=hb x (bz hx)
      rw [List.length_take] at b1
      rw [if_pos (by omega),du (by omega),Int.toNat_natCast,hn,ba,dr (by unfold InR; omega),dr (by unfold InR; omega),eh,← subF_take hx]
      exact F108l1_eq h M N s cs ns hns hc hM hs hb m (i+1) (by omega) (by omega)
    rw [if_neg (by omega),show i=dz cs h by omega]
    rfl
def chkT (cs:List Ld) (bs:List Rg) (N:Int→Int) (s:Int) (j:Nat):Prop :=
  (∀ x,0 < j→cs[j - 1]?=some x→inB (N x.src) x.lo x.hi=true)∧∀ b,bs[j]?=some b→inB (jd N s (cs.take j)) b.lo b.hi=true
theorem F43l1_eq (N:Int→Int) (s:Int) (cs:List Ld) (bs:List Rg) (ns:List Int) (hns:ns=cs.map fun x=>N x.src) (hl:bs.length=cs.length+1) (hc:cs.length≤1000) (hbs:∀ b∈bs,Bd 10000 b) (hcs:∀ x∈cs,Fd x):∀ (m i:Nat),i≤cs.length+1→cs.length+1 < m+i→(∀ j,j < i→chkT cs bs N s j) →
    ∃ r,F43l1 (cs,bs) ns m (jd N s (cs.take (i - 1))) (i:Int)=some r∧(r=0∧(∀ j,j≤cs.length→chkT cs bs N s j)∨r=16∧¬ ∀ j,j≤cs.length→chkT cs bs N s j)
  | 0,i,h1,h2,_=>by omega
  | m+1,i,h1,h2,hk=>by
    show ∃ r,F43b1 (cs,bs) ns (F43l1 (cs,bs) ns m) _ (i:Int)=some r∧_
    have hnl:ns.length=cs.length:=by rw [hns,List.length_map]
    unfold F43b1
    by_cases hi:i≤cs.length
    · rw [if_pos (by omega)]
      obtain ⟨b,hb⟩:=bq (l:=bs) (i:=i) (by omega)
      have tail:(∀ x,0 < i→cs[i - 1]?=some x→inB (N x.src) x.lo x.hi=true)→∃ r,F43j2 (F43l1 (cs,bs) ns m) (cs,bs) (i:Int) (jd N s (cs.take i))=some r∧(r=0∧(∀ j,j≤cs.length→chkT cs bs N s j)∨r=16∧¬ ∀ j,j≤cs.length→chkT cs bs N s j):=fun hx=>by
        unfold F43j2
        rw [du (by omega),Int.toNat_natCast]
        simp only []
        rw [hb,ba,F80_eq,ba]
        by_cases hq:inB (jd N s (cs.take i)) b.lo b.hi=true
        · rw [if_pos hq,dr (by unfold InR; omega),eh]
          have hki:chkT cs bs N s i:=⟨hx,fun b' hb'=>by rw [hb] at hb'; injection hb' with e; rw [← e]; exact hq⟩
          exact F43l1_eq N s cs bs ns hns hl hc hbs hcs m (i+1) (by omega) (by omega) (fun j hj=>by
            rcases Nat.lt_or_ge j i with h | h
            · exact hk j h
            rw [show j=i by omega]; exact hki)
        rw [if_neg hq]
        exact ⟨16,rfl,.inr ⟨rfl,fun hall=>hq ((hall i hi).2 b hb)⟩⟩
      by_cases h0:0 < i
      · obtain ⟨x,hx⟩:=bq (l:=cs) (i:=i - 1) (by omega)
        have hn:ns[i - 1]?=some (N x.src):=by rw [hns,List.getElem?_map,hx]; rfl
        rw [if_pos (by omega),dr (by unfold InR; omega),du (by omega),show ((i:Int) - 1).toNat=i - 1 by omega,hn,ba]
        simp only []
        rw [hx,ba,F80_eq,ba]
        by_cases hq:inB (N x.src) x.lo x.hi=true
        · obtain ⟨b',hb'⟩:=bq (l:=bs) (i:=i - 1) (by omega)
          have q1:=(hk (i - 1) (by omega)).2 b' hb'
          have q2:=hbs b' (bz hb')
          have q3:=hcs x (bz hx)
          have q4:=(jw _ _ _).1 hq
          have q5:=(jw _ _ _).1 q1
          have:=q2.a; have:=q2.b; have:=q2.c; have:=q2.d; have:=q3.a; have:=q3.b; have:=q3.c; have:=q3.d
          rw [if_pos hq,dr (by unfold InR; omega),← subF_take hx,show i - 1+1=i by omega]
          exact tail fun y _ hy=>by rw [hx] at hy; injection hy with e; rw [← e]; exact hq
        rw [if_neg hq]
        exact ⟨16,rfl,.inr ⟨rfl,fun hall=>hq ((hall i hi).1 x h0 hx)⟩⟩
      rw [if_neg (by omega),show i - 1=i by omega]
      exact tail fun y h _=>absurd h h0
    rw [if_neg (by omega)]
    exact ⟨0,rfl,.inl ⟨rfl,fun j hj=>hk j (by omega)⟩⟩
theorem chk_iff {p:Pl} (hv:dw p=true) (dy s:Int) (ts:List Int) (ht:ts.length=(ae p dy).loads.length):(∀ j,j≤(ax p dy).length→chkT (ax p dy) (bj (ae p dy) (ax p dy)) (kw (ae p dy).loads ts) s j)↔tB p dy s ts=true:=by
  have hbl:=gu (ae p dy) (ax p dy)
  have hso:=sown_bd hv (dy:=dy)
  constructor
  · intro h
    have hat:∀ (i:Nat) (x:Ld) (t:Int),(ae p dy).loads[i]?=some x→ts[i]?=some t→inB t x.lo x.hi=true:=fun i x t hx htt=>by
      have hm:x∈ax p dy:=sortF_mem.2 (bz hx)
      obtain ⟨q,hq,e⟩:=List.getElem_of_mem hm
      have h1:=(h (q+1) (by omega)).1 x (by omega) (by rw [Nat.add_sub_cancel,List.getElem?_eq_getElem hq,e])
      rwa [numF_at (nd_loads hv dy) i x t hx htt] at h1
    have h0:∀ j,j≤(ax p dy).length→0≤jd (kw (ae p dy).loads ts) s ((ax p dy).take j):=fun j hj=>by
      obtain ⟨b,hb⟩:=bq (l:=bj (ae p dy) (ax p dy)) (i:=j) (by omega)
      have h1:=(jw _ _ _).1 ((h j hj).2 b hb)
      have h2:=bounds_pos hso.1 b (bz hb)
      omega
    unfold tB
    simp only [trueB,Bool.and_eq_true,decide_eq_true_eq,List.all_eq_true]
    refine ⟨⟨⟨⟨ht,?_⟩,fun x hx=>?_⟩,fun x hx=>?_⟩,h0 _ (ko _ _)⟩
    · obtain ⟨b,hb⟩:=bq (l:=bj (ae p dy) (ax p dy)) (i:=0) (by omega)
      have h1:=(jw _ _ _).1 ((h 0 (by omega)).2 b hb)
      obtain ⟨c,hc,c1,c2⟩:=fold_narK _ _ _ _ hb
      simp only [List.getElem?_cons_zero,Option.some.injEq] at hc
      subst hc
      simp only [List.take_zero] at h1 c1 c2
      have e:jd (kw (ae p dy).loads ts) s []=s:=rfl
      rw [e] at h1
      exact (jw _ _ _).2 ⟨by omega,by omega⟩
    · obtain ⟨i,hi,e⟩:=List.getElem_of_mem hx
      have e2:((ae p dy).loads.zip ts)[i]?=some x:=by rw [List.getElem?_eq_getElem hi,e]
      rw [List.getElem?_zip_eq_some] at e2
      exact hat i x.1 x.2 e2.1 e2.2
    obtain ⟨b,hb⟩:=bq (l:=bj (ae p dy) (ax p dy)) (i:=dz (ax p dy) x.hr) (by have:=ko (ax p dy) x.hr; omega)
    have h1:=(jw _ _ _).1 ((h _ (ko _ _)).2 b hb)
    have h2:=fold_standK _ _ _ hx hb
    exact (jw _ _ _).2 ⟨by unfold fg; omega,by unfold fg; omega⟩
  intro h
  have hT:=trueAt hv h
  have hnn:∀ x∈ax p dy,0≤kw (ae p dy).loads ts x.src:=fun x hx=>(hT.nb x hx).1
  have hall:dz (ax p dy) 99999=(ax p dy).length:=cart_all (fun q y _ hy=>(okL_sh (by decide) (((ek p).1 hv).o1 y (List.mem_filter.1 (sortF_mem.1 (bz hy))).1)).2.2) rfl
  have hmx:=hT.mx
  unfold fg at hmx
  rw [hall] at hmx
  have hpos:∀ j,j≤(ax p dy).length→0≤jd (kw (ae p dy).loads ts) s ((ax p dy).take j)∧jd (kw (ae p dy).loads ts) s ((ax p dy).take j)≤10000:=fun j hj=>by
    have h1:=subF_anti (s:=s) (i:=j) hnn ((ax p dy).length - j) (by omega)
    rw [show j+((ax p dy).length - j)=(ax p dy).length by omega] at h1
    have h2:=subF_anti (s:=s) (i:=0) hnn j (by omega)
    rw [Nat.zero_add,List.take_zero] at h2
    have e:jd (kw (ae p dy).loads ts) s []=s:=rfl
    have:=hT.s0
    omega
  have hW:=bounds_inK (p:=ae p dy) (cs:=ax p dy) (ts:=(List.range ((ax p dy).length+1)).map fun j=>jd (kw (ae p dy).loads ts) s ((ax p dy).take j)) (fun t htt=>by
      rw [List.getElem?_map,List.getElem?_range (by omega)] at htt
      simp only [Option.map_some,Option.some.injEq,List.take_zero] at htt
      subst htt
      exact (jw _ _ _).1 hT.sown) (fun t htt=>by
      obtain ⟨j,hj,rfl⟩:=List.mem_map.1 htt
      have:=List.mem_range.1 hj
      exact hpos j (by omega)) (fun x hx=>by
      have hk:=ko (ax p dy) x.hr
      refine ⟨_,by rw [List.getElem?_map,List.getElem?_range (by omega)]; rfl,?_⟩
      exact (jw _ _ _).1 (hT.st x hx))
  intro j hj
  refine ⟨fun x h0 hx=>?_,fun b hb=>?_⟩
  · obtain ⟨q,hq,e⟩:=List.getElem_of_mem (crt_loads (bz hx))
    have hxq:(ae p dy).loads[q]?=some x:=by rw [List.getElem?_eq_getElem hq,e]
    obtain ⟨t,htq⟩:=bq (l:=ts) (i:=q) (by omega)
    rw [numF_at (nd_loads hv dy) q x t hxq htq]
    exact hT.ld q x t hxq htq
  exact (jw _ _ _).2 (hW j b _ hb (by rw [List.getElem?_map,List.getElem?_range (by omega)]; rfl))
theorem F43_eq (N:Nat) (hN:1000≤N) (p:Pl) (dy s:Int) (ts:List Int):F43 N p.lo p.hi p.loads p.stands p.spells p.geese dy s ts=some (cartingI p dy s ts):=by
  unfold F43 cartingI
  rw [F88_eq N hN,ba,hourI_0]
  by_cases h0:fi p dy=0
  · rw [if_pos h0,if_pos h0]
    have hv:=dayI_v h0
    have hr:=(ek p).1 hv
    have:=hr.l1; have:=hr.l2
    have h60:=ku hv dy
    have hcl:=ij p dy
    rw [F109_all N p dy [] (by omega) (by omega) (by omega) (by omega),ba]
    by_cases ht:ts.length=(ax p dy).length
    · rw [if_pos (by simp only []; omega),F110_eq N hN hv dy s ts (by omega),ba]
      obtain ⟨r,hr1,hr2⟩:=F43l1_eq (kw (ae p dy).loads ts) s (ax p dy) (bj (ae p dy) (ax p dy)) (nsF p dy ts) rfl (gu _ _) (by omega) (je (scn_ok hv dy)) (scn_ok hv dy).ld N 0 (by omega) (by omega) (fun j hj=>absurd hj (by omega))
      refine hr1.trans ?_
      rw [chk_iff hv dy s ts (by omega)] at hr2
      rcases hr2 with ⟨h1,h2⟩ | ⟨h1,h2⟩
      · rw [if_pos h2,h1]
      rw [if_neg h2,h1]
    rw [if_neg (by simp only []; omega),if_neg (fun h=>ht (by have:=(trueAt hv h).len; omega))]
  rw [if_neg h0,if_neg h0]
theorem dayI_of {p:Pl} {h dy:Int} (h0:ec p h dy=0):fi p dy=0:=by
  have:=ip h0
  simp [fi,this.1,this.2.2]
theorem F41_eq (N:Nat) (hN:1000≤N) (p:Pl) (s:Int) (ts:List Int) (h dy:Int):F41 N p.lo p.hi p.loads p.stands p.spells p.geese s ts h dy=some (leftI p s ts h dy):=by
  unfold F41 leftI
  rw [F88_eq N hN,ba]
  by_cases h0:ec p h dy=0
  · rw [if_pos h0,if_pos h0,F43_eq N hN,ba]
    have hv:=hourI_v h0
    have hd:=dayI_of h0
    unfold cartingI
    rw [if_pos hd]
    by_cases ht:tB p dy s ts=true
    · have hT:=trueAt hv ht
      have hr:=(ek p).1 hv
      have:=hr.l1
      have h60:=ku hv dy
      rw [if_pos ht,if_pos ht,if_pos rfl]
      unfold F108
      rw [F110_eq N hN hv dy s ts hT.len,ba,F104_eq N _ _ _ _ _ _ _ (by omega) (by omega),ba]
      have:=F108l1_eq h N (kw (ae p dy).loads ts) s (ax p dy) (nsF p dy ts) rfl (by omega) (by omega) hT.s0 hT.nb N 0 (by omega) (by have:=ko (ax p dy) h; omega)
      refine (congrArg (fun z=>bp z fun y37=>some (y37,(0:Int))) this).trans ?_
      rfl
    rw [if_neg ht,if_neg ht,if_neg (by decide)]
  rw [if_neg h0,if_neg h0]
end Go.K
end
section
namespace Go.K
open Go.RowKit
theorem F36_eq (p:Pl) (h dy:Int):F36 p.lo p.hi p.loads p.stands p.spells p.geese h dy=some ((kp p h dy).1.lo,(kp p h dy).1.hi,(kp p h dy).2):=by
  unfold F36 kp
  rw [show F97 p.lo p.hi p.loads p.stands p.spells p.geese h dy=some (ec p h dy) from rfl,ba]
  by_cases h0:ec p h dy=0
  · have hv:=hourI_v h0
    rw [if_pos h0,if_pos h0,F86_eq hv,ba]
    simp only []
    rw [show F98 (ae p dy).lo (ae p dy).hi (ae p dy).loads (ae p dy).stands (ae p dy).spells (ae p dy).geese (ax p dy) h=some ((ep (ae p dy) (ax p dy) h).1.lo,(ep (ae p dy) (ax p dy) h).1.hi,(ep (ae p dy) (ax p dy) h).2) from if_pos (scB_v hv dy),ba]
    by_cases h1:(ep (ae p dy) (ax p dy) h).2=true
    · rw [if_pos h1,if_pos h1]
    rw [if_neg h1,if_neg h1]
  rw [if_neg h0,if_neg h0]
end Go.K
end
