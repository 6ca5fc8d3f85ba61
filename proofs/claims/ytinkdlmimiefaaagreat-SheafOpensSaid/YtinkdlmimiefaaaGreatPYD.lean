/- Yl, Ym, Yn, Yo, Yj. -/
import Derived.Test.YtinkdlmimiefaaaGreatPYC
set_option linter.unusedVariables false
set_option linter.unusedSimpArgs false
section
namespace Go.K
open Go.RowKit
theorem F112_eq (a b:Bool):F112 a b=some (kq a b):=by
  unfold F112 kq
  cases a <;> cases b <;> rfl
theorem F45_eq (p:Pl) (h dy:Int):F45 p.lo p.hi p.loads p.stands p.spells p.geese h dy=some (clearC p h dy):=by
  unfold F45 clearC
  rw [F36_eq,ba]
  by_cases h0:(kp p h dy).2=0
  · simp only [if_pos h0]
    by_cases h1:(kp p h dy).1.lo=0 <;> by_cases h2:(kp p h dy).1.hi=0 <;> simp [h1,h2,F112_eq,bp]
  simp only [if_neg h0]
theorem F49_eq (p:Pl) (h dy:Int):F49 p.lo p.hi p.loads p.stands p.spells p.geese h dy=some (shutC p h dy):=by
  unfold F49 shutC
  rw [show F97 p.lo p.hi p.loads p.stands p.spells p.geese h dy=some (ec p h dy) from rfl,ba]
  by_cases h0:ec p h dy=0
  · have hv:=hourI_v h0
    rw [if_pos h0,if_pos h0,F86_eq hv,ba]
    simp only []
    rw [show F116 (ae p dy).lo (ae p dy).hi (ae p dy).loads (ae p dy).stands (ae p dy).spells (ae p dy).geese (ax p dy) h=some (shutF (ae p dy) h) from if_pos ⟨lenB_v hv dy,isHour_bd (ip h0).2.1⟩,ba]
  rw [if_neg h0,if_neg h0]
theorem F108_eq (N:Nat) (hN:1000≤N) {p:Pl} (hv:dw p=true) {dy s:Int} {ts:List Int} (ht:tB p dy s ts=true) (h:Int):F108 N p.lo p.hi p.loads p.stands p.spells p.geese s ts h dy=some (fg (ax p dy) (kw (ae p dy).loads ts) s h):=by
  have hT:=trueAt hv ht
  have hr:=(ek p).1 hv
  have:=hr.l1
  have h60:=ku hv dy
  unfold F108
  rw [F110_eq N hN hv dy s ts hT.len,ba,F104_eq N _ _ _ _ _ _ _ (by omega) (by omega),ba]
  exact F108l1_eq h N (kw (ae p dy).loads ts) s (ax p dy) (nsF p dy ts) rfl (by omega) (by omega) hT.s0 hT.nb N 0 (by omega) (by have:=ko (ax p dy) h; omega)
theorem left_pos {p:Pl} (hv:dw p=true) {dy s:Int} {ts:List Int} (ht:tB p dy s ts=true) (h:Int):0≤fg (ax p dy) (kw (ae p dy).loads ts) s h:=by
  have hT:=trueAt hv ht
  have hall:dz (ax p dy) 99999=(ax p dy).length:=cart_all (fun q y _ hy=>(okL_sh (by decide) (((ek p).1 hv).o1 y (List.mem_filter.1 (sortF_mem.1 (bz hy))).1)).2.2) rfl
  have hmx:=hT.mx
  unfold fg at hmx ⊢
  rw [hall] at hmx
  have hk:=ko (ax p dy) h
  have h1:=subF_anti (s:=s) (i:=dz (ax p dy) h) (fun x hx=>(hT.nb x hx).1) ((ax p dy).length - dz (ax p dy) h) (by omega)
  rw [show dz (ax p dy) h+((ax p dy).length - dz (ax p dy) h)=(ax p dy).length by omega] at h1
  omega
theorem F54_eq (N:Nat) (hN:1000≤N) (p:Pl) (s:Int) (ts:List Int) (h dy:Int):F54 N p.lo p.hi p.loads p.stands p.spells p.geese s ts h dy=some (trulyI p s ts h dy):=by
  unfold F54 trulyI
  rw [F41_eq N hN,ba]
  unfold leftI
  by_cases h0:ec p h dy=0
  · simp only [if_pos h0]
    by_cases ht:tB p dy s ts=true
    · simp only [if_pos ht,if_true]
      have hv:=hourI_v h0
      have hr:=(ek p).1 hv
      have hg0:=hr.g0; have hg1:=hr.g1; have:=hr.l3
      have hh:=isHour_bd (ip h0).2.1
      have hs:=F117_eq N hN p h dy hh.1 (by omega)
      have hp:=left_pos hv ht h
      have hg:(ae p dy).geese=p.geese:=rfl
      rw [dr (by unfold InR; omega),dr (by unfold InR; omega)]
      have fin:∀ e:Bool,F54j1 p.lo p.hi p.loads p.stands p.spells p.geese h dy N (fg (ax p dy) (kw (ae p dy).loads ts) s h,0) e=some (decide (fg (ax p dy) (kw (ae p dy).loads ts) s h=0) && e && !shutF (ae p dy) h,0):=fun e=>by
        unfold F54j1
        simp only []
        cases e
        · by_cases hz:fg (ax p dy) (kw (ae p dy).loads ts) s h=0 <;> simp [hz]
        by_cases hz:fg (ax p dy) (kw (ae p dy).loads ts) s h=0
        · rw [if_pos rfl,if_pos hz,hs,ba]; simp [hz]
        rw [if_pos rfl,if_neg hz]; simp [hz]
      have key:∀ e:Bool,e=(!(ki (ae p dy) h).2 || decide (0 < fg (ax p dy) (kw (ae p dy).loads ts) s (ki (ae p dy) h).1))→(decide (fg (ax p dy) (kw (ae p dy).loads ts) s h=0) && e && !shutF (ae p dy) h)=trulyF (ae p dy) (ax p dy) (kw (ae p dy).loads ts) s h:=fun e he=>by
        unfold trulyF
        rw [← he]
        by_cases hz:fg (ax p dy) (kw (ae p dy).loads ts) s h=0
        · cases shutF (ae p dy) h <;> simp [hz]
        have:0 < fg (ax p dy) (kw (ae p dy).loads ts) s h:=by omega
        simp [hz,this]
      by_cases hz:p.geese=0
      · rw [if_pos hz,fin,key]
        simp [ki,hg,hz]
      rw [if_neg hz]
      by_cases hb:h - 24 * p.geese < 0
      · rw [if_pos hb,fin,key]
        have:¬ 0≤h - 24 * p.geese:=by omega
        simp [ki,hg,this]
        exact .inl (.inr (by omega))
      rw [if_neg hb,F108_eq N hN hv ht,ba]
      have h1:0≤h - 24 * p.geese:=by omega
      have h2:0 < p.geese:=by omega
      by_cases hl:0 < fg (ax p dy) (kw (ae p dy).loads ts) s (h - 24 * p.geese)
      · rw [if_pos hl,fin,key]
        simp [ki,hg,h1,h2,hl]
      rw [if_neg hl,fin,key]
      simp [ki,hg,h1,h2,hl]
      omega
    simp only [if_neg ht]; rfl
  simp only [if_neg h0]
end Go.K
end
section
namespace Go.K
open Go.RowKit
def sieve {α β:Type} (src:α→Int) (l:List α) (s:Int) (K:List α→Option β):Nat→List α→Int→Option β
  | 0=>fun _ _=>none
  | m+1=>fun u v =>
    if v < (l.length:Int) then
      gdO (0≤v) <|
      bp (l[v.toNat]?) fun x =>
      if src x=s then
        ckO (v+1) <|
        sieve src l s K m u (v+1)
      else
        gdO (u.length+1≤1000000000) <|
        ckO (v+1) <|
        sieve src l s K m (u++[x]) (v+1)
    else K u
theorem sieve_eq {α β:Type} (src:α→Int) (l:List α) (s:Int) (K:List α→Option β) (hl:l.length≤100000):∀ (m i:Nat) (u:List α),i≤l.length→l.length < m+i→u.length+(l.length - i)≤1000000→sieve src l s K m u (i:Int)=K (u++(l.drop i).filter fun x=>decide (src x≠s)):=by
  intro m
  induction m with
  | zero=>intro i u h0 h; exfalso; omega
  | succ m ih =>
    intro i u h0 h1 h2
    unfold sieve
    rcases gv l i with ⟨hi,e⟩ | ⟨x,hi,hx,e⟩
    · rw [if_neg (by omega),e,List.filter_nil,List.append_nil]
    rw [if_pos (by omega),du (by omega),Int.toNat_natCast,hx,ba,e]
    by_cases hs:src x=s
    · rw [if_pos hs,dr (by unfold InR; omega),eh,ih (i+1) _ (by omega) (by omega) (by omega),List.filter_cons_of_neg (by simpa using hs)]
    rw [if_neg hs,du (by omega),dr (by unfold InR; omega),eh,ih (i+1) _ (by omega) (by omega) (by rw [List.length_append,List.length_singleton]; omega),List.filter_cons_of_pos (by simpa using hs),List.append_assoc]
    rfl
section
variable (a b:Int) (l2 l3:List Ld) (l4:List Sp) (g s:Int) (N:Nat)
theorem F65l4_g (u v:List Ld):∀ m,F65l4 a b l2 l3 l4 g s N u v m=sieve Sp.src l4 s (F65j3 a b l2 l3 l4 g s N u v) m
  | 0=>rfl
  | m+1=>by
    show F65b4 a b l2 l3 l4 g s N u v (F65l4 a b l2 l3 l4 g s N u v m)=_
    rw [F65l4_g u v m]; rfl
theorem F65l6_g (u:List Ld):∀ m,F65l6 a b l2 l3 l4 g s N u m=sieve Ld.src l3 s (F65j2 a b l2 l3 l4 g s N u) m
  | 0=>rfl
  | m+1=>by
    show F65b6 a b l2 l3 l4 g s N u (F65l6 a b l2 l3 l4 g s N u m)=_
    rw [F65l6_g u m]; rfl
theorem F65l8_g:∀ m,F65l8 a b l2 l3 l4 g s N m=sieve Ld.src l2 s (F65j1 a b l2 l3 l4 g s N) m
  | 0=>rfl
  | m+1=>by
    show F65b8 a b l2 l3 l4 g s N (F65l8 a b l2 l3 l4 g s N m)=_
    rw [F65l8_g m]; rfl
end
theorem hasB_eqK (p:Pl) (s:Int):hasB p s=decide (s∈la p):=by
  rw [hasB,Bool.eq_iff_iff,List.any_eq_true,decide_eq_true_eq]
  constructor
  · rintro ⟨y,hy,h⟩
    rw [decide_eq_true_eq] at h
    subst h
    simp only [notesOf,List.mem_append,List.mem_map] at hy
    simp only [la,List.mem_append,List.mem_map]
    rcases hy with (⟨x,hx,rfl⟩ | ⟨x,hx,rfl⟩) | ⟨x,hx,rfl⟩
    · exact .inl (.inl ⟨x,hx,rfl⟩)
    · exact .inl (.inr ⟨x,hx,rfl⟩)
    exact .inr ⟨x,hx,rfl⟩
  intro h
  simp only [la,List.mem_append,List.mem_map] at h
  simp only [notesOf,List.mem_append,List.mem_map]
  rcases h with (⟨x,hx,rfl⟩ | ⟨x,hx,rfl⟩) | ⟨x,hx,rfl⟩
  · exact ⟨ntL x,.inl (.inl ⟨x,hx,rfl⟩),decide_eq_true rfl⟩
  · exact ⟨ntL x,.inl (.inr ⟨x,hx,rfl⟩),decide_eq_true rfl⟩
  exact ⟨ntS x,.inr ⟨x,hx,rfl⟩,decide_eq_true rfl⟩
theorem F65_eq (N:Nat) (hN:1000≤N) {p:Pl} (hv:dw p=true) (s:Int):F65 N p.lo p.hi p.loads p.stands p.spells p.geese s=some (p.lo,p.hi,(cv (fun y=>decide (y.s≠s)) p).loads,(cv (fun y=>decide (y.s≠s)) p).stands,(cv (fun y=>decide (y.s≠s)) p).spells,p.geese,hasB p s):=by
  have hr:=(ek p).1 hv
  have:=hr.l1; have:=hr.l2; have:=hr.l3
  unfold F65
  rw [F65l8_g]
  refine (sieve_eq Ld.src p.loads s _ (by omega) N 0 [] (by omega) (by omega) (by simp; omega)).trans ?_
  unfold F65j1
  rw [F65l6_g]
  refine (sieve_eq Ld.src p.stands s _ (by omega) N 0 [] (by omega) (by omega) (by simp; omega)).trans ?_
  unfold F65j2
  rw [F65l4_g]
  refine (sieve_eq Sp.src p.spells s _ (by omega) N 0 [] (by omega) (by omega) (by simp; omega)).trans ?_
  unfold F65j3
  have hs:(la p).length≤180:=by simp [la]; omega
  rw [F64_eq N p (by omega) (by omega) (by omega) (by omega) (by omega) (by omega),ba,F59_eq _ _ (by omega) N (by omega),ba,hasB_eqK]
  rfl
theorem F55l2_eq {p q:Pl} (hv:dw p=true) (hq:dw q=true) (dy:Int):∀ (m i:Nat) (u:List Int),i≤p.loads.length→p.loads.length < m+i→u.length+(p.loads.length - i)≤100000 →
    F55l2 p.loads ((ae p dy).lo,(ae p dy).hi,(ae p dy).loads,(ae p dy).stands,(ae p dy).spells,(ae p dy).geese,ax p dy) ((ae q dy).lo,(ae q dy).hi,(ae q dy).loads,(ae q dy).stands,(ae q dy).spells,(ae q dy).geese,ax q dy) m u (i:Int)=F55j1 (u++((p.loads.drop i).filter (movedB p q dy)).map Ld.hr)
  | 0,i,u,h0,h1,_=>by omega
  | m+1,i,u,h0,h1,h2=>by
    show F55b2 _ _ _ (F55l2 _ _ _ m) u (i:Int)=_
    have hl:=((ek p).1 hv).l1
    unfold F55b2
    rcases gv p.loads i with ⟨hi,e⟩ | ⟨x,hi,hx,e⟩
    · rw [if_neg (by omega),e,List.filter_nil,List.map_nil,List.append_nil]
    rw [if_pos (by omega),du (by omega),Int.toNat_natCast,hx,ba]
    simp only []
    rw [show F98 (ae p dy).lo (ae p dy).hi (ae p dy).loads (ae p dy).stands (ae p dy).spells (ae p dy).geese (ax p dy) x.hr=some ((ep (ae p dy) (ax p dy) x.hr).1.lo,(ep (ae p dy) (ax p dy) x.hr).1.hi,(ep (ae p dy) (ax p dy) x.hr).2) from if_pos (scB_v hv dy),ba,
      show F98 (ae q dy).lo (ae q dy).hi (ae q dy).loads (ae q dy).stands (ae q dy).spells (ae q dy).geese (ax q dy) x.hr=some ((ep (ae q dy) (ax q dy) x.hr).1.lo,(ep (ae q dy) (ax q dy) x.hr).1.hi,(ep (ae q dy) (ax q dy) x.hr).2) from if_pos (scB_v hq dy),ba,e]
    have add:F55j4 (F55l2 p.loads ((ae p dy).lo,(ae p dy).hi,(ae p dy).loads,(ae p dy).stands,(ae p dy).spells,(ae p dy).geese,ax p dy) ((ae q dy).lo,(ae q dy).hi,(ae q dy).loads,(ae q dy).stands,(ae q dy).spells,(ae q dy).geese,ax q dy) m) u (i:Int) x=F55j1 (u++x.hr :: ((p.loads.drop (i+1)).filter (movedB p q dy)).map Ld.hr):=by
      unfold F55j4 F55j3
      rw [du (by omega),dr (by unfold InR; omega),eh,F55l2_eq hv hq dy m (i+1) _ (by omega) (by omega) (by rw [List.length_append,List.length_singleton]; omega),List.append_assoc]
      rfl
    have skip:F55j3 (F55l2 p.loads ((ae p dy).lo,(ae p dy).hi,(ae p dy).loads,(ae p dy).stands,(ae p dy).spells,(ae p dy).geese,ax p dy) ((ae q dy).lo,(ae q dy).hi,(ae q dy).loads,(ae q dy).stands,(ae q dy).spells,(ae q dy).geese,ax q dy) m) (i:Int) u=F55j1 (u++((p.loads.drop (i+1)).filter (movedB p q dy)).map Ld.hr):=by
      unfold F55j3
      rw [dr (by unfold InR; omega),eh,F55l2_eq hv hq dy m (i+1) _ (by omega) (by omega) (by omega)]
    have hmb:movedB p q dy x=!((decide ((ep (ae p dy) (ax p dy) x.hr).1.lo=(ep (ae q dy) (ax q dy) x.hr).1.lo) && decide ((ep (ae p dy) (ax p dy) x.hr).1.hi=(ep (ae q dy) (ax q dy) x.hr).1.hi)) && ((ep (ae p dy) (ax p dy) x.hr).2 == (ep (ae q dy) (ax q dy) x.hr).2)):=rfl
    by_cases hd:(decide ((ep (ae p dy) (ax p dy) x.hr).1.lo=(ep (ae q dy) (ax q dy) x.hr).1.lo) && decide ((ep (ae p dy) (ax p dy) x.hr).1.hi=(ep (ae q dy) (ax q dy) x.hr).1.hi))=true
    · rw [if_pos hd]
      by_cases hz:(ep (ae p dy) (ax p dy) x.hr).2=(ep (ae q dy) (ax q dy) x.hr).2
      · rw [if_pos hz,skip,List.filter_cons_of_neg (by rw [hmb,hd,hz]; simp)]
      have hzb:((ep (ae p dy) (ax p dy) x.hr).2 == (ep (ae q dy) (ax q dy) x.hr).2)=false:=by simpa using hz
      rw [if_neg hz,add,List.filter_cons_of_pos (by rw [hmb,hzb]; simp),List.map_cons]
    have hdb:=Bool.eq_false_iff.2 hd
    rw [if_neg hd,add,List.filter_cons_of_pos (by rw [hmb,hdb]; simp),List.map_cons]
theorem F55_eq (N:Nat) (hN:1000≤N) (p:Pl) (s dy:Int):F55 N p.lo p.hi p.loads p.stands p.spells p.geese s dy=some (movedI p s dy):=by
  unfold F55 movedI
  rw [show F85 p.lo p.hi p.loads p.stands p.spells p.geese dy=some (fi p dy) from rfl,ba]
  by_cases h0:fi p dy=0
  · have hv:=dayI_v h0
    have hl:=((ek p).1 hv).l1
    rw [if_pos h0,if_pos h0]
    rw [show F16 p.lo p.hi p.loads p.stands p.spells p.geese s=some ((ff p s).1.lo,(ff p s).1.hi,(ff p s).1.loads,(ff p s).1.stands,(ff p s).1.spells,(ff p s).1.geese,(ff p s).2) from rfl,ba]
    simp only []
    by_cases h1:(ff p s).2=0
    · have hq:=without_ok hv h1
      rw [if_pos h1,if_pos h1,F86_eq hv,ba,F86_eq hq,ba]
      refine (F55l2_eq hv hq dy N 0 [] (by omega) (by omega) (by simp; omega)).trans ?_
      unfold F55j1
      have hf:=List.length_filter_le (movedB p (ff p s).1 dy) p.loads
      rw [du (by simp; omega)]
      rfl
    rw [if_neg h1,if_neg h1]
  rw [if_neg h0,if_neg h0]
theorem stoodC_at {p:Pl} {h dy:Int} (h0:ec p h dy=0):kp p h dy=((ep (ae p dy) (ax p dy) h).1,if (ep (ae p dy) (ax p dy) h).2=true then 0 else 14):=by
  unfold kp ep
  rw [if_pos h0]
  by_cases hs:(ay (ae p dy) (ax p dy)).2=true
  · simp [hs]
  simp [hs]
theorem putL_mem {x z:Int}:∀ {l:List Int},z∈putL x l↔z=x∨z∈l
  | []=>by simp [putL]
  | y :: l=>by
    unfold putL
    by_cases h:x≤y
    · rw [if_pos h,List.mem_cons,List.mem_filter,decide_eq_true_eq]
      constructor
      · rintro (e | ⟨e,_⟩)
        · exact .inl e
        exact .inr e
      rintro (e | e)
      · exact .inl e
      by_cases hz:z=x
      · exact .inl hz
      exact .inr ⟨e,hz⟩
    rw [if_neg h,List.mem_cons,List.mem_cons,putL_mem]
    constructor
    · rintro (e | e | e)
      · exact .inr (.inl e)
      · exact .inl e
      exact .inr (.inr e)
    rintro (e | e | e)
    · exact .inr (.inl e)
    · exact .inl e
    exact .inr (.inr e)
theorem putL_lt {x:Int}:∀ {l:List Int},l.Pairwise (· < ·)→(putL x l).Pairwise (· < ·)
  | [],_=>by simp [putL]
  | y :: l,h=>by
    unfold putL
    obtain ⟨h1,h2⟩:=List.pairwise_cons.1 h
    by_cases hx:x≤y
    · rw [if_pos hx]
      refine List.pairwise_cons.2 ⟨fun z hz=>?_,h.filter _⟩
      rw [List.mem_filter,decide_eq_true_eq] at hz
      rcases List.mem_cons.1 hz.1 with e | e
      · have:=hz.2; omega
      have:=h1 z e; omega
    rw [if_neg hx]
    refine List.pairwise_cons.2 ⟨fun z hz=>?_,putL_lt h2⟩
    rcases putL_mem.1 hz with e | e
    · omega
    exact h1 z e
theorem putL_all:∀ (l acc:List Int),acc.Pairwise (· < ·)→(l.foldl (fun a x=>putL x a) acc).Pairwise (· < ·)∧∀ z,z∈l.foldl (fun a x=>putL x a) acc↔z∈l∨z∈acc
  | [],acc,h=>⟨h,fun z=>by simp⟩
  | x :: l,acc,h=>by
    obtain ⟨i1,i2⟩:=putL_all l (putL x acc) (putL_lt h)
    refine ⟨i1,fun z=>?_⟩
    rw [List.foldl_cons,i2 z,putL_mem,List.mem_cons]
    constructor
    · rintro (e | e | e)
      · exact .inl (.inr e)
      · exact .inl (.inl e)
      exact .inr e
    rintro ((e | e) | e)
    · exact .inr (.inl e)
    · exact .inl e
    exact .inr (.inr e)
theorem sorted_extK:∀ {l m:List Int},l.Pairwise (· < ·)→m.Pairwise (· < ·)→(∀ x,x∈l↔x∈m)→l=m
  | [],[],_,_,_=>rfl
  | [],b :: m,_,_,h=>by have:=(h b).2 (by simp); cases this
  | a :: l,[],_,_,h=>by have:=(h a).1 (by simp); cases this
  | a :: l,b :: m,h1,h2,h=>by
    obtain ⟨a1,a2⟩:=List.pairwise_cons.1 h1
    obtain ⟨b1,b2⟩:=List.pairwise_cons.1 h2
    have e:a=b:=by
      rcases List.mem_cons.1 ((h a).1 (by simp)) with e | e
      · exact e
      rcases List.mem_cons.1 ((h b).2 (by simp)) with f | f
      · exact f.symm
      have:=b1 a e; have:=a1 b f; omega
    subst e
    rw [sorted_extK a2 b2 fun x=>⟨fun hx=>?_,fun hx=>?_⟩]
    · rcases List.mem_cons.1 ((h x).1 (List.mem_cons_of_mem _ hx)) with e | e
      · have:=a1 x hx; omega
      exact e
    rcases List.mem_cons.1 ((h x).2 (List.mem_cons_of_mem _ hx)) with e | e
    · have:=b1 x hx; omega
    exact e
theorem comp_sortedK:∀ (l:List Int) {a:Int},(a :: l).Pairwise (· ≤ ·)→(a :: compG a l).Pairwise (· < ·)∧∀ z,z∈a :: compG a l↔z∈a :: l
  | [],a,_=>by simp [compG]
  | b :: l,a,h=>by
    obtain ⟨h1,h2⟩:=List.pairwise_cons.1 h
    obtain ⟨h3,h4⟩:=List.pairwise_cons.1 h2
    rw [compG]
    split
    · rename_i e
      subst e
      obtain ⟨i1,i2⟩:=comp_sortedK l (a:=b) h2
      exact ⟨i1,fun z=>by rw [i2 z]; simp⟩
    rename_i e
    obtain ⟨i1,i2⟩:=comp_sortedK l (a:=b) h2
    refine ⟨List.pairwise_cons.2 ⟨fun z hz=>?_,i1⟩,fun z=>by rw [List.mem_cons,i2 z,List.mem_cons (a:=z) (b:=a)]⟩
    have hab:=h1 b (by simp)
    rcases List.mem_cons.1 hz with f | f
    · omega
    have:=(List.pairwise_cons.1 i1).1 z f; omega
theorem compact_sortedK {l:List Int} (h:l.Pairwise (· ≤ ·)):(ea l).Pairwise (· < ·)∧∀ z,z∈ea l↔z∈l:=by
  cases l with
  | nil=>simp [ea]
  | cons a l=>exact comp_sortedK l h
theorem put_compact (l:List Int):l.foldl (fun a x=>putL x a) []=ea (sortI l):=by
  obtain ⟨a1,a2⟩:=putL_all l [] List.Pairwise.nil
  obtain ⟨b1,b2⟩:=compact_sortedK (sortI_srt l)
  refine sorted_extK a1 b1 fun z=>?_
  rw [a2,b2,(sortI_perm l).mem_iff]
  simp
theorem F56l1_eq (N:Nat) (hN:1000≤N) {p q:Pl} {dy:Int} (hv:dw p=true) (hq:dw q=true) (hd:ci dy=true) (t:Bool):∀ (m i:Nat) (u:List Int),i≤p.loads.length→p.loads.length < m+i→u.length+(p.loads.length - i)≤100 →
    F56l1 p.lo p.hi p.loads p.stands p.spells p.geese dy N (q.lo,q.hi,q.loads,q.stands,q.spells,q.geese,t) m u (i:Int)=some ((((p.loads.drop i).filter (movedB p q dy)).map Ld.hr).foldl (fun a x=>putL x a) u,0)
  | 0,i,u,h0,h1,_=>by omega
  | m+1,i,u,h0,h1,h2=>by
    show F56b1 _ _ _ _ _ _ _ _ _ (F56l1 _ _ _ _ _ _ _ _ _ m) u (i:Int)=_
    have hr:=(ek p).1 hv
    have hl:=hr.l1
    unfold F56b1
    rcases gv p.loads i with ⟨hi,e⟩ | ⟨x,hi,hx,e⟩
    · rw [if_neg (by omega),e,List.filter_nil]; rfl
    rw [if_pos (by omega),du (by omega),Int.toNat_natCast,hx,ba]
    simp only []
    have hxh:dx x.hr=true:=by
      have:=(okL_sh (by decide) (hr.o1 x (bz hx))).2
      simp only [dx,Bool.and_eq_true,decide_eq_true_eq]
      omega
    have p0:ec p x.hr dy=0:=by simp [ec,hv,hxh,hd]
    have q0:ec q x.hr dy=0:=by simp [ec,hq,hxh,hd]
    rw [F37_eq N hN p,ba,F37_eq N hN q,ba,stoodC_at p0,stoodC_at q0,e]
    simp only []
    have hpl:∀ (z:Int) (w:List Int),(putL z w).length≤w.length+1:=fun z w=>by
      induction w with
      | nil=>simp [putL]
      | cons y w ih =>
        unfold putL
        by_cases hzy:z≤y
        · rw [if_pos hzy,List.length_cons]
          have:=List.length_filter_le (fun k=>decide (k≠z)) (y :: w)
          omega
        rw [if_neg hzy,List.length_cons,List.length_cons]; omega
    have add:F56j3 N (F56l1 p.lo p.hi p.loads p.stands p.spells p.geese dy N (q.lo,q.hi,q.loads,q.stands,q.spells,q.geese,t) m) u (i:Int) x=some ((((p.loads.drop (i+1)).filter (movedB p q dy)).map Ld.hr).foldl (fun a x=>putL x a) (putL x.hr u),0):=by
      unfold F56j3 F56j2
      rw [F71_eq N u _ (by omega) (by omega),ba,dr (by unfold InR; omega),eh,F56l1_eq N hN hv hq hd t m (i+1) _ (by omega) (by omega) (by have:=hpl x.hr u; omega)]
    have skip:F56j2 (F56l1 p.lo p.hi p.loads p.stands p.spells p.geese dy N (q.lo,q.hi,q.loads,q.stands,q.spells,q.geese,t) m) (i:Int) u=some ((((p.loads.drop (i+1)).filter (movedB p q dy)).map Ld.hr).foldl (fun a x=>putL x a) u,0):=by
      unfold F56j2
      rw [dr (by unfold InR; omega),eh,F56l1_eq N hN hv hq hd t m (i+1) _ (by omega) (by omega) (by omega)]
    have hmb:movedB p q dy x=!((decide ((ep (ae p dy) (ax p dy) x.hr).1.lo=(ep (ae q dy) (ax q dy) x.hr).1.lo) && decide ((ep (ae p dy) (ax p dy) x.hr).1.hi=(ep (ae q dy) (ax q dy) x.hr).1.hi)) && ((ep (ae p dy) (ax p dy) x.hr).2 == (ep (ae q dy) (ax q dy) x.hr).2)):=rfl
    have hcode:∀ b c:Bool,(if b=true then (0:Int) else 14)=(if c=true then 0 else 14)↔b=c:=by decide
    by_cases hd2:(decide ((ep (ae p dy) (ax p dy) x.hr).1.lo=(ep (ae q dy) (ax q dy) x.hr).1.lo) && decide ((ep (ae p dy) (ax p dy) x.hr).1.hi=(ep (ae q dy) (ax q dy) x.hr).1.hi))=true
    · rw [if_pos hd2]
      by_cases hz:(ep (ae p dy) (ax p dy) x.hr).2=(ep (ae q dy) (ax q dy) x.hr).2
      · rw [if_pos ((hcode _ _).2 hz),skip,List.filter_cons_of_neg (by rw [hmb,hd2,hz]; simp)]
      have hzb:((ep (ae p dy) (ax p dy) x.hr).2 == (ep (ae q dy) (ax q dy) x.hr).2)=false:=by simpa using hz
      rw [if_neg (fun h=>hz ((hcode _ _).1 h)),add,List.filter_cons_of_pos (by rw [hmb,hzb]; simp),List.map_cons,List.foldl_cons]
    have hdb:=Bool.eq_false_iff.2 hd2
    rw [if_neg hd2,add,List.filter_cons_of_pos (by rw [hmb,hdb]; simp),List.map_cons,List.foldl_cons]
theorem F56_eq (N:Nat) (hN:1000≤N) (p:Pl) (s dy:Int):F56 N p.lo p.hi p.loads p.stands p.spells p.geese s dy=some (movedI p s dy):=by
  unfold F56 movedI
  rw [F88_eq N hN,ba,hourI_0]
  by_cases h0:fi p dy=0
  · have hv:=dayI_v h0
    have hd:=(dayI_ok h0).2
    have hl:=((ek p).1 hv).l1
    rw [if_pos h0,if_pos h0,F65_eq N hN hv,ba]
    by_cases hb:hasB p s=true
    · have hw:ff p s=(cv (fun y=>decide (y.s≠s)) p,0):=by
        unfold ff
        rw [if_pos hv,if_pos hb]
      have hq:dw (cv (fun y=>decide (y.s≠s)) p)=true:=by
        have:=without_ok (s:=s) hv (by rw [hw])
        rwa [hw] at this
      simp only [hb,if_true,hw]
      refine (F56l1_eq N hN hv hq hd _ N 0 [] (by omega) (by omega) (by simp; omega)).trans ?_
      rw [put_compact]
      rfl
    have hw:ff p s=(zeroPl,3):=by
      unfold ff
      rw [if_pos hv,if_neg hb]
    simp only [hw]
    rw [if_neg hb,if_neg (by decide)]
  rw [if_neg h0,if_neg h0]
end Go.K
end
section
namespace Go.K
open Go.RowKit
theorem find_drop {H:List Int} {k:Nat} {x d:Int} (hx:H[k]?=some x) (q:Int→Bool):((H.drop k).find? q).getD d=if q x=true then x else ((H.drop (k+1)).find? q).getD d:=by
  have e:H.drop k=x :: H.drop (k+1):=by
    rcases gv H k with ⟨h1,_⟩ | ⟨y,h1,h2,h3⟩
    · have:=bu hx; omega
    rw [hx] at h2; injection h2 with h2; rw [h3,h2]
  rw [e,List.find?_cons]
  cases hq:q x <;> simp
theorem F48l1_eq (N:Nat) (cs:List Ld) (st:List Rg) (hc:cs.length≤1000) (hN:cs.length < N) (hs:st.length=cs.length+1) (z:Int):∀ (k m:Nat),k≤cs.length+1→k < m →
    F48l1 N (cs,st,z) m ((((0 :: cs.map Ld.hr).drop k).find? (kt st cs Rg.lo)).getD 100000) ((((0 :: cs.map Ld.hr).drop k).find? (kt st cs Rg.hi)).getD 100000) ((k:Int) - 1)=some ((firstF st cs).lo,(firstF st cs).hi,0)
  | k,0,h1,h2=>by omega
  | 0,m+1,h1,h2=>by
    show F48b1 N (cs,st,z) (F48l1 N (cs,st,z) m) _ _ _=_
    unfold F48b1
    rw [if_neg (by omega)]
    rfl
  | k+1,m+1,h1,h2=>by
    show F48b1 N (cs,st,z) (F48l1 N (cs,st,z) m) _ _ _=_
    have tail:∀ hour:Int,(0 :: cs.map Ld.hr)[k]?=some hour→F48j3 N (F48l1 N (cs,st,z) m) (cs,st,z) ((((0 :: cs.map Ld.hr).drop (k+1)).find? (kt st cs Rg.lo)).getD 100000) ((((0 :: cs.map Ld.hr).drop (k+1)).find? (kt st cs Rg.hi)).getD 100000) (k:Int) hour=some ((firstF st cs).lo,(firstF st cs).hi,0):=fun hour hh=>by
      have hk:=ko cs hour
      obtain ⟨r,hr⟩:=bq (l:=st) (i:=dz cs hour) (by omega)
      have ih:=F48l1_eq N cs st hc hN hs z k m (by omega) (by omega)
      rw [find_drop hh,find_drop hh] at ih
      have cl:∀ f:Rg→Int,kt st cs f hour=decide (f r=0):=fun f=>by
        unfold kt
        rw [List.getD_eq_getElem?_getD,hr,Option.getD_some]
      rw [cl,cl] at ih
      unfold F48j3
      simp only []
      rw [F100_eq N cs st hour (by omega) hN,ba,du (by omega),Int.toNat_natCast,hr,ba]
      by_cases a:r.lo=0 <;> by_cases b:r.hi=0 <;> simp only [a,b,decide_true,decide_false,if_true,if_false,Bool.false_eq_true] at ih ⊢ <;> unfold F48j4 F48j2 <;> simp only [b,if_true,if_false] <;> rw [dr (by unfold InR; omega)] <;> exact ih
    have e:((k+1:Nat):Int) - 1=(k:Int):=by omega
    rw [e]
    unfold F48b1
    rw [if_pos (by omega)]
    by_cases h0:0 < k
    · obtain ⟨x,hx⟩:=bq (l:=cs) (i:=k - 1) (by omega)
      rw [if_pos (by omega),dr (by unfold InR; omega),du (by omega),show ((k:Int) - 1).toNat=k - 1 by omega]
      simp only []
      rw [hx,ba]
      refine tail x.hr ?_
      rw [show k=(k - 1)+1 by omega,List.getElem?_cons_succ,List.getElem?_map,hx]
      rfl
    have hk:k=0:=by omega
    subst hk
    rw [if_neg (by omega)]
    exact tail 0 rfl
theorem F48_eq (N:Nat) (hN:1000≤N) (p:Pl) (dy:Int):F48 N p.lo p.hi p.loads p.stands p.spells p.geese dy=some ((ky p dy).1.lo,(ky p dy).1.hi,(ky p dy).2):=by
  unfold F48 ky
  rw [F99_eq N hN,ba,hourI_0]
  by_cases h0:fi p dy=0
  · have hv:=dayI_v h0
    have h60:=ku hv dy
    simp only [if_pos h0]
    by_cases hs:(ay (ae p dy) (ax p dy)).2=true
    · have hl:=stoodF_len hs
      simp only [if_pos hs,if_true]
      have:=F48l1_eq N (ax p dy) (ay (ae p dy) (ax p dy)).1 (by omega) (by omega) hl 0 ((ax p dy).length+1) N (by omega) (by omega)
      rw [List.drop_of_length_le (by simp)] at this
      refine Eq.trans ?_ this
      rw [show (((ax p dy).length+1:Nat):Int) - 1=((ax p dy).length:Int) by omega]
      rfl
    simp only [if_neg hs]; rfl
  simp only [if_neg h0]
end Go.K
end
section
namespace Go.K
open Go.RowKit
theorem bounds_with (p:Pl) (cs:List Ld) (h lo hi:Int):bj (kj p h lo hi) cs=gk cs (bj p cs) ⟨0,h,lo,hi,0,0⟩:=by
  unfold bj kj
  rw [List.foldl_append]
  rfl
theorem with_true {p:Pl} {cs:List Ld} {ts:List Int} {h lo hi:Int}:True_ (kj p h lo hi) cs ts↔True_ p cs ts∧∃ t,ts[dz cs h]?=some t∧lo≤t∧t≤hi:=by
  have hbl:=gu p cs
  have hk:=ko cs h
  constructor
  · intro hT
    have hW:=hT.bnd
    rw [bounds_with] at hW
    have hl:=hT.len
    refine ⟨⟨hl,fun i r t hr ht=>?_,hT.took⟩,?_⟩
    · have hi:i < (gk cs (bj p cs) ⟨0,h,lo,hi,0,0⟩).length:=by
        unfold gk
        rw [List.length_set]
        exact bu hr
      obtain ⟨b,hb,b1,b2⟩:=boundS_narK (List.getElem?_eq_getElem hi)
      have h1:=hW i _ t (List.getElem?_eq_getElem hi) ht
      rw [hr] at hb
      injection hb with hb
      subst hb
      unfold Rng at h1 ⊢
      omega
    obtain ⟨t,ht⟩:=bq (l:=ts) (i:=dz cs h) (by omega)
    have hq:dz cs h < (gk cs (bj p cs) ⟨0,h,lo,hi,0,0⟩).length:=by
      unfold gk
      rw [List.length_set]
      omega
    have h1:=hW _ _ t (List.getElem?_eq_getElem hq) ht
    have h2:=fold_standK (cs:=cs) (x:=⟨0,h,lo,hi,0,0⟩) [⟨0,h,lo,hi,0,0⟩] (bj p cs) _ List.mem_cons_self (List.getElem?_eq_getElem hq)
    unfold Rng at h1
    simp only at h2
    exact ⟨t,ht,by omega,by omega⟩
  rintro ⟨hT,t,ht,h1,h2⟩
  refine ⟨hT.len,?_,hT.took⟩
  rw [bounds_with]
  exact boundS_inK hbl hT.bnd ht h1 h2
theorem sound_iff {p:Pl} {cs:List Ld} (hx:∀ x∈cs,x.lo≤x.hi):(ay p cs).2=true↔∃ ts,True_ p cs ts :=
  ⟨fun hs=>⟨_,lb hx hs true⟩,fun ⟨ts,h⟩=>(lc h).1⟩
theorem ends_get {st:List Rg} {i:Nat} {r:Rg} (hr:st[i]?=some r) (most:Bool):(endsF most st)[i]?=some (if most then r.hi else r.lo):=by
  unfold endsF
  rw [List.getElem?_map,hr]
  cases most <;> rfl
section
variable {p:Pl} {dy:Int} (hv:dw p=true) (hs:(ay (ae p dy) (ax p dy)).2=true)
include hv hs
theorem st_in {i:Nat} {r:Rg} (hr:(ay (ae p dy) (ax p dy)).1[i]?=some r):0≤r.lo∧r.lo≤r.hi∧r.hi≤10000:=by
  have h1:=stoodF_pos (sown_bd hv (dy:=dy)).1 hs hr
  have h2:=ends_bd (scn_ok hv dy) hs true r.hi (bz (i:=i) (by have:=ends_get hr true; simpa using this))
  omega
theorem open_hi (h:Int) {r:Rg} (hr:(ay (ae p dy) (ax p dy)).1[dz (ax p dy) h]?=some r):(ay (kj (ae p dy) h 1 10000) (ax p dy)).2=decide (1≤r.hi):=by
  have hle:=crt_le hv dy
  have hb:=st_in hv hs hr
  rw [Bool.eq_iff_iff,sound_iff hle,decide_eq_true_eq]
  constructor
  · rintro ⟨ts,hT⟩
    obtain ⟨hT,t,ht,t1,t2⟩:=with_true.1 hT
    have:=(lc hT).2.2 _ r t hr ht
    unfold Rng at this
    omega
  intro h1
  exact ⟨_,with_true.2 ⟨lb hle hs true,r.hi,by have:=ends_get hr true; simpa using this,h1,hb.2.2⟩⟩
theorem open_lo (h:Int) {r:Rg} (hr:(ay (ae p dy) (ax p dy)).1[dz (ax p dy) h]?=some r):(ay (kj (ae p dy) h 0 0) (ax p dy)).2=decide (r.lo=0):=by
  have hle:=crt_le hv dy
  have hb:=st_in hv hs hr
  rw [Bool.eq_iff_iff,sound_iff hle,decide_eq_true_eq]
  constructor
  · rintro ⟨ts,hT⟩
    obtain ⟨hT,t,ht,t1,t2⟩:=with_true.1 hT
    have:=(lc hT).2.2 _ r t hr ht
    unfold Rng at this
    omega
  intro h1
  exact ⟨_,with_true.2 ⟨lb hle hs false,r.lo,by have:=ends_get hr false; simpa using this,by omega,by omega⟩⟩
theorem open_both (h g:Int) {r e:Rg} (hr:(ay (ae p dy) (ax p dy)).1[dz (ax p dy) h]?=some r) (he:(ay (ae p dy) (ax p dy)).1[dz (ax p dy) g]?=some e) (h1:r.hi=0) (h2:0 < e.lo):(ay (kj (kj (ae p dy) h 0 0) g 1 10000) (ax p dy)).2=true:=by
  have hle:=crt_le hv dy
  have hb:=st_in hv hs hr
  have hc:=st_in hv hs he
  refine (sound_iff hle).2 ⟨_,with_true.2 ⟨with_true.2 ⟨lb hle hs false,r.lo,by have:=ends_get hr false; simpa using this,by omega,by omega⟩,e.lo,by have:=ends_get he false; simpa using this,by omega,by omega⟩⟩
end
theorem ok_with {p:Pl} {cs:List Ld} (h:ScOk p cs) {g lo hi:Int} (hb:Bd 10000 ⟨lo,hi⟩):ScOk (kj p g lo hi) cs :=
  ⟨h.sown,fun x hx=>by
    rcases List.mem_append.1 hx with hx | hx
    · exact h.st x hx
    rw [List.mem_singleton] at hx; subst hx; exact hb,h.ld⟩
theorem lenB_with {p:Pl} {cs:List Ld} {n:Nat} (h1:p.loads.length≤60) (h2:p.stands.length≤n) (h3:p.spells.length≤60) (h4:cs.length≤60) (hn:n≤98) (g lo hi:Int):lenB (kj p g lo hi) cs=true:=by
  have e:(kj p g lo hi).stands.length=p.stands.length+1:=by simp [kj]
  have e1:(kj p g lo hi).loads=p.loads:=rfl
  have e3:(kj p g lo hi).spells=p.spells:=rfl
  simp only [lenB,Bool.and_eq_true,decide_eq_true_eq,e,e1,e3]
  omega
theorem scn60 {p:Pl} (hv:dw p=true) (dy:Int):(ae p dy).loads.length≤60∧(ae p dy).stands.length≤60∧(ae p dy).spells.length≤60:=by
  have hr:=(ek p).1 hv
  have:=hr.l1; have:=hr.l2; have:=hr.l3
  have h2:=jn p dy
  omega
theorem bdZ:Bd 10000 ⟨0,0⟩:=⟨by decide,by decide,by decide,by decide⟩
theorem bdO:Bd 10000 ⟨1,10000⟩:=⟨by decide,by decide,by decide,by decide⟩
theorem scB_with {p:Pl} (hv:dw p=true) (dy g lo hi:Int) (hb:Bd 10000 ⟨lo,hi⟩):scB (kj (ae p dy) g lo hi) (ax p dy)=true :=
  ok_scB (lenB_with (scn60 hv dy).1 (scn60 hv dy).2.1 (scn60 hv dy).2.2 (ku hv dy) (by decide) g lo hi) (ok_with (scn_ok hv dy) hb)
theorem scB_with2 {p:Pl} (hv:dw p=true) (dy g lo hi g' lo' hi':Int) (hb:Bd 10000 ⟨lo,hi⟩) (hb':Bd 10000 ⟨lo',hi'⟩):scB (kj (kj (ae p dy) g lo hi) g' lo' hi') (ax p dy)=true :=
  ok_scB (lenB_with (p:=kj (ae p dy) g lo hi) (n:=61) (scn60 hv dy).1 (by have:=(scn60 hv dy).2.1; simp only [kj,List.length_append,List.length_singleton]; omega) (scn60 hv dy).2.2 (ku hv dy) (by decide) g' lo' hi') (ok_with (ok_with (scn_ok hv dy) hb) hb')
theorem F87_eq {q:Pl} {cs:List Ld} (h:scB q cs=true):F87 q.lo q.hi q.loads q.stands q.spells q.geese cs=some (ay q cs).2:=if_pos h
theorem F118_eq {q:Pl} {cs:List Ld} (h:lenB q cs=true) (g:Int) (r:Rg):F118 q.lo q.hi q.loads q.stands q.spells q.geese cs g r=some (q.lo,q.hi,(kj q g r.lo r.hi).stands,q.geese):=if_pos h
theorem F51_eq (p:Pl) (h dy:Int):F51 p.lo p.hi p.loads p.stands p.spells p.geese h dy=some (openC p h dy):=by
  unfold F51 openC
  rw [show F97 p.lo p.hi p.loads p.stands p.spells p.geese h dy=some (ec p h dy) from rfl,ba]
  by_cases h0:ec p h dy=0
  · have hv:=hourI_v h0
    have hr:=(ek p).1 hv
    have hh:=isHour_bd (ip h0).2.1
    have hlb:=lenB_v hv dy
    rw [if_pos h0,if_pos h0,F86_eq hv,ba]
    simp only []
    rw [F87_eq (scB_v hv dy),ba]
    by_cases hs:(ay (ae p dy) (ax p dy)).2=true
    · rw [if_pos hs,if_pos hs,show F116 (ae p dy).lo (ae p dy).hi (ae p dy).loads (ae p dy).stands (ae p dy).spells (ae p dy).geese (ax p dy) h=some (shutF (ae p dy) h) from if_pos ⟨hlb,hh⟩,ba]
      by_cases hsh:shutF (ae p dy) h=true
      · rw [if_pos hsh,if_pos hsh]
      rw [if_neg hsh,if_neg hsh,F118_eq hlb,ba,F118_eq hlb,ba]
      have e1:F87 (ae p dy).lo (ae p dy).hi (ae p dy).loads (kj (ae p dy) h 1 10000).stands (ae p dy).spells (ae p dy).geese (ax p dy)=some (ay (kj (ae p dy) h 1 10000) (ax p dy)).2:=F87_eq (q:=kj (ae p dy) h 1 10000) (scB_with hv dy h 1 10000 bdO)
      simp only []
      rw [e1,ba]
      have eg:F119 (ae p dy).lo (ae p dy).hi (ae p dy).loads (ae p dy).stands (ae p dy).spells (ae p dy).geese (ax p dy) h=some (ki (ae p dy) h):=if_pos ⟨hlb,hh,hr.g0,hr.g1⟩
      have j1:∀ b:Bool,b=(ay (kj (ae p dy) h 1 10000) (ax p dy)).2→F51j1 h ((ae p dy).lo,(ae p dy).hi,(ae p dy).loads,(ae p dy).stands,(ae p dy).spells,(ae p dy).geese,ax p dy) (ae p dy).lo (ae p dy).hi (kj (ae p dy) h 0 0).stands (ae p dy).geese b=some (if (ki (ae p dy) h).2 then
        (kq (ay (kj (kj (ae p dy) h 0 0) (ki (ae p dy) h).1 1 10000) (ax p dy)).2 (!((ay (kj (ae p dy) h 1 10000) (ax p dy)).2 || (ay (kj (ae p dy) (ki (ae p dy) h).1 0 0) (ax p dy)).2)),0)
      else (kq (ay (kj (ae p dy) h 0 0) (ax p dy)).2 (!(ay (kj (ae p dy) h 1 10000) (ax p dy)).2),0)):=fun b hb=>by
        have j2:∀ (q:Pl) (c:Bool),scB q (ax p dy)=true→q.loads=(ae p dy).loads→q.spells=(ae p dy).spells→F51j2 ((ae p dy).lo,(ae p dy).hi,(ae p dy).loads,(ae p dy).stands,(ae p dy).spells,(ae p dy).geese,ax p dy) q.lo q.hi q.stands q.geese c=some (kq (ay q (ax p dy)).2 (!c),0):=fun q c hq ql qs=>by
          unfold F51j2
          simp only []
          rw [← ql,← qs,F87_eq hq]
          cases c
          · rw [if_neg (by decide),ba,F112_eq,ba]; rfl
          rw [if_pos rfl,ba,F112_eq,ba]; rfl
        unfold F51j1
        simp only []
        rw [eg,ba]
        by_cases hg:(ki (ae p dy) h).2=true
        · have hl2:lenB (kj (ae p dy) h 0 0) (ax p dy)=true:=lenB_with (scn60 hv dy).1 (scn60 hv dy).2.1 (scn60 hv dy).2.2 (ku hv dy) (by decide) h 0 0
          have ew:=F118_eq (q:=kj (ae p dy) h 0 0) hl2 (ki (ae p dy) h).1 ⟨1,10000⟩
          have ew:F118 (ae p dy).lo (ae p dy).hi (ae p dy).loads (kj (ae p dy) h 0 0).stands (ae p dy).spells (ae p dy).geese (ax p dy) (ki (ae p dy) h).1 ⟨1,10000⟩=some ((kj (kj (ae p dy) h 0 0) (ki (ae p dy) h).1 1 10000).lo,(kj (kj (ae p dy) h 0 0) (ki (ae p dy) h).1 1 10000).hi,(kj (kj (ae p dy) h 0 0) (ki (ae p dy) h).1 1 10000).stands,(kj (kj (ae p dy) h 0 0) (ki (ae p dy) h).1 1 10000).geese):=ew
          have fin:=fun c=>j2 (kj (kj (ae p dy) h 0 0) (ki (ae p dy) h).1 1 10000) c (scB_with2 hv dy h 0 0 (ki (ae p dy) h).1 1 10000 bdZ bdO) rfl rfl
          rw [if_pos hg,if_pos hg,ew,ba]
          simp only []
          cases b
          · rw [if_neg (by decide),F118_eq hlb,ba]
            simp only []
            have e3:F87 (ae p dy).lo (ae p dy).hi (ae p dy).loads (kj (ae p dy) (ki (ae p dy) h).1 0 0).stands (ae p dy).spells (ae p dy).geese (ax p dy)=some (ay (kj (ae p dy) (ki (ae p dy) h).1 0 0) (ax p dy)).2:=F87_eq (q:=kj (ae p dy) (ki (ae p dy) h).1 0 0) (scB_with hv dy _ 0 0 bdZ)
            rw [e3,ba,← hb]
            by_cases hc:(ay (kj (ae p dy) (ki (ae p dy) h).1 0 0) (ax p dy)).2=true
            · rw [if_pos hc,fin true,hc]; rfl
            rw [if_neg hc,fin false,Bool.eq_false_iff.2 hc]; rfl
          rw [if_pos rfl,fin true,← hb]; rfl
        have fin:=j2 (kj (ae p dy) h 0 0) b (scB_with hv dy h 0 0 bdZ) rfl rfl
        rw [if_neg hg,if_neg hg,← hb]
        exact fin
      by_cases hb:(ay (kj (ae p dy) h 1 10000) (ax p dy)).2=true
      · rw [if_pos hb]; exact j1 true hb.symm
      rw [if_neg hb]; exact j1 false (Bool.eq_false_iff.2 hb).symm
    rw [if_neg hs,if_neg hs]
  rw [if_neg h0,if_neg h0]
theorem F120_with (N:Nat) (hN:1000≤N) {p:Pl} (hv:dw p=true) (dy:Int) (q:Pl) (hq:ScOk q (ax p dy)):F120 N (ax p dy) (bj q (ax p dy))=some (refF (bj q (ax p dy)) (ax p dy),(ay q (ax p dy)).2):=by
  have h60:=ku hv dy
  rw [F120_eq N (ax p dy) (bj q (ax p dy)) (gu _ _) (by omega) hq.ld (je hq) (by omega)]
  exact congrArg (fun z=>some (refF (bj q (ax p dy)) (ax p dy),z)) (refF_yes (crt_le hv dy))
theorem set_with (q:Pl) (cs:List Ld) (h lo hi:Int) {b:Rg} (hb:(bj q cs)[dz cs h]?=some b):(bj q cs).set (dz cs h) ⟨(er b ⟨lo,hi⟩).lo,(er b ⟨lo,hi⟩).hi⟩=bj (kj q h lo hi) cs:=by
  rw [bounds_with]
  unfold gk
  rw [List.getD_eq_getElem?_getD,hb,Option.getD_some]
theorem F52_eq (N:Nat) (hN:1000≤N) (p:Pl) (h dy:Int):F52 N p.lo p.hi p.loads p.stands p.spells p.geese h dy=some (openC p h dy):=by
  unfold F52 openC
  rw [F99_eq N hN,ba]
  by_cases h0:ec p h dy=0
  · have hv:=hourI_v h0
    have hr:=(ek p).1 hv
    have hh:=isHour_bd (ip h0).2.1
    have hg0:=hr.g0; have hg1:=hr.g1; have:=hr.l1; have:=hr.l2; have:=hr.l3
    have h60:=ku hv dy
    have hgq:(ae p dy).geese=p.geese:=rfl
    simp only [if_pos h0]
    by_cases hs:(ay (ae p dy) (ax p dy)).2=true
    · simp only [if_pos hs,if_true]
      rw [F117_eq N hN p h dy hh.1 (by omega),ba]
      by_cases hsh:shutF (ae p dy) h=true
      · rw [if_pos hsh,if_pos hsh]
      rw [if_neg hsh,if_neg hsh,dr (by unfold InR; omega),dr (by unfold InR; omega)]
      have hl:=stoodF_len hs
      have hbl:=gu (ae p dy) (ax p dy)
      have hk:=ko (ax p dy) h
      obtain ⟨r,hrr⟩:=bq (l:=(ay (ae p dy) (ax p dy)).1) (i:=dz (ax p dy) h) (by omega)
      obtain ⟨b,hb⟩:=bq (l:=bj (ae p dy) (ax p dy)) (i:=dz (ax p dy) h) (by omega)
      have hrin:=st_in hv hs hrr
      have ehi:=open_hi hv hs h hrr
      -- the end: what the settled row says
      have j2:∀ (q:Pl) (free:Bool),ScOk q (ax p dy)→F52j2 N (ax p dy,(ay (ae p dy) (ax p dy)).1,0) (ax p dy,bj (ae p dy) (ax p dy)) ((dz (ax p dy) h:Nat):Int) free (bj q (ax p dy))=some (if (ay q (ax p dy)).2=true then (if free=true∧r.hi=0 then 1 else 2) else 0,0):=fun q free hq=>by
        unfold F52j2
        simp only []
        rw [F120_with N hN hv dy q hq,ba]
        simp only []
        by_cases ho:(ay q (ax p dy)).2=true
        · rw [if_pos ho,if_pos ho,Int.toNat_natCast,hrr]
          cases free
          · rw [if_neg (by decide),ba]
            by_cases hz:r.hi=0 <;> simp [hz]
          rw [if_pos rfl,ba]
          by_cases hz:r.hi=0 <;> simp [hz]
        rw [if_neg ho,if_neg ho]
      have j1:∀ free:Bool,F52j1 p.lo p.hi p.loads p.stands p.spells p.geese h dy N (ax p dy,(ay (ae p dy) (ax p dy)).1,0) free=(if free=true then F52j2 N (ax p dy,(ay (ae p dy) (ax p dy)).1,0) (ax p dy,bj (ae p dy) (ax p dy)) ((dz (ax p dy) h:Nat):Int) true (bj (kj (ae p dy) h 0 0) (ax p dy)) else
          bp ((ay (ae p dy) (ax p dy)).1[dz (ax p dy) (h - 24 * p.geese)]?) fun e=>F52j2 N (ax p dy,(ay (ae p dy) (ax p dy)).1,0) (ax p dy,bj (ae p dy) (ax p dy)) ((dz (ax p dy) h:Nat):Int) (decide (0 < e.lo)) (bj (kj (kj (ae p dy) h 0 0) (h - 24 * p.geese) 1 10000) (ax p dy))):=fun free=>by
        unfold F52j1
        rw [F109_all N p dy [] (by omega) (by omega) (by omega) (by omega),ba]
        simp only []
        rw [F100_eq N _ _ h (by omega) (by omega),ba,du (by omega),Int.toNat_natCast,hb,ba,F105_eq,ba]
        simp only []
        rw [set_with (ae p dy) (ax p dy) h 0 0 hb]
        cases free
        · rw [if_neg (by decide),if_neg (by decide),F100_eq N _ _ _ (by omega) (by omega),ba,du (by omega),Int.toNat_natCast]
          have hk2:=ko (ax p dy) (h - 24 * p.geese)
          have hbl2:=gu (kj (ae p dy) h 0 0) (ax p dy)
          obtain ⟨c,hc⟩:=bq (l:=bj (kj (ae p dy) h 0 0) (ax p dy)) (i:=dz (ax p dy) (h - 24 * p.geese)) (by omega)
          obtain ⟨e,he⟩:=bq (l:=(ay (ae p dy) (ax p dy)).1) (i:=dz (ax p dy) (h - 24 * p.geese)) (by omega)
          rw [hc,ba,F105_eq,ba,he,ba,ba]
          simp only []
          rw [set_with (kj (ae p dy) h 0 0) (ax p dy) (h - 24 * p.geese) 1 10000 hc]
          by_cases hz:0 < e.lo
          · rw [if_pos hz,decide_eq_true hz]
          rw [if_neg hz,decide_eq_false hz]
        rw [if_pos rfl,if_pos rfl]
      have hok1:=ok_with (g:=h) (scn_ok hv dy) bdZ
      by_cases hg:(ki (ae p dy) h).2=true
      · have hgg:0 < p.geese∧0≤h - 24 * p.geese:=by
          simp only [ki,hgq,Bool.and_eq_true,decide_eq_true_eq] at hg
          exact hg
        have hge:(ki (ae p dy) h).1=h - 24 * p.geese:=rfl
        rw [if_neg (show ¬ p.geese=0 by omega),if_neg (show ¬ h - 24 * p.geese < 0 by omega),if_pos hg,j1 false,if_neg (by decide),hge]
        have hk2:=ko (ax p dy) (h - 24 * p.geese)
        obtain ⟨e,he⟩:=bq (l:=(ay (ae p dy) (ax p dy)).1) (i:=dz (ax p dy) (h - 24 * p.geese)) (by omega)
        have hein:=st_in hv hs he
        rw [he,ba,j2 _ _ (ok_with hok1 bdO),ehi,open_lo hv hs (h - 24 * p.geese) he]
        congr 1
        by_cases hy:r.hi=0∧0 < e.lo
        · have ho:=open_both hv hs h (h - 24 * p.geese) hrr he hy.1 hy.2
          have n1:¬ 1≤r.hi:=by omega
          have n2:¬ e.lo=0:=by omega
          simp [ho,hy.1,hy.2,n2,kq]
        by_cases ho:(ay (kj (kj (ae p dy) h 0 0) (h - 24 * p.geese) 1 10000) (ax p dy)).2=true
        · by_cases n1:r.hi=0
          · have n2:e.lo=0:=by
              have:¬ 0 < e.lo:=fun z=>hy ⟨n1,z⟩
              omega
            simp [ho,n1,n2,kq]
          have n3:1≤r.hi:=by omega
          simp [ho,n1,n3,kq]
        by_cases n1:r.hi=0
        · have n2:e.lo=0:=by
            have:¬ 0 < e.lo:=fun z=>hy ⟨n1,z⟩
            omega
          simp [ho,n1,n2,kq]
        have n3:1≤r.hi:=by omega
        simp [ho,n1,n3,kq]
      have hgg:p.geese=0∨h - 24 * p.geese < 0:=by
        simp only [ki,hgq,Bool.and_eq_true,decide_eq_true_eq] at hg
        omega
      have e0:(if p.geese=0 then F52j1 p.lo p.hi p.loads p.stands p.spells p.geese h dy N (ax p dy,(ay (ae p dy) (ax p dy)).1,0) true else if h - 24 * p.geese < 0 then F52j1 p.lo p.hi p.loads p.stands p.spells p.geese h dy N (ax p dy,(ay (ae p dy) (ax p dy)).1,0) true else F52j1 p.lo p.hi p.loads p.stands p.spells p.geese h dy N (ax p dy,(ay (ae p dy) (ax p dy)).1,0) false)=F52j1 p.lo p.hi p.loads p.stands p.spells p.geese h dy N (ax p dy,(ay (ae p dy) (ax p dy)).1,0) true:=by
        rcases hgg with hz | hz
        · rw [if_pos hz]
        by_cases hz2:p.geese=0
        · rw [if_pos hz2]
        rw [if_neg hz2,if_pos hz]
      rw [e0,if_neg hg,j1 true,if_pos rfl,j2 _ _ hok1,ehi,open_lo hv hs h hrr]
      congr 1
      by_cases n1:r.hi=0
      · have n2:r.lo=0:=by omega
        simp [n1,n2,kq]
      have n3:1≤r.hi:=by omega
      by_cases n2:r.lo=0 <;> simp [n1,n2,n3,kq]
    simp only [if_neg hs]; rfl
  simp only [if_neg h0]
end Go.K
end
section
namespace Go.K
open Go.RowKit
theorem comp_len:∀ (l:List Int) (a:Int),(compG a l).length≤l.length
  | [],_=>Nat.le_refl _
  | b :: l,a=>by
    unfold compG
    split
    · have:=comp_len l b; have:=comp_len l a; rw [List.length_cons]; omega
    have:=comp_len l b; rw [List.length_cons,List.length_cons]; omega
theorem movedI_len (p:Pl) (s dy:Int):(movedI p s dy).1.length≤60:=by
  unfold movedI
  by_cases h0:fi p dy=0
  · rw [if_pos h0]
    have hl:=((ek p).1 (dayI_v h0)).l1
    by_cases h1:(ff p s).2=0
    · rw [if_pos h1]
      have h2:=List.length_filter_le (movedB p (ff p s).1 dy) p.loads
      have h3:=ib ((p.loads.filter (movedB p (ff p s).1 dy)).map Ld.hr)
      rw [List.length_map] at h3
      generalize sortI ((p.loads.filter (movedB p (ff p s).1 dy)).map Ld.hr)=L at h3
      show (ea L).length≤60
      cases L with
      | nil=>simp [ea]
      | cons a L =>
        have:=comp_len L a
        unfold ea
        rw [List.length_cons] at h3 ⊢
        omega
    rw [if_neg h1]; simp
  rw [if_neg h0]; simp
theorem opens1 (p:Pl) (s:Int) (ts:List Int) (h src dy:Int) (hmax:ts.length≤9223372036854775807):F6 (1000+60) p.lo p.hi p.loads p.stands p.spells p.geese s ts h src dy=some true:=by
  have hN:1000≤1000+60:=by omega
  have hm:=movedI_len p src dy
  unfold F6
  rw [sane1 1000,ba,if_pos rfl]
  unfold F6j1
  rw [F45_eq,ba,F46_eq _ hN,ba,show F47 p.lo p.hi p.loads p.stands p.spells p.geese dy=some ((ky p dy).1.lo,(ky p dy).1.hi,(ky p dy).2) from rfl,ba,F48_eq _ hN,ba,F49_eq,ba,F50_eq _ hN,ba,F51_eq,ba,F52_eq _ hN,ba]
  rw [show F53 p.lo p.hi p.loads p.stands p.spells p.geese s ts h dy=some (trulyI p s ts h dy) from rfl,ba,F54_eq _ hN,ba,F55_eq _ hN,ba,F56_eq _ hN,ba,F21_refl _ _ (by omega) (by omega),ba,if_pos rfl]
  unfold F6j2
  simp only [if_true,decide_true,Bool.and_self]
end Go.K
end
