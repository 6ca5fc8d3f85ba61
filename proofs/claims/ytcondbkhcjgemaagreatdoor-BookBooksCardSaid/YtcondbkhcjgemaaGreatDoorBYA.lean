/- Y1, Yi, Yj, Yk, Yl, Y2, Y3, Y4, Y5, Y6, Y7, Y8, Y9, Ya, Yb, Yc, Yd, Ym. -/
import Derived.Test.YtcondbkhcjgemaaGreatDoorBD
import Derived.Test.YtcondbkhcjgemaaGreatDoorBSb
import Derived.KernelRfl
set_option linter.unusedVariables false
set_option linter.unusedSimpArgs false
section
namespace Go.K
open Go.RowKit
theorem ba {α β:Type} (x:α) (k:α→Option β):bp (some x) k=k x:=rfl
theorem du {β:Type} {p:Prop} [Decidable p] {k:Option β} (h:p):gdO p k=k:=if_pos h
theorem dr {β:Type} {n:Int} {k:Option β} (h:InR n):ckO n k=k:=if_pos h
theorem dy {n:Int} (h0:-1000000000000≤n) (h1:n≤1000000000000):InR n:=by unfold InR; omega
def okB (b:UInt8):Bool:=decide (32≤nb b) && decide (nb b≤126)
def plainB (s:Str):Bool:=s.all okB
theorem drop_get {α:Type} {l:List α} {i:Nat} (h:i < l.length):l.drop i=l[i] :: l.drop (i+1):=List.drop_eq_getElem_cons h
theorem F145l_eq (s:Str) (hs:(s.length:Int)≤1000000000):∀ (m i:Nat),i≤s.length→s.length - i < m→F145l1 s m (i:Int)=some ((s.drop i).all okB):=by
  intro m
  induction m with
  | zero=>intro i _ h; omega
  | succ m ih =>
    intro i hi hm
    simp only [F145l1,F145b1]
    by_cases h:i < s.length
    · rw [if_pos (by omega),du (by omega),Int.toNat_natCast,List.getElem?_eq_getElem h,ba,drop_get h,List.all_cons]
      by_cases h1:nb s[i] < 32
      · rw [if_pos h1,show okB s[i]=false by simp [okB]; omega]; simp
      rw [if_neg h1]
      by_cases h2:126 < nb s[i]
      · rw [if_pos h2,show okB s[i]=false by simp [okB]; omega]; simp
      rw [if_neg h2,dr (dy (by omega) (by omega)),show ((i:Int)+1)=((i+1:Nat):Int) by omega,ih (i+1) (by omega) (by omega),show okB s[i]=true by simp [okB]; omega]
      simp
    rw [if_neg (by omega),List.drop_of_length_le (by omega)]
    rfl
theorem F145_eq (s:Str) (hs:(s.length:Int)≤1000000000) {N:Nat} (hN:s.length < N):F145 N s=some (plainB s):=by
  have:=F145l_eq s hs N 0 (by omega) (by omega)
  simpa [F145,plainB] using this
theorem F84l_eq (s:Str) (hs:(s.length:Int)≤1000000000):∀ (m i:Nat),i≤s.length→s.length - i < m→F84l1 s m (i:Int)=some ((s.drop i).all okB):=by
  intro m
  induction m with
  | zero=>intro i _ h; omega
  | succ m ih =>
    intro i hi hm
    simp only [F84l1,F84b1]
    by_cases h:i < s.length
    · rw [if_pos (by omega),du (by omega),Int.toNat_natCast,List.getElem?_eq_getElem h,ba,drop_get h,List.all_cons]
      by_cases h1:nb s[i] < 32
      · rw [if_pos h1,show okB s[i]=false by simp [okB]; omega]; simp
      rw [if_neg h1]
      by_cases h2:126 < nb s[i]
      · rw [if_pos h2,show okB s[i]=false by simp [okB]; omega]; simp
      rw [if_neg h2,dr (dy (by omega) (by omega)),show ((i:Int)+1)=((i+1:Nat):Int) by omega,ih (i+1) (by omega) (by omega),show okB s[i]=true by simp [okB]; omega]
      simp
    rw [if_neg (by omega),List.drop_of_length_le (by omega)]
    rfl
theorem F84_eq (s:Str) (hs:(s.length:Int)≤1000000000) {N:Nat} (hN:s.length < N):F84 N s=some (plainB s):=by
  have:=F84l_eq s hs N 0 (by omega) (by omega)
  simpa [F84,plainB] using this
def inB (x a b:Int):Bool:=decide (a≤x) && decide (x≤b)
theorem F76_eq (x a b:Int):F76 x a b=some (inB x a b):=by
  simp only [F76,inB]; by_cases h1:a≤x <;> by_cases h2:x≤b <;> simp [h1,h2]
theorem F82_eq (x a b:Int):F82 x a b=some (inB x a b):=F76_eq x a b
def vIt (x:It):Bool:=inB x.p 0 5 && inB x.n 0 9999
theorem F75_eq (x:It):F75 x=some (vIt x):=by
  simp only [F75,F126,F76_eq,ba,vIt]
  cases inB x.p 0 5 <;> simp
theorem F81_eq (x:It):F81 x=some (vIt x):=by
  simp only [F81,F127,F82_eq,ba,vIt]
  cases inB x.p 0 5 <;> simp
def suitB (p0:Rc):Bool :=
  if p0.k=0 then vIt ⟨p0.op,p0.on⟩ && decide (p0.op=p0.p) && decide (p0.on < p0.n) && decide (p0.d=0) && decide (p0.t=[])
  else decide (p0.op=0) && decide (p0.on=0)
theorem F80_eq (p0:Rc):F80 p0=some (suitB p0):=by
  unfold F80 suitB
  by_cases h:p0.k=0
  · rw [if_pos h,if_pos h,F75_eq,ba]
    cases h1:vIt ⟨p0.op,p0.on⟩ <;> by_cases h2:p0.op=p0.p <;> by_cases h3:p0.on < p0.n <;> by_cases h4:p0.d=0 <;> by_cases h5:p0.t=[] <;> simp [F80j1,h2,h3,h4,h5]
  rw [if_neg h,if_neg h]
  by_cases h1:p0.op=0 <;> by_cases h2:p0.on=0 <;> simp [h1,h2]
def vRc (p0:Rc):Bool:=vIt ⟨p0.p,p0.n⟩ && inB p0.k 0 60 && inB p0.d 0 4166 && inB p0.kn 0 4166 && decide ((p0.t.length:Int)≤160) && plainB p0.t && suitB p0
theorem F17_eq (p0:Rc) {N:Nat} (hN:161≤N):F17 N p0=some (if vRc p0=true then 0 else 80):=by
  have h79:F79 N p0.t=some (decide ((p0.t.length:Int)≤160) && plainB p0.t):=by
    unfold F79
    by_cases h:(p0.t.length:Int)≤160
    · rw [if_pos h,F145_eq p0.t (by omega) (by omega),ba]; simp [h]
    rw [if_neg h]; simp [h]
  simp only [F17,F17j1,F77,F78,F75_eq,F76_eq,F80_eq,h79,ba,vRc]
  rcases Bool.eq_false_or_eq_true (vIt ⟨p0.p,p0.n⟩) with h1 | h1 <;> rcases Bool.eq_false_or_eq_true (inB p0.k 0 60) with h2 | h2 <;> rcases Bool.eq_false_or_eq_true (inB p0.d 0 4166) with h3 | h3 <;> rcases Bool.eq_false_or_eq_true (inB p0.kn 0 4166) with h4 | h4 <;> by_cases h5:(p0.t.length:Int)≤160 <;> rcases Bool.eq_false_or_eq_true (plainB p0.t) with h6 | h6 <;> rcases Bool.eq_false_or_eq_true (suitB p0) with h7 | h7 <;> simp [h1,h2,h3,h4,h5,h6,h7,ba]
theorem F18_eq (p0:Rc) {N:Nat} (hN:161≤N):F18 N p0=some (if vRc p0=true then 0 else 80):=by
  simp only [F18,F81_eq,F82_eq,F83,ba,vRc]
  rcases Bool.eq_false_or_eq_true (vIt ⟨p0.p,p0.n⟩) with h1 | h1
  · rcases Bool.eq_false_or_eq_true (inB p0.k 0 60) with h2 | h2
    · rcases Bool.eq_false_or_eq_true (inB p0.d 0 4166) with h3 | h3
      · rcases Bool.eq_false_or_eq_true (inB p0.kn 0 4166) with h4 | h4
        · by_cases h5:(p0.t.length:Int)≤160
          · rw [F84_eq p0.t (by omega) (by omega)]
            rcases Bool.eq_false_or_eq_true (plainB p0.t) with h6 | h6
            · simp only [ba,suitB,h1,h2,h3,h4,h6,if_true,decide_eq_true h5,Bool.and_true,Bool.true_and,if_neg (show ¬ (160:Int) < p0.t.length by omega)]
              by_cases hk:p0.k=0
              · simp only [if_pos hk]
                rcases Bool.eq_false_or_eq_true (vIt ⟨p0.op,p0.on⟩) with g1 | g1
                · simp only [g1]
                  by_cases g2:p0.op=p0.p <;> by_cases g3:p0.n≤p0.on <;> by_cases g4:p0.d=0 <;> by_cases g5:p0.t=[] <;> simp [g2,g3,g4,g5,show p0.on < p0.n↔¬ p0.n≤p0.on from Int.not_le.symm]
                simp only [g1]
                by_cases g4:p0.d=0 <;> by_cases g5:p0.t=[] <;> simp [g4,g5]
              simp only [if_neg hk]
              by_cases g2:p0.op=0 <;> by_cases g3:p0.on=0 <;> simp [g2,g3]
            simp [h1,h2,h3,h4,h5,h6,Int.not_lt.2 h5,ba]
          simp [h1,h2,h3,h4,h5,show (160:Int) < p0.t.length by omega]
        simp [h1,h2,h3,h4]
      simp [h1,h2,h3]
    simp [h1,h2]
  simp [h1]
end Go.K
end
section
namespace Go.K
open Go.RowKit
def cnt (l:List Rc) (p:Int):Int:=((l.filter fun x=>decide (x.p=p)).length:Nat)
theorem cnt_nil (p:Int):cnt [] p=0:=rfl
theorem cnt_snoc (l:List Rc) (x:Rc) (p:Int):cnt (l++[x]) p=cnt l p+if x.p=p then 1 else 0:=by
  unfold cnt; rw [List.filter_append,List.length_append]
  by_cases h:x.p=p
  · rw [if_pos h,List.filter_cons_of_pos (by simpa using h)]; simp
  rw [if_neg h,List.filter_cons_of_neg (by simpa using h)]; simp
theorem cnt_le (l:List Rc) (p:Int):0≤cnt l p∧cnt l p≤l.length:=by
  unfold cnt; have:=List.length_filter_le (fun x:Rc=>decide (x.p=p)) l; omega
theorem ny {α:Type} {l:List α} {i:Nat} (h:i < l.length):l.take (i+1)=l.take i++[l[i]]:=by
  rw [List.take_add_one,List.getElem?_eq_getElem h]; rfl
def logR (done:List Rc):List Rc→Bool
  | []=>true
  | x :: r=>decide ((done.length:Int) < 60) && vRc x && decide (x.n=cnt done x.p) && logR (done++[x]) r
def logB (l:List Rc):Bool:=logR [] l
theorem logR_len:∀ (r done:List Rc),logR done r=true→60 < done.length+r.length→r=[]
  | [],_,_,_=>rfl
  | x :: r,done,h,hl=>by
    simp only [logR,Bool.and_eq_true,decide_eq_true_eq] at h
    obtain ⟨⟨⟨h1,h2⟩,h3⟩,h4⟩:=h
    have:=logR_len r (done++[x]) h4 (by simp at hl ⊢; omega)
    subst this; simp at hl; omega
theorem np {l:List Rc} (h:logB l=true):l.length≤60:=by
  refine Decidable.byContradiction fun hn=>?_
  have:=logR_len l [] h (by simp; omega)
  subst this; simp at hn
theorem F132l_eq (l:List Rc) (hl:(l.length:Int)≤1000000) (p:Int):∀ (m i:Nat),i≤l.length→l.length - i < m→F132l1 l p m (cnt (l.take i) p) (i:Int)=some (cnt l p):=by
  intro m
  induction m with
  | zero=>intro i _ h; omega
  | succ m ih =>
    intro i hi hm
    simp only [F132l1,F132b1]
    by_cases h:i < l.length
    · have hc:=cnt_le (l.take i) p
      have ht:((l.take i).length:Int)≤1000000:=by rw [List.length_take]; omega
      have hs:=cnt_snoc (l.take i) l[i] p
      rw [← ny h] at hs
      rw [if_pos (by omega),du (by omega),Int.toNat_natCast,List.getElem?_eq_getElem h,ba]
      have hn:=ih (i+1) (by omega) (by omega)
      rw [hs] at hn
      by_cases h1:l[i].p=p
      · rw [if_pos h1] at hn ⊢; rw [dr (dy (by omega) (by omega))]
        simp only [F132j2]; rw [dr (dy (by omega) (by omega)),show ((i:Int)+1)=((i+1:Nat):Int) by omega,hn]
      rw [if_neg h1] at hn ⊢
      simp only [F132j2]; rw [dr (dy (by omega) (by omega)),show ((i:Int)+1)=((i+1:Nat):Int) by omega,← hn,Int.add_zero]
    rw [if_neg (by omega),List.take_of_length_le (by omega)]
theorem F132_eq (l:List Rc) (hl:(l.length:Int)≤1000000) (p:Int) {N:Nat} (hN:l.length < N):F132 N l p=some (cnt l p):=by
  have:=F132l_eq l hl p N 0 (by omega) (by omega)
  simpa [F132,cnt_nil] using this
theorem F101l_eq (l:List Rc) (hl:(l.length:Int)≤1000000) (p:Int):∀ (m i:Nat),i≤l.length→l.length - i < m→F101l1 l p m (cnt (l.take i) p) (i:Int)=some (cnt l p):=by
  intro m
  induction m with
  | zero=>intro i _ h; omega
  | succ m ih =>
    intro i hi hm
    simp only [F101l1,F101b1]
    by_cases h:i < l.length
    · have hc:=cnt_le (l.take i) p
      have ht:((l.take i).length:Int)≤1000000:=by rw [List.length_take]; omega
      have hs:=cnt_snoc (l.take i) l[i] p
      rw [← ny h] at hs
      rw [if_pos (by omega),du (by omega),Int.toNat_natCast,List.getElem?_eq_getElem h,ba]
      have hn:=ih (i+1) (by omega) (by omega)
      rw [hs] at hn
      by_cases h1:l[i].p=p
      · rw [if_pos h1] at hn ⊢; rw [dr (dy (by omega) (by omega))]
        simp only [F101j2]; rw [dr (dy (by omega) (by omega)),show ((i:Int)+1)=((i+1:Nat):Int) by omega,hn]
      rw [if_neg h1] at hn ⊢
      simp only [F101j2]; rw [dr (dy (by omega) (by omega)),show ((i:Int)+1)=((i+1:Nat):Int) by omega,← hn,Int.add_zero]
    rw [if_neg (by omega),List.take_of_length_le (by omega)]
theorem F101_eq (l:List Rc) (hl:(l.length:Int)≤1000000) (p:Int) {N:Nat} (hN:l.length < N):F101 N l p=some (cnt l p):=by
  have:=F101l_eq l hl p N 0 (by omega) (by omega)
  simpa [F101,cnt_nil] using this
theorem F116_eq (done:List Rc) (hd:done.length≤60) (x:Rc) {N:Nat} (hN:161≤N):F116 N done x=some (decide ((done.length:Int) < 60) && vRc x && decide (x.n=cnt done x.p)):=by
  unfold F116
  by_cases h:(done.length:Int) < 60
  · rw [if_pos h,F18_eq x hN,ba]
    cases hv:vRc x
    · simp
    rw [if_pos rfl,if_pos rfl,F132_eq done (by omega) x.p (by omega),ba]
    by_cases h1:x.n=cnt done x.p <;> simp [h,h1]
  rw [if_neg h]; simp [h]
theorem F98l_eq (l:List Rc) {N:Nat} (hN:161≤N):∀ (m i:Nat),i≤l.length→i≤60→61 - i < m→F98l1 l N m (l.take i) (i:Int)=some (logR (l.take i) (l.drop i)):=by
  intro m
  induction m with
  | zero=>intro i _ _ h; omega
  | succ m ih =>
    intro i hi h60 hm
    simp only [F98l1,F98b1]
    by_cases h:i < l.length
    · rw [if_pos (by omega),du (by omega),Int.toNat_natCast,List.getElem?_eq_getElem h,ba,F116_eq _ (by rw [List.length_take]; omega) _ hN,ba,drop_get h,logR]
      generalize hb:(decide (((l.take i).length:Int) < 60) && vRc l[i] && decide (l[i].n=cnt (l.take i) l[i].p))=b
      cases b
      · simp
      have h59:i < 60:=by
        simp only [Bool.and_eq_true,decide_eq_true_eq,List.length_take] at hb; omega
      rw [if_pos rfl,du (by rw [List.length_take]; omega),dr (dy (by omega) (by omega)),show ((i:Int)+1)=((i+1:Nat):Int) by omega]
      have:=ih (i+1) (by omega) (by omega) (by omega)
      rw [ny h] at this
      rw [this]; simp
    rw [if_neg (by omega),List.drop_of_length_le (by omega)]
    rfl
theorem F98_eq (l:List Rc) {N:Nat} (hN:161≤N):F98 N l=some (logB l):=by
  have:=F98l_eq l hN N 0 (by omega) (by omega) (by omega)
  simpa [F98,logB] using this
theorem vRc_p {x:Rc} (h:vRc x=true):x.p=0∨x.p=1∨x.p=2∨x.p=3∨x.p=4∨x.p=5:=by
  simp only [vRc,vIt,inB,Bool.and_eq_true,decide_eq_true_eq] at h; omega
theorem F96l_eq (l:List Rc) (hl:l.length≤60) {N:Nat} (hN:161≤N):∀ (m i:Nat),i≤l.length→l.length - i < m →
    F96l1 l N m (cnt (l.take i) 0) (cnt (l.take i) 1) (cnt (l.take i) 2) (cnt (l.take i) 3) (cnt (l.take i) 4) (cnt (l.take i) 5) (i:Int)=some (logR (l.take i) (l.drop i)):=by
  intro m
  induction m with
  | zero=>intro i _ h; omega
  | succ m ih =>
    intro i hi hm
    simp only [F96l1,F96b1]
    by_cases h:i < l.length
    · have hc:=fun p=>cnt_le (l.take i) p
      have ht:((l.take i).length:Int)≤60:=by rw [List.length_take]; omega
      have hk:∀ p,InR (cnt (l.take i) p+1):=fun p=>dy (by have:=hc p; omega) (by have:=hc p; omega)
      have hs:=fun p=>cnt_snoc (l.take i) l[i] p
      rw [← ny h] at hs
      have hn:=ih (i+1) (by omega) (by omega)
      rw [hs,hs,hs,hs,hs,hs] at hn
      rw [if_pos (by omega),du (by omega),Int.toNat_natCast,List.getElem?_eq_getElem h,ba,F17_eq _ hN,ba,drop_get h,logR,← ny h]
      have h60:((l.take i).length:Int) < 60:=by rw [List.length_take]; omega
      cases hv:vRc l[i]
      · simp
      rw [if_pos rfl,if_pos rfl]
      rw [show decide (((l.take i).length:Int) < 60)=true by simpa using h60,Bool.true_and,Bool.true_and]
      have hii:InR ((i:Int)+1):=dy (by omega) (by omega)
      rcases vRc_p hv with hp | hp | hp | hp | hp | hp <;>
        (simp only [hp] at hn ⊢
         simp (config:={ decide:=true }) only [if_true,if_false,Int.add_zero,Int.reduceEq] at hn ⊢
         by_cases he:l[i].n=cnt (l.take i) l[i].p
         · rw [hp] at he
           simp only [he,if_true,F96j3,hp,F96j2,Int.reduceEq,if_false]
           rw [dr (hk _),dr hii,show ((i:Int)+1)=((i+1:Nat):Int) by omega,hn]; simp
         rw [hp] at he; simp [he])
    rw [if_neg (by omega),List.drop_of_length_le (by omega)]
    rfl
theorem F96_eq (l:List Rc) {N:Nat} (hN:161≤N):F96 N l=some (logB l):=by
  unfold F96
  by_cases h:60 < (l.length:Int)
  · rw [if_pos h]
    cases hb:logB l
    · rfl
    have:=np hb; omega
  rw [if_neg h]
  have:=F96l_eq l (by omega) hN N 0 (by omega) (by omega)
  simpa [cnt_nil,logB] using this
end Go.K
end
section
namespace Go.K
open Go.RowKit
def ns (a b:Rc):Prop:=a.p < b.p∨(a.p=b.p∧a.n < b.n)
instance (a b:Rc):Decidable (ns a b):=by unfold ns; infer_instance
theorem F108_eq (x y:Rc):F108 x y=some (decide (ns x y)):=by
  unfold F108 ns
  by_cases h1:x.p < y.p
  · simp [h1]
  by_cases h2:x.p=y.p
  · by_cases h3:x.n < y.n <;> simp [h1,h2,h3]
  simp [h1,h2]
def nv:List Int→Int
  | []=>0
  | x :: r=>if x=0 then nv r else x
theorem F152l_eq (s:List Int) (hs:(s.length:Int)≤1000000000):∀ (m i:Nat),i≤s.length→s.length - i < m→F152l1 s m (i:Int)=some (nv (s.drop i)):=by
  intro m
  induction m with
  | zero=>intro i _ h; omega
  | succ m ih =>
    intro i hi hm
    simp only [F152l1,F152b1]
    by_cases h:i < s.length
    · rw [if_pos (by omega),du (by omega),Int.toNat_natCast,List.getElem?_eq_getElem h,ba,drop_get h,nv]
      by_cases h1:s[i]=0
      · rw [if_pos h1,if_pos h1,dr (dy (by omega) (by omega)),show ((i:Int)+1)=((i+1:Nat):Int) by omega,ih (i+1) (by omega) (by omega)]
      rw [if_neg h1,if_neg h1]
    rw [if_neg (by omega),List.drop_of_length_le (by omega)]
    rfl
theorem F152_eq (s:List Int) (hs:(s.length:Int)≤1000000000) {N:Nat} (hN:s.length < N):F152 N s=some (nv s):=by
  have:=F152l_eq s hs N 0 (by omega) (by omega)
  simpa [F152] using this
theorem F146l_eq (s:List Int) (hs:(s.length:Int)≤1000000000):∀ (m i:Nat),i≤s.length→s.length - i < m→F146l1 s m (i:Int)=some (nv (s.drop i)):=by
  intro m
  induction m with
  | zero=>intro i _ h; omega
  | succ m ih =>
    intro i hi hm
    simp only [F146l1,F146b1]
    by_cases h:i < s.length
    · rw [if_pos (by omega),du (by omega),Int.toNat_natCast,List.getElem?_eq_getElem h,ba,drop_get h,nv]
      by_cases h1:s[i]=0
      · rw [if_pos h1,if_pos h1,dr (dy (by omega) (by omega)),show ((i:Int)+1)=((i+1:Nat):Int) by omega,ih (i+1) (by omega) (by omega)]
      rw [if_neg h1,if_neg h1]
    rw [if_neg (by omega),List.drop_of_length_le (by omega)]
    rfl
theorem F86_eq (s:List Int) (hs:(s.length:Int)≤1000000000) {N:Nat} (hN:s.length < N):F86 N s=some (nv s):=by
  have:=F146l_eq s hs N 0 (by omega) (by omega)
  simp only [F86,F146,show (0:Int)=((0:Nat):Int) from rfl,this,ba,List.drop_zero]
theorem F153_eq (x y:Int):F153 x y=some (if x < y then -1 else if y < x then 1 else 0):=by
  simp only [F153,F153j1,F153j2,F168,ba,Bool.false_eq_true,if_false]
  by_cases h1:x < y
  · simp [h1]
  by_cases h2:y < x <;> simp [h1,h2]
theorem F107_eq (x y:Rc) {N:Nat} (hN:3≤N):F107 N x y=some (ls x y):=by
  simp only [F107,F153_eq,ba]
  rw [F152_eq _ (by simp) (by simp; omega),ba]
  simp only [nv,ls]
  by_cases h1:x.p < y.p
  · simp [h1]
  by_cases h2:y.p < x.p
  · simp [h1,h2]
  by_cases h3:x.n < y.n
  · simp [h1,h2,h3]
  by_cases h4:y.n < x.n <;> simp [h1,h2,h3,h4]
theorem cmpRc_lt (x y:Rc):ls x y < 0↔ns x y:=by
  unfold ls ns; split
  · simp; omega
  split
  · simp; omega
  split
  · simp; omega
  split <;> simp <;> omega
theorem lessRc_trans {a b c:Rc} (h1:ns a b) (h2:ns b c):ns a c:=by unfold ns at *; omega
theorem lessRc_asymm {a b:Rc} (h1:ns a b):¬ ns b a:=by unfold ns at *; omega
def keyNe (a b:Rc):Prop:=¬ (a.p=b.p∧a.n=b.n)
theorem disRc_of {l:List Rc} (h:l.Pairwise keyNe):disRc l=true:=by
  induction h with
  | nil=>rfl
  | @cons x l h _ ih =>
    simp only [disRc,Bool.and_eq_true,List.all_eq_true]
    exact ⟨fun y hy=>by have:=h y hy; unfold keyNe at this; by_cases e:x.p=y.p <;> by_cases e2:x.n=y.n <;> simp [e,e2]; exact this ⟨e,e2⟩,ih⟩
theorem logR_dis:∀ (r done:List Rc),(∀ y∈done,y.n < cnt done y.p)→done.Pairwise keyNe→logR done r=true→(∀ y∈done++r,y.n < cnt (done++r) y.p)∧(done++r).Pairwise keyNe
  | [],done,h1,h2,_=>by simpa using ⟨h1,h2⟩
  | x :: r,done,h1,h2,h=>by
    simp only [logR,Bool.and_eq_true,decide_eq_true_eq] at h
    obtain ⟨⟨⟨_,_⟩,h3⟩,h4⟩:=h
    have hc:=logR_dis r (done++[x]) (fun y hy=>?_) ?_ h4
    · simpa using hc
    · rw [cnt_snoc]
      rcases List.mem_append.1 hy with hy | hy
      · have:=h1 y hy; split <;> omega
      obtain rfl:=List.mem_singleton.1 hy
      rw [if_pos rfl]; omega
    rw [List.pairwise_append]
    refine ⟨h2,by simp,fun a ha b hb=>?_⟩
    obtain rfl:=List.mem_singleton.1 hb
    rintro ⟨e1,e2⟩
    have:=h1 a ha
    rw [e1,← h3] at this; omega
theorem logB_dis {l:List Rc} (h:logB l=true):l.Pairwise keyNe:=by
  have:=(logR_dis l [] (by simp) List.Pairwise.nil h).2
  simpa using this
def adjP (l:List Rc):Prop:=∀ (j:Nat) (h:j+1 < l.length),ns (l[j]'(by omega)) (l[j+1]'h)
def bookP (l:List Rc):Prop:=logB l=true∧adjP l
theorem adjP_pw {l:List Rc} (h:adjP l):l.Pairwise ns:=by
  rw [List.pairwise_iff_getElem]
  intro i j hi hj hij
  induction j with
  | zero=>omega
  | succ j ih =>
    by_cases he:i=j
    · subst he; exact h i hj
    exact lessRc_trans (ih (by omega) (by omega)) (h j hj)
theorem pw_le {l:List Rc} (h:l.Pairwise ns):l.Pairwise fun a b=>¬ ls b a < 0:=h.imp fun {a b} hab=>by rw [cmpRc_lt]; exact lessRc_asymm hab
theorem F37l_eq (l:List Rc) (hl:l.length≤60):∀ (m i:Nat),i≤l.length→l.length - i < m →
    ((∀ (j:Nat) (h:j+1 < l.length),i≤j+1→ns (l[j]'(by omega)) (l[j+1]'h))→F37l1 l m (i:Int)=some 0) ∧
    ((¬ ∀ (j:Nat) (h:j+1 < l.length),i≤j+1→ns (l[j]'(by omega)) (l[j+1]'h))→F37l1 l m (i:Int)=some 81):=by
  intro m
  induction m with
  | zero=>intro i _ h; omega
  | succ m ih =>
    intro i hi hm
    simp only [F37l1,F37b1]
    by_cases h:i < l.length
    · have hn:=ih (i+1) (by omega) (by omega)
      have hst:((i:Int)+1)=((i+1:Nat):Int):=by omega
      rw [if_pos (by omega)]
      match i,h,hi,hm,hn,hst with
      | 0,h,hi,hm,hn,hst =>
        rw [if_neg (by simp)]
        simp only [F37j2]; rw [dr (dy (by omega) (by omega)),hst]
        exact ⟨fun hh=>hn.1 fun j hj _=>hh j hj (by omega),fun hh=>hn.2 fun h2=>hh fun j hj _=>h2 j hj (by omega)⟩
      | k+1,h,hi,hm,hn,hst =>
        rw [if_pos (by omega),dr (dy (by omega) (by omega)),show (((k+1:Nat):Int) - 1)=(k:Int) by omega,du (by omega),Int.toNat_natCast,List.getElem?_eq_getElem (show k < l.length by omega),ba,du (by omega),Int.toNat_natCast,List.getElem?_eq_getElem h,ba,F108_eq,ba]
        by_cases hk:ns (l[k]'(by omega)) l[k+1]
        · rw [if_pos (by simpa using hk)]
          simp only [F37j2]; rw [dr (dy (by omega) (by omega)),hst]
          refine ⟨fun hh=>hn.1 fun j hj _=>hh j hj (by omega),fun hh=>hn.2 fun h2=>hh fun j hj hjk=>?_⟩
          by_cases he:j=k
          · subst he; exact hk
          exact h2 j hj (by omega)
        rw [if_neg (by simpa using hk)]
        exact ⟨fun hh=>absurd (hh k h (by omega)) hk,fun _=>rfl⟩
    rw [if_neg (by omega)]
    exact ⟨fun _=>rfl,fun hh=>absurd (fun j hj hij=>by omega) hh⟩
theorem F37_ok {l:List Rc} (h:bookP l) {N:Nat} (hN:161≤N):F37 N l=some 0:=by
  rw [F37,F98_eq l hN,ba,if_pos h.1]
  exact (F37l_eq l (np h.1) N 0 (by omega) (by have:=np h.1; omega)).1 fun j hj _=>h.2 j hj
theorem F37_no {l:List Rc} (h:¬ bookP l) {N:Nat} (hN:161≤N):F37 N l=some 81:=by
  rw [F37,F98_eq l hN,ba]
  by_cases hb:logB l=true
  · rw [if_pos hb]
    exact (F37l_eq l (np hb) N 0 (by omega) (by have:=np hb; omega)).2 fun hh=>h ⟨hb,fun j hj=>hh j hj (by omega)⟩
  rw [if_neg hb]
theorem F36l_eq (l:List Rc) (hl:l.length≤60) {N:Nat} (hN:161≤N):∀ (m i:Nat) (hi:i=0∨i < l.length),i < m →
    ((∀ (j:Nat) (h:j+1 < l.length),j+1≤i→¬ ls (l[j+1]'h) (l[j]'(by omega)) < 0)→F36l2 l N m (i:Int)=some 0) ∧
    ((¬ ∀ (j:Nat) (h:j+1 < l.length),j+1≤i→¬ ls (l[j+1]'h) (l[j]'(by omega)) < 0)→F36l2 l N m (i:Int)=some 81):=by
  intro m
  induction m with
  | zero=>intro i _ h; omega
  | succ m ih =>
    intro i hi hm
    simp only [F36l2,F36b2]
    match i,hi,hm with
    | 0,hi,hm =>
      rw [if_neg (by simp)]
      exact ⟨fun _=>by simp [F36j1,F78,ba],fun hh=>absurd (fun j hj hij=>by omega) hh⟩
    | k+1,hi,hm =>
      have hk:k+1 < l.length:=by omega
      have hn:=ih k (by omega) (by omega)
      rw [if_pos (by omega),du (by omega),Int.toNat_natCast,List.getElem?_eq_getElem hk,ba,dr (dy (by omega) (by omega)),show (((k+1:Nat):Int) - 1)=(k:Int) by omega,du (by omega),Int.toNat_natCast,List.getElem?_eq_getElem (show k < l.length by omega),ba,F107_eq _ _ (by omega),ba]
      by_cases hc:ls l[k+1] (l[k]'(by omega)) < 0
      · rw [if_pos hc]
        exact ⟨fun hh=>absurd hc (hh k hk (by omega)),fun _=>by simp [F78,ba]⟩
      rw [if_neg hc]
      refine ⟨fun hh=>hn.1 fun j hj hij=>hh j hj (by omega),fun hh=>hn.2 fun h2=>hh fun j hj hij=>?_⟩
      by_cases he:j=k
      · subst he; exact hc
      exact h2 j hj (by omega)
theorem adj_iff {l:List Rc} (hb:logB l=true) (j:Nat) (h:j+1 < l.length):(¬ ls (l[j+1]'h) (l[j]'(by omega)) < 0)↔ns (l[j]'(by omega)) (l[j+1]'h):=by
  have:=(List.pairwise_iff_getElem.1 (logB_dis hb)) j (j+1) (by omega) h (by omega)
  rw [cmpRc_lt]; unfold ns keyNe at *; omega
theorem F36_ok {l:List Rc} (h:bookP l) {N:Nat} (hN:161≤N):F36 N l=some 0:=by
  have hl:=np h.1
  rw [F36,F96_eq l hN,ba,if_pos h.1,dr (dy (by omega) (by omega))]
  by_cases h0:l.length=0
  · obtain rfl:l=[]:=List.eq_nil_of_length_eq_zero h0
    match N,hN with
    | N+1,_=>rfl
  rw [show ((l.length:Int) - 1)=((l.length - 1:Nat):Int) by omega]
  exact (F36l_eq l hl hN N (l.length - 1) (by omega) (by omega)).1 fun j hj _=>(adj_iff h.1 j hj).2 (h.2 j hj)
theorem F36_no {l:List Rc} (h:¬ bookP l) {N:Nat} (hN:161≤N):F36 N l=some 81:=by
  rw [F36,F96_eq l hN,ba]
  by_cases hb:logB l=true
  · have hl:=np hb
    rw [if_pos hb,dr (dy (by omega) (by omega))]
    by_cases h0:l.length=0
    · exact absurd ⟨hb,fun j hj=>by omega⟩ h
    rw [show ((l.length:Int) - 1)=((l.length - 1:Nat):Int) by omega]
    exact (F36l_eq l hl hN N (l.length - 1) (by omega) (by omega)).2 fun hh=>h ⟨hb,fun j hj=>(adj_iff hb j hj).1 (hh j hj (by omega))⟩
  rw [if_neg hb]; rfl
end Go.K
end
section
namespace Go.K
open Go.RowKit
theorem insRc_at (x:Rc):∀ (l:List Rc) (i:Nat),i≤l.length→(∀ y∈l.take i,ls y x < 0)→insRc x l=l.take i++insRc x (l.drop i)
  | l,0,_,_=>by simp
  | [],i+1,h,_=>by simp at h
  | y :: l,i+1,h,hh=>by
    rw [insRc,if_pos (hh y (by simp)),insRc_at x l i (by simpa using h) fun z hz=>hh z (by simp [hz])]
    simp
theorem F104j1_eq (l:List Rc) (x:Rc) (hl:l.length≤1000000) (i:Nat) (hi:i≤l.length):F104j1 l x (i:Int)=some (l.take i++x :: l.drop i):=by
  unfold F104j1
  rw [du (by omega),Int.toNat_natCast,du ⟨by omega,hi⟩]
  have e1:(l.drop 0).take (i - 0)=l.take i:=by simp
  have e2:(l.drop i).take (l.length - i)=l.drop i:=List.take_of_length_le (by simp)
  rw [e1,e2]
  have ht:(l.take i).length≤l.length:=by rw [List.length_take]; omega
  have hd:(l.drop i).length≤l.length:=by rw [List.length_drop]; omega
  rw [du (by omega),du (by omega),du ⟨hi,Nat.le_refl _⟩,du (by simp; omega)]
  simp
theorem F104l_eq (l:List Rc) (x:Rc) (hl:l.length≤1000000):∀ (m i:Nat),i≤l.length→l.length - i < m→(∀ y∈l.take i,ls y x < 0)→F104l2 l x m (i:Int)=some (insRc x l):=by
  intro m
  induction m with
  | zero=>intro i _ h; omega
  | succ m ih =>
    intro i hi hm hh
    simp only [F104l2,F104b2]
    by_cases h:i < l.length
    · rw [if_pos (by omega),du (by omega),Int.toNat_natCast,List.getElem?_eq_getElem h,ba,F108_eq,ba]
      by_cases h1:ns l[i] x
      · rw [if_pos (by simpa using h1),dr (dy (by omega) (by omega)),show ((i:Int)+1)=((i+1:Nat):Int) by omega]
        refine ih (i+1) (by omega) (by omega) fun y hy=>?_
        rw [ny h] at hy
        rcases List.mem_append.1 hy with hy | hy
        · exact hh y hy
        obtain rfl:=List.mem_singleton.1 hy
        exact (cmpRc_lt _ _).2 h1
      rw [if_neg (by simpa using h1),F104j3,F104j1_eq l x hl i hi,insRc_at x l i hi hh,drop_get h,insRc,if_neg (by rw [cmpRc_lt]; exact h1)]
    rw [if_neg (by omega),F104j3,F104j1_eq l x hl i hi,insRc_at x l i hi hh,List.drop_of_length_le (by omega)]
    rfl
theorem F104_eq (l:List Rc) (x:Rc) (hl:l.length≤1000000) {N:Nat} (hN:l.length < N):F104 N l x=some (insRc x l):=by
  have:=F104l_eq l x hl N 0 (by omega) (by omega) (by simp)
  simpa [F104] using this
def putRc (o l:List Rc):List Rc:=l.foldl (fun o x=>insRc x o) o
theorem putRc_perm:∀ (l o:List Rc),(putRc o l).Perm (o++l)
  | [],o=>by simp [putRc]
  | x :: l,o=>by
    have h1:=putRc_perm l (insRc x o)
    have h2:=(insRc_perm x o).append_right l
    have h3:(x :: o++l).Perm (o++x :: l):=by simpa using (List.perm_middle (l₁:=o) (l₂:=l) (a:=x)).symm
    exact (h1.trans h2).trans h3
theorem putRc_le:∀ (l o:List Rc),(o.Pairwise fun a b=>¬ ls b a < 0)→(putRc o l).Pairwise fun a b=>¬ ls b a < 0
  | [],o,h=>h
  | x :: l,o,h=>putRc_le l (insRc x o) (insRc_le x o h)
theorem putRc_srt {o l:List Rc} (hd:(o++l).Pairwise keyNe) (ho:o.Pairwise fun a b=>¬ ls b a < 0):putRc o l=oa (o++l) :=
  srtRc_uniq (disRc_of hd) (putRc_perm l o) (putRc_le l o ho)
theorem putRc_len (o l:List Rc):(putRc o l).length=o.length+l.length:=by
  have:=(putRc_perm l o).length_eq; simpa using this
theorem F99l_eq (l:List Rc) (hl:l.length≤60) {N:Nat} (hN:161≤N):∀ (m i:Nat),i≤l.length→l.length - i < m→F99l1 l N m (putRc [] (l.take i)) (i:Int)=some (putRc [] l):=by
  intro m
  induction m with
  | zero=>intro i _ h; omega
  | succ m ih =>
    intro i hi hm
    simp only [F99l1,F99b1]
    by_cases h:i < l.length
    · have hp:=putRc_len [] (l.take i)
      have ht:(l.take i).length≤60:=by rw [List.length_take]; omega
      rw [if_pos (by omega),du (by omega),Int.toNat_natCast,List.getElem?_eq_getElem h,ba,F104_eq _ _ (by simp at hp; omega) (by simp at hp; omega),ba,dr (dy (by omega) (by omega)),show ((i:Int)+1)=((i+1:Nat):Int) by omega]
      have:=ih (i+1) (by omega) (by omega)
      rw [ny h,putRc,List.foldl_append] at this
      exact this
    rw [if_neg (by omega),List.take_of_length_le (by omega)]
theorem F99_eq (l:List Rc) (hl:l.length≤60) {N:Nat} (hN:161≤N):F99 N l=some (putRc [] l):=by
  have:=F99l_eq l hl hN N 0 (by omega) (by omega)
  simpa [F99,putRc] using this
theorem F97_eq (l:List Rc) (hl:l.length≤1000000) (hd:l.Pairwise keyNe):F97 l=some (oa l):=by
  rw [F97,F102,du (by omega),ba,du (by omega),du (disRc_of hd)]
theorem F27_eq (l:List Rc) {N:Nat} (hN:161≤N):F27 N l=some (if logB l=true then (oa l,0) else ([],81)):=by
  rw [F27,F96_eq l hN,ba]
  by_cases h:logB l=true
  · rw [if_pos h,if_pos h,F97_eq l (by have:=np h; omega) (logB_dis h),ba]
  rw [if_neg h,if_neg h]
theorem F28_eq (l:List Rc) {N:Nat} (hN:161≤N):F28 N l=some (if logB l=true then (oa l,0) else ([],81)):=by
  rw [F28,F98_eq l hN,ba]
  by_cases h:logB l=true
  · rw [if_pos h,if_pos h,F99_eq l (np h) hN,ba,putRc_srt (by simpa using logB_dis h) List.Pairwise.nil]; rfl
  rw [if_neg h,if_neg h]
def findRc (l:List Rc) (p n:Int):Option Rc:=l.find? fun y=>decide (y.p=p) && decide (y.n=n)
def eqRc (x y:Rc):Bool:=decide (x.p=y.p) && decide (x.n=y.n) && decide (x.k=y.k) && decide (x.d=y.d) && decide (x.kn=y.kn) && decide (x.op=y.op) && decide (x.on=y.on) && decide (x.t=y.t)
theorem F100l_eq (l:List Rc) (hl:l.length≤1000000) (x:Rc):∀ (m i:Nat),i≤l.length→l.length - i < m →
    F100l1 l x m (i:Int)=some (match findRc (l.drop i) x.p x.n with | some y=>if eqRc y x=true then (true,0) else (false,82) | none=>(false,0)):=by
  intro m
  induction m with
  | zero=>intro i _ h; omega
  | succ m ih =>
    intro i hi hm
    simp only [F100l1,F100b1]
    by_cases h:i < l.length
    · rw [if_pos (by omega),du (by omega),Int.toNat_natCast,List.getElem?_eq_getElem h,ba,drop_get h,findRc,List.find?_cons]
      cases hk:(decide (l[i].p=x.p) && decide (l[i].n=x.n))
      · rw [if_neg (by simp),dr (dy (by omega) (by omega)),show ((i:Int)+1)=((i+1:Nat):Int) by omega,ih (i+1) (by omega) (by omega)]
        rfl
      rw [if_pos rfl]
      have hq:(true && decide (l[i].k=x.k) && decide (l[i].d=x.d) && decide (l[i].kn=x.kn) && decide (l[i].op=x.op) && decide (l[i].on=x.on) && decide (l[i].t=x.t))=eqRc l[i] x:=by unfold eqRc; rw [hk]
      rw [hq]
      cases he:eqRc l[i] x <;> simp [F78,ba,he]
    rw [if_neg (by omega),List.drop_of_length_le (by omega)]
    rfl
theorem F100_eq (l:List Rc) (hl:l.length≤1000000) (x:Rc) {N:Nat} (hN:l.length < N) :
    F100 N l x=some (match findRc l x.p x.n with | some y=>if eqRc y x=true then (true,0) else (false,82) | none=>(false,0)):=by
  have:=F100l_eq l hl x N 0 (by omega) (by omega)
  simpa [F100] using this
theorem F105l_eq (l:List Rc) (hl:l.length≤1000000) (it:It):∀ (m i:Nat),i≤l.length→l.length - i < m →
    (∃ (j:Nat) (y:Rc),F105l1 l it m (i:Int)=some (j:Int)∧l[j]?=some y∧findRc (l.drop i) it.p it.n=some y)∨(F105l1 l it m (i:Int)=some (-1)∧findRc (l.drop i) it.p it.n=none):=by
  intro m
  induction m with
  | zero=>intro i _ h; omega
  | succ m ih =>
    intro i hi hm
    simp only [F105l1,F105b1]
    by_cases h:i < l.length
    · rw [if_pos (by omega),du (by omega),Int.toNat_natCast,List.getElem?_eq_getElem h,ba,drop_get h,findRc,List.find?_cons]
      cases hk:(decide (l[i].p=it.p) && decide (l[i].n=it.n))
      · rw [if_neg (by simp),dr (dy (by omega) (by omega)),show ((i:Int)+1)=((i+1:Nat):Int) by omega]
        exact ih (i+1) (by omega) (by omega)
      rw [if_pos rfl]
      exact .inl ⟨i,l[i],rfl,List.getElem?_eq_getElem h,rfl⟩
    rw [if_neg (by omega),List.drop_of_length_le (by omega)]
    exact .inr ⟨rfl,rfl⟩
theorem F105_eq (l:List Rc) (hl:l.length≤1000000) (it:It) {N:Nat} (hN:l.length < N) :
    (∃ (j:Nat) (y:Rc),F105 N l it=some (j:Int)∧l[j]?=some y∧findRc l it.p it.n=some y)∨(F105 N l it=some (-1)∧findRc l it.p it.n=none):=by
  have:=F105l_eq l hl it N 0 (by omega) (by omega)
  simpa [F105] using this
end Go.K
end
section
namespace Go.K
open Go.RowKit
set_option maxRecDepth 20000
theorem findRc_none {l:List Rc} {p n:Int} (h:findRc l p n=none):∀ y∈l,¬ (y.p=p∧y.n=n):=by
  intro y hy
  have:=List.find?_eq_none.1 h y hy
  simpa using this
theorem eqRc_fold (x y:Rc):(decide (x.p=y.p) && decide (x.n=y.n) && decide (x.k=y.k) && decide (x.d=y.d) && decide (x.kn=y.kn) && decide (x.op=y.op) && decide (x.on=y.on) && decide (x.t=y.t))=eqRc x y:=rfl
theorem F29_F30 (l:List Rc) (x:Rc) {N:Nat} (hN:161≤N):∃ v,F29 N l x=some v∧F30 N l x=some v∧v.1.length≤61:=by
  by_cases hb:bookP l
  · have hl:=np hb.1
    rw [F29,F30,F36_ok hb hN,F37_ok hb hN,ba,ba,F17_eq x hN,ba,F86_eq _ (by simp) (by simp; omega),ba,if_pos rfl,F103,F18_eq x hN,ba]
    by_cases hv:vRc x=true
    · simp only [if_pos hv]
      rw [show nv [0,0]=0 from rfl,if_pos rfl,if_pos trivial,F100_eq l (by omega) x (by omega),ba]
      rcases F105_eq l (by omega) ⟨x.p,x.n⟩ (N:=N) (by omega) with ⟨j,y,e1,e2,e3⟩ | ⟨e1,e3⟩
      · replace e3:findRc l x.p x.n=some y:=e3
        rw [e1,e3]
        dsimp only
        rw [ba,if_pos (show (0:Int)≤(j:Int) by omega),Int.toNat_natCast,e2,ba,eqRc_fold]
        rcases Bool.eq_false_or_eq_true (eqRc y x) with he | he
        rotate_left
        · simp only [he,Bool.false_eq_true,if_false,ba]
          rw [F101_eq l (by omega) x.p (by omega),ba]
          refine ⟨([],82),?_,by simp,by simp⟩
          by_cases h1:x.n≤cnt l x.p <;> by_cases h2:(l.length:Int) < 60 <;>
            simp [h1,h2,F78,ba,F29j1,F29j2] <;> rw [F86_eq _ (by simp) (by simp; omega),ba] <;> simp [nv]
        simp only [he,if_true,ba,F103j1]
        rw [if_pos (show (0:Int)≤(j:Int) by omega),ba,F97_eq l (by omega) (logB_dis hb.1),ba]
        simp only [if_true]
        rw [F99_eq l hl hN,ba,putRc_srt (by simpa using logB_dis hb.1) List.Pairwise.nil]
        exact ⟨_,rfl,rfl,by simp [srtRc_len]; omega⟩
      replace e3:findRc l x.p x.n=none:=e3
      rw [e1,e3]
      dsimp only
      rw [ba,if_neg (show ¬ (0:Int)≤-1 by decide)]
      simp only [Bool.false_eq_true,if_false,F103j1]
      rw [if_neg (show ¬ (0:Int)≤-1 by decide),F101_eq l (by omega) x.p (by omega),ba,F132_eq l (by omega) x.p (by omega),ba]
      have hd:(l++[x]).Pairwise keyNe:=by
        rw [List.pairwise_append]
        refine ⟨logB_dis hb.1,by simp,fun a ha b hbm=>?_⟩
        obtain rfl:=List.mem_singleton.1 hbm
        exact findRc_none e3 a ha
      by_cases h1:x.n≤cnt l x.p
      · rw [if_pos h1,if_neg (by omega)]
        by_cases h2:(l.length:Int) < 60
        · simp only [F78,if_true,ba,F29j1,if_pos h2,F29j2]
          rw [F86_eq _ (by simp) (by simp; omega),ba,show nv [0,0,0]=0 from rfl,if_pos rfl,F102,du (by omega),ba,du (by omega),if_neg (show ¬ (l.length:Int)=60 by omega),ba,if_pos rfl,if_neg (by simp),F104_eq l x (by omega) (by omega),ba]
          show ∃ v,bp (F97 (l++[x])) _=some v∧_
          rw [F97_eq _ (by simp; omega) hd,ba,← putRc_srt hd (pw_le (adjP_pw hb.2))]
          exact ⟨_,rfl,rfl,by simp [putRc_len]; omega⟩
        simp only [F78,if_true,Bool.false_eq_true,if_false,ba,F29j1,if_neg h2,F29j2]
        rw [F86_eq _ (by simp) (by simp; omega),ba,show nv [0,0,2]=2 from rfl,if_neg (by decide),if_pos (show (l.length:Int)=60 by omega),ba,if_neg (by decide)]
        exact ⟨_,rfl,rfl,by simp⟩
      rw [if_neg h1,if_pos (by omega)]
      refine ⟨([],83),?_,by simp [ba],by simp⟩
      by_cases h2:(l.length:Int) < 60 <;>
        simp [h2,F78,ba,F29j1,F29j2] <;> rw [F86_eq _ (by simp) (by simp; omega),ba] <;> simp [nv]
    simp only [if_neg hv]
    rw [show nv [0,80]=80 from rfl,if_neg (by decide),if_neg (by decide),ba,if_neg (by decide)]
    exact ⟨_,rfl,rfl,by simp⟩
  rw [F29,F30,F36_no hb hN,F37_no hb hN,ba,ba,F17_eq x hN,ba,F86_eq _ (by simp) (by simp; omega),ba]
  refine ⟨([],81),?_,by simp,by simp⟩
  simp [nv]
theorem F31_loop (a b:List Rc) (ha:bookP a) (hb:bookP b) {N:Nat} (hN:161≤N):∀ (m i:Nat) (nw:List Rc),i≤b.length→b.length - i < m→(a++nw).Pairwise keyNe→(∀ y∈nw,y∈b.take i)→nw.length≤i →
    ∃ v,F31l2 a b N m (a++nw) (i:Int)=some v∧F32l2 a b N m (putRc a nw) (i:Int)=some v∧v.1.length≤61:=by
  have hla:=np ha.1
  have hlb:=np hb.1
  intro m
  induction m with
  | zero=>intro i _ _ h; omega
  | succ m ih =>
    intro i nw hi hm hpw hsub hlen
    have hpl:=putRc_len a nw
    simp only [F31l2,F31b2,F32l2,F32b2]
    by_cases h:i < b.length
    · rw [if_pos (by omega),if_pos (by omega),du (by omega),du (by omega),Int.toNat_natCast,List.getElem?_eq_getElem h,ba,ba,F100_eq a (by omega) b[i] (by omega),ba]
      have hst:((i:Int)+1)=((i+1:Nat):Int):=by omega
      have hii:InR ((i:Int)+1):=dy (by omega) (by omega)
      rcases F105_eq a (by omega) ⟨b[i].p,b[i].n⟩ (N:=N) (by omega) with ⟨j,y,e1,e2,e3⟩ | ⟨e1,e3⟩
      · replace e3:findRc a b[i].p b[i].n=some y:=e3
        rw [e1,e3]
        dsimp only
        rw [ba,if_pos (show (0:Int)≤(j:Int) by omega),Int.toNat_natCast,e2,ba,eqRc_fold]
        rcases Bool.eq_false_or_eq_true (eqRc y b[i]) with he | he
        rotate_left
        · exact ⟨([],82),by simp [he],by simp [he],by simp⟩
        simp only [he,if_true,F31j3,F32j4,F32j3]
        rw [if_neg (show ¬ (j:Int) < 0 by omega),dr hii,dr hii,hst]
        refine ih (i+1) nw (by omega) (by omega) hpw (fun y hy=>by rw [ny h]; exact List.mem_append_left _ (hsub y hy)) (by omega)
      replace e3:findRc a b[i].p b[i].n=none:=e3
      rw [e1,e3]
      dsimp only
      rw [ba,if_neg (show ¬ (0:Int)≤-1 by decide)]
      simp only [if_true,Bool.false_eq_true,if_false,F31j3,F32j4,F32j3]
      rw [du (by simp; omega),if_pos (show (-1:Int) < 0 by decide),F104_eq _ _ (by omega) (by omega),ba,dr hii,dr hii,hst,List.append_assoc]
      have:=ih (i+1) (nw++[b[i]]) (by omega) (by omega) ?_ ?_ (by simp; omega)
      · have e:putRc a (nw++[b[i]])=insRc b[i] (putRc a nw):=by unfold putRc; rw [List.foldl_append]; rfl
        rw [e] at this
        exact this
      · rw [← List.append_assoc,List.pairwise_append]
        refine ⟨hpw,by simp,fun c hc d hd=>?_⟩
        obtain rfl:=List.mem_singleton.1 hd
        rcases List.mem_append.1 hc with hc | hc
        · exact findRc_none e3 c hc
        obtain ⟨k,hk,rfl⟩:=List.mem_iff_getElem.1 (hsub c hc)
        rw [List.length_take] at hk
        have:=(List.pairwise_iff_getElem.1 (logB_dis hb.1)) k i (by omega) h (by omega)
        simpa using this
      intro y hy
      rw [ny h]
      rcases List.mem_append.1 hy with hy | hy
      · exact List.mem_append_left _ (hsub y hy)
      exact List.mem_append_right _ hy
    rw [if_neg (by omega),if_neg (by omega),F31j1,F32j1]
    have he:((a++nw).length:Int)=((putRc a nw).length:Int):=by rw [hpl]; simp
    by_cases h60:60 < ((a++nw).length:Int)
    · rw [if_pos h60,if_pos (by omega)]
      exact ⟨_,rfl,rfl,by simp⟩
    rw [if_neg h60,if_neg (by omega),F97_eq _ (by omega) hpw,ba,putRc_srt hpw (pw_le (adjP_pw ha.2))]
    exact ⟨_,rfl,rfl,by simp [srtRc_len]; simp at h60; omega⟩
theorem F31_F32 (a b:List Rc) {N:Nat} (hN:161≤N):∃ v,F31 N a b=some v∧F32 N a b=some v∧v.1.length≤61:=by
  rw [F31,F32]
  by_cases ha:bookP a
  · have hla:=np ha.1
    rw [F36_ok ha hN,F37_ok ha hN,ba,ba,if_pos rfl]
    by_cases hb:bookP b
    · have hlb:=np hb.1
      rw [F36_ok hb hN,F37_ok hb hN,ba,ba,if_pos rfl,F86_eq _ (by simp) (by simp; omega),ba,show nv [0,0]=0 from rfl,if_pos rfl,F102,du (by omega),ba,du (by omega)]
      have:=F31_loop a b ha hb hN N 0 [] (by omega) (by omega) (by simpa using logB_dis ha.1) (by simp) (by simp)
      simpa [putRc] using this
    rw [F36_no hb hN,F37_no hb hN,ba,ba,if_neg (by decide),F86_eq _ (by simp) (by simp; omega),ba,show nv [0,81]=81 from rfl,if_neg (by decide)]
    exact ⟨_,rfl,rfl,by simp⟩
  rw [F36_no ha hN,F37_no ha hN,ba,ba,if_neg (by decide)]
  by_cases hb:bookP b
  · rw [F36_ok hb hN,ba,F86_eq _ (by simp) (by simp; omega),ba,show nv [81,0]=81 from rfl,if_neg (by decide)]
    exact ⟨_,rfl,rfl,by simp⟩
  rw [F36_no hb hN,ba,F86_eq _ (by simp) (by simp; omega),ba,show nv [81,81]=81 from rfl,if_neg (by decide)]
  exact ⟨_,rfl,rfl,by simp⟩
end Go.K
end
section
namespace Go.K
open Go.RowKit
end Go.K
end
section
namespace Go.K
open Go.RowKit
def txtN:List Int→Str
  | []=>[]
  | n :: r=>itoaS n++[32]++txtN r
def nsOf (r:Rc):List Int:=[r.p,r.n,r.k,r.d,r.kn,r.op,r.on]
def txtS (r:Rc):Str:=txtN (nsOf r)++r.t
end Go.K
end
section
namespace Go.K
open Go.RowKit
def pickQ (q:Int) (x y:Int):Int:=if q=0 then x else if q=1 then y else 32+(x+y - 64) % 95
def thQ (q:Int):Str→List Int
  | []=>[]
  | [x]=>[pickQ q (nb x) 32]
  | x :: y :: r=>pickQ q (nb x) (nb y) :: thQ q r
end Go.K
end
section
namespace Go.K
open Go.RowKit
def strips (r:Rc) (no:Int):List Sp3:=[⟨no,(txtS r).length,bl (thQ 0 (txtS r))⟩,⟨no,(txtS r).length,bl (thQ 1 (txtS r))⟩,⟨no,(txtS r).length,bl (thQ 2 (txtS r))⟩]
end Go.K
end
section
namespace Go.K
open Go.RowKit
def lastB (s:Str):Bool:=decide (s.getLast?=some 32)
def wholeB (q:Int) (s:Sp3):Bool:=inB s.no 0 59 && inB s.sz 14 240 && decide ((s.t.length:Int)=(s.sz+1).tdiv 2) && plainB s.t && (!(decide (q=1) && decide (s.sz.tmod 2=1)) || lastB s.t)
end Go.K
end
section
namespace Go.K
open Go.RowKit
end Go.K
end
section
namespace Go.K
open Go.RowKit
def difQ (z x:Int):Int:=32+(z - x+95) % 95
def okI (x:Int):Prop:=32≤x∧x≤126
def zipQ:List Int→List Int→List Int
  | x :: a,y :: b=>x :: y :: zipQ a b
  | _,_=>[]
end Go.K
end
section
namespace Go.K
open Go.RowKit
def mendQ (p q:Int) (X Y:List Int):List Int :=
  if p=0 then (if q=1 then zipQ X Y else zipQ X (List.zipWith difQ Y X)) else zipQ (List.zipWith difQ Y X) X
end Go.K
end
section
namespace Go.K
open Go.RowKit
end Go.K
end
section
namespace Go.K
open Go.RowKit
end Go.K
end
section
namespace Go.K
open Go.RowKit
end Go.K
end
section
namespace Go.K
open Go.RowKit
def mendS (p q:Int) (s t:Sp3):Str:=if q < p then bl ((mendQ q p (bytesOf t.t) (bytesOf s.t)).take t.sz.toNat) else bl ((mendQ p q (bytesOf s.t) (bytesOf t.t)).take s.sz.toNat)
def matchB (p q:Int) (s t:Sp3):Bool:=wholeB p s && wholeB q t && decide (s.no=t.no) && decide (s.sz=t.sz)
set_option maxRecDepth 100000 in
theorem sane_run (n:Nat):F19 (n+400)=some true:=by kernel_rfl
theorem sane_ok {N:Nat} (h:400≤N):F19 N=some true:=by
  obtain ⟨k,rfl⟩:=Nat.exists_eq_add_of_le' h
  exact sane_run k
end Go.K
end
section
namespace Go.K
open Go.RowKit
theorem logR_v:∀ (r done:List Rc),logR done r=true→∀ y∈r,vRc y=true
  | [],_,_,y,hy=>by cases hy
  | x :: r,done,h,y,hy=>by
    simp only [logR,Bool.and_eq_true,decide_eq_true_eq] at h
    obtain ⟨⟨⟨_,h2⟩,_⟩,h4⟩:=h
    rcases List.mem_cons.1 hy with rfl | hy
    · exact h2
    exact logR_v r _ h4 y hy
theorem F34l_eq (l:List Rc) (hl:l.length≤60) (hv:∀ y∈l,vRc y=true):∀ (m i:Nat),i≤l.length→l.length - i < m →
    F34l1 l m (cnt (l.take i) 0) (cnt (l.take i) 1) (cnt (l.take i) 2) (cnt (l.take i) 3) (cnt (l.take i) 4) (cnt (l.take i) 5) (i:Int)=some (cnt l 0,cnt l 1,cnt l 2,cnt l 3,cnt l 4,cnt l 5,0):=by
  intro m
  induction m with
  | zero=>intro i _ h; omega
  | succ m ih =>
    intro i hi hm
    simp only [F34l1,F34b1]
    by_cases h:i < l.length
    · have hc:=fun p=>cnt_le (l.take i) p
      have ht:((l.take i).length:Int)≤60:=by rw [List.length_take]; omega
      have hk:∀ p,InR (cnt (l.take i) p+1):=fun p=>dy (by have:=hc p; omega) (by have:=hc p; omega)
      have hs:=fun p=>cnt_snoc (l.take i) l[i] p
      rw [← ny h] at hs
      have hn:=ih (i+1) (by omega) (by omega)
      rw [hs,hs,hs,hs,hs,hs] at hn
      rw [if_pos (by omega),du (by omega),Int.toNat_natCast,List.getElem?_eq_getElem h,ba]
      have hii:InR ((i:Int)+1):=dy (by omega) (by omega)
      rcases vRc_p (hv l[i] (List.getElem_mem h)) with hp | hp | hp | hp | hp | hp <;>
        (simp only [hp] at hn ⊢
         simp (config:={ decide:=true }) only [if_true,if_false,Int.add_zero,Int.reduceEq] at hn ⊢
         rw [dr (hk _)]
         simp only [F34j2]
         rw [dr hii,show ((i:Int)+1)=((i+1:Nat):Int) by omega,hn])
    rw [if_neg (by omega),List.take_of_length_le (by omega)]
theorem F34_eq {l:List Rc} (h:bookP l) {N:Nat} (hN:161≤N):F34 N l=some (cnt l 0,cnt l 1,cnt l 2,cnt l 3,cnt l 4,cnt l 5,0):=by
  have hl:=np h.1
  rw [F34,F37_ok h hN,ba,if_pos rfl]
  have:=F34l_eq l hl (logR_v l [] h.1) N 0 (by omega) (by omega)
  simpa [cnt_nil] using this
theorem F33l_eq (l:List Rc) (hl:l.length≤60) {N:Nat} (hN:161≤N) (m:Nat):F33l1 l N (m+7) 0 0 0 0 0 0 0=some (cnt l 0,cnt l 1,cnt l 2,cnt l 3,cnt l 4,cnt l 5,0):=by
  have h:∀ p,F101 N l p=some (cnt l p):=fun p=>F101_eq l (by omega) p (by omega)
  show F33b1 l N (F33l1 l N (m+6)) 0 0 0 0 0 0 0=_
  rw [F33b1,if_pos (by decide),h,ba,if_pos rfl,F33j2,dr (dy (by decide) (by decide))]
  show F33b1 l N (F33l1 l N (m+5)) (cnt l 0) 0 0 0 0 0 1=_
  rw [F33b1,if_pos (by decide),h,ba,if_neg (by decide),if_pos rfl,F33j2,dr (dy (by decide) (by decide))]
  show F33b1 l N (F33l1 l N (m+4)) (cnt l 0) (cnt l 1) 0 0 0 0 2=_
  rw [F33b1,if_pos (by decide),h,ba,if_neg (by decide),if_neg (by decide),if_pos rfl,F33j2,dr (dy (by decide) (by decide))]
  show F33b1 l N (F33l1 l N (m+3)) (cnt l 0) (cnt l 1) (cnt l 2) 0 0 0 3=_
  rw [F33b1,if_pos (by decide),h,ba,if_neg (by decide),if_neg (by decide),if_neg (by decide),if_pos rfl,F33j2,dr (dy (by decide) (by decide))]
  show F33b1 l N (F33l1 l N (m+2)) (cnt l 0) (cnt l 1) (cnt l 2) (cnt l 3) 0 0 4=_
  rw [F33b1,if_pos (by decide),h,ba,if_neg (by decide),if_neg (by decide),if_neg (by decide),if_neg (by decide),if_pos rfl,F33j2,dr (dy (by decide) (by decide))]
  show F33b1 l N (F33l1 l N (m+1)) (cnt l 0) (cnt l 1) (cnt l 2) (cnt l 3) (cnt l 4) 0 5=_
  rw [F33b1,if_pos (by decide),h,ba,if_neg (by decide),if_neg (by decide),if_neg (by decide),if_neg (by decide),if_neg (by decide),if_pos rfl,F33j2,dr (dy (by decide) (by decide))]
  show F33b1 l N (F33l1 l N m) (cnt l 0) (cnt l 1) (cnt l 2) (cnt l 3) (cnt l 4) (cnt l 5) 6=_
  rw [F33b1,if_neg (by decide)]
theorem F33_eq {l:List Rc} (h:bookP l) {N:Nat} (hN:161≤N):F33 N l=some (cnt l 0,cnt l 1,cnt l 2,cnt l 3,cnt l 4,cnt l 5,0):=by
  have hl:=np h.1
  rw [F33,F36_ok h hN,ba,if_pos rfl]
  obtain ⟨k,rfl⟩:∃ k,N=k+7:=⟨N - 7,by omega⟩
  exact F33l_eq l hl hN k
theorem F33_F34 (l:List Rc) {N:Nat} (hN:161≤N):∃ v,F33 N l=some v∧F34 N l=some v:=by
  by_cases h:bookP l
  · exact ⟨_,F33_eq h hN,F34_eq h hN⟩
  rw [F33,F34,F36_no h hN,F37_no h hN,ba,ba,if_neg (by decide),if_neg (by decide)]
  exact ⟨_,rfl,rfl⟩
theorem F36_F37 (l:List Rc) {N:Nat} (hN:161≤N):∃ v,F36 N l=some v∧F37 N l=some v:=by
  by_cases h:bookP l
  · exact ⟨_,F36_ok h hN,F37_ok h hN⟩
  exact ⟨_,F36_no h hN,F37_no h hN⟩
theorem eqRc_self (x:Rc):eqRc x x=true:=by simp [eqRc]
theorem F35l_self (l:List Rc) (hl:l.length≤1000000):∀ (m i:Nat),i≤l.length→l.length - i < m→F35l1 l l m (i:Int)=some true:=by
  intro m
  induction m with
  | zero=>intro i _ h; omega
  | succ m ih =>
    intro i hi hm
    simp only [F35l1,F35b1]
    by_cases h:i < l.length
    · rw [if_pos (by omega),du (by omega),Int.toNat_natCast,List.getElem?_eq_getElem h,ba,ba,eqRc_fold,eqRc_self,if_pos rfl,dr (dy (by omega) (by omega)),show ((i:Int)+1)=((i+1:Nat):Int) by omega]
      exact ih (i+1) (by omega) (by omega)
    rw [if_neg (by omega)]
theorem F35_self (l:List Rc) (hl:l.length≤1000000) {N:Nat} (hN:l.length < N):F35 N l l=some true:=by
  rw [F35,if_pos rfl]
  exact F35l_self l hl N 0 (by omega) (by omega)
theorem F27_F28 (l:List Rc) {N:Nat} (hN:161≤N):∃ v,F27 N l=some v∧F28 N l=some v∧v.1.length≤61:=by
  refine ⟨_,F27_eq l hN,F28_eq l hN,?_⟩
  by_cases h:logB l=true
  · rw [if_pos h]; have:=np h; simp [srtRc_len]; omega
  rw [if_neg h]; simp
theorem F5_true (l0 l1 l2:List Rc) (p1 p2 p3 p4 p5 p6 p7:Int) (t:Str):F5 2000 l0 l1 l2 p1 p2 p3 p4 p5 p6 p7 t=some true:=by
  obtain ⟨a,a1,a2,a3⟩:=F27_F28 l2 (N:=2000) (by omega)
  obtain ⟨b,b1,b2,b3⟩:=F29_F30 l0 (⟨p1,p2,p3,p4,p5,p6,p7,t⟩:Rc) (N:=2000) (by omega)
  obtain ⟨c,c1,c2,c3⟩:=F31_F32 l0 l1 (N:=2000) (by omega)
  obtain ⟨d,d1,d2⟩:=F33_F34 l0 (N:=2000) (by omega)
  obtain ⟨e,e1,e2⟩:=F36_F37 l0 (N:=2000) (by omega)
  rw [F5,a1,ba,a2,ba,b1,ba,b2,ba,c1,ba,c2,ba,d1,ba,d2,ba,F35_self _ (by omega) (by omega),ba,if_pos rfl,if_pos rfl,F35_self _ (by omega) (by omega),ba,if_pos rfl,if_pos rfl,F35_self _ (by omega) (by omega),ba,if_pos rfl,if_pos rfl,if_pos (by simp),if_pos rfl,e1,ba,e2,ba,if_pos rfl,sane_ok (by omega)]
  rfl
end Go.K
end
