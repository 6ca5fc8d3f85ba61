/- Y1, Yi, Yj, Yk, Yl, Y2, Y3, Y4, Y5, Y6, Y7, Y8, Y9, Ya, Yb, Yc, Yd, Ym, Yn, Yo, Yp. -/
import Derived.Test.YtcondbkhcjgemaaGreatDoorCD
import Derived.Test.YtcondbkhcjgemaaGreatDoorCSb
import Derived.KernelRfl
set_option linter.unusedVariables false
set_option linter.unusedSimpArgs false
section
namespace Go.K
open Go.RowKit
theorem ba {α β:Type} (x:α) (k:α→Option β):bp (some x) k=k x:=rfl
theorem du {β:Type} {p:Prop} [Decidable p] {k:Option β} (h:p):gdO p k=k:=if_pos h
theorem dr {β:Type} {n:Int} {k:Option β} (h:InR n):ckO n k=k:=if_pos h
theorem dy {n:Int} (h0:-1000000000000≤n) (h1:n≤1000000000000):InR n:=by unfold InR; omega
def okB (b:UInt8):Bool:=decide (32≤nb b) && decide (nb b≤126)
def plainB (s:Str):Bool:=s.all okB
theorem drop_get {α:Type} {l:List α} {i:Nat} (h:i < l.length):l.drop i=l[i] :: l.drop (i+1):=List.drop_eq_getElem_cons h
theorem F145l_eq (s:Str) (hs:(s.length:Int)≤1000000000):∀ (m i:Nat),i≤s.length→s.length - i < m→F145l1 s m (i:Int)=some ((s.drop i).all okB):=by
  intro m
  induction m with
  | zero=>intro i _ h; omega
  | succ m ih =>
    intro i hi hm
    simp only [F145l1,F145b1]
    by_cases h:i < s.length
    · rw [if_pos (by omega),du (by omega),Int.toNat_natCast,List.getElem?_eq_getElem h,ba,drop_get h,List.all_cons]
      by_cases h1:nb s[i] < 32
      · rw [if_pos h1,show okB s[i]=false by simp [okB]; omega]; simp
      rw [if_neg h1]
      by_cases h2:126 < nb s[i]
      · rw [if_pos h2,show okB s[i]=false by simp [okB]; omega]; simp
      rw [if_neg h2,dr (dy (by omega) (by omega)),show ((i:Int)+1)=((i+1:Nat):Int) by omega,ih (i+1) (by omega) (by omega),show okB s[i]=true by simp [okB]; omega]
      simp
    rw [if_neg (by omega),List.drop_of_length_le (by omega)]
    rfl
theorem F145_eq (s:Str) (hs:(s.length:Int)≤1000000000) {N:Nat} (hN:s.length < N):F145 N s=some (plainB s):=by
  have:=F145l_eq s hs N 0 (by omega) (by omega)
  simpa [F145,plainB] using this
theorem F84l_eq (s:Str) (hs:(s.length:Int)≤1000000000):∀ (m i:Nat),i≤s.length→s.length - i < m→F84l1 s m (i:Int)=some ((s.drop i).all okB):=by
  intro m
  induction m with
  | zero=>intro i _ h; omega
  | succ m ih =>
    intro i hi hm
    simp only [F84l1,F84b1]
    by_cases h:i < s.length
    · rw [if_pos (by omega),du (by omega),Int.toNat_natCast,List.getElem?_eq_getElem h,ba,drop_get h,List.all_cons]
      by_cases h1:nb s[i] < 32
      · rw [if_pos h1,show okB s[i]=false by simp [okB]; omega]; simp
      rw [if_neg h1]
      by_cases h2:126 < nb s[i]
      · rw [if_pos h2,show okB s[i]=false by simp [okB]; omega]; simp
      rw [if_neg h2,dr (dy (by omega) (by omega)),show ((i:Int)+1)=((i+1:Nat):Int) by omega,ih (i+1) (by omega) (by omega),show okB s[i]=true by simp [okB]; omega]
      simp
    rw [if_neg (by omega),List.drop_of_length_le (by omega)]
    rfl
theorem F84_eq (s:Str) (hs:(s.length:Int)≤1000000000) {N:Nat} (hN:s.length < N):F84 N s=some (plainB s):=by
  have:=F84l_eq s hs N 0 (by omega) (by omega)
  simpa [F84,plainB] using this
def inB (x a b:Int):Bool:=decide (a≤x) && decide (x≤b)
theorem F76_eq (x a b:Int):F76 x a b=some (inB x a b):=by
  simp only [F76,inB]; by_cases h1:a≤x <;> by_cases h2:x≤b <;> simp [h1,h2]
theorem F82_eq (x a b:Int):F82 x a b=some (inB x a b):=F76_eq x a b
def vIt (x:It):Bool:=inB x.p 0 5 && inB x.n 0 9999
theorem F75_eq (x:It):F75 x=some (vIt x):=by
  simp only [F75,F126,F76_eq,ba,vIt]
  cases inB x.p 0 5 <;> simp
theorem F81_eq (x:It):F81 x=some (vIt x):=by
  simp only [F81,F127,F82_eq,ba,vIt]
  cases inB x.p 0 5 <;> simp
def suitB (p0:Rc):Bool :=
  if p0.k=0 then vIt ⟨p0.op,p0.on⟩ && decide (p0.op=p0.p) && decide (p0.on < p0.n) && decide (p0.d=0) && decide (p0.t=[])
  else decide (p0.op=0) && decide (p0.on=0)
theorem F80_eq (p0:Rc):F80 p0=some (suitB p0):=by
  unfold F80 suitB
  by_cases h:p0.k=0
  · rw [if_pos h,if_pos h,F75_eq,ba]
    cases h1:vIt ⟨p0.op,p0.on⟩ <;> by_cases h2:p0.op=p0.p <;> by_cases h3:p0.on < p0.n <;> by_cases h4:p0.d=0 <;> by_cases h5:p0.t=[] <;> simp [F80j1,h2,h3,h4,h5]
  rw [if_neg h,if_neg h]
  by_cases h1:p0.op=0 <;> by_cases h2:p0.on=0 <;> simp [h1,h2]
def vRc (p0:Rc):Bool:=vIt ⟨p0.p,p0.n⟩ && inB p0.k 0 60 && inB p0.d 0 4166 && inB p0.kn 0 4166 && decide ((p0.t.length:Int)≤160) && plainB p0.t && suitB p0
theorem F17_eq (p0:Rc) {N:Nat} (hN:161≤N):F17 N p0=some (if vRc p0=true then 0 else 80):=by
  have h79:F79 N p0.t=some (decide ((p0.t.length:Int)≤160) && plainB p0.t):=by
    unfold F79
    by_cases h:(p0.t.length:Int)≤160
    · rw [if_pos h,F145_eq p0.t (by omega) (by omega),ba]; simp [h]
    rw [if_neg h]; simp [h]
  simp only [F17,F17j1,F77,F78,F75_eq,F76_eq,F80_eq,h79,ba,vRc]
  rcases Bool.eq_false_or_eq_true (vIt ⟨p0.p,p0.n⟩) with h1 | h1 <;> rcases Bool.eq_false_or_eq_true (inB p0.k 0 60) with h2 | h2 <;> rcases Bool.eq_false_or_eq_true (inB p0.d 0 4166) with h3 | h3 <;> rcases Bool.eq_false_or_eq_true (inB p0.kn 0 4166) with h4 | h4 <;> by_cases h5:(p0.t.length:Int)≤160 <;> rcases Bool.eq_false_or_eq_true (plainB p0.t) with h6 | h6 <;> rcases Bool.eq_false_or_eq_true (suitB p0) with h7 | h7 <;> simp [h1,h2,h3,h4,h5,h6,h7,ba]
theorem F18_eq (p0:Rc) {N:Nat} (hN:161≤N):F18 N p0=some (if vRc p0=true then 0 else 80):=by
  simp only [F18,F81_eq,F82_eq,F83,ba,vRc]
  rcases Bool.eq_false_or_eq_true (vIt ⟨p0.p,p0.n⟩) with h1 | h1
  · rcases Bool.eq_false_or_eq_true (inB p0.k 0 60) with h2 | h2
    · rcases Bool.eq_false_or_eq_true (inB p0.d 0 4166) with h3 | h3
      · rcases Bool.eq_false_or_eq_true (inB p0.kn 0 4166) with h4 | h4
        · by_cases h5:(p0.t.length:Int)≤160
          · rw [F84_eq p0.t (by omega) (by omega)]
            rcases Bool.eq_false_or_eq_true (plainB p0.t) with h6 | h6
            · simp only [ba,suitB,h1,h2,h3,h4,h6,if_true,decide_eq_true h5,Bool.and_true,Bool.true_and,if_neg (show ¬ (160:Int) < p0.t.length by omega)]
              by_cases hk:p0.k=0
              · simp only [if_pos hk]
                rcases Bool.eq_false_or_eq_true (vIt ⟨p0.op,p0.on⟩) with g1 | g1
                · simp only [g1]
                  by_cases g2:p0.op=p0.p <;> by_cases g3:p0.n≤p0.on <;> by_cases g4:p0.d=0 <;> by_cases g5:p0.t=[] <;> simp [g2,g3,g4,g5,show p0.on < p0.n↔¬ p0.n≤p0.on from Int.not_le.symm]
                simp only [g1]
                by_cases g4:p0.d=0 <;> by_cases g5:p0.t=[] <;> simp [g4,g5]
              simp only [if_neg hk]
              by_cases g2:p0.op=0 <;> by_cases g3:p0.on=0 <;> simp [g2,g3]
            simp [h1,h2,h3,h4,h5,h6,Int.not_lt.2 h5,ba]
          simp [h1,h2,h3,h4,h5,show (160:Int) < p0.t.length by omega]
        simp [h1,h2,h3,h4]
      simp [h1,h2,h3]
    simp [h1,h2]
  simp [h1]
end Go.K
end
section
namespace Go.K
open Go.RowKit
def cnt (l:List Rc) (p:Int):Int:=((l.filter fun x=>decide (x.p=p)).length:Nat)
theorem cnt_nil (p:Int):cnt [] p=0:=rfl
theorem cnt_snoc (l:List Rc) (x:Rc) (p:Int):cnt (l++[x]) p=cnt l p+if x.p=p then 1 else 0:=by
  unfold cnt; rw [List.filter_append,List.length_append]
  by_cases h:x.p=p
  · rw [if_pos h,List.filter_cons_of_pos (by simpa using h)]; simp
  rw [if_neg h,List.filter_cons_of_neg (by simpa using h)]; simp
theorem cnt_le (l:List Rc) (p:Int):0≤cnt l p∧cnt l p≤l.length:=by
  unfold cnt; have:=List.length_filter_le (fun x:Rc=>decide (x.p=p)) l; omega
theorem take_snoc {α:Type} {l:List α} {i:Nat} (h:i < l.length):l.take (i+1)=l.take i++[l[i]]:=by
  rw [List.take_add_one,List.getElem?_eq_getElem h]; rfl
def logR (done:List Rc):List Rc→Bool
  | []=>true
  | x :: r=>decide ((done.length:Int) < 60) && vRc x && decide (x.n=cnt done x.p) && logR (done++[x]) r
def logB (l:List Rc):Bool:=logR [] l
theorem logR_len:∀ (r done:List Rc),logR done r=true→60 < done.length+r.length→r=[]
  | [],_,_,_=>rfl
  | x :: r,done,h,hl=>by
    simp only [logR,Bool.and_eq_true,decide_eq_true_eq] at h
    obtain ⟨⟨⟨h1,h2⟩,h3⟩,h4⟩:=h
    have:=logR_len r (done++[x]) h4 (by simp at hl ⊢; omega)
    subst this; simp at hl; omega
theorem np {l:List Rc} (h:logB l=true):l.length≤60:=by
  refine Decidable.byContradiction fun hn=>?_
  have:=logR_len l [] h (by simp; omega)
  subst this; simp at hn
theorem F132l_eq (l:List Rc) (hl:(l.length:Int)≤1000000) (p:Int):∀ (m i:Nat),i≤l.length→l.length - i < m→F132l1 l p m (cnt (l.take i) p) (i:Int)=some (cnt l p):=by
  intro m
  induction m with
  | zero=>intro i _ h; omega
  | succ m ih =>
    intro i hi hm
    simp only [F132l1,F132b1]
    by_cases h:i < l.length
    · have hc:=cnt_le (l.take i) p
      have ht:((l.take i).length:Int)≤1000000:=by rw [List.length_take]; omega
      have hs:=cnt_snoc (l.take i) l[i] p
      rw [← take_snoc h] at hs
      rw [if_pos (by omega),du (by omega),Int.toNat_natCast,List.getElem?_eq_getElem h,ba]
      have hn:=ih (i+1) (by omega) (by omega)
      rw [hs] at hn
      by_cases h1:l[i].p=p
      · rw [if_pos h1] at hn ⊢; rw [dr (dy (by omega) (by omega))]
        simp only [F132j2]; rw [dr (dy (by omega) (by omega)),show ((i:Int)+1)=((i+1:Nat):Int) by omega,hn]
      rw [if_neg h1] at hn ⊢
      simp only [F132j2]; rw [dr (dy (by omega) (by omega)),show ((i:Int)+1)=((i+1:Nat):Int) by omega,← hn,Int.add_zero]
    rw [if_neg (by omega),List.take_of_length_le (by omega)]
theorem F132_eq (l:List Rc) (hl:(l.length:Int)≤1000000) (p:Int) {N:Nat} (hN:l.length < N):F132 N l p=some (cnt l p):=by
  have:=F132l_eq l hl p N 0 (by omega) (by omega)
  simpa [F132,cnt_nil] using this
theorem F116_eq (done:List Rc) (hd:done.length≤60) (x:Rc) {N:Nat} (hN:161≤N):F116 N done x=some (decide ((done.length:Int) < 60) && vRc x && decide (x.n=cnt done x.p)):=by
  unfold F116
  by_cases h:(done.length:Int) < 60
  · rw [if_pos h,F18_eq x hN,ba]
    cases hv:vRc x
    · simp
    rw [if_pos rfl,if_pos rfl,F132_eq done (by omega) x.p (by omega),ba]
    by_cases h1:x.n=cnt done x.p <;> simp [h,h1]
  rw [if_neg h]; simp [h]
theorem F98l_eq (l:List Rc) {N:Nat} (hN:161≤N):∀ (m i:Nat),i≤l.length→i≤60→61 - i < m→F98l1 l N m (l.take i) (i:Int)=some (logR (l.take i) (l.drop i)):=by
  intro m
  induction m with
  | zero=>intro i _ _ h; omega
  | succ m ih =>
    intro i hi h60 hm
    simp only [F98l1,F98b1]
    by_cases h:i < l.length
    · rw [if_pos (by omega),du (by omega),Int.toNat_natCast,List.getElem?_eq_getElem h,ba,F116_eq _ (by rw [List.length_take]; omega) _ hN,ba,drop_get h,logR]
      generalize hb:(decide (((l.take i).length:Int) < 60) && vRc l[i] && decide (l[i].n=cnt (l.take i) l[i].p))=b
      cases b
      · simp
      have h59:i < 60:=by
        simp only [Bool.and_eq_true,decide_eq_true_eq,List.length_take] at hb; omega
      rw [if_pos rfl,du (by rw [List.length_take]; omega),dr (dy (by omega) (by omega)),show ((i:Int)+1)=((i+1:Nat):Int) by omega]
      have:=ih (i+1) (by omega) (by omega) (by omega)
      rw [take_snoc h] at this
      rw [this]; simp
    rw [if_neg (by omega),List.drop_of_length_le (by omega)]
    rfl
theorem F98_eq (l:List Rc) {N:Nat} (hN:161≤N):F98 N l=some (logB l):=by
  have:=F98l_eq l hN N 0 (by omega) (by omega) (by omega)
  simpa [F98,logB] using this
theorem vRc_p {x:Rc} (h:vRc x=true):x.p=0∨x.p=1∨x.p=2∨x.p=3∨x.p=4∨x.p=5:=by
  simp only [vRc,vIt,inB,Bool.and_eq_true,decide_eq_true_eq] at h; omega
theorem F96l_eq (l:List Rc) (hl:l.length≤60) {N:Nat} (hN:161≤N):∀ (m i:Nat),i≤l.length→l.length - i < m →
    F96l1 l N m (cnt (l.take i) 0) (cnt (l.take i) 1) (cnt (l.take i) 2) (cnt (l.take i) 3) (cnt (l.take i) 4) (cnt (l.take i) 5) (i:Int)=some (logR (l.take i) (l.drop i)):=by
  intro m
  induction m with
  | zero=>intro i _ h; omega
  | succ m ih =>
    intro i hi hm
    simp only [F96l1,F96b1]
    by_cases h:i < l.length
    · have hc:=fun p=>cnt_le (l.take i) p
      have ht:((l.take i).length:Int)≤60:=by rw [List.length_take]; omega
      have hk:∀ p,InR (cnt (l.take i) p+1):=fun p=>dy (by have:=hc p; omega) (by have:=hc p; omega)
      have hs:=fun p=>cnt_snoc (l.take i) l[i] p
      rw [← take_snoc h] at hs
      have hn:=ih (i+1) (by omega) (by omega)
      rw [hs,hs,hs,hs,hs,hs] at hn
      rw [if_pos (by omega),du (by omega),Int.toNat_natCast,List.getElem?_eq_getElem h,ba,F17_eq _ hN,ba,drop_get h,logR,← take_snoc h]
      have h60:((l.take i).length:Int) < 60:=by rw [List.length_take]; omega
      cases hv:vRc l[i]
      · simp
      rw [if_pos rfl,if_pos rfl]
      rw [show decide (((l.take i).length:Int) < 60)=true by simpa using h60,Bool.true_and,Bool.true_and]
      have hii:InR ((i:Int)+1):=dy (by omega) (by omega)
      rcases vRc_p hv with hp | hp | hp | hp | hp | hp <;>
        (simp only [hp] at hn ⊢
         simp (config:={ decide:=true }) only [if_true,if_false,Int.add_zero,Int.reduceEq] at hn ⊢
         by_cases he:l[i].n=cnt (l.take i) l[i].p
         · rw [hp] at he
           simp only [he,if_true,F96j3,hp,F96j2,Int.reduceEq,if_false]
           rw [dr (hk _),dr hii,show ((i:Int)+1)=((i+1:Nat):Int) by omega,hn]; simp
         rw [hp] at he; simp [he])
    rw [if_neg (by omega),List.drop_of_length_le (by omega)]
    rfl
theorem F96_eq (l:List Rc) {N:Nat} (hN:161≤N):F96 N l=some (logB l):=by
  unfold F96
  by_cases h:60 < (l.length:Int)
  · rw [if_pos h]
    cases hb:logB l
    · rfl
    have:=np hb; omega
  rw [if_neg h]
  have:=F96l_eq l (by omega) hN N 0 (by omega) (by omega)
  simpa [cnt_nil,logB] using this
end Go.K
end
section
namespace Go.K
open Go.RowKit
def ns (a b:Rc):Prop:=a.p < b.p∨(a.p=b.p∧a.n < b.n)
instance (a b:Rc):Decidable (ns a b):=by unfold ns; infer_instance
theorem F108_eq (x y:Rc):F108 x y=some (decide (ns x y)):=by
  unfold F108 ns
  by_cases h1:x.p < y.p
  · simp [h1]
  by_cases h2:x.p=y.p
  · by_cases h3:x.n < y.n <;> simp [h1,h2,h3]
  simp [h1,h2]
def firstN:List Int→Int
  | []=>0
  | x :: r=>if x=0 then firstN r else x
theorem F152l_eq (s:List Int) (hs:(s.length:Int)≤1000000000):∀ (m i:Nat),i≤s.length→s.length - i < m→F152l1 s m (i:Int)=some (firstN (s.drop i)):=by
  intro m
  induction m with
  | zero=>intro i _ h; omega
  | succ m ih =>
    intro i hi hm
    simp only [F152l1,F152b1]
    by_cases h:i < s.length
    · rw [if_pos (by omega),du (by omega),Int.toNat_natCast,List.getElem?_eq_getElem h,ba,drop_get h,firstN]
      by_cases h1:s[i]=0
      · rw [if_pos h1,if_pos h1,dr (dy (by omega) (by omega)),show ((i:Int)+1)=((i+1:Nat):Int) by omega,ih (i+1) (by omega) (by omega)]
      rw [if_neg h1,if_neg h1]
    rw [if_neg (by omega),List.drop_of_length_le (by omega)]
    rfl
theorem F152_eq (s:List Int) (hs:(s.length:Int)≤1000000000) {N:Nat} (hN:s.length < N):F152 N s=some (firstN s):=by
  have:=F152l_eq s hs N 0 (by omega) (by omega)
  simpa [F152] using this
theorem F146l_eq (s:List Int) (hs:(s.length:Int)≤1000000000):∀ (m i:Nat),i≤s.length→s.length - i < m→F146l1 s m (i:Int)=some (firstN (s.drop i)):=by
  intro m
  induction m with
  | zero=>intro i _ h; omega
  | succ m ih =>
    intro i hi hm
    simp only [F146l1,F146b1]
    by_cases h:i < s.length
    · rw [if_pos (by omega),du (by omega),Int.toNat_natCast,List.getElem?_eq_getElem h,ba,drop_get h,firstN]
      by_cases h1:s[i]=0
      · rw [if_pos h1,if_pos h1,dr (dy (by omega) (by omega)),show ((i:Int)+1)=((i+1:Nat):Int) by omega,ih (i+1) (by omega) (by omega)]
      rw [if_neg h1,if_neg h1]
    rw [if_neg (by omega),List.drop_of_length_le (by omega)]
    rfl
theorem F86_eq (s:List Int) (hs:(s.length:Int)≤1000000000) {N:Nat} (hN:s.length < N):F86 N s=some (firstN s):=by
  have:=F146l_eq s hs N 0 (by omega) (by omega)
  simp only [F86,F146,show (0:Int)=((0:Nat):Int) from rfl,this,ba,List.drop_zero]
theorem F153_eq (x y:Int):F153 x y=some (if x < y then -1 else if y < x then 1 else 0):=by
  simp only [F153,F153j1,F153j2,F168,ba,Bool.false_eq_true,if_false]
  by_cases h1:x < y
  · simp [h1]
  by_cases h2:y < x <;> simp [h1,h2]
theorem F107_eq (x y:Rc) {N:Nat} (hN:3≤N):F107 N x y=some (ls x y):=by
  simp only [F107,F153_eq,ba]
  rw [F152_eq _ (by simp) (by simp; omega),ba]
  simp only [firstN,ls]
  by_cases h1:x.p < y.p
  · simp [h1]
  by_cases h2:y.p < x.p
  · simp [h1,h2]
  by_cases h3:x.n < y.n
  · simp [h1,h2,h3]
  by_cases h4:y.n < x.n <;> simp [h1,h2,h3,h4]
theorem cmpRc_lt (x y:Rc):ls x y < 0↔ns x y:=by
  unfold ls ns; split
  · simp; omega
  split
  · simp; omega
  split
  · simp; omega
  split <;> simp <;> omega
theorem lessRc_trans {a b c:Rc} (h1:ns a b) (h2:ns b c):ns a c:=by unfold ns at *; omega
theorem lessRc_asymm {a b:Rc} (h1:ns a b):¬ ns b a:=by unfold ns at *; omega
def nw (a b:Rc):Prop:=¬ (a.p=b.p∧a.n=b.n)
theorem disRc_of {l:List Rc} (h:l.Pairwise nw):disRc l=true:=by
  induction h with
  | nil=>rfl
  | @cons x l h _ ih =>
    simp only [disRc,Bool.and_eq_true,List.all_eq_true]
    exact ⟨fun y hy=>by have:=h y hy; unfold nw at this; by_cases e:x.p=y.p <;> by_cases e2:x.n=y.n <;> simp [e,e2]; exact this ⟨e,e2⟩,ih⟩
theorem logR_dis:∀ (r done:List Rc),(∀ y∈done,y.n < cnt done y.p)→done.Pairwise nw→logR done r=true→(∀ y∈done++r,y.n < cnt (done++r) y.p)∧(done++r).Pairwise nw
  | [],done,h1,h2,_=>by simpa using ⟨h1,h2⟩
  | x :: r,done,h1,h2,h=>by
    simp only [logR,Bool.and_eq_true,decide_eq_true_eq] at h
    obtain ⟨⟨⟨_,_⟩,h3⟩,h4⟩:=h
    have hc:=logR_dis r (done++[x]) (fun y hy=>?_) ?_ h4
    · simpa using hc
    · rw [cnt_snoc]
      rcases List.mem_append.1 hy with hy | hy
      · have:=h1 y hy; split <;> omega
      obtain rfl:=List.mem_singleton.1 hy
      rw [if_pos rfl]; omega
    rw [List.pairwise_append]
    refine ⟨h2,by simp,fun a ha b hb=>?_⟩
    obtain rfl:=List.mem_singleton.1 hb
    rintro ⟨e1,e2⟩
    have:=h1 a ha
    rw [e1,← h3] at this; omega
theorem logB_dis {l:List Rc} (h:logB l=true):l.Pairwise nw:=by
  have:=(logR_dis l [] (by simp) List.Pairwise.nil h).2
  simpa using this
theorem logB_cnt {l:List Rc} (h:logB l=true):∀ y∈l,y.n < cnt l y.p:=by
  have:=(logR_dis l [] (by simp) List.Pairwise.nil h).1
  simpa using this
def adjP (l:List Rc):Prop:=∀ (j:Nat) (h:j+1 < l.length),ns (l[j]'(by omega)) (l[j+1]'h)
def oe (l:List Rc):Prop:=logB l=true∧adjP l
theorem adjP_pw {l:List Rc} (h:adjP l):l.Pairwise ns:=by
  rw [List.pairwise_iff_getElem]
  intro i j hi hj hij
  induction j with
  | zero=>omega
  | succ j ih =>
    by_cases he:i=j
    · subst he; exact h i hj
    exact lessRc_trans (ih (by omega) (by omega)) (h j hj)
theorem pw_adjP {l:List Rc} (h:l.Pairwise ns):adjP l:=fun j hj=>(List.pairwise_iff_getElem.1 h) j (j+1) (by omega) hj (by omega)
theorem pw_le {l:List Rc} (h:l.Pairwise ns):l.Pairwise fun a b=>¬ ls b a < 0:=h.imp fun {a b} hab=>by rw [cmpRc_lt]; exact lessRc_asymm hab
theorem book_srt {l:List Rc} (h:oe l):oa l=l:=(srtRc_uniq (disRc_of (logB_dis h.1)) (List.Perm.refl l) (pw_le (adjP_pw h.2))).symm
theorem F37l_eq (l:List Rc) (hl:l.length≤60):∀ (m i:Nat),i≤l.length→l.length - i < m →
    ((∀ (j:Nat) (h:j+1 < l.length),i≤j+1→ns (l[j]'(by omega)) (l[j+1]'h))→F37l1 l m (i:Int)=some 0) ∧
    ((¬ ∀ (j:Nat) (h:j+1 < l.length),i≤j+1→ns (l[j]'(by omega)) (l[j+1]'h))→F37l1 l m (i:Int)=some 81):=by
  intro m
  induction m with
  | zero=>intro i _ h; omega
  | succ m ih =>
    intro i hi hm
    simp only [F37l1,F37b1]
    by_cases h:i < l.length
    · have hn:=ih (i+1) (by omega) (by omega)
      have hst:((i:Int)+1)=((i+1:Nat):Int):=by omega
      rw [if_pos (by omega)]
      match i,h,hi,hm,hn,hst with
      | 0,h,hi,hm,hn,hst =>
        rw [if_neg (by simp)]
        simp only [F37j2]; rw [dr (dy (by omega) (by omega)),hst]
        exact ⟨fun hh=>hn.1 fun j hj _=>hh j hj (by omega),fun hh=>hn.2 fun h2=>hh fun j hj _=>h2 j hj (by omega)⟩
      | k+1,h,hi,hm,hn,hst =>
        rw [if_pos (by omega),dr (dy (by omega) (by omega)),show (((k+1:Nat):Int) - 1)=(k:Int) by omega,du (by omega),Int.toNat_natCast,List.getElem?_eq_getElem (show k < l.length by omega),ba,du (by omega),Int.toNat_natCast,List.getElem?_eq_getElem h,ba,F108_eq,ba]
        by_cases hk:ns (l[k]'(by omega)) l[k+1]
        · rw [if_pos (by simpa using hk)]
          simp only [F37j2]; rw [dr (dy (by omega) (by omega)),hst]
          refine ⟨fun hh=>hn.1 fun j hj _=>hh j hj (by omega),fun hh=>hn.2 fun h2=>hh fun j hj hjk=>?_⟩
          by_cases he:j=k
          · subst he; exact hk
          exact h2 j hj (by omega)
        rw [if_neg (by simpa using hk)]
        exact ⟨fun hh=>absurd (hh k h (by omega)) hk,fun _=>rfl⟩
    rw [if_neg (by omega)]
    exact ⟨fun _=>rfl,fun hh=>absurd (fun j hj hij=>by omega) hh⟩
theorem F37_ok {l:List Rc} (h:oe l) {N:Nat} (hN:161≤N):F37 N l=some 0:=by
  rw [F37,F98_eq l hN,ba,if_pos h.1]
  exact (F37l_eq l (np h.1) N 0 (by omega) (by have:=np h.1; omega)).1 fun j hj _=>h.2 j hj
theorem F37_no {l:List Rc} (h:¬ oe l) {N:Nat} (hN:161≤N):F37 N l=some 81:=by
  rw [F37,F98_eq l hN,ba]
  by_cases hb:logB l=true
  · rw [if_pos hb]
    exact (F37l_eq l (np hb) N 0 (by omega) (by have:=np hb; omega)).2 fun hh=>h ⟨hb,fun j hj=>hh j hj (by omega)⟩
  rw [if_neg hb]
theorem F36l_eq (l:List Rc) (hl:l.length≤60) {N:Nat} (hN:161≤N):∀ (m i:Nat) (hi:i=0∨i < l.length),i < m →
    ((∀ (j:Nat) (h:j+1 < l.length),j+1≤i→¬ ls (l[j+1]'h) (l[j]'(by omega)) < 0)→F36l2 l N m (i:Int)=some 0) ∧
    ((¬ ∀ (j:Nat) (h:j+1 < l.length),j+1≤i→¬ ls (l[j+1]'h) (l[j]'(by omega)) < 0)→F36l2 l N m (i:Int)=some 81):=by
  intro m
  induction m with
  | zero=>intro i _ h; omega
  | succ m ih =>
    intro i hi hm
    simp only [F36l2,F36b2]
    match i,hi,hm with
    | 0,hi,hm =>
      rw [if_neg (by simp)]
      exact ⟨fun _=>by simp [F36j1,F78,ba],fun hh=>absurd (fun j hj hij=>by omega) hh⟩
    | k+1,hi,hm =>
      have hk:k+1 < l.length:=by omega
      have hn:=ih k (by omega) (by omega)
      rw [if_pos (by omega),du (by omega),Int.toNat_natCast,List.getElem?_eq_getElem hk,ba,dr (dy (by omega) (by omega)),show (((k+1:Nat):Int) - 1)=(k:Int) by omega,du (by omega),Int.toNat_natCast,List.getElem?_eq_getElem (show k < l.length by omega),ba,F107_eq _ _ (by omega),ba]
      by_cases hc:ls l[k+1] (l[k]'(by omega)) < 0
      · rw [if_pos hc]
        exact ⟨fun hh=>absurd hc (hh k hk (by omega)),fun _=>by simp [F78,ba]⟩
      rw [if_neg hc]
      refine ⟨fun hh=>hn.1 fun j hj hij=>hh j hj (by omega),fun hh=>hn.2 fun h2=>hh fun j hj hij=>?_⟩
      by_cases he:j=k
      · subst he; exact hc
      exact h2 j hj (by omega)
theorem adj_iff {l:List Rc} (hb:logB l=true) (j:Nat) (h:j+1 < l.length):(¬ ls (l[j+1]'h) (l[j]'(by omega)) < 0)↔ns (l[j]'(by omega)) (l[j+1]'h):=by
  have:=(List.pairwise_iff_getElem.1 (logB_dis hb)) j (j+1) (by omega) h (by omega)
  rw [cmpRc_lt]; unfold ns nw at *; omega
theorem F36_ok {l:List Rc} (h:oe l) {N:Nat} (hN:161≤N):F36 N l=some 0:=by
  have hl:=np h.1
  rw [F36,F96_eq l hN,ba,if_pos h.1,dr (dy (by omega) (by omega))]
  by_cases h0:l.length=0
  · obtain rfl:l=[]:=List.eq_nil_of_length_eq_zero h0
    match N,hN with
    | N+1,_=>rfl
  rw [show ((l.length:Int) - 1)=((l.length - 1:Nat):Int) by omega]
  exact (F36l_eq l hl hN N (l.length - 1) (by omega) (by omega)).1 fun j hj _=>(adj_iff h.1 j hj).2 (h.2 j hj)
end Go.K
end
section
namespace Go.K
open Go.RowKit
def putRc (o l:List Rc):List Rc:=l.foldl (fun o x=>insRc x o) o
theorem F97_eq (l:List Rc) (hl:l.length≤1000000) (hd:l.Pairwise nw):F97 l=some (oa l):=by
  rw [F97,F102,du (by omega),ba,du (by omega),du (disRc_of hd)]
theorem F27_eq (l:List Rc) {N:Nat} (hN:161≤N):F27 N l=some (if logB l=true then (oa l,0) else ([],81)):=by
  rw [F27,F96_eq l hN,ba]
  by_cases h:logB l=true
  · rw [if_pos h,if_pos h,F97_eq l (by have:=np h; omega) (logB_dis h),ba]
  rw [if_neg h,if_neg h]
def ob (l:List Rc) (p n:Int):Option Rc:=l.find? fun y=>decide (y.p=p) && decide (y.n=n)
def eqRc (x y:Rc):Bool:=decide (x.p=y.p) && decide (x.n=y.n) && decide (x.k=y.k) && decide (x.d=y.d) && decide (x.kn=y.kn) && decide (x.op=y.op) && decide (x.on=y.on) && decide (x.t=y.t)
theorem F100l_eq (l:List Rc) (hl:l.length≤1000000) (x:Rc):∀ (m i:Nat),i≤l.length→l.length - i < m →
    F100l1 l x m (i:Int)=some (match ob (l.drop i) x.p x.n with | some y=>if eqRc y x=true then (true,0) else (false,82) | none=>(false,0)):=by
  intro m
  induction m with
  | zero=>intro i _ h; omega
  | succ m ih =>
    intro i hi hm
    simp only [F100l1,F100b1]
    by_cases h:i < l.length
    · rw [if_pos (by omega),du (by omega),Int.toNat_natCast,List.getElem?_eq_getElem h,ba,drop_get h,ob,List.find?_cons]
      cases hk:(decide (l[i].p=x.p) && decide (l[i].n=x.n))
      · rw [if_neg (by simp),dr (dy (by omega) (by omega)),show ((i:Int)+1)=((i+1:Nat):Int) by omega,ih (i+1) (by omega) (by omega)]
        rfl
      rw [if_pos rfl]
      have hq:(true && decide (l[i].k=x.k) && decide (l[i].d=x.d) && decide (l[i].kn=x.kn) && decide (l[i].op=x.op) && decide (l[i].on=x.on) && decide (l[i].t=x.t))=eqRc l[i] x:=by unfold eqRc; rw [hk]
      rw [hq]
      cases he:eqRc l[i] x <;> simp [F78,ba,he]
    rw [if_neg (by omega),List.drop_of_length_le (by omega)]
    rfl
theorem F100_eq (l:List Rc) (hl:l.length≤1000000) (x:Rc) {N:Nat} (hN:l.length < N) :
    F100 N l x=some (match ob l x.p x.n with | some y=>if eqRc y x=true then (true,0) else (false,82) | none=>(false,0)):=by
  have:=F100l_eq l hl x N 0 (by omega) (by omega)
  simpa [F100] using this
theorem F105l_eq (l:List Rc) (hl:l.length≤1000000) (it:It):∀ (m i:Nat),i≤l.length→l.length - i < m →
    (∃ (j:Nat) (y:Rc),F105l1 l it m (i:Int)=some (j:Int)∧l[j]?=some y∧ob (l.drop i) it.p it.n=some y)∨(F105l1 l it m (i:Int)=some (-1)∧ob (l.drop i) it.p it.n=none):=by
  intro m
  induction m with
  | zero=>intro i _ h; omega
  | succ m ih =>
    intro i hi hm
    simp only [F105l1,F105b1]
    by_cases h:i < l.length
    · rw [if_pos (by omega),du (by omega),Int.toNat_natCast,List.getElem?_eq_getElem h,ba,drop_get h,ob,List.find?_cons]
      cases hk:(decide (l[i].p=it.p) && decide (l[i].n=it.n))
      · rw [if_neg (by simp),dr (dy (by omega) (by omega)),show ((i:Int)+1)=((i+1:Nat):Int) by omega]
        exact ih (i+1) (by omega) (by omega)
      rw [if_pos rfl]
      exact .inl ⟨i,l[i],rfl,List.getElem?_eq_getElem h,rfl⟩
    rw [if_neg (by omega),List.drop_of_length_le (by omega)]
    exact .inr ⟨rfl,rfl⟩
theorem F105_eq (l:List Rc) (hl:l.length≤1000000) (it:It) {N:Nat} (hN:l.length < N) :
    (∃ (j:Nat) (y:Rc),F105 N l it=some (j:Int)∧l[j]?=some y∧ob l it.p it.n=some y)∨(F105 N l it=some (-1)∧ob l it.p it.n=none):=by
  have:=F105l_eq l hl it N 0 (by omega) (by omega)
  simpa [F105] using this
end Go.K
end
section
namespace Go.K
open Go.RowKit
set_option maxRecDepth 20000
theorem findRc_some {l:List Rc} {p n:Int} {y:Rc} (h:ob l p n=some y):y∈l∧y.p=p∧y.n=n:=by
  have h1:=List.mem_of_find?_eq_some h
  have h2:=List.find?_some h
  simp at h2; exact ⟨h1,h2⟩
theorem findRc_none {l:List Rc} {p n:Int} (h:ob l p n=none):∀ y∈l,¬ (y.p=p∧y.n=n):=by
  intro y hy
  have:=List.find?_eq_none.1 h y hy
  simpa using this
theorem eqRc_fold (x y:Rc):(decide (x.p=y.p) && decide (x.n=y.n) && decide (x.k=y.k) && decide (x.d=y.d) && decide (x.kn=y.kn) && decide (x.op=y.op) && decide (x.on=y.on) && decide (x.t=y.t))=eqRc x y:=rfl
end Go.K
end
section
namespace Go.K
open Go.RowKit
end Go.K
end
section
namespace Go.K
open Go.RowKit
def txtN:List Int→Str
  | []=>[]
  | n :: r=>itoaS n++[32]++txtN r
def nsOf (r:Rc):List Int:=[r.p,r.n,r.k,r.d,r.kn,r.op,r.on]
def txtS (r:Rc):Str:=txtN (nsOf r)++r.t
end Go.K
end
section
namespace Go.K
open Go.RowKit
def pickQ (q:Int) (x y:Int):Int:=if q=0 then x else if q=1 then y else 32+(x+y - 64) % 95
def thQ (q:Int):Str→List Int
  | []=>[]
  | [x]=>[pickQ q (nb x) 32]
  | x :: y :: r=>pickQ q (nb x) (nb y) :: thQ q r
end Go.K
end
section
namespace Go.K
open Go.RowKit
def strips (r:Rc) (no:Int):List Sp3:=[⟨no,(txtS r).length,bl (thQ 0 (txtS r))⟩,⟨no,(txtS r).length,bl (thQ 1 (txtS r))⟩,⟨no,(txtS r).length,bl (thQ 2 (txtS r))⟩]
end Go.K
end
section
namespace Go.K
open Go.RowKit
def lastB (s:Str):Bool:=decide (s.getLast?=some 32)
def wholeB (q:Int) (s:Sp3):Bool:=inB s.no 0 59 && inB s.sz 14 240 && decide ((s.t.length:Int)=(s.sz+1).tdiv 2) && plainB s.t && (!(decide (q=1) && decide (s.sz.tmod 2=1)) || lastB s.t)
end Go.K
end
section
namespace Go.K
open Go.RowKit
end Go.K
end
section
namespace Go.K
open Go.RowKit
def difQ (z x:Int):Int:=32+(z - x+95) % 95
def okI (x:Int):Prop:=32≤x∧x≤126
def zipQ:List Int→List Int→List Int
  | x :: a,y :: b=>x :: y :: zipQ a b
  | _,_=>[]
end Go.K
end
section
namespace Go.K
open Go.RowKit
def mendQ (p q:Int) (X Y:List Int):List Int :=
  if p=0 then (if q=1 then zipQ X Y else zipQ X (List.zipWith difQ Y X)) else zipQ (List.zipWith difQ Y X) X
end Go.K
end
section
namespace Go.K
open Go.RowKit
end Go.K
end
section
namespace Go.K
open Go.RowKit
end Go.K
end
section
namespace Go.K
open Go.RowKit
end Go.K
end
section
namespace Go.K
open Go.RowKit
def mendS (p q:Int) (s t:Sp3):Str:=if q < p then bl ((mendQ q p (bytesOf t.t) (bytesOf s.t)).take t.sz.toNat) else bl ((mendQ p q (bytesOf s.t) (bytesOf t.t)).take s.sz.toNat)
def matchB (p q:Int) (s t:Sp3):Bool:=wholeB p s && wholeB q t && decide (s.no=t.no) && decide (s.sz=t.sz)
set_option maxRecDepth 100000 in
theorem sane_run (n:Nat):F19 (n+400)=some true:=by kernel_rfl
theorem sane_ok {N:Nat} (h:400≤N):F19 N=some true:=by
  obtain ⟨k,rfl⟩:=Nat.exists_eq_add_of_le' h
  exact sane_run k
end Go.K
end
section
namespace Go.K
open Go.RowKit
theorem logR_v:∀ (r done:List Rc),logR done r=true→∀ y∈r,vRc y=true
  | [],_,_,y,hy=>by cases hy
  | x :: r,done,h,y,hy=>by
    simp only [logR,Bool.and_eq_true,decide_eq_true_eq] at h
    obtain ⟨⟨⟨_,h2⟩,_⟩,h4⟩:=h
    rcases List.mem_cons.1 hy with rfl | hy
    · exact h2
    exact logR_v r _ h4 y hy
theorem eqRc_self (x:Rc):eqRc x x=true:=by simp [eqRc]
theorem F35l_self (l:List Rc) (hl:l.length≤1000000):∀ (m i:Nat),i≤l.length→l.length - i < m→F35l1 l l m (i:Int)=some true:=by
  intro m
  induction m with
  | zero=>intro i _ h; omega
  | succ m ih =>
    intro i hi hm
    simp only [F35l1,F35b1]
    by_cases h:i < l.length
    · rw [if_pos (by omega),du (by omega),Int.toNat_natCast,List.getElem?_eq_getElem h,ba,ba,eqRc_fold,eqRc_self,if_pos rfl,dr (dy (by omega) (by omega)),show ((i:Int)+1)=((i+1:Nat):Int) by omega]
      exact ih (i+1) (by omega) (by omega)
    rw [if_neg (by omega)]
theorem F35_self (l:List Rc) (hl:l.length≤1000000) {N:Nat} (hN:l.length < N):F35 N l l=some true:=by
  rw [F35,if_pos rfl]
  exact F35l_self l hl N 0 (by omega) (by omega)
end Go.K
end
section
namespace Go.K
open Go.RowKit
def og (a:List Rc) (x:Rc):Bool:=match ob a x.p x.n with | some y=>!eqRc y x | none=>false
def newB (a:List Rc) (x:Rc):Bool:=(ob a x.p x.n).isNone
def oc (a b:List Rc):List Rc:=b.filter (newB a)
def joinR (a b:List Rc):List Rc × Int:=if b.any (og a)=true then ([],82) else if 60 < ((a++oc a b).length:Int) then ([],2) else (oa (a++oc a b),0)
theorem eqRc_iff {x y:Rc}:eqRc x y=true↔x=y:=by
  constructor
  · intro h; simp [eqRc] at h; cases x; cases y; simp_all
  rintro rfl; exact eqRc_self x
theorem new_keys (a b:List Rc) (ha:a.Pairwise nw) (hb:b.Pairwise nw):(a++oc a b).Pairwise nw:=by
  rw [List.pairwise_append]
  refine ⟨ha,hb.sublist List.filter_sublist,fun x hx y hy=>?_⟩
  have h:=(List.mem_filter.1 hy).2
  exact findRc_none (Option.isNone_iff_eq_none.1 h) x hx
theorem F31c_loop (a b:List Rc) (ha:oe a) (hb:oe b) {N:Nat} (hN:161≤N):∀ (m i:Nat),i≤b.length→b.length - i < m →
    F31l2 a b N m (a++oc a (b.take i)) (i:Int)=some (if (b.drop i).any (og a)=true then ([],82) else if 60 < ((a++oc a b).length:Int) then ([],2) else (oa (a++oc a b),0)):=by
  have hla:=np ha.1
  have hlb:=np hb.1
  have hnl:(oc a b).length≤b.length:=List.length_filter_le _ _
  intro m
  induction m with
  | zero=>intro i _ h; omega
  | succ m ih =>
    intro i hi hm
    simp only [F31l2,F31b2]
    by_cases h:i < b.length
    · rw [if_pos (by omega),du (by omega),Int.toNat_natCast,List.getElem?_eq_getElem h,ba,F100_eq a (by omega) b[i] (by omega),ba,drop_get h,List.any_cons]
      have hst:((i:Int)+1)=((i+1:Nat):Int):=by omega
      have hii:InR ((i:Int)+1):=dy (by omega) (by omega)
      have hn:=ih (i+1) (by omega) (by omega)
      have hti:(oc a (b.take i)).length≤60:=Nat.le_trans (List.length_filter_le _ _) (by rw [List.length_take]; omega)
      have hsn:oc a (b.take (i+1))=oc a (b.take i)++if newB a b[i]=true then [b[i]] else []:=by
        unfold oc; rw [take_snoc h,List.filter_append]
        by_cases hw:newB a b[i]=true
        · rw [if_pos hw,List.filter_cons_of_pos hw]; rfl
        rw [if_neg hw,List.filter_cons_of_neg hw]; rfl
      rw [hsn] at hn
      cases e3:ob a b[i].p b[i].n with
      | some y =>
        have hw:newB a b[i]=false:=by simp [newB,e3]
        have hc:og a b[i]=!eqRc y b[i]:=by simp [og,e3]
        rw [hw] at hn
        rw [hc]
        dsimp only
        rcases Bool.eq_false_or_eq_true (eqRc y b[i]) with he | he
        rotate_left
        · simp [he]
        simp only [he,if_true,F31j3]
        rw [dr hii,hst]
        simpa using hn
      | none =>
        have hw:newB a b[i]=true:=by simp [newB,e3]
        have hc:og a b[i]=false:=by simp [og,e3]
        rw [hw,if_pos rfl] at hn
        rw [hc]
        dsimp only
        simp only [if_true,Bool.false_eq_true,if_false,F31j3]
        rw [du (by simp; omega),dr hii,hst,List.append_assoc,Bool.false_or]
        exact hn
    rw [if_neg (by omega),F31j1,List.drop_of_length_le (by omega),List.take_of_length_le (by omega)]
    simp only [List.any_nil,Bool.false_eq_true,if_false]
    by_cases h60:60 < ((a++oc a b).length:Int)
    · rw [if_pos h60,if_pos h60]
    rw [if_neg h60,if_neg h60,F97_eq _ (by omega) (new_keys a b (logB_dis ha.1) (logB_dis hb.1)),ba]
theorem F31_book {a b:List Rc} (ha:oe a) (hb:oe b) {N:Nat} (hN:161≤N):F31 N a b=some (joinR a b):=by
  have hla:=np ha.1
  have hlb:=np hb.1
  rw [F31,F36_ok ha hN,ba,F36_ok hb hN,ba,F86_eq _ (by simp) (by simp; omega),ba,show firstN [0,0]=0 from rfl,if_pos rfl,F102,du (by omega),ba]
  have:=F31c_loop a b ha hb hN N 0 (by omega) (by omega)
  simpa [oc,joinR] using this
theorem cnt_card (d:List Rc) (p:Int) (n:Nat) (hk:d.Pairwise nw) (h1:∀ y∈d,y.p=p→0≤y.n∧y.n < n) (h2:∀ k:Nat,k < n→∃ y∈d,y.p=p∧y.n=k):cnt d p=n:=by
  let e:=(d.filter fun x=>decide (x.p=p)).map fun x=>x.n.toNat
  have hm:∀ k,k∈e↔k∈List.range n:=by
    intro k
    simp only [e,List.mem_map,List.mem_filter,List.mem_range,decide_eq_true_eq]
    constructor
    · rintro ⟨y,⟨hy,hp⟩,rfl⟩
      have:=h1 y hy hp; omega
    intro hkn
    obtain ⟨y,hy,hp,hn⟩:=h2 k hkn
    exact ⟨y,⟨hy,hp⟩,by rw [hn]; rfl⟩
  have hnd:e.Nodup:=by
    show List.Pairwise (fun a b=>a≠b) _
    simp only [e]
    rw [List.pairwise_map]
    refine List.Pairwise.imp_of_mem (fun {x y} hx hy hxy=>?_) (hk.sublist List.filter_sublist)
    have hx:=List.mem_filter.1 hx
    have hy:=List.mem_filter.1 hy
    have hxp:x.p=p:=by simpa using hx.2
    have hyp:y.p=p:=by simpa using hy.2
    have a1:=h1 x hx.1 hxp
    have a2:=h1 y hy.1 hyp
    intro he
    exact hxy ⟨by rw [hxp,hyp],by omega⟩
  have hp:=(List.perm_ext_iff_of_nodup hnd List.nodup_range).2 hm
  have hl:=hp.length_eq
  simp only [e,List.length_map,List.length_range] at hl
  unfold cnt; rw [hl]
end Go.K
end
section
namespace Go.K
open Go.RowKit
def ordP (a b:Rc):Prop:=a.p=b.p→a.n < b.n
def closedP (l:List Rc):Prop:=∀ x∈l,∀ k:Nat,(k:Int) < x.n→∃ y∈l,y.p=x.p∧y.n=k
theorem vRc_n {x:Rc} (h:vRc x=true):0≤x.n:=by
  simp only [vRc,vIt,inB,Bool.and_eq_true,decide_eq_true_eq] at h; omega
theorem ord_key {l:List Rc} (h:l.Pairwise ordP):l.Pairwise nw:=h.imp fun {a b} hab=>by unfold ordP nw at *; omega
theorem log_of {l:List Rc} (hl:l.length≤60) (hv:∀ y∈l,vRc y=true) (ho:l.Pairwise ordP) (hc:closedP l):logB l=true:=by
  suffices h:∀ (r done:List Rc),done++r=l→logR done r=true from h l [] rfl
  intro r
  induction r with
  | nil=>intro _ _; rfl
  | cons x r ih =>
    intro done he
    subst he
    have hx:=hv x (by simp)
    have hpw:=List.pairwise_append.1 ho
    have hn0:=vRc_n hx
    have hcn:cnt done x.p=(x.n.toNat:Int):=by
      refine cnt_card done x.p x.n.toNat (ord_key hpw.1) (fun y hy hp=>?_) (fun k hk=>?_)
      · have h1:=vRc_n (hv y (by simp [hy]))
        have h2:=hpw.2.2 y hy x (by simp) hp
        omega
      obtain ⟨y,hy,hp,hn⟩:=hc x (by simp) k (by omega)
      rcases List.mem_append.1 hy with hy | hy
      · exact ⟨y,hy,hp,hn⟩
      rcases List.mem_cons.1 hy with rfl | hy
      · omega
      have:=(List.pairwise_cons.1 hpw.2.1).1 y hy hp.symm; omega
    have hr:=ih (done++[x]) (by simp)
    simp only [logR,hx,hr,hcn,Bool.and_true,Bool.and_eq_true,decide_eq_true_eq]
    simp at hl
    omega
theorem logR_closed:∀ (r done:List Rc),(∀ (p:Int) (k:Nat),(k:Int) < cnt done p→∃ y∈done,y.p=p∧y.n=k)→logR done r=true→∀ (p:Int) (k:Nat),(k:Int) < cnt (done++r) p→∃ y∈done++r,y.p=p∧y.n=k
  | [],done,h1,_=>by simpa using h1
  | x :: r,done,h1,h=>by
    simp only [logR,Bool.and_eq_true,decide_eq_true_eq] at h
    obtain ⟨⟨⟨_,_⟩,h3⟩,h4⟩:=h
    have:=logR_closed r (done++[x]) (fun p k hk=>?_) h4
    · simpa using this
    rw [cnt_snoc] at hk
    by_cases hlt:(k:Int) < cnt done p
    · obtain ⟨y,hy,e⟩:=h1 p k hlt
      exact ⟨y,by simp [hy],e⟩
    by_cases hp:x.p=p
    · rw [if_pos hp] at hk
      exact ⟨x,by simp,hp,by rw [h3,hp]; omega⟩
    rw [if_neg hp] at hk; omega
theorem logB_closed {l:List Rc} (h:logB l=true):closedP l:=by
  intro x hx k hk
  have h1:=logB_cnt h x hx
  have:=logR_closed l [] (fun p k hk=>by simp [cnt_nil] at hk; omega) h x.p k
  simp only [List.nil_append] at this
  exact this (by omega)
theorem book_v {l:List Rc} (h:oe l):∀ y∈l,vRc y=true:=logR_v l [] h.1
theorem od {l:List Rc} (h:oe l):l.Pairwise nw:=logB_dis h.1
theorem key_eq {l:List Rc} (h:l.Pairwise nw) {a b:Rc} (ha:a∈l) (hb:b∈l) (hp:a.p=b.p) (hn:a.n=b.n):a=b:=disRc_mem (disRc_of h) ha hb hp hn
theorem find_of {l:List Rc} (h:l.Pairwise nw) {y:Rc} (hy:y∈l) {p n:Int} (hp:y.p=p) (hn:y.n=n):ob l p n=some y:=by
  cases e:ob l p n with
  | none=>exact absurd ⟨hp,hn⟩ (findRc_none e y hy)
  | some z =>
    obtain ⟨hz,e1,e2⟩:=findRc_some e
    rw [key_eq h hz hy (by rw [e1,hp]) (by rw [e2,hn])]
theorem clash_iff {a:List Rc} (ha:a.Pairwise nw) (x:Rc):og a x=true↔∃ y∈a,y.p=x.p∧y.n=x.n∧y≠x:=by
  constructor
  · intro h
    unfold og at h
    cases e:ob a x.p x.n with
    | none=>rw [e] at h; cases h
    | some y =>
      rw [e] at h
      obtain ⟨hy,e1,e2⟩:=findRc_some e
      refine ⟨y,hy,e1,e2,fun hq=>?_⟩
      dsimp only at h; rw [eqRc_iff.2 hq] at h; cases h
  rintro ⟨y,hy,e1,e2,hne⟩
  unfold og
  rw [find_of ha hy e1 e2]
  have:eqRc y x=false:=by
    cases hq:eqRc y x
    · rfl
    exact absurd (eqRc_iff.1 hq) hne
  simp [this]
theorem new_iff {a:List Rc} (ha:a.Pairwise nw) (b:List Rc) (x:Rc):x∈oc a b↔x∈b∧∀ y∈a,¬ (y.p=x.p∧y.n=x.n):=by
  unfold oc newB
  rw [List.mem_filter]
  constructor
  · rintro ⟨h1,h2⟩
    exact ⟨h1,findRc_none (Option.isNone_iff_eq_none.1 h2)⟩
  rintro ⟨h1,h2⟩
  refine ⟨h1,?_⟩
  cases e:ob a x.p x.n with
  | none=>rfl
  | some y =>
    obtain ⟨hy,e1,e2⟩:=findRc_some e
    exact absurd ⟨e1,e2⟩ (h2 y hy)
def agreeP (a b:List Rc):Prop:=∀ x∈b,∀ y∈a,y.p=x.p→y.n=x.n→y=x
theorem any_clash {a b:List Rc} (ha:a.Pairwise nw):b.any (og a)=true↔¬ agreeP a b:=by
  rw [List.any_eq_true]
  constructor
  · rintro ⟨x,hx,hc⟩ h
    obtain ⟨y,hy,e1,e2,hne⟩:=(clash_iff ha x).1 hc
    exact hne (h x hx y hy e1 e2)
  intro h
  refine Classical.byContradiction fun hn=>h fun x hx y hy e1 e2=>Classical.byContradiction fun hne=>hn ⟨x,hx,(clash_iff ha x).2 ⟨y,hy,e1,e2,hne⟩⟩
theorem agree_symm {a b:List Rc} (h:agreeP a b):agreeP b a:=fun x hx y hy e1 e2=>(h y hy x hx e1.symm e2.symm).symm
theorem key_nodup {l:List Rc} (h:l.Pairwise nw):l.Nodup:=h.imp fun {a b} hab=>by rintro rfl; exact hab ⟨rfl,rfl⟩
theorem join_mem {a b:List Rc} (ha:a.Pairwise nw) (h:agreeP a b) (z:Rc):z∈a++oc a b↔z∈a∨z∈b:=by
  rw [List.mem_append,new_iff ha]
  constructor
  · rintro (h1 | ⟨h1,_⟩)
    · exact .inl h1
    exact .inr h1
  rintro (h1 | h1)
  · exact .inl h1
  by_cases hq:∃ y∈a,y.p=z.p∧y.n=z.n
  · obtain ⟨y,hy,e1,e2⟩:=hq
    rw [h z h1 y hy e1 e2] at hy; exact .inl hy
  exact .inr ⟨h1,fun y hy e=>hq ⟨y,hy,e⟩⟩
theorem join_perm {a b:List Rc} (ha:a.Pairwise nw) (hb:b.Pairwise nw) (h:agreeP a b):(a++oc a b).Perm (b++oc b a):=by
  refine (List.perm_ext_iff_of_nodup (key_nodup (new_keys a b ha hb)) (key_nodup (new_keys b a hb ha))).2 fun z=>?_
  rw [join_mem ha h,join_mem hb (agree_symm h)]; exact or_comm
theorem srt_perm {l m:List Rc} (hk:m.Pairwise nw) (hp:l.Perm m):oa l=oa m :=
  srtRc_uniq (disRc_of hk) ((oh l).trans hp) (srtRc_le l)
theorem joinR_symm {a b:List Rc} (ha:oe a) (hb:oe b):joinR a b=joinR b a:=by
  have ka:=od ha
  have kb:=od hb
  unfold joinR
  by_cases h:agreeP a b
  · have h1:¬ b.any (og a)=true:=fun hh=>(any_clash ka).1 hh h
    have h2:¬ a.any (og b)=true:=fun hh=>(any_clash kb).1 hh (agree_symm h)
    have hp:=join_perm ka kb h
    rw [if_neg h1,if_neg h2,hp.length_eq,srt_perm (new_keys b a kb ka) hp]
  have h1:b.any (og a)=true:=(any_clash ka).2 h
  have h2:a.any (og b)=true:=(any_clash kb).2 fun hh=>h (agree_symm hh)
  rw [if_pos h1,if_pos h2]
theorem srt_less {l:List Rc} (h:l.Pairwise nw):(oa l).Pairwise ns:=by
  have hk:(oa l).Pairwise nw:=by
    refine (List.Perm.pairwise_iff (fun {x y} hxy=>?_) (oh l)).2 h
    unfold nw at *; omega
  refine ((srtRc_le l).and hk).imp fun {a b} hab=>?_
  obtain ⟨h1,h2⟩:=hab
  rw [cmpRc_lt] at h1
  unfold ns nw at *; omega
theorem less_ord {l:List Rc} (h:l.Pairwise ns):l.Pairwise ordP:=h.imp fun {a b} hab=>by unfold ns ordP at *; omega
theorem join_book {a b:List Rc} (ha:oe a) (hb:oe b) (h:agreeP a b) (hl:(a++oc a b).length≤60):oe (oa (a++oc a b)):=by
  have ka:=od ha
  have kb:=od hb
  have hm:∀ z,z∈oa (a++oc a b)↔z∈a∨z∈b:=fun z=>by rw [(oh _).mem_iff,join_mem ka h]
  have hls:=srt_less (new_keys a b ka kb)
  refine ⟨log_of (by rw [srtRc_len]; exact hl) (fun y hy=>?_) (less_ord hls) (fun x hx k hk=>?_),pw_adjP hls⟩
  · rcases (hm y).1 hy with hy | hy
    · exact book_v ha y hy
    exact book_v hb y hy
  rcases (hm x).1 hx with hx | hx
  · obtain ⟨y,hy,e⟩:=logB_closed ha.1 x hx k hk
    exact ⟨y,(hm y).2 (.inl hy),e⟩
  obtain ⟨y,hy,e⟩:=logB_closed hb.1 x hx k hk
  exact ⟨y,(hm y).2 (.inr hy),e⟩
theorem joinR_in {c b:List Rc} (hc:oe c) (hs:∀ x∈b,x∈c):joinR c b=(c,0):=by
  have kc:=od hc
  have h:agreeP c b:=fun x hx y hy e1 e2=>key_eq kc hy (hs x hx) e1 e2
  have hn:oc c b=[]:=by
    refine List.eq_nil_iff_forall_not_mem.2 fun x hx=>?_
    obtain ⟨h1,h2⟩:=(new_iff kc b x).1 hx
    exact h2 x (hs x h1) ⟨rfl,rfl⟩
  have hl:=np hc.1
  unfold joinR
  rw [if_neg (fun hh=>(any_clash kc).1 hh h),hn,List.append_nil,if_neg (by omega),book_srt hc]
end Go.K
end
section
namespace Go.K
open Go.RowKit
def blkN (a:List Rc) (v:Int):List Rc:=a.reverse.filter fun x=>decide (x.n=v)
def preN (a:List Rc):Nat→List Rc
  | 0=>[]
  | k+1=>preN a k++blkN a k
theorem blkN_len (a:List Rc) (v:Int):(blkN a v).length≤a.length:=by
  have:=List.length_filter_le (fun x:Rc=>decide (x.n=v)) a.reverse
  simpa [blkN] using this
theorem preN_len (a:List Rc):∀ k,(preN a k).length≤k * a.length
  | 0=>by simp [preN]
  | k+1=>by
    have h1:=preN_len a k
    have h2:=blkN_len a k
    rw [preN,List.length_append,Nat.succ_mul]; omega
theorem F8l5_eq (a:List Rc) (ha:a.length≤60) (rec3:List Rc→Int→Option Bool) (v:Int):∀ (m k:Nat) (u:List Rc),k≤a.length→k < m→(u.length:Int)+k≤1000000 →
    F8l5 a rec3 v m u ((k:Int) - 1)=F8j4 rec3 v (u++(a.take k).reverse.filter fun x=>decide (x.n=v)):=by
  intro m
  induction m with
  | zero=>intro k _ _ h; omega
  | succ m ih =>
    intro k u hk hm hu
    simp only [F8l5,F8b5]
    cases k with
    | zero =>
      rw [if_neg (by simp)]; simp
    | succ k =>
      have hc:(((k+1:Nat):Int) - 1)=(k:Int):=by omega
      rw [hc,if_pos (by omega),Int.toNat_natCast,List.getElem?_eq_getElem (show k < a.length by omega),ba,take_snoc (show k < a.length by omega),List.reverse_append,List.filter_append]
      have hki:InR ((k:Int) - 1):=dy (by omega) (by omega)
      by_cases h:(a[k]'(by omega)).n=v
      · rw [if_pos h,du (by omega)]
        simp only [F8j6]
        rw [dr hki,ih k _ (by omega) (by omega) (by simp; omega)]
        have e:([a[k]'(by omega)]:List Rc).reverse.filter (fun x=>decide (x.n=v))=[a[k]'(by omega)]:=by simp [h]
        rw [e,List.append_assoc]
      rw [if_neg h]
      simp only [F8j6]
      rw [dr hki,ih k _ (by omega) (by omega) (by omega)]
      simp [h]
theorem F8l3_eq (a b:List Rc) (ha:a.length≤60) {N:Nat} (hN:161≤N) (y:List Rc × Int):∀ (m v:Nat),v≤60→60 - v < m→F8l3 a b N y m (preN a v) (v:Int)=F8j2 a b N y (preN a 60):=by
  intro m
  induction m with
  | zero=>intro v _ h; omega
  | succ m ih =>
    intro v hv hm
    simp only [F8l3,F8b3]
    by_cases h:v < 60
    · rw [if_pos (by omega),dr (dy (by omega) (by omega))]
      have hl:=preN_len a v
      have h60:v * a.length≤60 * 60:=Nat.mul_le_mul (by omega) ha
      rw [F8l5_eq a ha _ (v:Int) N a.length (preN a v) (by omega) (by omega) (by omega),List.take_of_length_le (Nat.le_refl _)]
      simp only [F8j4]
      rw [dr (dy (by omega) (by omega)),show ((v:Int)+1)=((v+1:Nat):Int) by omega]
      exact ih (v+1) (by omega) (by omega)
    rw [if_neg (by omega)]
    obtain rfl:v=60:=by omega
    rfl
theorem blkN_mem (a:List Rc) (v:Int) (x:Rc):x∈blkN a v↔x∈a∧x.n=v:=by simp [blkN]
theorem preN_mem (a:List Rc) (x:Rc):∀ k,x∈preN a k↔x∈a∧0≤x.n∧x.n < k
  | 0=>by
    constructor
    · intro h; cases h
    rintro ⟨_,_,_⟩; omega
  | k+1=>by
    rw [preN,List.mem_append,preN_mem a x k,blkN_mem]
    constructor
    · rintro (⟨h1,h2,h3⟩ | ⟨h1,h2⟩)
      · exact ⟨h1,h2,by omega⟩
      exact ⟨h1,by omega,by omega⟩
    rintro ⟨h1,h2,h3⟩
    by_cases h:x.n < k
    · exact .inl ⟨h1,h2,h⟩
    exact .inr ⟨h1,by omega⟩
theorem preN_ord {a:List Rc} (ha:a.Pairwise nw):∀ k,(preN a k).Pairwise ordP
  | 0=>List.Pairwise.nil
  | k+1=>by
    rw [preN,List.pairwise_append]
    refine ⟨preN_ord ha k,?_,fun x hx y hy hp=>?_⟩
    · have hr:a.reverse.Pairwise nw:=List.pairwise_reverse.2 (ha.imp fun {x y} h=>by unfold nw at *; omega)
      refine List.Pairwise.imp_of_mem (fun {x y} hx hy hxy hp=>?_) (hr.sublist (List.filter_sublist (p:=fun x:Rc=>decide (x.n=(k:Int)))))
      have h1:=((blkN_mem a k x).1 hx).2
      have h2:=((blkN_mem a k y).1 hy).2
      exact absurd ⟨hp,by omega⟩ hxy
    have h1:=(preN_mem a x k).1 hx
    have h2:=(blkN_mem a k y).1 hy
    omega
theorem preN_book {a:List Rc} (h:oe a):logB (preN a 60)=true∧oa (preN a 60)=a:=by
  have ka:=od h
  have hl:=np h.1
  have hmem:∀ x,x∈preN a 60↔x∈a:=by
    intro x
    rw [preN_mem]
    constructor
    · exact fun hh=>hh.1
    intro hx
    have h1:=vRc_n (book_v h x hx)
    have h2:=logB_cnt h.1 x hx
    have h3:=cnt_le a x.p
    exact ⟨hx,h1,by omega⟩
  have ho:=preN_ord ka 60
  have hp:(preN a 60).Perm a:=(List.perm_ext_iff_of_nodup (key_nodup (ord_key ho)) (key_nodup ka)).2 hmem
  refine ⟨log_of (by rw [hp.length_eq]; exact hl) (fun y hy=>book_v h y ((hmem y).1 hy)) ho (fun x hx k hk=>?_),?_⟩
  · obtain ⟨y,hy,e⟩:=logB_closed h.1 x ((hmem x).1 hx) k hk
    exact ⟨y,(hmem y).2 hy,e⟩
  rw [srt_perm ka hp,book_srt h]
theorem F62l_eq (a c:List Rc) (ha:a.length≤60) (hc:c.length≤60) (kc:c.Pairwise nw) (hs:∀ x∈a,x∈c) {N:Nat} (hN:161≤N):∀ (m i:Nat),i≤a.length→a.length - i < m→F62l1 a c N m (i:Int)=some true:=by
  intro m
  induction m with
  | zero=>intro i _ h; omega
  | succ m ih =>
    intro i hi hm
    simp only [F62l1,F62b1]
    by_cases h:i < a.length
    · rw [if_pos (by omega),du (by omega),Int.toNat_natCast,List.getElem?_eq_getElem h,ba]
      have hf:=find_of kc (hs a[i] (List.getElem_mem h)) rfl rfl
      rcases F105_eq c (by omega) ⟨a[i].p,a[i].n⟩ (N:=N) (by omega) with ⟨j,y,e1,e2,e3⟩ | ⟨e1,e3⟩
      · replace e3:ob c a[i].p a[i].n=some y:=e3
        rw [hf] at e3
        injection e3 with e3
        subst e3
        rw [e1,ba,if_neg (by omega),du (by omega),Int.toNat_natCast,e2,ba,eqRc_fold,eqRc_self,if_pos rfl,dr (dy (by omega) (by omega)),show ((i:Int)+1)=((i+1:Nat):Int) by omega]
        exact ih (i+1) (by omega) (by omega)
      replace e3:ob c a[i].p a[i].n=none:=e3
      rw [hf] at e3; cases e3
    rw [if_neg (by omega)]
theorem F62_eq {a c:List Rc} (ha:oe a) (hc:oe c) (hs:∀ x∈a,x∈c) {N:Nat} (hN:161≤N):F62 N a c=some true :=
  F62l_eq a c (np ha.1) (np hc.1) (od hc) hs hN N 0 (by omega) (by have:=np ha.1; omega)
theorem joinR_len {a b:List Rc}:(joinR a b).1.length≤60:=by
  unfold joinR; split
  · simp
  split
  · simp
  simp only [srtRc_len]; omega
theorem F8_true (a b:List Rc):F8 2000 a b=some true:=by
  rw [F8]
  by_cases ha:oe a
  · rw [F37_ok ha (by omega),ba,if_pos rfl]
    by_cases hb:oe b
    · have ka:=od ha
      have kb:=od hb
      have hla:=np ha.1
      have hl := @joinR_len a b
      rw [F37_ok hb (by omega),ba,if_pos rfl,F31_book ha hb (by omega),ba,F31_book hb ha (by omega),ba,← joinR_symm ha hb,F35_self _ (by omega) (by omega),ba,if_pos rfl,if_pos rfl,F31_book ha ha (by omega),ba,joinR_in ha (fun x hx=>hx),if_pos rfl,F35_self _ (by show a.length≤_; omega) (by show a.length < _; omega),ba,if_pos rfl]
      have:=F8l3_eq a b hla (N:=2000) (by omega) (joinR a b) 2000 0 (by omega) (by omega)
      rw [show preN a 0=[] from rfl] at this
      rw [show ((0:Nat):Int)=0 from rfl] at this
      rw [this,F8j2,F27_eq _ (by omega),ba,if_pos (preN_book ha).1,(preN_book ha).2]
      dsimp only
      rw [if_pos rfl,F35_self _ (by omega) (by omega),ba,if_pos rfl]
      by_cases hg:agreeP a b
      · have h1:¬ b.any (og a)=true:=fun hh=>(any_clash ka).1 hh hg
        by_cases h60:60 < ((a++oc a b).length:Int)
        · have hj:joinR a b=([],2):=by unfold joinR; rw [if_neg h1,if_pos h60]
          rw [hj,if_neg (by decide),if_neg (by decide),if_pos rfl,sane_ok (by omega)]; rfl
        have hj:joinR a b=(oa (a++oc a b),0):=by unfold joinR; rw [if_neg h1,if_neg h60]
        have hc:=join_book ha hb hg (by omega)
        have hm:∀ z,z∈oa (a++oc a b)↔z∈a∨z∈b:=fun z=>by rw [(oh _).mem_iff,join_mem ka hg]
        have hlc:=np hc.1
        rw [hj,if_pos rfl]
        dsimp only
        rw [F31_book hc hb (by omega),ba,joinR_in hc (fun x hx=>(hm x).2 (.inr hx)),if_pos rfl]
        dsimp only
        rw [F35_self _ (by omega) (by omega),ba,if_pos rfl,F36_ok hc (by omega),ba,if_pos rfl,F62_eq ha hc (fun x hx=>(hm x).2 (.inl hx)) (by omega),ba,if_pos rfl,F62_eq hb hc (fun x hx=>(hm x).2 (.inr hx)) (by omega),ba,if_pos rfl,sane_ok (by omega)]; rfl
      have hj:joinR a b=([],82):=by unfold joinR; rw [if_pos ((any_clash ka).2 hg)]
      rw [hj,if_neg (by decide),if_pos rfl,sane_ok (by omega)]; rfl
    rw [F37_no hb (by omega),ba,if_neg (by decide),F8j1,sane_ok (by omega)]; rfl
  rw [F37_no ha (by omega),ba,if_neg (by decide),F8j1,sane_ok (by omega)]; rfl
end Go.K
end
