/- Y1, Yi, Yj, Yk, Yl, Y2, Y3, Y4, Y5, Y6, Y7, Y8, Y9, Ya, Yb, Yc, Yd, Ym, Yn, Yo, Ye, Yq, Yr, Ys, Yf, Yg, Yh, Yt, Yu, Yp, Yw. -/
import Derived.Test.YtcondbkhcjgemaaGreatDoorED
import Derived.Test.YtcondbkhcjgemaaGreatDoorESb
import Derived.KernelRfl
set_option linter.unusedVariables false
set_option linter.unusedSimpArgs false
section
namespace Go.K
open Go.RowKit
theorem ba {α β:Type} (x:α) (k:α→Option β):bp (some x) k=k x:=rfl
theorem du {β:Type} {p:Prop} [Decidable p] {k:Option β} (h:p):gdO p k=k:=if_pos h
theorem dr {β:Type} {n:Int} {k:Option β} (h:InR n):ckO n k=k:=if_pos h
theorem pi {n:Int} (h0:-1000000000000≤n) (h1:n≤1000000000000):InR n:=by unfold InR; omega
def okB (b:UInt8):Bool:=decide (32≤nb b) && decide (nb b≤126)
def ck (s:Str):Bool:=s.all okB
theorem jj {α:Type} {l:List α} {i:Nat} (h:i < l.length):l.drop i=l[i] :: l.drop (i+1):=List.drop_eq_getElem_cons h
theorem F145l_eq (s:Str) (hs:(s.length:Int)≤1000000000):∀ (m i:Nat),i≤s.length→s.length - i < m→F145l1 s m (i:Int)=some ((s.drop i).all okB):=by
  intro m
  induction m with
  | zero=>intro i _ h; omega
  | succ m ih =>
    intro i hi hm
    simp only [F145l1,F145b1]
    by_cases h:i < s.length
    · rw [if_pos (by omega),du (by omega),Int.toNat_natCast,List.getElem?_eq_getElem h,ba,jj h,List.all_cons]
      by_cases h1:nb s[i] < 32
      · rw [if_pos h1,show okB s[i]=false by simp [okB]; omega]; simp
      rw [if_neg h1]
      by_cases h2:126 < nb s[i]
      · rw [if_pos h2,show okB s[i]=false by simp [okB]; omega]; simp
      rw [if_neg h2,dr (pi (by omega) (by omega)),show ((i:Int)+1)=((i+1:Nat):Int) by omega,ih (i+1) (by omega) (by omega),show okB s[i]=true by simp [okB]; omega]
      simp
    rw [if_neg (by omega),List.drop_of_length_le (by omega)]
    rfl
theorem F145_eq (s:Str) (hs:(s.length:Int)≤1000000000) {N:Nat} (hN:s.length < N):F145 N s=some (ck s):=by
  have:=F145l_eq s hs N 0 (by omega) (by omega)
  simpa [F145,ck] using this
theorem F84l_eq (s:Str) (hs:(s.length:Int)≤1000000000):∀ (m i:Nat),i≤s.length→s.length - i < m→F84l1 s m (i:Int)=some ((s.drop i).all okB):=by
  intro m
  induction m with
  | zero=>intro i _ h; omega
  | succ m ih =>
    intro i hi hm
    simp only [F84l1,F84b1]
    by_cases h:i < s.length
    · rw [if_pos (by omega),du (by omega),Int.toNat_natCast,List.getElem?_eq_getElem h,ba,jj h,List.all_cons]
      by_cases h1:nb s[i] < 32
      · rw [if_pos h1,show okB s[i]=false by simp [okB]; omega]; simp
      rw [if_neg h1]
      by_cases h2:126 < nb s[i]
      · rw [if_pos h2,show okB s[i]=false by simp [okB]; omega]; simp
      rw [if_neg h2,dr (pi (by omega) (by omega)),show ((i:Int)+1)=((i+1:Nat):Int) by omega,ih (i+1) (by omega) (by omega),show okB s[i]=true by simp [okB]; omega]
      simp
    rw [if_neg (by omega),List.drop_of_length_le (by omega)]
    rfl
theorem F84_eq (s:Str) (hs:(s.length:Int)≤1000000000) {N:Nat} (hN:s.length < N):F84 N s=some (ck s):=by
  have:=F84l_eq s hs N 0 (by omega) (by omega)
  simpa [F84,ck] using this
def inB (x a b:Int):Bool:=decide (a≤x) && decide (x≤b)
theorem F76_eq (x a b:Int):F76 x a b=some (inB x a b):=by
  simp only [F76,inB]; by_cases h1:a≤x <;> by_cases h2:x≤b <;> simp [h1,h2]
theorem F82_eq (x a b:Int):F82 x a b=some (inB x a b):=F76_eq x a b
def vIt (x:It):Bool:=inB x.p 0 5 && inB x.n 0 9999
theorem F75_eq (x:It):F75 x=some (vIt x):=by
  simp only [F75,F126,F76_eq,ba,vIt]
  cases inB x.p 0 5 <;> simp
theorem F81_eq (x:It):F81 x=some (vIt x):=by
  simp only [F81,F127,F82_eq,ba,vIt]
  cases inB x.p 0 5 <;> simp
def suitB (p0:Rc):Bool :=
  if p0.k=0 then vIt ⟨p0.op,p0.on⟩ && decide (p0.op=p0.p) && decide (p0.on < p0.n) && decide (p0.d=0) && decide (p0.t=[])
  else decide (p0.op=0) && decide (p0.on=0)
theorem F80_eq (p0:Rc):F80 p0=some (suitB p0):=by
  unfold F80 suitB
  by_cases h:p0.k=0
  · rw [if_pos h,if_pos h,F75_eq,ba]
    cases h1:vIt ⟨p0.op,p0.on⟩ <;> by_cases h2:p0.op=p0.p <;> by_cases h3:p0.on < p0.n <;> by_cases h4:p0.d=0 <;> by_cases h5:p0.t=[] <;> simp [F80j1,h2,h3,h4,h5]
  rw [if_neg h,if_neg h]
  by_cases h1:p0.op=0 <;> by_cases h2:p0.on=0 <;> simp [h1,h2]
def vRc (p0:Rc):Bool:=vIt ⟨p0.p,p0.n⟩ && inB p0.k 0 60 && inB p0.d 0 4166 && inB p0.kn 0 4166 && decide ((p0.t.length:Int)≤160) && ck p0.t && suitB p0
theorem F17_eq (p0:Rc) {N:Nat} (hN:161≤N):F17 N p0=some (if vRc p0=true then 0 else 80):=by
  have h79:F79 N p0.t=some (decide ((p0.t.length:Int)≤160) && ck p0.t):=by
    unfold F79
    by_cases h:(p0.t.length:Int)≤160
    · rw [if_pos h,F145_eq p0.t (by omega) (by omega),ba]; simp [h]
    rw [if_neg h]; simp [h]
  simp only [F17,F17j1,F77,F78,F75_eq,F76_eq,F80_eq,h79,ba,vRc]
  rcases Bool.eq_false_or_eq_true (vIt ⟨p0.p,p0.n⟩) with h1 | h1 <;> rcases Bool.eq_false_or_eq_true (inB p0.k 0 60) with h2 | h2 <;> rcases Bool.eq_false_or_eq_true (inB p0.d 0 4166) with h3 | h3 <;> rcases Bool.eq_false_or_eq_true (inB p0.kn 0 4166) with h4 | h4 <;> by_cases h5:(p0.t.length:Int)≤160 <;> rcases Bool.eq_false_or_eq_true (ck p0.t) with h6 | h6 <;> rcases Bool.eq_false_or_eq_true (suitB p0) with h7 | h7 <;> simp [h1,h2,h3,h4,h5,h6,h7,ba]
theorem F18_eq (p0:Rc) {N:Nat} (hN:161≤N):F18 N p0=some (if vRc p0=true then 0 else 80):=by
  simp only [F18,F81_eq,F82_eq,F83,ba,vRc]
  rcases Bool.eq_false_or_eq_true (vIt ⟨p0.p,p0.n⟩) with h1 | h1
  · rcases Bool.eq_false_or_eq_true (inB p0.k 0 60) with h2 | h2
    · rcases Bool.eq_false_or_eq_true (inB p0.d 0 4166) with h3 | h3
      · rcases Bool.eq_false_or_eq_true (inB p0.kn 0 4166) with h4 | h4
        · by_cases h5:(p0.t.length:Int)≤160
          · rw [F84_eq p0.t (by omega) (by omega)]
            rcases Bool.eq_false_or_eq_true (ck p0.t) with h6 | h6
            · simp only [ba,suitB,h1,h2,h3,h4,h6,if_true,decide_eq_true h5,Bool.and_true,Bool.true_and,if_neg (show ¬ (160:Int) < p0.t.length by omega)]
              by_cases hk:p0.k=0
              · simp only [if_pos hk]
                rcases Bool.eq_false_or_eq_true (vIt ⟨p0.op,p0.on⟩) with g1 | g1
                · simp only [g1]
                  by_cases g2:p0.op=p0.p <;> by_cases g3:p0.n≤p0.on <;> by_cases g4:p0.d=0 <;> by_cases g5:p0.t=[] <;> simp [g2,g3,g4,g5,show p0.on < p0.n↔¬ p0.n≤p0.on from Int.not_le.symm]
                simp only [g1]
                by_cases g4:p0.d=0 <;> by_cases g5:p0.t=[] <;> simp [g4,g5]
              simp only [if_neg hk]
              by_cases g2:p0.op=0 <;> by_cases g3:p0.on=0 <;> simp [g2,g3]
            simp [h1,h2,h3,h4,h5,h6,Int.not_lt.2 h5,ba]
          simp [h1,h2,h3,h4,h5,show (160:Int) < p0.t.length by omega]
        simp [h1,h2,h3,h4]
      simp [h1,h2,h3]
    simp [h1,h2]
  simp [h1]
end Go.K
end
section
namespace Go.K
open Go.RowKit
def cnt (l:List Rc) (p:Int):Int:=((l.filter fun x=>decide (x.p=p)).length:Nat)
theorem cnt_nil (p:Int):cnt [] p=0:=rfl
theorem cnt_snoc (l:List Rc) (x:Rc) (p:Int):cnt (l++[x]) p=cnt l p+if x.p=p then 1 else 0:=by
  unfold cnt; rw [List.filter_append,List.length_append]
  by_cases h:x.p=p
  · rw [if_pos h,List.filter_cons_of_pos (by simpa using h)]; simp
  rw [if_neg h,List.filter_cons_of_neg (by simpa using h)]; simp
theorem cnt_le (l:List Rc) (p:Int):0≤cnt l p∧cnt l p≤l.length:=by
  unfold cnt; have:=List.length_filter_le (fun x:Rc=>decide (x.p=p)) l; omega
theorem ny {α:Type} {l:List α} {i:Nat} (h:i < l.length):l.take (i+1)=l.take i++[l[i]]:=by
  rw [List.take_add_one,List.getElem?_eq_getElem h]; rfl
def logR (done:List Rc):List Rc→Bool
  | []=>true
  | x :: r=>decide ((done.length:Int) < 60) && vRc x && decide (x.n=cnt done x.p) && logR (done++[x]) r
def logB (l:List Rc):Bool:=logR [] l
theorem logR_len:∀ (r done:List Rc),logR done r=true→60 < done.length+r.length→r=[]
  | [],_,_,_=>rfl
  | x :: r,done,h,hl=>by
    simp only [logR,Bool.and_eq_true,decide_eq_true_eq] at h
    obtain ⟨⟨⟨h1,h2⟩,h3⟩,h4⟩:=h
    have:=logR_len r (done++[x]) h4 (by simp at hl ⊢; omega)
    subst this; simp at hl; omega
theorem np {l:List Rc} (h:logB l=true):l.length≤60:=by
  refine Decidable.byContradiction fun hn=>?_
  have:=logR_len l [] h (by simp; omega)
  subst this; simp at hn
theorem F132l_eq (l:List Rc) (hl:(l.length:Int)≤1000000) (p:Int):∀ (m i:Nat),i≤l.length→l.length - i < m→F132l1 l p m (cnt (l.take i) p) (i:Int)=some (cnt l p):=by
  intro m
  induction m with
  | zero=>intro i _ h; omega
  | succ m ih =>
    intro i hi hm
    simp only [F132l1,F132b1]
    by_cases h:i < l.length
    · have hc:=cnt_le (l.take i) p
      have ht:((l.take i).length:Int)≤1000000:=by rw [List.length_take]; omega
      have hs:=cnt_snoc (l.take i) l[i] p
      rw [← ny h] at hs
      rw [if_pos (by omega),du (by omega),Int.toNat_natCast,List.getElem?_eq_getElem h,ba]
      have hn:=ih (i+1) (by omega) (by omega)
      rw [hs] at hn
      by_cases h1:l[i].p=p
      · rw [if_pos h1] at hn ⊢; rw [dr (pi (by omega) (by omega))]
        simp only [F132j2]; rw [dr (pi (by omega) (by omega)),show ((i:Int)+1)=((i+1:Nat):Int) by omega,hn]
      rw [if_neg h1] at hn ⊢
      simp only [F132j2]; rw [dr (pi (by omega) (by omega)),show ((i:Int)+1)=((i+1:Nat):Int) by omega,← hn,Int.add_zero]
    rw [if_neg (by omega),List.take_of_length_le (by omega)]
theorem F132_eq (l:List Rc) (hl:(l.length:Int)≤1000000) (p:Int) {N:Nat} (hN:l.length < N):F132 N l p=some (cnt l p):=by
  have:=F132l_eq l hl p N 0 (by omega) (by omega)
  simpa [F132,cnt_nil] using this
theorem F101l_eq (l:List Rc) (hl:(l.length:Int)≤1000000) (p:Int):∀ (m i:Nat),i≤l.length→l.length - i < m→F101l1 l p m (cnt (l.take i) p) (i:Int)=some (cnt l p):=by
  intro m
  induction m with
  | zero=>intro i _ h; omega
  | succ m ih =>
    intro i hi hm
    simp only [F101l1,F101b1]
    by_cases h:i < l.length
    · have hc:=cnt_le (l.take i) p
      have ht:((l.take i).length:Int)≤1000000:=by rw [List.length_take]; omega
      have hs:=cnt_snoc (l.take i) l[i] p
      rw [← ny h] at hs
      rw [if_pos (by omega),du (by omega),Int.toNat_natCast,List.getElem?_eq_getElem h,ba]
      have hn:=ih (i+1) (by omega) (by omega)
      rw [hs] at hn
      by_cases h1:l[i].p=p
      · rw [if_pos h1] at hn ⊢; rw [dr (pi (by omega) (by omega))]
        simp only [F101j2]; rw [dr (pi (by omega) (by omega)),show ((i:Int)+1)=((i+1:Nat):Int) by omega,hn]
      rw [if_neg h1] at hn ⊢
      simp only [F101j2]; rw [dr (pi (by omega) (by omega)),show ((i:Int)+1)=((i+1:Nat):Int) by omega,← hn,Int.add_zero]
    rw [if_neg (by omega),List.take_of_length_le (by omega)]
theorem F101_eq (l:List Rc) (hl:(l.length:Int)≤1000000) (p:Int) {N:Nat} (hN:l.length < N):F101 N l p=some (cnt l p):=by
  have:=F101l_eq l hl p N 0 (by omega) (by omega)
  simpa [F101,cnt_nil] using this
theorem F116_eq (done:List Rc) (hd:done.length≤60) (x:Rc) {N:Nat} (hN:161≤N):F116 N done x=some (decide ((done.length:Int) < 60) && vRc x && decide (x.n=cnt done x.p)):=by
  unfold F116
  by_cases h:(done.length:Int) < 60
  · rw [if_pos h,F18_eq x hN,ba]
    cases hv:vRc x
    · simp
    rw [if_pos rfl,if_pos rfl,F132_eq done (by omega) x.p (by omega),ba]
    by_cases h1:x.n=cnt done x.p <;> simp [h,h1]
  rw [if_neg h]; simp [h]
theorem F98l_eq (l:List Rc) {N:Nat} (hN:161≤N):∀ (m i:Nat),i≤l.length→i≤60→61 - i < m→F98l1 l N m (l.take i) (i:Int)=some (logR (l.take i) (l.drop i)):=by
  intro m
  induction m with
  | zero=>intro i _ _ h; omega
  | succ m ih =>
    intro i hi h60 hm
    simp only [F98l1,F98b1]
    by_cases h:i < l.length
    · rw [if_pos (by omega),du (by omega),Int.toNat_natCast,List.getElem?_eq_getElem h,ba,F116_eq _ (by rw [List.length_take]; omega) _ hN,ba,jj h,logR]
      generalize hb:(decide (((l.take i).length:Int) < 60) && vRc l[i] && decide (l[i].n=cnt (l.take i) l[i].p))=b
      cases b
      · simp
      have h59:i < 60:=by
        simp only [Bool.and_eq_true,decide_eq_true_eq,List.length_take] at hb; omega
      rw [if_pos rfl,du (by rw [List.length_take]; omega),dr (pi (by omega) (by omega)),show ((i:Int)+1)=((i+1:Nat):Int) by omega]
      have:=ih (i+1) (by omega) (by omega) (by omega)
      rw [ny h] at this
      rw [this]; simp
    rw [if_neg (by omega),List.drop_of_length_le (by omega)]
    rfl
theorem F98_eq (l:List Rc) {N:Nat} (hN:161≤N):F98 N l=some (logB l):=by
  have:=F98l_eq l hN N 0 (by omega) (by omega) (by omega)
  simpa [F98,logB] using this
theorem vRc_p {x:Rc} (h:vRc x=true):x.p=0∨x.p=1∨x.p=2∨x.p=3∨x.p=4∨x.p=5:=by
  simp only [vRc,vIt,inB,Bool.and_eq_true,decide_eq_true_eq] at h; omega
theorem F96l_eq (l:List Rc) (hl:l.length≤60) {N:Nat} (hN:161≤N):∀ (m i:Nat),i≤l.length→l.length - i < m →
    F96l1 l N m (cnt (l.take i) 0) (cnt (l.take i) 1) (cnt (l.take i) 2) (cnt (l.take i) 3) (cnt (l.take i) 4) (cnt (l.take i) 5) (i:Int)=some (logR (l.take i) (l.drop i)):=by
  intro m
  induction m with
  | zero=>intro i _ h; omega
  | succ m ih =>
    intro i hi hm
    simp only [F96l1,F96b1]
    by_cases h:i < l.length
    · have hc:=fun p=>cnt_le (l.take i) p
      have ht:((l.take i).length:Int)≤60:=by rw [List.length_take]; omega
      have hk:∀ p,InR (cnt (l.take i) p+1):=fun p=>pi (by have:=hc p; omega) (by have:=hc p; omega)
      have hs:=fun p=>cnt_snoc (l.take i) l[i] p
      rw [← ny h] at hs
      have hn:=ih (i+1) (by omega) (by omega)
      rw [hs,hs,hs,hs,hs,hs] at hn
      rw [if_pos (by omega),du (by omega),Int.toNat_natCast,List.getElem?_eq_getElem h,ba,F17_eq _ hN,ba,jj h,logR,← ny h]
      have h60:((l.take i).length:Int) < 60:=by rw [List.length_take]; omega
      cases hv:vRc l[i]
      · simp
      rw [if_pos rfl,if_pos rfl]
      rw [show decide (((l.take i).length:Int) < 60)=true by simpa using h60,Bool.true_and,Bool.true_and]
      have hii:InR ((i:Int)+1):=pi (by omega) (by omega)
      rcases vRc_p hv with hp | hp | hp | hp | hp | hp <;>
        (simp only [hp] at hn ⊢
         simp (config:={ decide:=true }) only [if_true,if_false,Int.add_zero,Int.reduceEq] at hn ⊢
         by_cases he:l[i].n=cnt (l.take i) l[i].p
         · rw [hp] at he
           simp only [he,if_true,F96j3,hp,F96j2,Int.reduceEq,if_false]
           rw [dr (hk _),dr hii,show ((i:Int)+1)=((i+1:Nat):Int) by omega,hn]; simp
         rw [hp] at he; simp [he])
    rw [if_neg (by omega),List.drop_of_length_le (by omega)]
    rfl
theorem F96_eq (l:List Rc) {N:Nat} (hN:161≤N):F96 N l=some (logB l):=by
  unfold F96
  by_cases h:60 < (l.length:Int)
  · rw [if_pos h]
    cases hb:logB l
    · rfl
    have:=np hb; omega
  rw [if_neg h]
  have:=F96l_eq l (by omega) hN N 0 (by omega) (by omega)
  simpa [cnt_nil,logB] using this
end Go.K
end
section
namespace Go.K
open Go.RowKit
def lessRc (a b:Rc):Prop:=a.p < b.p∨(a.p=b.p∧a.n < b.n)
instance (a b:Rc):Decidable (lessRc a b):=by unfold lessRc; infer_instance
def firstN:List Int→Int
  | []=>0
  | x :: r=>if x=0 then firstN r else x
theorem F152l_eq (s:List Int) (hs:(s.length:Int)≤1000000000):∀ (m i:Nat),i≤s.length→s.length - i < m→F152l1 s m (i:Int)=some (firstN (s.drop i)):=by
  intro m
  induction m with
  | zero=>intro i _ h; omega
  | succ m ih =>
    intro i hi hm
    simp only [F152l1,F152b1]
    by_cases h:i < s.length
    · rw [if_pos (by omega),du (by omega),Int.toNat_natCast,List.getElem?_eq_getElem h,ba,jj h,firstN]
      by_cases h1:s[i]=0
      · rw [if_pos h1,if_pos h1,dr (pi (by omega) (by omega)),show ((i:Int)+1)=((i+1:Nat):Int) by omega,ih (i+1) (by omega) (by omega)]
      rw [if_neg h1,if_neg h1]
    rw [if_neg (by omega),List.drop_of_length_le (by omega)]
    rfl
theorem F152_eq (s:List Int) (hs:(s.length:Int)≤1000000000) {N:Nat} (hN:s.length < N):F152 N s=some (firstN s):=by
  have:=F152l_eq s hs N 0 (by omega) (by omega)
  simpa [F152] using this
theorem F146l_eq (s:List Int) (hs:(s.length:Int)≤1000000000):∀ (m i:Nat),i≤s.length→s.length - i < m→F146l1 s m (i:Int)=some (firstN (s.drop i)):=by
  intro m
  induction m with
  | zero=>intro i _ h; omega
  | succ m ih =>
    intro i hi hm
    simp only [F146l1,F146b1]
    by_cases h:i < s.length
    · rw [if_pos (by omega),du (by omega),Int.toNat_natCast,List.getElem?_eq_getElem h,ba,jj h,firstN]
      by_cases h1:s[i]=0
      · rw [if_pos h1,if_pos h1,dr (pi (by omega) (by omega)),show ((i:Int)+1)=((i+1:Nat):Int) by omega,ih (i+1) (by omega) (by omega)]
      rw [if_neg h1,if_neg h1]
    rw [if_neg (by omega),List.drop_of_length_le (by omega)]
    rfl
theorem F86_eq (s:List Int) (hs:(s.length:Int)≤1000000000) {N:Nat} (hN:s.length < N):F86 N s=some (firstN s):=by
  have:=F146l_eq s hs N 0 (by omega) (by omega)
  simp only [F86,F146,show (0:Int)=((0:Nat):Int) from rfl,this,ba,List.drop_zero]
theorem F153_eq (x y:Int):F153 x y=some (if x < y then -1 else if y < x then 1 else 0):=by
  simp only [F153,F153j1,F153j2,F168,ba,Bool.false_eq_true,if_false]
  by_cases h1:x < y
  · simp [h1]
  by_cases h2:y < x <;> simp [h1,h2]
theorem F107_eq (x y:Rc) {N:Nat} (hN:3≤N):F107 N x y=some (ls x y):=by
  simp only [F107,F153_eq,ba]
  rw [F152_eq _ (by simp) (by simp; omega),ba]
  simp only [firstN,ls]
  by_cases h1:x.p < y.p
  · simp [h1]
  by_cases h2:y.p < x.p
  · simp [h1,h2]
  by_cases h3:x.n < y.n
  · simp [h1,h2,h3]
  by_cases h4:y.n < x.n <;> simp [h1,h2,h3,h4]
theorem cmpRc_lt (x y:Rc):ls x y < 0↔lessRc x y:=by
  unfold ls lessRc; split
  · simp; omega
  split
  · simp; omega
  split
  · simp; omega
  split <;> simp <;> omega
def nw (a b:Rc):Prop:=¬ (a.p=b.p∧a.n=b.n)
theorem disRc_of {l:List Rc} (h:l.Pairwise nw):disRc l=true:=by
  induction h with
  | nil=>rfl
  | @cons x l h _ ih =>
    simp only [disRc,Bool.and_eq_true,List.all_eq_true]
    exact ⟨fun y hy=>by have:=h y hy; unfold nw at this; by_cases e:x.p=y.p <;> by_cases e2:x.n=y.n <;> simp [e,e2]; exact this ⟨e,e2⟩,ih⟩
theorem logR_dis:∀ (r done:List Rc),(∀ y∈done,y.n < cnt done y.p)→done.Pairwise nw→logR done r=true→(∀ y∈done++r,y.n < cnt (done++r) y.p)∧(done++r).Pairwise nw
  | [],done,h1,h2,_=>by simpa using ⟨h1,h2⟩
  | x :: r,done,h1,h2,h=>by
    simp only [logR,Bool.and_eq_true,decide_eq_true_eq] at h
    obtain ⟨⟨⟨_,_⟩,h3⟩,h4⟩:=h
    have hc:=logR_dis r (done++[x]) (fun y hy=>?_) ?_ h4
    · simpa using hc
    · rw [cnt_snoc]
      rcases List.mem_append.1 hy with hy | hy
      · have:=h1 y hy; split <;> omega
      obtain rfl:=List.mem_singleton.1 hy
      rw [if_pos rfl]; omega
    rw [List.pairwise_append]
    refine ⟨h2,by simp,fun a ha b hb=>?_⟩
    obtain rfl:=List.mem_singleton.1 hb
    rintro ⟨e1,e2⟩
    have:=h1 a ha
    rw [e1,← h3] at this; omega
theorem logB_dis {l:List Rc} (h:logB l=true):l.Pairwise nw:=by
  have:=(logR_dis l [] (by simp) List.Pairwise.nil h).2
  simpa using this
theorem logB_cnt {l:List Rc} (h:logB l=true):∀ y∈l,y.n < cnt l y.p:=by
  have:=(logR_dis l [] (by simp) List.Pairwise.nil h).1
  simpa using this
def adjP (l:List Rc):Prop:=∀ (j:Nat) (h:j+1 < l.length),lessRc (l[j]'(by omega)) (l[j+1]'h)
def bookP (l:List Rc):Prop:=logB l=true∧adjP l
theorem pw_adjP {l:List Rc} (h:l.Pairwise lessRc):adjP l:=fun j hj=>(List.pairwise_iff_getElem.1 h) j (j+1) (by omega) hj (by omega)
theorem F36l_eq (l:List Rc) (hl:l.length≤60) {N:Nat} (hN:161≤N):∀ (m i:Nat) (hi:i=0∨i < l.length),i < m →
    ((∀ (j:Nat) (h:j+1 < l.length),j+1≤i→¬ ls (l[j+1]'h) (l[j]'(by omega)) < 0)→F36l2 l N m (i:Int)=some 0) ∧
    ((¬ ∀ (j:Nat) (h:j+1 < l.length),j+1≤i→¬ ls (l[j+1]'h) (l[j]'(by omega)) < 0)→F36l2 l N m (i:Int)=some 81):=by
  intro m
  induction m with
  | zero=>intro i _ h; omega
  | succ m ih =>
    intro i hi hm
    simp only [F36l2,F36b2]
    match i,hi,hm with
    | 0,hi,hm =>
      rw [if_neg (by simp)]
      exact ⟨fun _=>by simp [F36j1,F78,ba],fun hh=>absurd (fun j hj hij=>by omega) hh⟩
    | k+1,hi,hm =>
      have hk:k+1 < l.length:=by omega
      have hn:=ih k (by omega) (by omega)
      rw [if_pos (by omega),du (by omega),Int.toNat_natCast,List.getElem?_eq_getElem hk,ba,dr (pi (by omega) (by omega)),show (((k+1:Nat):Int) - 1)=(k:Int) by omega,du (by omega),Int.toNat_natCast,List.getElem?_eq_getElem (show k < l.length by omega),ba,F107_eq _ _ (by omega),ba]
      by_cases hc:ls l[k+1] (l[k]'(by omega)) < 0
      · rw [if_pos hc]
        exact ⟨fun hh=>absurd hc (hh k hk (by omega)),fun _=>by simp [F78,ba]⟩
      rw [if_neg hc]
      refine ⟨fun hh=>hn.1 fun j hj hij=>hh j hj (by omega),fun hh=>hn.2 fun h2=>hh fun j hj hij=>?_⟩
      by_cases he:j=k
      · subst he; exact hc
      exact h2 j hj (by omega)
theorem adj_iff {l:List Rc} (hb:logB l=true) (j:Nat) (h:j+1 < l.length):(¬ ls (l[j+1]'h) (l[j]'(by omega)) < 0)↔lessRc (l[j]'(by omega)) (l[j+1]'h):=by
  have:=(List.pairwise_iff_getElem.1 (logB_dis hb)) j (j+1) (by omega) h (by omega)
  rw [cmpRc_lt]; unfold lessRc nw at *; omega
theorem F36_ok {l:List Rc} (h:bookP l) {N:Nat} (hN:161≤N):F36 N l=some 0:=by
  have hl:=np h.1
  rw [F36,F96_eq l hN,ba,if_pos h.1,dr (pi (by omega) (by omega))]
  by_cases h0:l.length=0
  · obtain rfl:l=[]:=List.eq_nil_of_length_eq_zero h0
    match N,hN with
    | N+1,_=>rfl
  rw [show ((l.length:Int) - 1)=((l.length - 1:Nat):Int) by omega]
  exact (F36l_eq l hl hN N (l.length - 1) (by omega) (by omega)).1 fun j hj _=>(adj_iff h.1 j hj).2 (h.2 j hj)
end Go.K
end
section
namespace Go.K
open Go.RowKit
def putRc (o l:List Rc):List Rc:=l.foldl (fun o x=>insRc x o) o
theorem F97_eq (l:List Rc) (hl:l.length≤1000000) (hd:l.Pairwise nw):F97 l=some (po l):=by
  rw [F97,F102,du (by omega),ba,du (by omega),du (disRc_of hd)]
def pl (l:List Rc) (p n:Int):Option Rc:=l.find? fun y=>decide (y.p=p) && decide (y.n=n)
def eqRc (x y:Rc):Bool:=decide (x.p=y.p) && decide (x.n=y.n) && decide (x.k=y.k) && decide (x.d=y.d) && decide (x.kn=y.kn) && decide (x.op=y.op) && decide (x.on=y.on) && decide (x.t=y.t)
theorem F100l_eq (l:List Rc) (hl:l.length≤1000000) (x:Rc):∀ (m i:Nat),i≤l.length→l.length - i < m →
    F100l1 l x m (i:Int)=some (match pl (l.drop i) x.p x.n with | some y=>if eqRc y x=true then (true,0) else (false,82) | none=>(false,0)):=by
  intro m
  induction m with
  | zero=>intro i _ h; omega
  | succ m ih =>
    intro i hi hm
    simp only [F100l1,F100b1]
    by_cases h:i < l.length
    · rw [if_pos (by omega),du (by omega),Int.toNat_natCast,List.getElem?_eq_getElem h,ba,jj h,pl,List.find?_cons]
      cases hk:(decide (l[i].p=x.p) && decide (l[i].n=x.n))
      · rw [if_neg (by simp),dr (pi (by omega) (by omega)),show ((i:Int)+1)=((i+1:Nat):Int) by omega,ih (i+1) (by omega) (by omega)]
        rfl
      rw [if_pos rfl]
      have hq:(true && decide (l[i].k=x.k) && decide (l[i].d=x.d) && decide (l[i].kn=x.kn) && decide (l[i].op=x.op) && decide (l[i].on=x.on) && decide (l[i].t=x.t))=eqRc l[i] x:=by unfold eqRc; rw [hk]
      rw [hq]
      cases he:eqRc l[i] x <;> simp [F78,ba,he]
    rw [if_neg (by omega),List.drop_of_length_le (by omega)]
    rfl
theorem F100_eq (l:List Rc) (hl:l.length≤1000000) (x:Rc) {N:Nat} (hN:l.length < N) :
    F100 N l x=some (match pl l x.p x.n with | some y=>if eqRc y x=true then (true,0) else (false,82) | none=>(false,0)):=by
  have:=F100l_eq l hl x N 0 (by omega) (by omega)
  simpa [F100] using this
theorem F105l_eq (l:List Rc) (hl:l.length≤1000000) (it:It):∀ (m i:Nat),i≤l.length→l.length - i < m →
    (∃ (j:Nat) (y:Rc),F105l1 l it m (i:Int)=some (j:Int)∧l[j]?=some y∧pl (l.drop i) it.p it.n=some y)∨(F105l1 l it m (i:Int)=some (-1)∧pl (l.drop i) it.p it.n=none):=by
  intro m
  induction m with
  | zero=>intro i _ h; omega
  | succ m ih =>
    intro i hi hm
    simp only [F105l1,F105b1]
    by_cases h:i < l.length
    · rw [if_pos (by omega),du (by omega),Int.toNat_natCast,List.getElem?_eq_getElem h,ba,jj h,pl,List.find?_cons]
      cases hk:(decide (l[i].p=it.p) && decide (l[i].n=it.n))
      · rw [if_neg (by simp),dr (pi (by omega) (by omega)),show ((i:Int)+1)=((i+1:Nat):Int) by omega]
        exact ih (i+1) (by omega) (by omega)
      rw [if_pos rfl]
      exact .inl ⟨i,l[i],rfl,List.getElem?_eq_getElem h,rfl⟩
    rw [if_neg (by omega),List.drop_of_length_le (by omega)]
    exact .inr ⟨rfl,rfl⟩
theorem F105_eq (l:List Rc) (hl:l.length≤1000000) (it:It) {N:Nat} (hN:l.length < N) :
    (∃ (j:Nat) (y:Rc),F105 N l it=some (j:Int)∧l[j]?=some y∧pl l it.p it.n=some y)∨(F105 N l it=some (-1)∧pl l it.p it.n=none):=by
  have:=F105l_eq l hl it N 0 (by omega) (by omega)
  simpa [F105] using this
end Go.K
end
section
namespace Go.K
open Go.RowKit
set_option maxRecDepth 20000
theorem findRc_some {l:List Rc} {p n:Int} {y:Rc} (h:pl l p n=some y):y∈l∧y.p=p∧y.n=n:=by
  have h1:=List.mem_of_find?_eq_some h
  have h2:=List.find?_some h
  simp at h2; exact ⟨h1,h2⟩
theorem findRc_none {l:List Rc} {p n:Int} (h:pl l p n=none):∀ y∈l,¬ (y.p=p∧y.n=n):=by
  intro y hy
  have:=List.find?_eq_none.1 h y hy
  simpa using this
theorem eqRc_fold (x y:Rc):(decide (x.p=y.p) && decide (x.n=y.n) && decide (x.k=y.k) && decide (x.d=y.d) && decide (x.kn=y.kn) && decide (x.op=y.op) && decide (x.on=y.on) && decide (x.t=y.t))=eqRc x y:=rfl
end Go.K
end
section
namespace Go.K
open Go.RowKit
theorem decS_len:∀ (m u:Nat),(ng m u).length≤m
  | 0,u=>by simp [ng]
  | m+1,u=>by
    rw [ng]; split
    · simp
    have:=decS_len m (u / 10); simp; omega
theorem dig_eq {u:Nat} (h:u < 10):bl [w8 (48+(u:Int))]=[UInt8.ofNat (48+u)]:=by
  simp only [bl,List.map_cons,List.map_nil,ub,w8]
  rw [show ((48+(u:Int)) % 256).toNat=48+u by omega]
theorem F143_nat:∀ (m u:Nat),m≤19→u < 10 ^ (m+1)→(u:Int)≤9223372036854775807→F143 (m+1) (u:Int)=some (ng (m+1) u)
  | 0,u,_,h,hr=>by
    have h:u < 10:=by simpa using h
    rw [F143,F143b,if_neg (by omega),if_neg (by omega),if_pos (by omega),dr (by unfold InR; omega),dig_eq h,ng,if_pos h]
  | m+1,u,hm,h,hr=>by
    rw [F143,F143b,if_neg (by omega),if_neg (by omega),ng]
    by_cases h1:u < 10
    · rw [if_pos (by omega),dr (by unfold InR; omega),dig_eq h1,if_pos h1]
    have e1:(u:Int).tdiv 10=((u / 10:Nat):Int):=rfl
    have e2:(u:Int).tmod 10=((u % 10:Nat):Int):=rfl
    rw [if_neg (by omega),dr (by unfold InR; omega),e1,F143_nat m (u / 10) (by omega) (by rw [Nat.pow_succ] at h; omega) (by omega),ba,e2,dr (by unfold InR; omega),dig_eq (Nat.mod_lt _ (by decide)),du (by have:=decS_len (m+1) (u / 10); simp; omega),if_neg h1]
theorem F143_neg:∀ (m u:Nat),m≤19→0 < u→u < 10 ^ (m+1)→(u:Int)≤9223372036854775808→F143 (m+1) (-(u:Int))=some (45 :: ng (m+1) u)
  | 0,u,_,h0,h,hr=>by
    have h:u < 10:=by simpa using h
    rw [F143,F143b,if_neg (by omega),if_pos (by omega),show (48:Int) - -(u:Int)=48+u by omega,dr (by unfold InR; omega),dig_eq h,ng,if_pos h]
    rfl
  | m+1,u,hm,h0,h,hr=>by
    rw [F143,F143b,ng]
    by_cases h1:u < 10
    · rw [if_neg (by omega),if_pos (by omega),show (48:Int) - -(u:Int)=48+u by omega,dr (by unfold InR; omega),dig_eq h1,if_pos h1]
      rfl
    have e1:(-(u:Int)).tdiv 10=-((u / 10:Nat):Int):=by rw [Int.neg_tdiv]; rfl
    have e2:(-(u:Int)).tmod 10=-((u % 10:Nat):Int):=by rw [Int.neg_tmod]; rfl
    rw [if_pos (by omega),dr (by unfold InR; omega),e1,F143_neg m (u / 10) (by omega) (by omega) (by rw [Nat.pow_succ] at h; omega) (by omega),ba,e2,show (48:Int) - -((u % 10:Nat):Int)=48+((u % 10:Nat):Int) by omega,dr (by unfold InR; omega),dig_eq (Nat.mod_lt _ (by decide)),du (by have:=decS_len (m+1) (u / 10); simp; omega),if_neg h1]
    rfl
theorem F143_more:∀ (N:Nat) (n:Int) (x:Str),F143 N n=some x→F143 (N+1) n=some x:=by
  intro N
  induction N with
  | zero=>intro n x h; cases h
  | succ N ih =>
    intro n x h
    rw [F143] at h ⊢
    unfold F143b at h ⊢
    split at h
    · rename_i h1; rw [if_pos h1]
      revert h; unfold ckO bp gdO; split
      · cases h2:F143 N (n.tdiv 10) with
        | none=>intro h; cases h
        | some y=>rw [ih _ _ h2]; exact id
      intro h; cases h
    rename_i h1; rw [if_neg h1]
    split at h
    · rename_i h2; rw [if_pos h2]; exact h
    rename_i h2; rw [if_neg h2]
    split at h
    · rename_i h3; rw [if_pos h3]; exact h
    rename_i h3; rw [if_neg h3]
    revert h; unfold ckO bp gdO; split
    · cases h2:F143 N (n.tdiv 10) with
      | none=>intro h; cases h
      | some y=>rw [ih _ _ h2]; exact id
    intro h; cases h
theorem F143_eq (n:Int) (h:InR n) (N:Nat):F143 (N+20) n=some (ne n):=by
  induction N with
  | zero =>
    unfold InR at h
    unfold ne
    by_cases h1:n < 0
    · rw [if_pos h1]
      have:=F143_neg 19 n.natAbs (by omega) (by omega) (by have:(10:Nat) ^ 20=100000000000000000000:=rfl; omega) (by omega)
      rwa [show (-(n.natAbs:Int))=n by omega] at this
    rw [if_neg h1]
    have:=F143_nat 19 n.toNat (by omega) (by have:(10:Nat) ^ 20=100000000000000000000:=rfl; omega) (by omega)
    rwa [show ((n.toNat:Nat):Int)=n by omega] at this
  | succ N ih=>rw [show N+1+20=N+20+1 by omega]; exact F143_more _ _ _ ih
end Go.K
end
section
namespace Go.K
open Go.RowKit
theorem itoaS_len (n:Int):(ne n).length≤21:=by
  unfold ne; split
  · have:=decS_len 20 n.natAbs; simp; omega
  have:=decS_len 20 n.toNat; omega
def nl:List Int→Str
  | []=>[]
  | n :: r=>ne n++[32]++nl r
def nc (r:Rc):List Int:=[r.p,r.n,r.k,r.d,r.kn,r.op,r.on]
def my (r:Rc):Str:=nl (nc r)++r.t
theorem F142_eq {n:Int} (h:InR n):F142 n=some (ne n):=by unfold F142; rw [dr h]
theorem F69l_eq (r:Rc) (hr:∀ x∈nc r,InR x):∀ (m i:Nat) (t:Str),i≤7→7 - i < m→t.length≤22 * i→F69l2 r m t (i:Int)=F69j1 r (t++nl ((nc r).drop i)):=by
  intro m
  induction m with
  | zero=>intro i t _ h; omega
  | succ m ih =>
    intro i t hi hm ht
    simp only [F69l2,F69b2]
    by_cases h:i < 7
    · have hl:i < (nc r).length:=h
      rw [if_pos (by omega),du (by omega),Int.toNat_natCast,show [r.p,r.n,r.k,r.d,r.kn,r.op,r.on]=nc r from rfl,List.getElem?_eq_getElem hl,ba,F142_eq (hr _ (List.getElem_mem hl)),ba]
      have:=itoaS_len (nc r)[i]
      rw [du (by simp; omega),du (by simp; omega),dr (pi (by omega) (by omega)),show ((i:Int)+1)=((i+1:Nat):Int) by omega,ih (i+1) _ (by omega) (by omega) (by simp; omega),jj hl,nl]
      simp
    have:i=7:=by omega
    subst this
    rw [if_neg (by omega),show (nc r).drop 7=[] from rfl,nl,List.append_nil]
theorem F69_eq (r:Rc) (hr:∀ x∈nc r,InR x) (ht:r.t.length≤1000) (hx:(nl (nc r)).length≤1000) {N:Nat} (hN:8≤N):F69 N r=some (my r):=by
  have:=F69l_eq r hr N 0 [] (by omega) (by omega) (by simp)
  unfold F69
  rw [show (0:Int)=((0:Nat):Int) from rfl,this,List.nil_append,List.drop_zero,F69j1,du (by omega)]
  rfl
theorem txtN_len:∀ l:List Int,(nl l).length≤22 * l.length
  | []=>by simp [nl]
  | n :: l=>by have:=txtN_len l; have:=itoaS_len n; simp [nl]; omega
theorem F70l_eq (r:Rc) (hr:∀ x∈nc r,InR x) (N:Nat):∀ (m i:Nat) (t:Str),i≤7→7 - i < m→t.length≤22 * i→F70l2 r (N+20) m t (i:Int)=F70j1 r (t++nl ((nc r).drop i)):=by
  intro m
  induction m with
  | zero=>intro i t _ h; omega
  | succ m ih =>
    intro i t hi hm ht
    simp only [F70l2,F70b2]
    by_cases h:i < 7
    · have hl:i < (nc r).length:=h
      rw [if_pos (by omega),du (by omega),Int.toNat_natCast,show [r.p,r.n,r.k,r.d,r.kn,r.op,r.on]=nc r from rfl,List.getElem?_eq_getElem hl,ba,F143_eq _ (hr _ (List.getElem_mem hl)),ba]
      have:=itoaS_len (nc r)[i]
      rw [du (by omega),du (by simp; omega),dr (pi (by omega) (by omega)),show ((i:Int)+1)=((i+1:Nat):Int) by omega,ih (i+1) _ (by omega) (by omega) (by simp; omega),jj hl,nl]
      simp
    have:i=7:=by omega
    subst this
    rw [if_neg (by omega),show (nc r).drop 7=[] from rfl,nl,List.append_nil]
theorem F70_eq (r:Rc) (hr:∀ x∈nc r,InR x) (ht:r.t.length≤1000) (N:Nat):F70 (N+20) r=some (my r):=by
  have:=F70l_eq r hr N (N+20) 0 [] (by omega) (by omega) (by simp)
  have hx:=txtN_len (nc r)
  have hx:(nl (nc r)).length≤154:=hx
  unfold F70
  rw [show (0:Int)=((0:Nat):Int) from rfl,this,List.nil_append,List.drop_zero,F70j1,du (by omega)]
  rfl
theorem vRc_small {r:Rc} (h:vRc r=true):(∀ x∈nc r,InR x)∧r.t.length≤160:=by
  simp only [vRc,vIt,inB,suitB,Bool.and_eq_true,decide_eq_true_eq] at h
  obtain ⟨⟨⟨⟨⟨⟨⟨h1,h2⟩,h3⟩,h4⟩,h5⟩,h6⟩,h7⟩,h8⟩:=h
  refine ⟨fun x hx=>?_,by omega⟩
  have ho:(0≤r.op∧r.op≤5)∧0≤r.on∧r.on≤9999:=by
    split at h8
    · simp only [Bool.and_eq_true,decide_eq_true_eq] at h8
      obtain ⟨⟨⟨⟨⟨a,b⟩,_⟩,_⟩,_⟩,_⟩:=h8
      exact ⟨a,b⟩
    simp only [Bool.and_eq_true,decide_eq_true_eq] at h8
    omega
  simp only [nc,List.mem_cons,List.not_mem_nil,or_false] at hx
  unfold InR
  rcases hx with rfl | rfl | rfl | rfl | rfl | rfl | rfl <;> omega
end Go.K
end
section
namespace Go.K
open Go.RowKit
def pickQ (q:Int) (x y:Int):Int:=if q=0 then x else if q=1 then y else 32+(x+y - 64) % 95
def thQ (q:Int):Str→List Int
  | []=>[]
  | [x]=>[pickQ q (nb x) 32]
  | x :: y :: r=>pickQ q (nb x) (nb y) :: thQ q r
theorem okB_iff (b:UInt8):okB b=true↔32≤nb b∧nb b≤126:=by simp [okB]
theorem F164_eq {x y:Int} (hx:32≤x∧x≤126) (hy:32≤y∧y≤126):F164 x y=some (32+(x+y - 64) % 95):=by
  have e:(x - 32+y - 32)=x+y - 64:=by omega
  have e2:(x+y - 64).tmod 95=(x+y - 64) % 95:=Int.tmod_eq_emod_of_nonneg (by omega)
  have e3:0≤(x+y - 64) % 95∧(x+y - 64) % 95 < 95:=⟨Int.emod_nonneg _ (by decide),Int.emod_lt_of_pos _ (by decide)⟩
  unfold F164
  rw [e,e2,dr (by unfold InR; omega),dr (by unfold InR; omega),dr (by unfold InR; omega),dr (by unfold InR; omega),dr (by unfold InR; omega),dr (by unfold InR; omega),w8,Int.emod_eq_of_lt (by omega) (by omega)]
theorem F147_eq {x y:Int} (hx:32≤x∧x≤126) (hy:32≤y∧y≤126):F147 x y=some (32+(x+y - 64) % 95):=by
  have e0:w8 (x - 32)=x - 32:=Int.emod_eq_of_lt (by omega) (by omega)
  have e1:w8 (x - 32+y)=x - 32+y:=Int.emod_eq_of_lt (by omega) (by omega)
  have e2:w8 (x - 32+y - 32)=x+y - 64:=by rw [show x - 32+y - 32=x+y - 64 by omega]; exact Int.emod_eq_of_lt (by omega) (by omega)
  have e3:(x+y - 64).tmod 95=(x+y - 64) % 95:=Int.tmod_eq_emod_of_nonneg (by omega)
  have e4:0≤(x+y - 64) % 95∧(x+y - 64) % 95 < 95:=⟨Int.emod_nonneg _ (by decide),Int.emod_lt_of_pos _ (by decide)⟩
  unfold F147
  rw [e0,e1,e2,e3,w8,Int.emod_eq_of_lt (by omega) (by omega)]
theorem F148j3_eq {q:Int} (rec1:List Int→Int→Option Str) (out:List Int) (i:Nat) (x:UInt8) {y:Int} (hx:okB x=true) (hy:32≤y∧y≤126) (ho:out.length+1≤1000000000) (hi:i≤1000000000):F148j3 q rec1 out (i:Int) x y=rec1 (out++[pickQ q (nb x) y]) ((i+2:Nat):Int):=by
  rw [okB_iff] at hx
  unfold F148j3 pickQ
  by_cases h0:q=0
  · rw [if_pos h0,if_pos h0,du ho,F148j2,dr (pi (by omega) (by omega))]; rfl
  rw [if_neg h0,if_neg h0]
  by_cases h1:q=1
  · rw [if_pos h1,if_pos h1,du ho,F148j2,dr (pi (by omega) (by omega))]; rfl
  rw [if_neg h1,if_neg h1,F164_eq hx hy,ba,du ho,F148j2,dr (pi (by omega) (by omega))]; rfl
theorem F148l_eq (s:Str) (q:Int) (hs:s.length≤1000000) (hp:ck s=true):∀ (m i:Nat) (out:List Int),s.length - i < m→i≤s.length+1→out.length≤i→F148l1 s q m out (i:Int)=some (bl (out++thQ q (s.drop i))):=by
  have hb:∀ b∈s,okB b=true:=by simpa [ck] using hp
  intro m
  induction m with
  | zero=>intro i out h; omega
  | succ m ih =>
    intro i out hm hi ho
    simp only [F148l1,F148b1]
    by_cases h:i < s.length
    · rw [if_pos (by omega),du (by omega),Int.toNat_natCast,List.getElem?_eq_getElem h,ba,dr (pi (by omega) (by omega))]
      by_cases h2:i+1 < s.length
      · rw [if_pos (by omega),du (by omega),show ((i:Int)+1).toNat=i+1 by omega,List.getElem?_eq_getElem h2,ba,F148j3_eq _ _ _ _ (hb _ (List.getElem_mem h)) ((okB_iff _).1 (hb _ (List.getElem_mem h2))) (by omega) (by omega),ih (i+2) _ (by omega) (by omega) (by simp; omega),jj h,jj h2]
        simp [thQ]
      rw [if_neg (by omega),F148j3_eq _ _ _ _ (hb _ (List.getElem_mem h)) (by omega) (by omega) (by omega),ih (i+2) _ (by omega) (by omega) (by simp; omega),jj h,List.drop_of_length_le (show s.length≤i+1 by omega),List.drop_of_length_le (show s.length≤i+2 by omega)]
      simp [thQ]
    rw [if_neg (by omega),List.drop_of_length_le (by omega)]
    simp [thQ]
theorem F148_eq (s:Str) (q:Int) (hs:s.length≤1000000) (hp:ck s=true) {N:Nat} (hN:s.length < N):F148 N s q=some (bl (thQ q s)):=by
  have:=F148l_eq s q hs hp N 0 [] (by omega) (by omega) (by simp)
  simpa [F148] using this
end Go.K
end
section
namespace Go.K
open Go.RowKit
theorem okDig {u:Nat} (h:u < 10):okB (UInt8.ofNat (48+u))=true:=by
  rw [okB_iff]
  have:(UInt8.ofNat (48+u)).toNat=48+u:=by simp [UInt8.toNat_ofNat']; omega
  unfold nb; rw [this]; omega
theorem decS_ok:∀ (m u:Nat),∀ b∈ng m u,okB b=true
  | 0,u,b,hb=>by simp [ng] at hb
  | m+1,u,b,hb=>by
    rw [ng] at hb
    split at hb
    · rename_i h; rw [List.mem_singleton.1 hb]; exact okDig h
    rcases List.mem_append.1 hb with hb | hb
    · exact decS_ok m _ b hb
    rw [List.mem_singleton.1 hb]; exact okDig (Nat.mod_lt u (by decide))
theorem itoaS_ok {n:Int}:∀ b∈ne n,okB b=true:=by
  intro b hb
  unfold ne at hb
  split at hb
  · rcases List.mem_cons.1 hb with rfl | hb
    · decide
    exact decS_ok _ _ b hb
  exact decS_ok _ _ b hb
theorem txtN_ok:∀ (l:List Int),∀ b∈nl l,okB b=true
  | [],b,hb=>by simp [nl] at hb
  | n :: l,b,hb=>by
    simp only [nl,List.append_assoc,List.mem_append,List.mem_cons,List.not_mem_nil,or_false] at hb
    rcases hb with hb | rfl | hb
    · exact itoaS_ok b hb
    · decide
    exact txtN_ok l b hb
theorem txtS_plain {r:Rc} (h:ck r.t=true):ck (my r)=true:=by
  simp only [ck,List.all_eq_true] at *
  intro b hb
  rcases List.mem_append.1 hb with hb | hb
  · exact txtN_ok _ b hb
  exact h b hb
theorem vRc_plain {r:Rc} (h:vRc r=true):ck r.t=true:=by
  simp only [vRc,Bool.and_eq_true] at h; exact h.1.2
theorem txtS_len (r:Rc):(my r).length≤154+r.t.length:=by
  have h:=txtN_len (nc r)
  have h:(nl (nc r)).length≤154:=h
  simp [my]; omega
theorem thQ_pad (q:Int):∀ (n:Nat) (s:Str),s.length≤n→s.length % 2=1→thQ q (s++[32])=thQ q s
  | _,[],_,h=>by simp at h
  | _,[x],_,_=>rfl
  | 0,x :: y :: r,h,_=>by simp at h
  | 1,x :: y :: r,h,_=>by simp at h
  | n+2,x :: y :: r,hn,h=>by
    simp only [List.cons_append,thQ]
    rw [thQ_pad q n r (by simp at hn; omega) (by simp at h; omega)]
def strips (r:Rc) (no:Int):List Sp3:=[⟨no,(my r).length,bl (thQ 0 (my r))⟩,⟨no,(my r).length,bl (thQ 1 (my r))⟩,⟨no,(my r).length,bl (thQ 2 (my r))⟩]
theorem F88l_eq (no:Int) (y v:Str) (hv:v.length≤1000000) (hp:ck v=true):∀ (m j:Nat) (a b c:List Int),v.length % 2=0→v.length - 2 * j < m→2 * j≤v.length→a.length≤2 * j→b.length≤2 * j→c.length≤2 * j →
    F88l2 no y v m a b c ((2 * j:Nat):Int)=some [(⟨no,y.length,bl (a++thQ 0 (v.drop (2 * j)))⟩:Sp3),⟨no,y.length,bl (b++thQ 1 (v.drop (2 * j)))⟩,⟨no,y.length,bl (c++thQ 2 (v.drop (2 * j)))⟩]:=by
  have hb:∀ b∈v,okB b=true:=by simpa [ck] using hp
  intro m
  induction m with
  | zero=>intro j a b c _ h; omega
  | succ m ih =>
    intro j a b c he hm hj ha hbb hc
    simp only [F88l2,F88b2]
    by_cases h:2 * j < v.length
    · have h2:2 * j+1 < v.length:=by omega
      have o1:=hb _ (List.getElem_mem h)
      have o2:=hb _ (List.getElem_mem h2)
      rw [if_pos (by omega),du (by omega),Int.toNat_natCast,List.getElem?_eq_getElem h,ba,dr (pi (by omega) (by omega)),du (by omega),show (((2 * j:Nat):Int)+1).toNat=2 * j+1 by omega,List.getElem?_eq_getElem h2,ba,du (by omega),du (by omega),F147_eq ((okB_iff _).1 o1) ((okB_iff _).1 o2),ba,du (by omega),dr (pi (by omega) (by omega)),show (((2 * j:Nat):Int)+2)=((2 * (j+1):Nat):Int) by omega,ih (j+1) _ _ _ he (by omega) (by omega) (by simp; omega) (by simp; omega) (by simp; omega),jj h,jj h2]
      simp [thQ,pickQ,Nat.mul_add]
    rw [if_neg (by omega),List.drop_of_length_le (by omega)]
    simp [thQ]
theorem F88_eq (r:Rc) (no:Int) (h:vRc r=true) (N:Nat):F88 (N+400) r no=some (strips r no):=by
  obtain ⟨h1,h2⟩:=vRc_small h
  have hl:=txtS_len r
  have hp:=txtS_plain (vRc_plain h)
  have hx:=txtN_len (nc r)
  have hx:(nl (nc r)).length≤154:=hx
  unfold F88
  rw [F69_eq r h1 (by omega) (by omega) (by omega),ba]
  have e:((my r).length:Int).tmod 2=(((my r).length % 2:Nat):Int):=rfl
  rw [e]
  by_cases ho:(my r).length % 2=1
  · rw [if_pos (by omega),du (by simp; omega),F88j1]
    have hp2:ck (my r++[32])=true:=by
      simp only [ck,List.all_append,Bool.and_eq_true] at hp ⊢; exact ⟨hp,by decide⟩
    have:=F88l_eq no (my r) (my r++[32]) (by simp; omega) hp2 (N+400) 0 [] [] [] (by simp; omega) (by simp; omega) (by omega) (by simp) (by simp) (by simp)
    rw [show ((2 * 0:Nat):Int)=0 from rfl] at this
    rw [this]
    simp only [Nat.mul_zero,List.drop_zero,List.nil_append,thQ_pad _ _ (my r) (Nat.le_refl _) ho]
    rfl
  rw [if_neg (by omega),F88j1]
  have:=F88l_eq no (my r) (my r) (by omega) hp (N+400) 0 [] [] [] (by omega) (by omega) (by omega) (by simp) (by simp) (by simp)
  rw [show ((2 * 0:Nat):Int)=0 from rfl] at this
  rw [this]
  simp only [Nat.mul_zero,List.drop_zero,List.nil_append]
  rfl
theorem F89_eq (r:Rc) (no:Int) (h:vRc r=true) (N:Nat):F89 (N+400) r no=some (strips r no):=by
  obtain ⟨h1,h2⟩:=vRc_small h
  have hl:=txtS_len r
  have hp:=txtS_plain (vRc_plain h)
  have e:∀ q,F148 (N+400) (my r) q=some (bl (thQ q (my r))):=fun q=>F148_eq _ q (by omega) hp (by omega)
  have hh:∀ M,F89l1 no (N+400) (my r) (M+4) [] 0=some (strips r no):=fun M=>by
    simp only [F89l1,F89b1,e,ba]
    rw [if_pos (by omega),du (by simp),dr (by unfold InR; omega),if_pos (by omega),du (by simp),dr (by unfold InR; omega),if_pos (by omega),du (by simp),dr (by unfold InR; omega),if_neg (by omega)]
    rfl
  unfold F89
  rw [show F70 (N+400) r=some (my r) from F70_eq r h1 (by omega) (N+380),ba]
  exact hh (N+396)
end Go.K
end
section
namespace Go.K
open Go.RowKit
def lastB (s:Str):Bool:=decide (s.getLast?=some 32)
def ln (q:Int) (s:Sp3):Bool:=inB s.no 0 59 && inB s.sz 14 240 && decide ((s.t.length:Int)=(s.sz+1).tdiv 2) && ck s.t && (!(decide (q=1) && decide (s.sz.tmod 2=1)) || lastB s.t)
theorem last_step {s:Str} (h:0 < s.length) (hs:s.length≤1000):(ckO ((s.length:Int) - 1) <| gdO (0≤((s.length:Int) - 1)) <| bp (s[((s.length:Int) - 1).toNat]?) fun x=>if nb x=32 then some true else some false)=some (lastB s):=by
  rw [dr (pi (by omega) (by omega)),du (by omega),show ((s.length:Int) - 1).toNat=s.length - 1 by omega]
  have e:s.getLast?=s[s.length - 1]?:=List.getLast?_eq_getElem?
  unfold lastB
  rw [e,List.getElem?_eq_getElem (by omega),ba]
  have hx:nb (s[s.length - 1])=32↔s[s.length - 1]=32:=by
    constructor
    · intro h; unfold nb at h; exact UInt8.toNat_inj.1 (by simpa using (by omega:(s[s.length - 1]).toNat=32))
    intro h; rw [h]; rfl
  by_cases h1:s[s.length - 1]=32
  · rw [if_pos (hx.2 h1)]; simp [h1]
  rw [if_neg (fun h=>h1 (hx.1 h))]; simp [h1]
theorem F91_eq (q:Int) (s:Sp3) {N:Nat} (hN:200≤N):F91 N q s=some (ln q s):=by
  simp only [F91,F87,F76_eq,ba,ln]
  rcases Bool.eq_false_or_eq_true (inB s.no 0 59) with h1 | h1
  · rcases Bool.eq_false_or_eq_true (inB s.sz 14 240) with h2 | h2
    · have hz:14≤s.sz∧s.sz≤240:=by simpa [inB] using h2
      simp only [h1,h2,if_true,Bool.true_and]
      rw [dr (pi (by omega) (by omega))]
      by_cases h3:(s.t.length:Int)=(s.sz+1).tdiv 2
      · have hd:(s.sz+1).tdiv 2=(s.sz+1) / 2:=Int.tdiv_eq_ediv_of_nonneg (by omega)
        rw [hd] at h3
        rw [if_pos (by rw [hd]; exact h3),F145_eq s.t (by omega) (by omega),ba]
        rcases Bool.eq_false_or_eq_true (ck s.t) with h4 | h4
        · simp only [h4,if_true,hd,decide_eq_true h3,Bool.true_and]
          by_cases h5:q=1 <;> by_cases h6:s.sz.tmod 2=1 <;> simp only [h5,h6,if_true,if_false,F91j1,last_step (s:=s.t) (by omega) (by omega)] <;> simp
        simp [h4]
      rw [if_neg h3]; simp [h3]
    simp [h1,h2]
  simp [h1]
theorem F94_eq (q:Int) (s:Sp3) {N:Nat} (hN:200≤N):F94 N q s=some (ln q s):=by
  simp only [F94,F82_eq,ba,ln]
  rcases Bool.eq_false_or_eq_true (inB s.no 0 59) with h1 | h1
  · rcases Bool.eq_false_or_eq_true (inB s.sz 14 240) with h2 | h2
    · have hz:14≤s.sz∧s.sz≤240:=by simpa [inB] using h2
      simp only [h1,h2,if_true,Bool.true_and]
      rw [dr (pi (by omega) (by omega))]
      by_cases h3:(s.t.length:Int)=(s.sz+1).tdiv 2
      · have hd:(s.sz+1).tdiv 2=(s.sz+1) / 2:=Int.tdiv_eq_ediv_of_nonneg (by omega)
        rw [hd] at h3
        rw [if_pos (by rw [hd]; exact h3),F84_eq s.t (by omega) (by omega),ba]
        rcases Bool.eq_false_or_eq_true (ck s.t) with h4 | h4
        · simp only [h4,if_true,hd,decide_eq_true h3,Bool.true_and]
          have hm:s.sz.tmod 2=s.sz % 2:=Int.tmod_eq_emod_of_nonneg (by omega)
          by_cases h5:q=1
          · by_cases h6:s.sz.tmod 2=0
            · have h7:¬ s.sz.tmod 2=1:=by omega
              simp [h5,h6]
            have h7:s.sz.tmod 2=1:=by omega
            rw [if_pos h5,if_neg h6,last_step (s:=s.t) (by omega) (by omega)]; simp [h5,h7]
          simp [h5]
        simp [h4]
      rw [if_neg h3]; simp [h3]
    simp [h1,h2]
  simp [h1]
end Go.K
end
section
namespace Go.K
open Go.RowKit
end Go.K
end
section
namespace Go.K
open Go.RowKit
def difQ (z x:Int):Int:=32+(z - x+95) % 95
def okI (x:Int):Prop:=32≤x∧x≤126
theorem F150_eq {z x:Int} (hz:okI z) (hx:okI x):F150 z x=some (difQ z x):=by
  unfold okI at *
  have e2:(z - x+95).tmod 95=(z - x+95) % 95:=Int.tmod_eq_emod_of_nonneg (by omega)
  have e3:0≤(z - x+95) % 95∧(z - x+95) % 95 < 95:=⟨Int.emod_nonneg _ (by decide),Int.emod_lt_of_pos _ (by decide)⟩
  unfold F150 difQ
  rw [e2,dr (by unfold InR; omega),dr (by unfold InR; omega),dr (by unfold InR; omega),dr (by unfold InR; omega),dr (by unfold InR; omega),w8,Int.emod_eq_of_lt (by omega) (by omega)]
theorem F165_eq {z x:Int} (hz:okI z) (hx:okI x):F165 z x=some (difQ z x):=by
  unfold okI at *
  have e0:w8 (z+95)=z+95:=Int.emod_eq_of_lt (by omega) (by omega)
  have e1:w8 (z+95 - x)=z - x+95:=by rw [show z+95 - x=z - x+95 by omega]; exact Int.emod_eq_of_lt (by omega) (by omega)
  have e2:(z - x+95).tmod 95=(z - x+95) % 95:=Int.tmod_eq_emod_of_nonneg (by omega)
  have e3:0≤(z - x+95) % 95∧(z - x+95) % 95 < 95:=⟨Int.emod_nonneg _ (by decide),Int.emod_lt_of_pos _ (by decide)⟩
  unfold F165 difQ
  rw [e0,e1,e2,w8,Int.emod_eq_of_lt (by omega) (by omega)]
theorem F149l_eq (a b:List Int) (hl:a.length=b.length) (hs:a.length≤1000000) (ha:∀ x∈a,okI x) (hb:∀ x∈b,okI x):∀ (m i:Nat) (o:List Int),a.length - i < m→i≤a.length→o.length≤i→F149l1 a b m o (i:Int)=some (o++List.zipWith difQ (a.drop i) (b.drop i)):=by
  intro m
  induction m with
  | zero=>intro i o h; omega
  | succ m ih =>
    intro i o hm hi ho
    simp only [F149l1,F149b1]
    by_cases h:i < a.length
    · have h2:i < b.length:=by omega
      rw [if_pos (by omega),du (by omega),Int.toNat_natCast,List.getElem?_eq_getElem h,ba,List.getElem?_eq_getElem h2,ba,F165_eq (ha _ (List.getElem_mem h)) (hb _ (List.getElem_mem h2)),ba,du (by omega),dr (pi (by omega) (by omega)),show ((i:Int)+1)=((i+1:Nat):Int) by omega,ih (i+1) _ (by omega) (by omega) (by simp; omega),jj h,jj h2,List.zipWith_cons_cons,List.append_assoc,List.singleton_append]
    rw [if_neg (by omega),List.drop_of_length_le (by omega)]
    simp
theorem F149_eq (a b:List Int) (hl:a.length=b.length) (hs:a.length≤1000000) (ha:∀ x∈a,okI x) (hb:∀ x∈b,okI x) {N:Nat} (hN:a.length < N):F149 N a b=some (List.zipWith difQ a b):=by
  have:=F149l_eq a b hl hs ha hb N 0 [] (by omega) (by omega) (by simp)
  simpa [F149] using this
def zipQ:List Int→List Int→List Int
  | x :: a,y :: b=>x :: y :: zipQ a b
  | _,_=>[]
theorem F93l4_eq (a b:List Int) (hl:a.length=b.length) (hs:a.length≤1000000):∀ (m i:Nat) (o:List Int),a.length - i < m→i≤a.length→o.length≤2 * i→F93l4 a b m o (i:Int)=some (bl (o++zipQ (a.drop i) (b.drop i))):=by
  intro m
  induction m with
  | zero=>intro i o h; omega
  | succ m ih =>
    intro i o hm hi ho
    simp only [F93l4,F93b4]
    by_cases h:i < a.length
    · have h2:i < b.length:=by omega
      rw [if_pos (by omega),du (by omega),Int.toNat_natCast,List.getElem?_eq_getElem h,ba,List.getElem?_eq_getElem h2,ba,du (by omega),dr (pi (by omega) (by omega)),show ((i:Int)+1)=((i+1:Nat):Int) by omega,ih (i+1) _ (by omega) (by omega) (by simp; omega),jj h,jj h2]
      simp [zipQ]
    rw [if_neg (by omega),List.drop_of_length_le (by omega)]
    simp [zipQ]
theorem F93l3_4 (a b:List Int):∀ m,F93l3 a b m=F93l4 a b m:=by
  intro m; induction m with
  | zero=>rfl
  | succ m ih=>funext t v; simp only [F93l3,F93l4,F93b3,F93b4,ih]
theorem F93l2_4 (a b:List Int):∀ m,F93l2 b a m=F93l4 a b m:=by
  intro m; induction m with
  | zero=>rfl
  | succ m ih=>funext t v; simp only [F93l2,F93l4,F93b2,F93b4,ih]
theorem weave_eq (a b:List Int) (hl:a.length=b.length) (hs:a.length≤1000000) {N:Nat} (hN:a.length < N):F93l4 a b N [] 0=some (bl (zipQ a b)):=by
  have:=F93l4_eq a b hl hs N 0 [] (by omega) (by omega) (by simp)
  simpa using this
end Go.K
end
section
namespace Go.K
open Go.RowKit
theorem bytes_ok {s:Str} (h:ck s=true):∀ x∈bytesOf s,okI x:=by
  intro x hx
  obtain ⟨b,hb,rfl⟩:=List.mem_map.1 hx
  exact (okB_iff b).1 (by simp only [ck,List.all_eq_true] at h; exact h b hb)
def mendQ (p q:Int) (X Y:List Int):List Int :=
  if p=0 then (if q=1 then zipQ X Y else zipQ X (List.zipWith difQ Y X)) else zipQ (List.zipWith difQ Y X) X
theorem F95l_eq (p q:Int) (hpq:(p=0∧q=1)∨(p=0∧q=2)∨(p=1∧q=2)) (s t:Sp3) (hl:s.t.length=t.t.length) (hn:s.t.length≤1000) (hs:ck s.t=true) (ht:ck t.t=true):∀ (m i:Nat) (o:List Int),s.t.length - i < m→i≤s.t.length→o.length≤2 * i →
    F95l2 p q s t m o (i:Int)=F95j1 s (o++mendQ p q (bytesOf (s.t.drop i)) (bytesOf (t.t.drop i))):=by
  have h1:∀ b∈s.t,okB b=true:=by simpa [ck] using hs
  have h2:∀ b∈t.t,okB b=true:=by simpa [ck] using ht
  intro m
  induction m with
  | zero=>intro i o h; omega
  | succ m ih =>
    intro i o hm hi ho
    simp only [F95l2,F95b2]
    by_cases h:i < s.t.length
    · have hh:i < t.t.length:=by omega
      have e1:F150 (nb t.t[i]) (nb s.t[i])=some (difQ (nb t.t[i]) (nb s.t[i])):=F150_eq ((okB_iff _).1 (h2 _ (List.getElem_mem hh))) ((okB_iff _).1 (h1 _ (List.getElem_mem h)))
      have hj:∀ x y,F95j4 (F95l2 p q s t m) o (i:Int) x y=F95j1 s (o++([x,y]++mendQ p q (bytesOf (s.t.drop (i+1))) (bytesOf (t.t.drop (i+1))))):=fun x y=>by
        rw [F95j4,du (by omega),dr (pi (by omega) (by omega)),show ((i:Int)+1)=((i+1:Nat):Int) by omega,ih (i+1) _ (by omega) (by omega) (by simp; omega),List.append_assoc]
      rw [if_pos (by omega),du (by omega),Int.toNat_natCast,List.getElem?_eq_getElem h,ba,List.getElem?_eq_getElem hh,ba,jj h,jj hh]
      rcases hpq with ⟨rfl,rfl⟩ | ⟨rfl,rfl⟩ | ⟨rfl,rfl⟩
      · rw [if_neg (by decide),F95j3,if_neg (by decide),hj]; rfl
      · rw [if_pos (by decide),e1,ba,F95j3,if_neg (by decide),hj]; rfl
      rw [if_neg (by decide),F95j3,if_pos (by decide),e1,ba,hj]; rfl
    rw [if_neg (by omega),List.drop_of_length_le (show s.t.length≤i by omega),List.drop_of_length_le (show t.t.length≤i by omega)]
    have:mendQ p q (bytesOf []) (bytesOf [])=[]:=by unfold mendQ; split <;> (try split) <;> rfl
    rw [this,List.append_nil]
end Go.K
end
section
namespace Go.K
open Go.RowKit
theorem zipQ_len:∀ (a b:List Int),a.length=b.length→(zipQ a b).length=2 * a.length
  | [],[],_=>rfl
  | [],_ :: _,h=>by simp at h
  | _ :: _,[],h=>by simp at h
  | x :: a,y :: b,h=>by have:=zipQ_len a b (by simpa using h); simp [zipQ,this]; omega
theorem dif_len {X Y:List Int} (h:X.length=Y.length):(List.zipWith difQ Y X).length=X.length:=by simp [h]
theorem mendQ_len (p q:Int) {X Y:List Int} (h:X.length=Y.length):(mendQ p q X Y).length=2 * X.length:=by
  unfold mendQ; split
  · split
    · exact zipQ_len _ _ h
    exact zipQ_len _ _ (dif_len h).symm
  rw [zipQ_len _ _ (dif_len h),dif_len h]
theorem F92_eq (s:Sp3) (h:s.t.length≤1000):F92 s=some (bytesOf s.t):=by
  unfold F92; rw [du (by omega),du (by omega),du (by simp)]
theorem bytes_len (s:Str):(bytesOf s).length=s.length:=by simp [bytesOf]
theorem strOf_take (l:List Int) (n:Nat):(bl l).take n=bl (l.take n):=by simp [bl]
theorem strOf_len (l:List Int):(bl l).length=l.length:=by simp [bl]
theorem m01 {X Y:List Int} (h:X.length=Y.length) (hx:X.length≤1000) {N:Nat} (hN:1000 < N):F93 N X false Y false [] true=some (bl (mendQ 0 1 X Y)):=by
  unfold F93; rw [if_neg (by decide),if_neg (by decide),weave_eq X Y h (by omega) (by omega)]; rfl
theorem m02 {X Y:List Int} (h:X.length=Y.length) (hx:X.length≤1000) (oX:∀ x∈X,okI x) (oY:∀ x∈Y,okI x) {N:Nat} (hN:1000 < N):F93 N X false [] true Y false=some (bl (mendQ 0 2 X Y)):=by
  unfold F93; rw [if_neg (by decide),if_pos rfl,F149_eq Y X h.symm (by omega) oY oX (by omega),ba,F93l3_4,weave_eq X _ (dif_len h).symm (by omega) (by omega)]; rfl
theorem m12 {X Y:List Int} (h:X.length=Y.length) (hx:X.length≤1000) (oX:∀ x∈X,okI x) (oY:∀ x∈Y,okI x) {N:Nat} (hN:1000 < N):F93 N [] true X false Y false=some (bl (mendQ 1 2 X Y)):=by
  unfold F93; rw [if_pos rfl,F149_eq Y X h.symm (by omega) oY oX (by omega),ba,if_neg (by decide),F93l2_4,weave_eq _ X (dif_len h) (by rw [dif_len h]; omega) (by rw [dif_len h]; omega)]; rfl
theorem F95_eq (p q:Int) (hpq:(p=0∧q=1)∨(p=0∧q=2)∨(p=1∧q=2)) (s t:Sp3) (hl:s.t.length=t.t.length) (hn:s.t.length≤1000) (h0:0 < s.t.length) (hz:0≤s.sz) (hz2:s.sz.toNat≤2 * s.t.length) (hs:ck s.t=true) (ht:ck t.t=true) {N:Nat} (hN:1000 < N) :
    F95 N p q s t=some (bl ((mendQ p q (bytesOf s.t) (bytesOf t.t)).take s.sz.toNat)):=by
  have:=F95l_eq p q hpq s t hl hn hs ht N 0 [] (by omega) (by omega) (by simp)
  have hm:=mendQ_len p q (X:=bytesOf s.t) (Y:=bytesOf t.t) (by simp [bytes_len,hl])
  rw [bytes_len] at hm
  unfold F95
  rw [show (0:Int)=((0:Nat):Int) from rfl,this,List.drop_zero,List.drop_zero,List.nil_append,F95j1,du (by omega),du hz,du (by omega)]
end Go.K
end
section
namespace Go.K
open Go.RowKit
theorem whole_facts {q:Int} {s:Sp3} (h:ln q s=true):14≤s.sz∧s.sz≤240∧(s.t.length:Int)=(s.sz+1) / 2∧ck s.t=true:=by
  simp only [ln,inB,Bool.and_eq_true,decide_eq_true_eq] at h
  obtain ⟨⟨⟨⟨_,h2⟩,h3⟩,h4⟩,_⟩:=h
  rw [Int.tdiv_eq_ediv_of_nonneg (by omega)] at h3
  exact ⟨h2.1,h2.2,h3,h4⟩
theorem F22_F23 (p q:Int) (s t:Sp3) (N:Nat):F22 (N+1001) p s q t=F23 (N+1001) p s q t:=by
  simp only [F22,F23,F90,F76_eq,F82_eq,ba,F91_eq p s (N:=N+1001) (by omega),F94_eq p s (N:=N+1001) (by omega),F91_eq q t (N:=N+1001) (by omega),F94_eq q t (N:=N+1001) (by omega)]
  rcases Bool.eq_false_or_eq_true (inB p 0 2) with h1 | h1
  · rcases Bool.eq_false_or_eq_true (inB q 0 2) with h2 | h2
    · by_cases h3:p=q
      · simp only [h1,h2,if_true,if_pos h3]
      rcases Bool.eq_false_or_eq_true (ln p s) with h4 | h4
      · rcases Bool.eq_false_or_eq_true (ln q t) with h5 | h5
        · by_cases h6:s.no=t.no
          · by_cases h7:s.sz=t.sz
            · obtain ⟨a1,a2,a3,a4⟩:=whole_facts h4
              obtain ⟨b1,b2,b3,b4⟩:=whole_facts h5
              have hl:s.t.length=t.t.length:=by omega
              have lX:(bytesOf s.t).length=s.t.length:=bytes_len _
              have lY:(bytesOf t.t).length=t.t.length:=bytes_len _
              have hX:=bytes_ok a4
              have hY:=bytes_ok b4
              have hXY:(bytesOf s.t).length=(bytesOf t.t).length:=by omega
              have l1:∀ p q,(mendQ p q (bytesOf s.t) (bytesOf t.t)).length=2 * s.t.length:=fun p q=>by rw [mendQ_len p q hXY,lX]
              have l2:∀ p q,(mendQ p q (bytesOf t.t) (bytesOf s.t)).length=2 * s.t.length:=fun p q=>by rw [mendQ_len p q hXY.symm,lY]; omega
              have hp:p=0∨p=1∨p=2:=by simp [inB] at h1; omega
              have hq:q=0∨q=1∨q=2:=by simp [inB] at h2; omega
              simp only [h1,h2,h4,h5,if_true,if_neg h3,if_pos h6,if_pos h7,F92_eq s (by omega),F92_eq t (by omega),ba]
              have e:∀ p q,((p=0∧q=1)∨(p=0∧q=2)∨(p=1∧q=2))→F95 (N+1001) p q s t=some (bl ((mendQ p q (bytesOf s.t) (bytesOf t.t)).take s.sz.toNat)):=fun p q h=>F95_eq p q h s t hl (by omega) (by omega) (by omega) (by omega) a4 b4 (by omega)
              have e':∀ p q,((p=0∧q=1)∨(p=0∧q=2)∨(p=1∧q=2))→F95 (N+1001) p q t s=some (bl ((mendQ p q (bytesOf t.t) (bytesOf s.t)).take t.sz.toNat)):=fun p q h=>F95_eq p q h t s hl.symm (by omega) (by omega) (by omega) (by omega) b4 a4 (by omega)
              have g:∀ l:List Int,l.length=2 * s.t.length→(gdO (0≤s.sz) <| gdO (0≤s.sz.toNat∧s.sz.toNat≤(bl l).length) <| some ((bl l).take s.sz.toNat,(0:Int)))=some (bl (l.take s.sz.toNat),0):=fun l hl=>by
                rw [du (by omega),du (by rw [strOf_len]; omega),strOf_take]
              rcases hp with rfl | rfl | rfl <;> rcases hq with rfl | rfl | rfl
              · exact absurd rfl h3
              · simp only [show ¬ ((1:Int)=0) by decide,show ¬ ((1:Int) < 0) by decide,if_true,if_false]
                rw [du (by omega),du (by omega),m01 hXY (by omega) (by omega),ba,g _ (l1 _ _),e 0 1 (by omega),ba]
              · simp only [show ¬ ((2:Int)=0) by decide,show ¬ ((2:Int)=1) by decide,show ¬ ((2:Int) < 0) by decide,if_true,if_false]
                rw [du (by omega),du (by omega),m02 hXY (by omega) hX hY (by omega),ba,g _ (l1 _ _),e 0 2 (by omega),ba]
              · simp only [show ¬ ((1:Int)=0) by decide,show ((0:Int) < 1) by decide,if_true,if_false]
                rw [du (by omega),du (by omega),m01 hXY.symm (by omega) (by omega),ba,g _ (l2 _ _),e' 0 1 (by omega),ba,h7]
              · exact absurd rfl h3
              · simp only [show ¬ ((1:Int)=0) by decide,show ¬ ((2:Int)=0) by decide,show ¬ ((2:Int)=1) by decide,show ¬ ((2:Int) < 1) by decide,if_true,if_false]
                rw [du (by omega),du (by omega),m12 hXY (by omega) hX hY (by omega),ba,g _ (l1 _ _),e 1 2 (by omega),ba]
              · simp only [show ¬ ((2:Int)=0) by decide,show ¬ ((2:Int)=1) by decide,show ((0:Int) < 2) by decide,if_true,if_false]
                rw [du (by omega),du (by omega),m02 hXY.symm (by omega) hY hX (by omega),ba,g _ (l2 _ _),e' 0 2 (by omega),ba,h7]
              · simp only [show ¬ ((2:Int)=0) by decide,show ¬ ((2:Int)=1) by decide,show ¬ ((1:Int)=0) by decide,show ((1:Int) < 2) by decide,if_true,if_false]
                rw [du (by omega),du (by omega),m12 hXY.symm (by omega) hY hX (by omega),ba,g _ (l2 _ _),e' 1 2 (by omega),ba,h7]
              exact absurd rfl h3
            simp only [h1,h2,h4,h5,if_true,if_neg h3,if_pos h6,if_neg h7]
          simp only [h1,h2,h4,h5,if_true,if_neg h3,if_neg h6]
        simp [h1,h2,h3,h4,h5]
      simp [h1,h2,h3,h4]
    simp [h1,h2]
  simp [h1]
end Go.K
end
section
namespace Go.K
open Go.RowKit
end Go.K
end
section
namespace Go.K
open Go.RowKit
def mendS (p q:Int) (s t:Sp3):Str:=if q < p then bl ((mendQ q p (bytesOf t.t) (bytesOf s.t)).take t.sz.toNat) else bl ((mendQ p q (bytesOf s.t) (bytesOf t.t)).take s.sz.toNat)
def ow (p q:Int) (s t:Sp3):Bool:=ln p s && ln q t && decide (s.no=t.no) && decide (s.sz=t.sz)
theorem F95_whole (p q:Int) (hpq:(p=0∧q=1)∨(p=0∧q=2)∨(p=1∧q=2)) (s t:Sp3) (h4:ln p s=true) (h5:ln q t=true) (h7:s.sz=t.sz) (N:Nat):F95 (N+1001) p q s t=some (bl ((mendQ p q (bytesOf s.t) (bytesOf t.t)).take s.sz.toNat)):=by
  obtain ⟨a1,a2,a3,a4⟩:=whole_facts h4
  obtain ⟨b1,b2,b3,b4⟩:=whole_facts h5
  exact F95_eq p q hpq s t (by omega) (by omega) (by omega) (by omega) (by omega) a4 b4 (by omega)
theorem F23_eq (p q:Int) (s t:Sp3) (N:Nat):F23 (N+1001) p s q t=some (if inB p 0 2=true∧inB q 0 2=true∧p≠q then if ow p q s t=true then (mendS p q s t,0) else ([],84) else ([],1)):=by
  simp only [F23,F82_eq,ba,F94_eq p s (N:=N+1001) (by omega),F94_eq q t (N:=N+1001) (by omega),ow,Bool.and_eq_true,decide_eq_true_eq]
  by_cases h1:inB p 0 2=true
  · by_cases h2:inB q 0 2=true
    · by_cases h3:p=q
      · simp [h1,h2,h3]
      by_cases h4:ln p s=true
      · by_cases h5:ln q t=true
        · by_cases h6:s.no=t.no
          · by_cases h7:s.sz=t.sz
            · have hp:p=0∨p=1∨p=2:=by simp [inB] at h1; omega
              have hq:q=0∨q=1∨q=2:=by simp [inB] at h2; omega
              by_cases h8:q < p
              · simp only [h1,h2,h4,h5,if_true,if_neg h3,if_pos h6,if_pos h7,if_pos h8,mendS,F95_whole q p (by omega) t s h5 h4 h7.symm N,ba]
                simp [h3,h6,h7]
              simp only [h1,h2,h4,h5,if_true,if_neg h3,if_pos h6,if_pos h7,if_neg h8,mendS,F95_whole p q (by omega) s t h4 h5 h7 N,ba]
              simp [h3,h6,h7]
            simp [h1,h2,h3,h4,h5,h6,h7]
          simp [h1,h2,h3,h4,h5,h6]
        simp [h1,h2,h3,h4,h5]
      simp [h1,h2,h3,h4]
    simp [h1,h2]
  simp [h1]
set_option maxRecDepth 100000 in
theorem sane_run (n:Nat):F19 (n+400)=some true:=by kernel_rfl
theorem sane_ok {N:Nat} (h:400≤N):F19 N=some true:=by
  obtain ⟨k,rfl⟩:=Nat.exists_eq_add_of_le' h
  exact sane_run k
end Go.K
end
section
namespace Go.K
open Go.RowKit
theorem logR_v:∀ (r done:List Rc),logR done r=true→∀ y∈r,vRc y=true
  | [],_,_,y,hy=>by cases hy
  | x :: r,done,h,y,hy=>by
    simp only [logR,Bool.and_eq_true,decide_eq_true_eq] at h
    obtain ⟨⟨⟨_,h2⟩,_⟩,h4⟩:=h
    rcases List.mem_cons.1 hy with rfl | hy
    · exact h2
    exact logR_v r _ h4 y hy
theorem eqRc_self (x:Rc):eqRc x x=true:=by simp [eqRc]
theorem F35l_self (l:List Rc) (hl:l.length≤1000000):∀ (m i:Nat),i≤l.length→l.length - i < m→F35l1 l l m (i:Int)=some true:=by
  intro m
  induction m with
  | zero=>intro i _ h; omega
  | succ m ih =>
    intro i hi hm
    simp only [F35l1,F35b1]
    by_cases h:i < l.length
    · rw [if_pos (by omega),du (by omega),Int.toNat_natCast,List.getElem?_eq_getElem h,ba,ba,eqRc_fold,eqRc_self,if_pos rfl,dr (pi (by omega) (by omega)),show ((i:Int)+1)=((i+1:Nat):Int) by omega]
      exact ih (i+1) (by omega) (by omega)
    rw [if_neg (by omega)]
theorem F35_self (l:List Rc) (hl:l.length≤1000000) {N:Nat} (hN:l.length < N):F35 N l l=some true:=by
  rw [F35,if_pos rfl]
  exact F35l_self l hl N 0 (by omega) (by omega)
end Go.K
end
section
namespace Go.K
open Go.RowKit
def clashB (a:List Rc) (x:Rc):Bool:=match pl a x.p x.n with | some y=>!eqRc y x | none=>false
def newB (a:List Rc) (x:Rc):Bool:=(pl a x.p x.n).isNone
def newRc (a b:List Rc):List Rc:=b.filter (newB a)
def joinR (a b:List Rc):List Rc × Int:=if b.any (clashB a)=true then ([],82) else if 60 < ((a++newRc a b).length:Int) then ([],2) else (po (a++newRc a b),0)
theorem eqRc_iff {x y:Rc}:eqRc x y=true↔x=y:=by
  constructor
  · intro h; simp [eqRc] at h; cases x; cases y; simp_all
  rintro rfl; exact eqRc_self x
theorem cnt_card (d:List Rc) (p:Int) (n:Nat) (hk:d.Pairwise nw) (h1:∀ y∈d,y.p=p→0≤y.n∧y.n < n) (h2:∀ k:Nat,k < n→∃ y∈d,y.p=p∧y.n=k):cnt d p=n:=by
  let e:=(d.filter fun x=>decide (x.p=p)).map fun x=>x.n.toNat
  have hm:∀ k,k∈e↔k∈List.range n:=by
    intro k
    simp only [e,List.mem_map,List.mem_filter,List.mem_range,decide_eq_true_eq]
    constructor
    · rintro ⟨y,⟨hy,hp⟩,rfl⟩
      have:=h1 y hy hp; omega
    intro hkn
    obtain ⟨y,hy,hp,hn⟩:=h2 k hkn
    exact ⟨y,⟨hy,hp⟩,by rw [hn]; rfl⟩
  have hnd:e.Nodup:=by
    show List.Pairwise (fun a b=>a≠b) _
    simp only [e]
    rw [List.pairwise_map]
    refine List.Pairwise.imp_of_mem (fun {x y} hx hy hxy=>?_) (hk.sublist List.filter_sublist)
    have hx:=List.mem_filter.1 hx
    have hy:=List.mem_filter.1 hy
    have hxp:x.p=p:=by simpa using hx.2
    have hyp:y.p=p:=by simpa using hy.2
    have a1:=h1 x hx.1 hxp
    have a2:=h1 y hy.1 hyp
    intro he
    exact hxy ⟨by rw [hxp,hyp],by omega⟩
  have hp:=(List.perm_ext_iff_of_nodup hnd List.nodup_range).2 hm
  have hl:=hp.length_eq
  simp only [e,List.length_map,List.length_range] at hl
  unfold cnt; rw [hl]
end Go.K
end
section
namespace Go.K
open Go.RowKit
def ordP (a b:Rc):Prop:=a.p=b.p→a.n < b.n
def closedP (l:List Rc):Prop:=∀ x∈l,∀ k:Nat,(k:Int) < x.n→∃ y∈l,y.p=x.p∧y.n=k
theorem vRc_n {x:Rc} (h:vRc x=true):0≤x.n:=by
  simp only [vRc,vIt,inB,Bool.and_eq_true,decide_eq_true_eq] at h; omega
theorem ord_key {l:List Rc} (h:l.Pairwise ordP):l.Pairwise nw:=h.imp fun {a b} hab=>by unfold ordP nw at *; omega
theorem log_of {l:List Rc} (hl:l.length≤60) (hv:∀ y∈l,vRc y=true) (ho:l.Pairwise ordP) (hc:closedP l):logB l=true:=by
  suffices h:∀ (r done:List Rc),done++r=l→logR done r=true from h l [] rfl
  intro r
  induction r with
  | nil=>intro _ _; rfl
  | cons x r ih =>
    intro done he
    subst he
    have hx:=hv x (by simp)
    have hpw:=List.pairwise_append.1 ho
    have hn0:=vRc_n hx
    have hcn:cnt done x.p=(x.n.toNat:Int):=by
      refine cnt_card done x.p x.n.toNat (ord_key hpw.1) (fun y hy hp=>?_) (fun k hk=>?_)
      · have h1:=vRc_n (hv y (by simp [hy]))
        have h2:=hpw.2.2 y hy x (by simp) hp
        omega
      obtain ⟨y,hy,hp,hn⟩:=hc x (by simp) k (by omega)
      rcases List.mem_append.1 hy with hy | hy
      · exact ⟨y,hy,hp,hn⟩
      rcases List.mem_cons.1 hy with rfl | hy
      · omega
      have:=(List.pairwise_cons.1 hpw.2.1).1 y hy hp.symm; omega
    have hr:=ih (done++[x]) (by simp)
    simp only [logR,hx,hr,hcn,Bool.and_true,Bool.and_eq_true,decide_eq_true_eq]
    simp at hl
    omega
theorem logR_closed:∀ (r done:List Rc),(∀ (p:Int) (k:Nat),(k:Int) < cnt done p→∃ y∈done,y.p=p∧y.n=k)→logR done r=true→∀ (p:Int) (k:Nat),(k:Int) < cnt (done++r) p→∃ y∈done++r,y.p=p∧y.n=k
  | [],done,h1,_=>by simpa using h1
  | x :: r,done,h1,h=>by
    simp only [logR,Bool.and_eq_true,decide_eq_true_eq] at h
    obtain ⟨⟨⟨_,_⟩,h3⟩,h4⟩:=h
    have:=logR_closed r (done++[x]) (fun p k hk=>?_) h4
    · simpa using this
    rw [cnt_snoc] at hk
    by_cases hlt:(k:Int) < cnt done p
    · obtain ⟨y,hy,e⟩:=h1 p k hlt
      exact ⟨y,by simp [hy],e⟩
    by_cases hp:x.p=p
    · rw [if_pos hp] at hk
      exact ⟨x,by simp,hp,by rw [h3,hp]; omega⟩
    rw [if_neg hp] at hk; omega
theorem logB_closed {l:List Rc} (h:logB l=true):closedP l:=by
  intro x hx k hk
  have h1:=logB_cnt h x hx
  have:=logR_closed l [] (fun p k hk=>by simp [cnt_nil] at hk; omega) h x.p k
  simp only [List.nil_append] at this
  exact this (by omega)
theorem key_eq {l:List Rc} (h:l.Pairwise nw) {a b:Rc} (ha:a∈l) (hb:b∈l) (hp:a.p=b.p) (hn:a.n=b.n):a=b:=disRc_mem (disRc_of h) ha hb hp hn
theorem find_of {l:List Rc} (h:l.Pairwise nw) {y:Rc} (hy:y∈l) {p n:Int} (hp:y.p=p) (hn:y.n=n):pl l p n=some y:=by
  cases e:pl l p n with
  | none=>exact absurd ⟨hp,hn⟩ (findRc_none e y hy)
  | some z =>
    obtain ⟨hz,e1,e2⟩:=findRc_some e
    rw [key_eq h hz hy (by rw [e1,hp]) (by rw [e2,hn])]
def agreeP (a b:List Rc):Prop:=∀ x∈b,∀ y∈a,y.p=x.p→y.n=x.n→y=x
theorem srt_less {l:List Rc} (h:l.Pairwise nw):(po l).Pairwise lessRc:=by
  have hk:(po l).Pairwise nw:=by
    refine (List.Perm.pairwise_iff (fun {x y} hxy=>?_) (oh l)).2 h
    unfold nw at *; omega
  refine ((srtRc_le l).and hk).imp fun {a b} hab=>?_
  obtain ⟨h1,h2⟩:=hab
  rw [cmpRc_lt] at h1
  unfold lessRc nw at *; omega
theorem less_ord {l:List Rc} (h:l.Pairwise lessRc):l.Pairwise ordP:=h.imp fun {a b} hab=>by unfold lessRc ordP at *; omega
end Go.K
end
section
namespace Go.K
open Go.RowKit
theorem decS_pos (m u:Nat):1≤(ng (m+1) u).length:=by
  rw [ng]; split <;> simp
theorem decS_le:∀ (k m u:Nat),u < 10 ^ (k+1)→(ng (m+1) u).length≤k+1
  | 0,m,u,h=>by
    have h:u < 10:=by simpa using h
    rw [ng,if_pos h]; simp
  | k+1,0,u,h=>by
    rw [ng]; split
    · simp
    simp [ng]
  | k+1,m+1,u,h=>by
    rw [ng]; split
    · simp
    have:=decS_le k m (u / 10) (by rw [Nat.pow_succ] at h; omega)
    simp only [List.length_append,List.length_singleton]; omega
theorem nf {n:Int} (h0:0≤n) (h1:n≤9999):1≤(ne n).length∧(ne n).length≤4:=by
  unfold ne
  rw [if_neg (by omega)]
  exact ⟨decS_pos 19 _,decS_le 3 19 _ (by omega)⟩
theorem vRc_in {r:Rc} (h:vRc r=true):∀ x∈nc r,0≤x∧x≤9999:=by
  simp only [vRc,vIt,inB,suitB,Bool.and_eq_true,decide_eq_true_eq] at h
  obtain ⟨⟨⟨⟨⟨⟨⟨h1,h2⟩,h3⟩,h4⟩,h5⟩,h6⟩,h7⟩,h8⟩:=h
  intro x hx
  have ho:(0≤r.op∧r.op≤5)∧0≤r.on∧r.on≤9999:=by
    split at h8
    · simp only [Bool.and_eq_true,decide_eq_true_eq] at h8
      obtain ⟨⟨⟨⟨⟨a,b⟩,_⟩,_⟩,_⟩,_⟩:=h8
      exact ⟨a,b⟩
    simp only [Bool.and_eq_true,decide_eq_true_eq] at h8
    omega
  simp only [nc,List.mem_cons,List.not_mem_nil,or_false] at hx
  rcases hx with rfl | rfl | rfl | rfl | rfl | rfl | rfl <;> omega
theorem txtN_bounds:∀ (l:List Int),(∀ x∈l,0≤x∧x≤9999)→2 * l.length≤(nl l).length∧(nl l).length≤5 * l.length
  | [],_=>by simp [nl]
  | x :: l,h=>by
    have h1:=nf (h x (by simp)).1 (h x (by simp)).2
    have h2:=txtN_bounds l fun y hy=>h y (by simp [hy])
    simp only [nl,List.length_append,List.length_cons,List.length_nil]; omega
theorem txtS_bounds {r:Rc} (h:vRc r=true):14≤(my r).length∧(my r).length≤195:=by
  have h1:=txtN_bounds (nc r) (vRc_in h)
  have h2:=(vRc_small h).2
  have h3:(nc r).length=7:=rfl
  simp only [my,List.length_append]; omega
def mz (q no:Int) (s:Str):Sp3:=⟨no,s.length,bl (thQ q s)⟩
end Go.K
end
section
namespace Go.K
open Go.RowKit
def ot (q:Int):Nat→List Rc→List Sp3
  | _,[]=>[]
  | i,r :: l=>mz q (i:Int) (my r) :: ot q (i+1) l
theorem colQ_len (q:Int):∀ (l:List Rc) (i:Nat),(ot q i l).length=l.length
  | [],_=>rfl
  | r :: l,i=>by simp [ot,colQ_len q l]
theorem colQ_snoc (q:Int) (x:Rc):∀ (l:List Rc) (i:Nat),ot q i (l++[x])=ot q i l++[mz q ((i+l.length:Nat):Int) (my x)]
  | [],i=>rfl
  | r :: l,i=>by
    show _ :: ot q (i+1) (l++[x])=_
    rw [colQ_snoc q x l (i+1),show i+1+l.length=i+(r :: l).length by simp; omega]; rfl
theorem oo {n:Int} (h0:-1000000000000000000≤n) (h1:n≤1000000000000000000):InR n:=by unfold InR; omega
theorem F114l3_eq (rec1:List Sp3→List Sp3→List Sp3→Int→Option (List Sp3 × List Sp3 × List Sp3 × Int × Int × Int)) (v:Int) (s0 s1 s2:Sp3) (b0 b1 b2:List Sp3) (h0:b0.length≤1000000) (h1:b1.length≤1000000) (h2:b2.length≤1000000) (m:Nat) :
    F114l3 rec1 v [s0,s1,s2] (m+4) b0 b1 b2 0=F114j2 rec1 v (b0++[s0]) (b1++[s1]) (b2++[s2]):=by
  have hlen:(([s0,s1,s2]:List Sp3).length:Int)=3:=rfl
  show F114b3 _ _ _ _ _ _ _ _=_
  rw [F114b3,hlen,if_pos (by decide),du (by decide),show ([s0,s1,s2]:List Sp3)[(0:Int).toNat]?=some s0 from rfl,ba,if_pos rfl,du (by omega),F114j4,dr (pi (by decide) (by decide))]
  show F114b3 _ _ _ _ _ _ _ 1=_
  rw [F114b3,hlen,if_pos (by decide),du (by decide),show ([s0,s1,s2]:List Sp3)[(1:Int).toNat]?=some s1 from rfl,ba,if_neg (by decide),if_pos rfl,du (by omega),F114j4,dr (pi (by decide) (by decide))]
  show F114b3 _ _ _ _ _ _ _ 2=_
  rw [F114b3,hlen,if_pos (by decide),du (by decide),show ([s0,s1,s2]:List Sp3)[(2:Int).toNat]?=some s2 from rfl,ba,if_neg (by decide),if_neg (by decide),if_pos rfl,du (by omega),F114j4,dr (pi (by decide) (by decide))]
  show F114b3 _ _ _ _ _ _ _ 3=_
  rw [F114b3,hlen,if_neg (by decide)]
theorem F114l_eq (l:List Rc) (hl:l.length≤60) (hv:∀ x∈l,vRc x=true) (N:Nat) (hN:1000≤N):∀ (m i:Nat),i≤l.length→l.length - i < m →
    F114l1 l N m (ot 0 0 (l.take i)) (ot 1 0 (l.take i)) (ot 2 0 (l.take i)) (i:Int)=some (ot 0 0 l,ot 1 0 l,ot 2 0 l,0,0,0):=by
  intro m
  induction m with
  | zero=>intro i _ h; omega
  | succ m ih =>
    intro i hi hm
    show F114b1 _ _ _ _ _ _ _=_
    rw [F114b1]
    by_cases h:i < l.length
    · have hn:=ih (i+1) (by omega) (by omega)
      have hc:=fun q=>colQ_snoc q l[i] (l.take i) 0
      rw [← ny h,show 0+(l.take i).length=i by rw [List.length_take]; omega] at hc
      have hcl:=fun q=>colQ_len q (l.take i) 0
      obtain ⟨k,rfl⟩:∃ k,N=k+400:=⟨N - 400,by omega⟩
      rw [if_pos (by omega),du (by omega),Int.toNat_natCast,List.getElem?_eq_getElem h,ba,F88_eq _ _ (hv _ (List.getElem_mem h)),ba]
      show F114l3 _ _ [mz 0 _ _,mz 1 _ _,mz 2 _ _] (k+396+4) _ _ _ 0=_
      rw [F114l3_eq _ _ _ _ _ _ _ _ (by rw [hcl,List.length_take]; omega) (by rw [hcl,List.length_take]; omega) (by rw [hcl,List.length_take]; omega),← hc,← hc,← hc,F114j2,dr (pi (by omega) (by omega)),show ((i:Int)+1)=((i+1:Nat):Int) by omega,hn]
    rw [if_neg (by omega),List.take_of_length_le (by omega)]
theorem F114_eq {l:List Rc} (hl:l.length≤60) (hv:∀ x∈l,vRc x=true) {N:Nat} (hN:1000≤N):F114 N l=some (ot 0 0 l,ot 1 0 l,ot 2 0 l,0,0,0) :=
  F114l_eq l hl hv N hN N 0 (by omega) (by omega)
theorem F117l_eq (l:List Rc) (hl:l.length≤60) (hv:∀ x∈l,vRc x=true) (N:Nat) (hN:1000≤N):∀ (m i:Nat),i≤l.length→l.length - i < m →
    F117l1 l N m (ot 0 0 (l.take i)) (ot 1 0 (l.take i)) (ot 2 0 (l.take i)) (i:Int)=some (ot 0 0 l,ot 1 0 l,ot 2 0 l,(l.length:Int),(l.length:Int),(l.length:Int)):=by
  intro m
  induction m with
  | zero=>intro i _ h; omega
  | succ m ih =>
    intro i hi hm
    show F117b1 _ _ _ _ _ _ _=_
    rw [F117b1]
    by_cases h:i < l.length
    · have hn:=ih (i+1) (by omega) (by omega)
      have hc:=fun q=>colQ_snoc q l[i] (l.take i) 0
      rw [← ny h,show 0+(l.take i).length=i by rw [List.length_take]; omega] at hc
      have hcl:=fun q=>colQ_len q (l.take i) 0
      have hcl:∀ q,(ot q 0 (l.take i)).length+1≤1000:=fun q=>by rw [hcl,List.length_take]; omega
      obtain ⟨k,rfl⟩:∃ k,N=k+400:=⟨N - 400,by omega⟩
      rw [if_pos (by omega),du (by omega),Int.toNat_natCast,List.getElem?_eq_getElem h,ba,F89_eq _ _ (hv _ (List.getElem_mem h)),ba]
      show bp (some (mz 0 _ _)) _=_
      rw [ba,du (by have:=hcl 0; omega),dr (pi (by omega) (by omega))]
      show bp (some (mz 1 _ _)) _=_
      rw [ba,du (by have:=hcl 1; omega)]
      show bp (some (mz 2 _ _)) _=_
      rw [ba,du (by have:=hcl 2; omega),F117j2,dr (pi (by omega) (by omega)),show ((i:Int)+1)=((i+1:Nat):Int) by omega]
      rw [← hn,hc,hc,hc]
      first | done | rfl
    obtain rfl:i=l.length:=by omega
    rw [if_neg (by omega),List.take_of_length_le (by omega)]
theorem F117_eq {l:List Rc} (hl:l.length≤60) (hv:∀ x∈l,vRc x=true) {N:Nat} (hN:1000≤N):F117 N l=some (ot 0 0 l,ot 1 0 l,ot 2 0 l,(l.length:Int),(l.length:Int),(l.length:Int)) :=
  F117l_eq l hl hv N hN N 0 (by omega) (by omega)
def eqSp (x y:Sp3):Bool:=decide (x.no=y.no) && decide (x.sz=y.sz) && decide (x.t=y.t)
theorem eqSp_iff (x y:Sp3):eqSp x y=true↔x=y:=by
  cases x; cases y; simp [eqSp,and_assoc]
theorem F125l_eq (a b:List Sp3) (hl:a.length=b.length) (hs:a.length≤1000000000000000):∀ (m i:Nat),i≤a.length→a.length - i < m→F125l1 a b m (i:Int)=some (decide (a.drop i=b.drop i)):=by
  intro m
  induction m with
  | zero=>intro i _ h; omega
  | succ m ih =>
    intro i hi hm
    show F125b1 _ _ _ _=_
    rw [F125b1]
    by_cases h:i < a.length
    · rw [if_pos (by omega),du (by omega),Int.toNat_natCast,List.getElem?_eq_getElem h,ba,List.getElem?_eq_getElem (by omega:i < b.length),ba,jj h,jj (by omega:i < b.length)]
      show (if eqSp a[i] b[i]=true then _ else _)=_
      by_cases he:eqSp a[i] b[i]=true
      · rw [if_pos he,dr (oo (by omega) (by omega)),show ((i:Int)+1)=((i+1:Nat):Int) by omega,ih (i+1) (by omega) (by omega)]
        have:=(eqSp_iff _ _).1 he
        simp only [this,List.cons.injEq,true_and]
      rw [if_neg he]
      have:a[i]≠b[i]:=fun h=>he ((eqSp_iff _ _).2 h)
      simp only [this,List.cons.injEq,false_and,decide_false]
    rw [if_neg (by omega),List.drop_of_length_le (by omega),List.drop_of_length_le (by omega)]; simp
theorem F125_eq (a b:List Sp3) (hs:a.length≤1000000000000000) {N:Nat} (hN:a.length < N):F125 N a b=some (decide (a=b)):=by
  unfold F125
  by_cases hl:a.length=b.length
  · rw [if_pos (by omega)]
    exact F125l_eq a b hl hs N 0 (by omega) (by omega)
  rw [if_neg (by omega)]
  have:a≠b:=fun h=>hl (by rw [h])
  simp [this]
theorem F24g_eq (a b:List Sp3) (hl:a.length=b.length) (hs:a.length≤1000000000000000):∀ (m i:Nat),i≤a.length→a.length - i < m→F24l1 a b m (i:Int)=some (decide (a.drop i=b.drop i)):=by
  intro m
  induction m with
  | zero=>intro i _ h; omega
  | succ m ih =>
    intro i hi hm
    show F24b1 _ _ _ _=_
    rw [F24b1]
    by_cases h:i < a.length
    · rw [if_pos (by omega),du (by omega),Int.toNat_natCast,List.getElem?_eq_getElem h,ba,List.getElem?_eq_getElem (by omega:i < b.length),ba,jj h,jj (by omega:i < b.length)]
      show (if eqSp a[i] b[i]=true then _ else _)=_
      by_cases he:eqSp a[i] b[i]=true
      · rw [if_pos he,dr (oo (by omega) (by omega)),show ((i:Int)+1)=((i+1:Nat):Int) by omega,ih (i+1) (by omega) (by omega)]
        have:=(eqSp_iff _ _).1 he
        simp only [this,List.cons.injEq,true_and]
      rw [if_neg he]
      have:a[i]≠b[i]:=fun h=>he ((eqSp_iff _ _).2 h)
      simp only [this,List.cons.injEq,false_and,decide_false]
    rw [if_neg (by omega),List.drop_of_length_le (by omega),List.drop_of_length_le (by omega)]; simp
theorem F24_gen (a b:List Sp3) (hs:a.length≤1000000000000000) {N:Nat} (hN:a.length < N):F24 N a b=some (decide (a=b)):=by
  unfold F24
  by_cases hl:a.length=b.length
  · rw [if_pos (by omega)]
    exact F24g_eq a b hl hs N 0 (by omega) (by omega)
  rw [if_neg (by omega)]
  have:a≠b:=fun h=>hl (by rw [h])
  simp [this]
theorem F42_self (a b c:List Sp3) (x y z:Int) (ha:a.length≤1000000000000000) (hb:b.length≤1000000000000000) (hc:c.length≤1000000000000000) {N:Nat} (hN:10000000000000000≤N):F42 N a b c x y z a b c x y z=some true:=by
  unfold F42
  rw [if_pos (by simp),F24_gen a a ha (by omega),ba,if_pos (by simp),F24_gen b b hb (by omega),ba,if_pos (by simp),F24_gen c c hc (by omega),ba,if_pos (by simp)]
def mnI (l:List Sp3) (d:Int):Int:=if (l.length:Int) < (if 0 > d then 0 else d) then (l.length:Int) else (if 0 > d then 0 else d)
theorem mnI_in (l:List Sp3) (d:Int):0≤mnI l d∧mnI l d≤l.length:=by unfold mnI; split <;> split <;> omega
theorem mnI_eq (l:List Sp3) (d:Int):mnI l d=d↔0≤d∧d≤l.length:=by unfold mnI; split <;> split <;> omega
def boundP (a b c:List Sp3) (x y z:Int) (l:List Rc):Prop :=
  logB l=true∧(a=ot 0 0 l∧0≤x∧x≤l.length)∧(b=ot 1 0 l∧0≤y∧y≤l.length)∧(c=ot 2 0 l∧0≤z∧z≤l.length)
instance (a b c:List Sp3) (x y z:Int) (l:List Rc):Decidable (boundP a b c x y z l):=by unfold boundP; exact inferInstance
end Go.K
end
section
namespace Go.K
open Go.RowKit
theorem gd3 {β:Type} (l:List Sp3) (d:Int) (k:Option β):(gdO (0≤(if (l.length:Int) < (if 0 > d then 0 else d) then (l.length:Int) else (if 0 > d then 0 else d))) <| gdO (0≤(if (l.length:Int) < (if 0 > d then 0 else d) then (l.length:Int) else (if 0 > d then 0 else d)).toNat∧(if (l.length:Int) < (if 0 > d then 0 else d) then (l.length:Int) else (if 0 > d then 0 else d)).toNat≤l.length) <| gdO ((if (l.length:Int) < (if 0 > d then 0 else d) then (l.length:Int) else (if 0 > d then 0 else d)).toNat≤l.length∧l.length≤l.length) <| k)=k:=by
  have h:=mnI_in l d
  have h2:0≤(mnI l d).toNat∧(mnI l d).toNat≤l.length:=by omega
  rw [du (show 0≤(if (l.length:Int) < (if 0 > d then 0 else d) then (l.length:Int) else (if 0 > d then 0 else d)) from h.1),du (show 0≤(if (l.length:Int) < (if 0 > d then 0 else d) then (l.length:Int) else (if 0 > d then 0 else d)).toNat∧(if (l.length:Int) < (if 0 > d then 0 else d) then (l.length:Int) else (if 0 > d then 0 else d)).toNat≤l.length from h2),du (show (if (l.length:Int) < (if 0 > d then 0 else d) then (l.length:Int) else (if 0 > d then 0 else d)).toNat≤l.length∧l.length≤l.length from ⟨h2.2,Nat.le_refl _⟩)]
theorem oy (l:List Sp3) (d:Int):((l.drop 0).take ((if (l.length:Int) < (if 0 > d then 0 else d) then (l.length:Int) else (if 0 > d then 0 else d)).toNat - 0))=l.take (mnI l d).toNat:=rfl
theorem pw (l:List Sp3) (d:Int):((l.drop ((if (l.length:Int) < (if 0 > d then 0 else d) then (l.length:Int) else (if 0 > d then 0 else d)).toNat)).take (l.length - ((if (l.length:Int) < (if 0 > d then 0 else d) then (l.length:Int) else (if 0 > d then 0 else d)).toNat)))=l.drop (mnI l d).toNat:=by
  show (l.drop (mnI l d).toNat).take (l.length - (mnI l d).toNat)=_
  rw [List.take_of_length_le (by rw [List.length_drop]; omega)]
theorem sewn_len (l:List Sp3) (d:Int):((l.take (mnI l d).toNat).length:Int)=mnI l d:=by
  have:=mnI_in l d
  rw [List.length_take]; omega
theorem F47_eq {a b c:List Sp3} (x y z:Int) (l:List Rc) (ha:a.length≤1000000000000000) (hb:b.length≤1000000000000000) (hc:c.length≤1000000000000000) {N:Nat} (hN:10000000000000000≤N) :
    F47 N a b c x y z l=some (if boundP a b c x y z l then 0 else 85):=by
  rw [F47,F96_eq l (by omega),ba]
  by_cases hl:logB l=true
  · have hll:=np hl
    rw [if_pos hl,F114_eq hll (logR_v l [] hl) (by omega),ba]
    have no:∀ (p:Prop),¬ p→(boundP a b c x y z l→p)→some (85:Int)=some (if boundP a b c x y z l then 0 else 85):=fun p hp hi=>by rw [if_neg fun h=>hp (hi h)]
    have hq:=fun q=>colQ_len q l 0
    rw [gd3,oy,sewn_len]
    by_cases h1:mnI a x=x
    · rw [if_pos h1,F125_eq a _ ha (by omega),ba]
      by_cases h2:a=ot 0 0 l
      · rw [if_pos (by simpa using h2),gd3,oy,sewn_len]
        by_cases h3:mnI b y=y
        · rw [if_pos h3,F125_eq b _ hb (by omega),ba]
          by_cases h4:b=ot 1 0 l
          · rw [if_pos (by simpa using h4),gd3,oy,sewn_len]
            by_cases h5:mnI c z=z
            · rw [if_pos h5,F125_eq c _ hc (by omega),ba]
              by_cases h6:c=ot 2 0 l
              · rw [if_pos (by simpa using h6)]
                rw [mnI_eq] at h1 h3 h5
                rw [if_pos]
                exact ⟨hl,⟨h2,by rw [h2,hq] at h1; exact h1⟩,⟨h4,by rw [h4,hq] at h3; exact h3⟩,⟨h6,by rw [h6,hq] at h5; exact h5⟩⟩
              rw [if_neg (by simpa using h6)]; exact no _ h6 fun h=>h.2.2.2.1
            rw [if_neg h5]; exact no _ h5 fun h=>(mnI_eq _ _).2 (by rw [h.2.2.2.1,hq]; exact h.2.2.2.2)
          rw [if_neg (by simpa using h4)]; exact no _ h4 fun h=>h.2.2.1.1
        rw [if_neg h3]; exact no _ h3 fun h=>(mnI_eq _ _).2 (by rw [h.2.2.1.1,hq]; exact h.2.2.1.2)
      rw [if_neg (by simpa using h2)]; exact no _ h2 fun h=>h.2.1.1
    rw [if_neg h1]; exact no _ h1 fun h=>(mnI_eq _ _).2 (by rw [h.2.1.1,hq]; exact h.2.1.2)
  rw [if_neg hl,if_neg fun h=>hl h.1]
theorem F48_eq {a b c:List Sp3} (x y z:Int) (l:List Rc) (ha:a.length≤1000000000000000) (hb:b.length≤1000000000000000) (hc:c.length≤1000000000000000) {N:Nat} (hN:10000000000000000≤N) :
    F48 N a b c x y z l=some (if boundP a b c x y z l then 0 else 85):=by
  rw [F48,F98_eq l (by omega),ba]
  by_cases hl:logB l=true
  · have hll:=np hl
    rw [if_pos hl,F117_eq hll (logR_v l [] hl) (by omega),ba]
    have no:∀ (p:Prop),¬ p→(boundP a b c x y z l→p)→some (85:Int)=some (if boundP a b c x y z l then 0 else 85):=fun p hp hi=>by rw [if_neg fun h=>hp (hi h)]
    have hi:∀ d:Int,inB d 0 (l.length:Int)=true↔0≤d∧d≤l.length:=fun d=>by simp [inB]
    obtain ⟨k,rfl⟩:∃ k,N=k+4:=⟨N - 4,by omega⟩
    show F48b1 _ _ _ _ _ _ _ _ _ _ 0=_
    rw [F48b1,if_pos (by decide),if_pos rfl,F24_gen a _ ha (by omega),ba]
    by_cases h2:a=ot 0 0 l
    · rw [if_pos (by simpa using h2),F82_eq,ba]
      by_cases h1:inB x 0 (l.length:Int)=true
      · rw [if_pos h1,F48j2,dr (pi (by decide) (by decide))]
        show F48b1 _ _ _ _ _ _ _ _ _ _ 1=_
        rw [F48b1,if_pos (by decide),if_neg (by decide),if_pos rfl,F24_gen b _ hb (by omega),ba]
        by_cases h4:b=ot 1 0 l
        · rw [if_pos (by simpa using h4),F82_eq,ba]
          by_cases h3:inB y 0 (l.length:Int)=true
          · rw [if_pos h3,F48j2,dr (pi (by decide) (by decide))]
            show F48b1 _ _ _ _ _ _ _ _ _ _ 2=_
            rw [F48b1,if_pos (by decide),if_neg (by decide),if_neg (by decide),if_pos rfl,F24_gen c _ hc (by omega),ba]
            by_cases h6:c=ot 2 0 l
            · rw [if_pos (by simpa using h6),F82_eq,ba]
              by_cases h5:inB z 0 (l.length:Int)=true
              · rw [if_pos h5,F48j2,dr (pi (by decide) (by decide))]
                show F48b1 _ _ _ _ _ _ _ _ _ _ 3=_
                rw [F48b1,if_neg (by decide),if_pos]
                exact ⟨hl,⟨h2,(hi _).1 h1⟩,⟨h4,(hi _).1 h3⟩,⟨h6,(hi _).1 h5⟩⟩
              rw [if_neg h5]; exact no _ h5 fun h=>(hi _).2 h.2.2.2.2
            rw [if_neg (by simpa using h6)]; exact no _ h6 fun h=>h.2.2.2.1
          rw [if_neg h3]; exact no _ h3 fun h=>(hi _).2 h.2.2.1.2
        rw [if_neg (by simpa using h4)]; exact no _ h4 fun h=>h.2.2.1.1
      rw [if_neg h1]; exact no _ h1 fun h=>(hi _).2 h.2.1.2
    rw [if_neg (by simpa using h2)]; exact no _ h2 fun h=>h.2.1.1
  rw [if_neg hl,if_neg fun h=>hl h.1]
theorem F109_eq {a b c:List Sp3} (x y z:Int) (ha:a.length≤4398046511104) (hb:b.length≤4398046511104) (hc:c.length≤4398046511104):F109 a b c x y z=some (a,b,c,x,y,z):=by
  rw [F109,F154,du ha,ba,F154,du hb,ba,F154,du hc,ba]
theorem seam_len (l:List Sp3) (d:Int):((l.take (mnI l d).toNat).length:Int)+((l.drop (mnI l d).toNat).length:Int)=l.length:=by
  have:=mnI_in l d
  rw [List.length_take,List.length_drop]; omega
theorem F43_eq {a b c:List Sp3} (x y z:Int) (ha:a.length≤4398046511104) (hb:b.length≤4398046511104) (hc:c.length≤4398046511104):F43 a b c x y z=some (a,b,c,(a.length:Int),(b.length:Int),(c.length:Int)):=by
  rw [F43,F109_eq x y z ha hb hc,ba]
  rw [gd3,oy,pw,seam_len,dr (oo (by omega) (by omega)),gd3,oy,pw,seam_len,dr (oo (by omega) (by omega)),gd3,oy,pw,seam_len,dr (oo (by omega) (by omega))]
def ov (a n:Int):Int:=((a.tmod n)+n).tmod n
theorem modZ_in (a:Int) {n:Int} (h:0 < n):0≤ov a n∧ov a n < n:=by
  have h1:=Int.lt_tmod_of_pos a h
  have h2:=Int.tmod_lt_of_pos a h
  unfold ov
  rw [Int.tmod_eq_emod_of_nonneg (by omega)]
  exact ⟨Int.emod_nonneg _ (by omega),Int.emod_lt_of_pos _ h⟩
theorem F121_eq (a:Int) {n:Int} (h:0 < n) (h1:n≤100000000000000000):F121 a n=some (ov a n):=by
  have h2:=Int.lt_tmod_of_pos a h
  have h3:=Int.tmod_lt_of_pos a h
  rw [F121,du h,dr (oo (by omega) (by omega))]; rfl
theorem F63_eq (a:Int) {n:Int} (h:0 < n) (h1:n≤100000000000000000):F63 a n=some (ov a n):=F121_eq a h h1
theorem modZ_nat (k:Nat) {n:Nat} (h:0 < n):ov (k:Int) (n:Int)=((k % n:Nat):Int):=by
  unfold ov
  have h1:(k:Int).tmod (n:Int)=((k % n:Nat):Int):=by rw [Int.tmod_eq_emod_of_nonneg (by omega),Int.natCast_emod]
  have h2:k % n < n:=Nat.mod_lt _ h
  rw [h1,Int.tmod_eq_emod_of_nonneg (by omega),Int.add_emod_right,Int.emod_eq_of_lt (by omega) (by omega)]
def om (p:List Int) (k:Nat):Int:=p.getD (k % p.length) 0
def nxV (p:List Int) (k:Nat):Int:=if p.length=0 then 0 else (k:Int)
theorem F158_eq (p:List Int) (k:Nat) (hk:k≤100000000000000000) (N:Nat):F158 N p (nxV p k)=some (om p k,nxV p (k+1)):=by
  unfold F158 nxV
  by_cases h:p.length=0
  · obtain rfl:=List.eq_nil_of_length_eq_zero h
    rfl
  have hlt:k % p.length < p.length:=Nat.mod_lt _ (by omega)
  rw [if_neg (by omega),if_neg h,if_neg h,du (by omega),Int.tmod_eq_emod_of_nonneg (by omega),← Int.natCast_emod,du (by omega),Int.toNat_natCast,List.getElem?_eq_getElem hlt,ba,dr (oo (by omega) (by omega))]
  simp [om,List.getD,List.getElem?_eq_getElem hlt]
theorem F124_eq (p:List Int) (k:Nat) (hp:p.length≤100000000000000000):F124 p (k:Int)=some (om p k):=by
  unfold F124
  by_cases h:p.length=0
  · obtain rfl:=List.eq_nil_of_length_eq_zero h
    rfl
  have hlt:k % p.length < p.length:=Nat.mod_lt _ (by omega)
  rw [if_neg (by omega),F63_eq _ (by omega) (by omega),ba,modZ_nat _ (by omega),du (by omega),Int.toNat_natCast,List.getElem?_eq_getElem hlt,ba]
  simp [om,List.getD,List.getElem?_eq_getElem hlt]
def tearS (p:List Int) (k:Nat) (s:Sp3):List Sp3 :=
  if ov (om p k) 3=1 then [⟨s.no,s.sz,s.t.take (ov (om p (k+1)) (if 1 > (s.t.length:Int) then 1 else (s.t.length:Int))).toNat⟩] else if ov (om p k) 3=2 then [s] else []
def tearL (p:List Int):Nat→List Sp3→List Sp3
  | _,[]=>[]
  | k,s :: l=>tearS p k s++tearL p (k+2) l
theorem tearS_len (p:List Int) (k:Nat) (s:Sp3):(tearS p k s).length≤1:=by
  unfold tearS
  split
  · simp
  split <;> simp
theorem tearL_len (p:List Int):∀ (l:List Sp3) (k:Nat),(tearL p k l).length≤l.length
  | [],_=>Nat.le_refl _
  | s :: l,k=>by
    have:=tearS_len p k s; have:=tearL_len p l (k+2)
    simp only [tearL,List.length_append,List.length_cons]; omega
theorem F122l_eq (l:List Sp3) (p:List Int) (hl:l.length≤4398046511104) (hs:∀ s∈l,(s.t.length:Int)≤1000000000000000) (N k:Nat) (hk:k≤10000000000000000):∀ (m i:Nat) (u:List Sp3),i≤l.length→l.length - i < m→u.length≤i →
    F122l1 l p N m (nxV p (k+2 * i)) u (i:Int)=some (u++tearL p (k+2 * i) (l.drop i),nxV p (k+2 * l.length)):=by
  intro m
  induction m with
  | zero=>intro i u _ h; omega
  | succ m ih =>
    intro i u hi hm hu
    show F122b1 _ _ _ _ _ _ _=_
    rw [F122b1]
    by_cases h:i < l.length
    · rw [if_pos (by omega),du (by omega),Int.toNat_natCast,List.getElem?_eq_getElem h,ba,F158_eq p _ (by omega),ba,F121_eq _ (by decide) (by decide),ba,F158_eq p _ (by omega),ba,jj h]
      have hn:∀ v:List Sp3,v.length≤i+1→F122j2 (F122l1 l p N m) (i:Int) (nxV p (k+2 * i+1+1)) v=some (v++tearL p (k+2 * i+2) (l.drop (i+1)),nxV p (k+2 * l.length)):=fun v hv=>by
        rw [F122j2,dr (oo (by omega) (by omega)),show ((i:Int)+1)=((i+1:Nat):Int) by omega,show k+2 * i+1+1=k+2 * (i+1) by omega,ih (i+1) v (by omega) (by omega) (by omega)]
      have hx:=hs l[i] (List.getElem_mem h)
      simp only [tearL,tearS]
      by_cases h1:ov (om p (k+2 * i)) 3=1
      · have hm1:=modZ_in (om p (k+2 * i+1)) (n:=if 1 > (l[i].t.length:Int) then 1 else (l[i].t.length:Int)) (by split <;> omega)
        have hm2:(if 1 > (l[i].t.length:Int) then 1 else (l[i].t.length:Int))≤(l[i].t.length:Int)+1:=by split <;> omega
        have hm3:ov (om p (k+2 * i+1)) (if 1 > (l[i].t.length:Int) then 1 else (l[i].t.length:Int))≤l[i].t.length:=by
          split at hm1 <;> rename_i hh
          · rw [if_pos hh]; omega
          rw [if_neg hh]; omega
        rw [if_pos h1,if_pos h1,F121_eq _ (by split <;> omega) (by omega),ba,du hm1.1,du (by omega),du (by omega),hn _ (by simp; omega)]
        simp
      rw [if_neg h1,if_neg h1]
      by_cases h2:ov (om p (k+2 * i)) 3=2
      · rw [if_pos h2,if_pos h2,du (by omega),hn _ (by simp; omega)]
        simp
      rw [if_neg h2,if_neg h2,hn _ (by omega)]; simp
    obtain rfl:i=l.length:=by omega
    rw [if_neg (by omega),List.drop_of_length_le (by omega)]; simp [tearL]
theorem F122_eq (l:List Sp3) (p:List Int) (hl:l.length≤4398046511104) (hs:∀ s∈l,(s.t.length:Int)≤1000000000000000) (k:Nat) (hk:k≤10000000000000000) {N:Nat} (hN:l.length < N):F122 N l p (nxV p k)=some (tearL p k l,nxV p (k+2 * l.length)):=by
  have:=F122l_eq l p hl hs N k hk N 0 [] (by omega) (by omega) (by simp)
  simpa [F122] using this
theorem F123_eq (s t:List Sp3) (h:s.length+t.length≤4398046511104) {N:Nat} (hN:4≤N):F123 N [s,t]=some (s++t):=by
  obtain ⟨k,rfl⟩:∃ k,N=k+4:=⟨N - 4,by omega⟩
  have hlen:(([s,t]:List (List Sp3)).length:Int)=2:=rfl
  have hj:F123j2 [s,t] (k+4)=some (s++t):=by
    unfold F123j2
    show F123b3 [s,t] (F123l3 [s,t] (k+3)) [] 0=_
    rw [F123b3,hlen,if_pos (by decide),du (by decide),show ([s,t]:List (List Sp3))[(0:Int).toNat]?=some s from rfl,ba,du (by simp; omega),dr (pi (by decide) (by decide))]
    show F123b3 _ (F123l3 _ (k+2)) _ 1=_
    rw [F123b3,hlen,if_pos (by decide),du (by decide),show ([s,t]:List (List Sp3))[(1:Int).toNat]?=some t from rfl,ba,du (by simp; omega),dr (pi (by decide) (by decide))]
    show F123b3 _ (F123l3 _ (k+1)) _ 2=_
    rw [F123b3,hlen,if_neg (by decide)]; simp
  unfold F123
  show F123b4 [s,t] (k+4) (F123l4 [s,t] (k+4) (k+3)) 0 0=_
  rw [F123b4,hlen,if_pos (by decide),du (by decide),show ([s,t]:List (List Sp3))[(0:Int).toNat]?=some s from rfl,ba,dr (oo (by omega) (by omega)),if_neg (by omega),dr (pi (by decide) (by decide))]
  show F123b4 _ _ (F123l4 _ _ (k+2)) _ 1=_
  rw [F123b4,hlen,if_pos (by decide),du (by decide),show ([s,t]:List (List Sp3))[(1:Int).toNat]?=some t from rfl,ba,dr (oo (by omega) (by omega)),if_neg (by omega),dr (pi (by decide) (by decide))]
  show F123b4 _ _ (F123l4 _ _ (k+1)) _ 2=_
  rw [F123b4,hlen,if_neg (by decide),F123j1,if_neg (by omega),dr (oo (by omega) (by omega))]
  by_cases h0:0 < (0+(s.length:Int)+(t.length:Int) - (0 - 0))
  · rw [if_pos h0,du (by omega),hj]
  rw [if_neg h0,hj]
end Go.K
end
section
namespace Go.K
open Go.RowKit
def partQ (q e:Int) (p:List Int) (k:Nat) (l:List Sp3) (d:Int):List Sp3:=if q=e then [] else l.take (mnI l d).toNat++tearL p k (l.drop (mnI l d).toNat)
def sewQ (q e:Int) (l:List Sp3) (d:Int):Int:=if q=e then 0 else mnI l d
def ol (k:Nat) (l:List Sp3) (d:Int):Nat:=k+2 * (l.drop (mnI l d).toNat).length
def tearR (a b c:List Sp3) (x y z:Int) (p:List Int):List Sp3 × List Sp3 × List Sp3 × Int × Int × Int :=
  (partQ 0 (ov (om p 0) 4) p 1 a x,partQ 1 (ov (om p 0) 4) p (ol 1 a x) b y,partQ 2 (ov (om p 0) 4) p (ol (ol 1 a x) b y) c z,sewQ 0 (ov (om p 0) 4) a x,sewQ 1 (ov (om p 0) 4) b y,sewQ 2 (ov (om p 0) 4) c z)
theorem nextK_le {k:Nat} {l:List Sp3} {d:Int}:ol k l d≤k+2 * l.length:=by unfold ol; rw [List.length_drop]; omega
theorem partQ_len (q e:Int) (p:List Int) (k:Nat) (l:List Sp3) (d:Int):(partQ q e p k l d).length≤l.length:=by
  unfold partQ
  split
  · simp
  have:=tearL_len p (l.drop (mnI l d).toNat) k
  have:=mnI_in l d
  rw [List.length_drop] at *
  rw [List.length_append,List.length_take]; omega
theorem part_step {β:Type} (q e:Int) (p:List Int) (k:Nat) (l:List Sp3) (d:Int) (hl:l.length≤4398046511104) {N:Nat} (hN:4≤N) (f:List Sp3→Int→Option β) :
    (if q=e then f [] 0 else bp (F123 N [l.take (mnI l d).toNat,tearL p k (l.drop (mnI l d).toNat)]) fun y=>f y ((l.take (mnI l d).toNat).length:Int))=f (partQ q e p k l d) (sewQ q e l d):=by
  unfold partQ sewQ
  by_cases h:q=e
  · rw [if_pos h,if_pos h,if_pos h]
  have:=tearL_len p (l.drop (mnI l d).toNat) k
  have:=mnI_in l d
  rw [if_neg h,if_neg h,if_neg h,F123_eq _ _ (by rw [List.length_drop] at *; rw [List.length_take]; omega) hN,ba,sewn_len]
theorem F45_eq {a b c:List Sp3} (x y z:Int) (p:List Int) (ha:a.length≤4398046511104) (hb:b.length≤4398046511104) (hc:c.length≤4398046511104) (ta:∀ s∈a,(s.t.length:Int)≤1000000000000000) (tb:∀ s∈b,(s.t.length:Int)≤1000000000000000) (tc:∀ s∈c,(s.t.length:Int)≤1000000000000000) {N:Nat} (hN:10000000000000000≤N) :
    F45 N a b c x y z p=some (tearR a b c x y z p):=by
  have e1:F158 N p 0=some (om p 0,nxV p 1):=by
    have h:=F158_eq p 0 (by omega) N
    have h0:nxV p 0=0:=by unfold nxV; split <;> rfl
    rwa [h0] at h
  have hd:∀ {l:List Sp3} (d:Int),(∀ s∈l,(s.t.length:Int)≤1000000000000000)→∀ s∈l.drop (mnI l d).toNat,(s.t.length:Int)≤1000000000000000:=fun d h s hs=>h s (List.mem_of_mem_drop hs)
  have hdl:∀ (l:List Sp3) (d:Int),(l.drop (mnI l d).toNat).length≤l.length:=fun l d=>by rw [List.length_drop]; omega
  have n1:ol 1 a x≤1+2 * a.length:=nextK_le
  have n2:ol (ol 1 a x) b y≤ol 1 a x+2 * b.length:=nextK_le
  have q2:∀ (k:Nat) (u v:List Sp3) (g h:Int),k≤10000000000000000→F45j2 c z p N (ov (om p 0) 4) u g (nxV p k) v h=some (u,v,partQ 2 (ov (om p 0) 4) p k c z,g,h,sewQ 2 (ov (om p 0) 4) c z):=fun k u v g h hk=>by
    rw [F45j2,gd3,pw,F122_eq _ _ (by have:=hdl c z; omega) (hd z tc) k hk (by have:=hdl c z; omega),ba,oy]
    exact part_step 2 _ p k c z hc (by omega) fun w r=>some (u,v,w,g,h,r)
  have q1:∀ (u:List Sp3) (g:Int),F45j1 b c y z p N (ov (om p 0) 4) (nxV p (ol 1 a x)) u g=some (u,partQ 1 (ov (om p 0) 4) p (ol 1 a x) b y,partQ 2 (ov (om p 0) 4) p (ol (ol 1 a x) b y) c z,g,sewQ 1 (ov (om p 0) 4) b y,sewQ 2 (ov (om p 0) 4) c z):=fun u g=>by
    rw [F45j1,gd3,pw,F122_eq _ _ (by have:=hdl b y; omega) (hd y tb) _ (by omega) (by have:=hdl b y; omega),ba,oy]
    refine (part_step 1 _ p (ol 1 a x) b y hb (by omega) fun w r=>F45j2 c z p N (ov (om p 0) 4) u g (nxV p (ol (ol 1 a x) b y)) w r).trans ?_
    exact q2 _ _ _ _ _ (by omega)
  rw [F45,e1,ba,F121_eq _ (by decide) (by decide),ba,gd3,pw,F122_eq _ _ (by have:=hdl a x; omega) (hd x ta) 1 (by omega) (by have:=hdl a x; omega),ba,oy]
  refine (part_step 0 _ p 1 a x ha (by omega) fun w r=>F45j1 b c y z p N (ov (om p 0) 4) (nxV p (ol 1 a x)) w r).trans ?_
  exact q1 _ _
theorem F46l5_late (l:List Sp3) (p:List Int) (hl:l.length≤4398046511104) (hp:p.length≤100000000000000000) (hs:∀ s∈l,(s.t.length:Int)≤1000000000000000) (rec1:Int→List Sp3→List Sp3→List Sp3→Int→Int→Int→Int→Option (List Sp3 × List Sp3 × List Sp3 × Int × Int × Int)) (e:Int) (uA uB uC:List Sp3) (sA sB sC q:Int) (w:Nat):∀ (m i k:Nat) (u:List Sp3),w≤i→i≤l.length→l.length - i < m→u.length≤i→k≤10000000000000000+2 * i →
    F46l5 l p rec1 e uA uB uC sA sB sC q (w:Int) m (k:Int) u (i:Int)=F46j4 rec1 e uA uB uC sA sB sC q (w:Int) ((k+2 * (l.length - i):Nat):Int) (u++tearL p k (l.drop i)):=by
  intro m
  induction m with
  | zero=>intro i k u _ _ h; omega
  | succ m ih =>
    intro i k u hw hi hm hu hk
    show F46b5 _ _ _ _ _ _ _ _ _ _ _ _ _ _ _ _=_
    rw [F46b5]
    by_cases h:i < l.length
    · have hx:=hs l[i] (List.getElem_mem h)
      have hn:∀ v:List Sp3,v.length≤i+1→F46j6 (F46l5 l p rec1 e uA uB uC sA sB sC q (w:Int) m) (i:Int) ((k:Int)+2) v=F46j4 rec1 e uA uB uC sA sB sC q (w:Int) ((k+2 * (l.length - i):Nat):Int) (v++tearL p (k+2) (l.drop (i+1))):=fun v hv=>by
        rw [F46j6,dr (oo (by omega) (by omega)),show ((i:Int)+1)=((i+1:Nat):Int) by omega,show ((k:Int)+2)=((k+2:Nat):Int) by omega,ih (i+1) (k+2) v (by omega) (by omega) (by omega) (by omega) (by omega),show k+2+2 * (l.length - (i+1))=k+2 * (l.length - i) by omega]
      rw [if_pos (by omega),du (by omega),Int.toNat_natCast,List.getElem?_eq_getElem h,ba,if_neg (by omega),F124_eq p k hp,ba,F63_eq _ (by decide) (by decide),ba,dr (oo (by omega) (by omega)),show ((k:Int)+1)=((k+1:Nat):Int) by omega,F124_eq p _ hp,ba,dr (oo (by omega) (by omega)),jj h]
      simp only [tearL,tearS]
      have h03:=modZ_in (om p k) (n:=3) (by decide)
      by_cases h1:ov (om p k) 3=1
      · rw [if_pos h1,if_pos h1]
        by_cases h2:0 < (l[i].t.length:Int)
        · have hm1:=modZ_in (om p (k+1)) h2
          rw [if_pos h2,F63_eq _ h2 (by omega),ba,du hm1.1,du (by omega),F46j7,if_pos (by omega),du (by omega),hn _ (by simp; omega),if_neg (show ¬ (1 > (l[i].t.length:Int)) by omega)]
          simp
        have ht:l[i].t=[]:=List.eq_nil_of_length_eq_zero (by omega)
        rw [if_neg h2,F46j8,F46j7,if_pos (by omega),du (by omega),hn _ (by simp; omega)]
        simp [ht]
      rw [if_neg h1,if_neg h1,F46j8,F46j7]
      by_cases h2:ov (om p k) 3=2
      · rw [if_pos h2,if_pos (by omega),du (by omega),hn _ (by simp; omega)]; simp
      rw [if_neg h2,if_neg (by omega),hn _ (by omega)]; simp
    obtain rfl:i=l.length:=by omega
    rw [if_neg (by omega),List.drop_of_length_le (by omega),Nat.sub_self]; simp [tearL]
theorem F46l5_early (l:List Sp3) (p:List Int) (hl:l.length≤4398046511104) (hp:p.length≤100000000000000000) (hs:∀ s∈l,(s.t.length:Int)≤1000000000000000) (rec1:Int→List Sp3→List Sp3→List Sp3→Int→Int→Int→Int→Option (List Sp3 × List Sp3 × List Sp3 × Int × Int × Int)) (e:Int) (uA uB uC:List Sp3) (sA sB sC q:Int) (w k:Nat) (hw:w≤l.length) (hk:k≤10000000000000000):∀ (m i:Nat),i≤w→l.length - i < m →
    F46l5 l p rec1 e uA uB uC sA sB sC q (w:Int) m (k:Int) (l.take i) (i:Int)=F46j4 rec1 e uA uB uC sA sB sC q (w:Int) ((k+2 * (l.length - w):Nat):Int) (l.take w++tearL p k (l.drop w)):=by
  intro m
  induction m with
  | zero=>intro i _ h; omega
  | succ m ih =>
    intro i hi hm
    by_cases h:i < w
    · have hil:i < l.length:=by omega
      show F46b5 _ _ _ _ _ _ _ _ _ _ _ _ _ _ _ _=_
      rw [F46b5,if_pos (by omega),du (by omega),Int.toNat_natCast,List.getElem?_eq_getElem hil,ba,if_pos (by omega),du (by rw [List.length_take]; omega),F46j6,dr (oo (by omega) (by omega)),show ((i:Int)+1)=((i+1:Nat):Int) by omega]
      have:=ih (i+1) (by omega) (by omega)
      rw [ny hil] at this
      exact this
    obtain rfl:i=w:=by omega
    exact F46l5_late l p hl hp hs rec1 e uA uB uC sA sB sC q i (m+1) i k (l.take i) (by omega) (by omega) (by omega) (by rw [List.length_take]; omega) (by omega)
theorem F46l9_5 (l:List Sp3) (p:List Int) (rec1:Int→List Sp3→List Sp3→List Sp3→Int→Int→Int→Int→Option (List Sp3 × List Sp3 × List Sp3 × Int × Int × Int)) (e:Int) (uA uB uC:List Sp3) (sA sB sC q w:Int):∀ m,F46l9 l p rec1 e uA uB uC sA sB sC q w m=F46l5 l p rec1 e uA uB uC sA sB sC q w m:=by
  intro m
  induction m with
  | zero=>rfl
  | succ m ih =>
    show F46b9 _ _ _ _ _ _ _ _ _ _ _ _ (F46l9 _ _ _ _ _ _ _ _ _ _ _ _ m)=F46b5 _ _ _ _ _ _ _ _ _ _ _ _ _
    rw [ih]; rfl
theorem F46l13_5 (l:List Sp3) (p:List Int) (rec1:Int→List Sp3→List Sp3→List Sp3→Int→Int→Int→Int→Option (List Sp3 × List Sp3 × List Sp3 × Int × Int × Int)) (e:Int) (uA uB uC:List Sp3) (sA sB sC q w:Int):∀ m,F46l13 l p rec1 e uA uB uC sA sB sC q w m=F46l5 l p rec1 e uA uB uC sA sB sC q w m:=by
  intro m
  induction m with
  | zero=>rfl
  | succ m ih =>
    show F46b13 _ _ _ _ _ _ _ _ _ _ _ _ (F46l13 _ _ _ _ _ _ _ _ _ _ _ _ m)=F46b5 _ _ _ _ _ _ _ _ _ _ _ _ _
    rw [ih]; rfl
theorem F46j4_0 (rec1:Int→List Sp3→List Sp3→List Sp3→Int→Int→Int→Int→Option (List Sp3 × List Sp3 × List Sp3 × Int × Int × Int)) (e:Int) (uA uB uC:List Sp3) (sA sB sC w v:Int) (u:List Sp3):F46j4 rec1 e uA uB uC sA sB sC 0 w v u=rec1 v (if 0=e then uA else u) uB uC (if 0=e then sA else w) sB sC 1:=by
  unfold F46j4; split
  · rw [F46j2,dr (pi (by decide) (by decide))]; rfl
  rw [if_pos rfl,F46j2,dr (pi (by decide) (by decide))]; rfl
theorem F46j4_1 (rec1:Int→List Sp3→List Sp3→List Sp3→Int→Int→Int→Int→Option (List Sp3 × List Sp3 × List Sp3 × Int × Int × Int)) (e:Int) (uA uB uC:List Sp3) (sA sB sC w v:Int) (u:List Sp3):F46j4 rec1 e uA uB uC sA sB sC 1 w v u=rec1 v uA (if 1=e then uB else u) uC sA (if 1=e then sB else w) sC 2:=by
  unfold F46j4; split
  · rw [F46j2,dr (pi (by decide) (by decide))]; rfl
  rw [if_neg (by decide),if_pos rfl,F46j2,dr (pi (by decide) (by decide))]; rfl
theorem F46j4_2 (rec1:Int→List Sp3→List Sp3→List Sp3→Int→Int→Int→Int→Option (List Sp3 × List Sp3 × List Sp3 × Int × Int × Int)) (e:Int) (uA uB uC:List Sp3) (sA sB sC w v:Int) (u:List Sp3):F46j4 rec1 e uA uB uC sA sB sC 2 w v u=rec1 v uA uB (if 2=e then uC else u) sA sB (if 2=e then sC else w) 3:=by
  unfold F46j4; split
  · rw [F46j2,dr (pi (by decide) (by decide))]; rfl
  rw [if_neg (by decide),if_neg (by decide),if_pos rfl,F46j2,dr (pi (by decide) (by decide))]; rfl
theorem F46_eq {a b c:List Sp3} (x y z:Int) (p:List Int) (ha:a.length≤4398046511104) (hb:b.length≤4398046511104) (hc:c.length≤4398046511104) (hp:p.length≤100000000000000000) (ta:∀ s∈a,(s.t.length:Int)≤1000000000000000) (tb:∀ s∈b,(s.t.length:Int)≤1000000000000000) (tc:∀ s∈c,(s.t.length:Int)≤1000000000000000) {N:Nat} (hN:10000000000000000≤N) :
    F46 N a b c x y z p=some (tearR a b c x y z p):=by
  have n1:ol 1 a x≤1+2 * a.length:=nextK_le
  have n2:ol (ol 1 a x) b y≤ol 1 a x+2 * b.length:=nextK_le
  have hm:∀ (l:List Sp3) (d:Int),((mnI l d).toNat:Int)=mnI l d∧(mnI l d).toNat≤l.length:=fun l d=>by have:=mnI_in l d; omega
  have hr:∀ (l:List Sp3) (d:Int),(if (l.length:Int) < (if 0 > d then 0 else d) then (l.length:Int) else (if 0 > d then 0 else d))=((mnI l d).toNat:Int):=fun l d=>(hm l d).1.symm
  have hk:∀ (l:List Sp3) (d:Int) (k:Nat),k+2 * (l.length - (mnI l d).toNat)=ol k l d:=fun l d k=>by unfold ol; rw [List.length_drop]
  have hk0:∀ (r:Int→List Sp3→List Sp3→List Sp3→Int→Int→Int→Int→Option (List Sp3 × List Sp3 × List Sp3 × Int × Int × Int)) (e:Int),F46l5 a p r e [] [] [] 0 0 0 0 ((mnI a x).toNat:Int) N 1 [] 0=r (ol 1 a x:Nat) (partQ 0 e p 1 a x) [] [] (sewQ 0 e a x) 0 0 1:=fun r e=>by
    have h:=F46l5_early a p ha hp ta r e [] [] [] 0 0 0 0 (mnI a x).toNat 1 (hm a x).2 (by omega) N 0 (by omega) (by omega)
    refine Eq.trans h ?_
    rw [F46j4_0,hk,(hm a x).1]; rfl
  have hk1:∀ (r:Int→List Sp3→List Sp3→List Sp3→Int→Int→Int→Int→Option (List Sp3 × List Sp3 × List Sp3 × Int × Int × Int)) (e:Int) (u:List Sp3) (g:Int),F46l5 b p r e u [] [] g 0 0 1 ((mnI b y).toNat:Int) N (ol 1 a x:Nat) [] 0=r (ol (ol 1 a x) b y:Nat) u (partQ 1 e p (ol 1 a x) b y) [] g (sewQ 1 e b y) 0 2:=fun r e u g=>by
    have h:=F46l5_early b p hb hp tb r e u [] [] g 0 0 1 (mnI b y).toNat (ol 1 a x) (hm b y).2 (by omega) N 0 (by omega) (by omega)
    refine Eq.trans h ?_
    rw [F46j4_1,hk,(hm b y).1]; rfl
  have hk2:∀ (r:Int→List Sp3→List Sp3→List Sp3→Int→Int→Int→Int→Option (List Sp3 × List Sp3 × List Sp3 × Int × Int × Int)) (e:Int) (u v:List Sp3) (g h:Int),F46l5 c p r e u v [] g h 0 2 ((mnI c z).toNat:Int) N (ol (ol 1 a x) b y:Nat) [] 0=r (ol (ol (ol 1 a x) b y) c z:Nat) u v (partQ 2 e p (ol (ol 1 a x) b y) c z) g h (sewQ 2 e c z) 3:=fun r e u v g h=>by
    have h':=F46l5_early c p hc hp tc r e u v [] g h 0 2 (mnI c z).toNat (ol (ol 1 a x) b y) (hm c z).2 (by omega) N 0 (by omega) (by omega)
    refine Eq.trans h' ?_
    rw [F46j4_2,hk,(hm c z).1]; rfl
  have e0:=F124_eq p 0 hp
  rw [F46,show (0:Int)=((0:Nat):Int) from rfl,e0,ba,F63_eq _ (by decide) (by decide),ba]
  obtain ⟨k,hk⟩:∃ k,N=k+4:=⟨N - 4,by omega⟩
  generalize hF:ox a b c x y z p N (ov (om p 0) 4)=G
  have hG:∀ m,G (m+1)=F46b1 a b c x y z p N (ov (om p 0) 4) (G m):=fun m=>by subst hF; rfl
  have s0:∀ m,G (m+1) 1 [] [] [] 0 0 0 0=G m (ol 1 a x:Nat) (partQ 0 (ov (om p 0) 4) p 1 a x) [] [] (sewQ 0 (ov (om p 0) 4) a x) 0 0 1:=fun m=>by
    rw [hG,F46b1,if_pos (by decide),if_pos rfl,hr,F46j3,if_pos rfl,hk0]
  have s1:∀ m u g,G (m+1) (ol 1 a x:Nat) u [] [] g 0 0 1=G m (ol (ol 1 a x) b y:Nat) u (partQ 1 (ov (om p 0) 4) p (ol 1 a x) b y) [] g (sewQ 1 (ov (om p 0) 4) b y) 0 2:=fun m u g=>by
    rw [hG,F46b1,if_pos (by decide),if_neg (by decide),if_pos rfl,hr,F46j3,if_neg (by decide),if_pos rfl,F46l9_5,hk1]
  have s2:∀ m u v g h,G (m+1) (ol (ol 1 a x) b y:Nat) u v [] g h 0 2=G m (ol (ol (ol 1 a x) b y) c z:Nat) u v (partQ 2 (ov (om p 0) 4) p (ol (ol 1 a x) b y) c z) g h (sewQ 2 (ov (om p 0) 4) c z) 3:=fun m u v g h=>by
    rw [hG,F46b1,if_pos (by decide),if_neg (by decide),if_neg (by decide),if_pos rfl,hr,F46j3,if_neg (by decide),if_neg (by decide),if_pos rfl,F46l13_5,hk2]
  show G N 1 [] [] [] 0 0 0 0=_
  rw [hk,s0,s1,s2,hG,F46b1,if_neg (by decide)]; rfl
end Go.K
end
section
namespace Go.K
open Go.RowKit
def spI:Str→Option Nat
  | []=>none
  | c :: r=>if c=32 then some 0 else (spI r).map (· + 1)
def spZ (s:Str):Int:=match spI s with | some k=>(k:Int) | none=>-1
theorem nb32 (c:UInt8):nb c=32↔c=32:=by
  constructor
  · intro h
    have:c.toNat=32:=by unfold nb at h; omega
    exact UInt8.toNat_inj.1 this
  rintro rfl; rfl
theorem spI_lt:∀ {s:Str} {k:Nat},spI s=some k→k < s.length
  | [],k,h=>by cases h
  | c :: r,k,h=>by
    rw [spI] at h
    split at h
    · injection h with h; subst h; simp
    obtain ⟨j,hj,rfl⟩:=Option.map_eq_some_iff.1 h
    have:=spI_lt hj; simp only [List.length_cons]; omega
theorem spI_cut:∀ {s:Str} {k:Nat},spI s=some k→s=s.take k++32 :: s.drop (k+1)
  | [],k,h=>by cases h
  | c :: r,k,h=>by
    rw [spI] at h
    split at h
    · rename_i hc; injection h with h; subst h; subst hc; rfl
    obtain ⟨j,hj,rfl⟩:=Option.map_eq_some_iff.1 h
    have:=spI_cut hj
    simp only [List.take_succ_cons,List.drop_succ_cons,List.cons_append]
    rw [← this]
theorem spI_pre:∀ (w rest:Str),(∀ c∈w,c≠32)→spI (w++32 :: rest)=some w.length
  | [],rest,_=>rfl
  | c :: w,rest,h=>by
    rw [List.cons_append,spI,if_neg (h c (by simp)),spI_pre w rest fun d hd=>h d (by simp [hd])]
    rfl
theorem index_sp:∀ s:Str,Lib.indexByte s 32=spZ s
  | []=>rfl
  | c :: r=>by
    have ih:=index_sp r
    unfold Lib.indexByte
    unfold spZ at ih ⊢
    rw [spI]
    by_cases hc:c=32
    · simp [hc]
    rw [if_neg (by simpa using hc),if_neg hc,ih]
    cases h:spI r with
    | none=>simp
    | some k =>
      have:¬ ((k:Int)=-1):=by omega
      simp [this]
theorem F73l_eq (s:Str) (hs:s.length≤9223372036854775807):∀ (m i:Nat),s.length - i < m→i≤s.length→F73l1 s m (i:Int)=some (match spI (s.drop i) with | some k=>((i+k:Nat):Int) | none=>-1)
  | 0,i,h,_=>by omega
  | m+1,i,h,hi=>by
    rw [F73l1,F73b1]
    by_cases h3:i < s.length
    · rw [if_pos (by omega),du (by omega),Int.toNat_natCast,List.getElem?_eq_getElem h3,ba,jj h3,spI]
      by_cases hc:s[i]=32
      · rw [if_pos ((nb32 _).2 hc),if_pos hc]; simp
      rw [if_neg (fun h=>hc ((nb32 _).1 h)),if_neg hc,dr (by unfold InR; omega)]
      rw [show ((i:Int)+1)=((i+1:Nat):Int) by omega,F73l_eq s hs m (i+1) (by omega) (by omega)]
      cases spI (s.drop (i+1)) with
      | none=>rfl
      | some k =>
        show some ((i+1+k:Nat):Int)=some ((i+(k+1):Nat):Int)
        rw [show i+1+k=i+(k+1) by omega]
    rw [if_neg (by omega),List.drop_of_length_le (by omega)]; rfl
theorem F73_eq (s:Str) (hs:s.length≤9223372036854775807) {N:Nat} (hN:s.length < N):F73 N s=some (spZ s):=by
  unfold F73
  rw [show (0:Int)=((0:Nat):Int) from rfl,F73l_eq s hs N 0 (by omega) (by omega),List.drop_zero]
  unfold spZ
  cases spI s <;> simp
def digB (c:UInt8):Bool:=decide (48≤c.toNat) && decide (c.toNat≤57)
def stepV (a:Nat) (c:UInt8):Nat:=10 * a+(c.toNat - 48)
def valS (a:Nat) (l:Str):Nat:=l.foldl stepV a
theorem valS_nil (a:Nat):valS a []=a:=rfl
theorem nj (a:Nat) (c:UInt8) (r:Str):valS a (c :: r)=valS (10 * a+(c.toNat - 48)) r:=by
  unfold valS; rw [List.foldl_cons,stepV]
theorem valS_snoc (l:Str) (a:Nat) (c:UInt8):valS a (l++[c])=10 * valS a l+(c.toNat - 48):=by
  unfold valS; rw [List.foldl_append,List.foldl_cons,List.foldl_nil,stepV]
theorem valS_ge:∀ (l:Str) (a:Nat),a≤valS a l
  | [],a=>Nat.le_refl _
  | c :: l,a=>by rw [nj]; have:=valS_ge l (10 * a+(c.toNat - 48)); omega
theorem valS_lt:∀ (l:Str) (a k:Nat),l.all digB=true→a < 10 ^ k→valS a l < 10 ^ (k+l.length)
  | [],a,k,_,h=>by simpa [valS_nil] using h
  | c :: l,a,k,hd,h=>by
    simp only [List.all_cons,Bool.and_eq_true,digB,decide_eq_true_eq] at hd
    rw [nj,List.length_cons,show k+(l.length+1)=(k+1)+l.length by omega]
    exact valS_lt l _ (k+1) (by simpa [digB] using hd.2) (by rw [Nat.pow_succ]; omega)
def headOk (l:Str):Prop:=l.headD 0≠48∨l.length=1
theorem val_pos {l:Str} (h:l≠[]) (hd:l.all digB=true) (h0:l.headD 0≠48):1≤valS 0 l:=by
  match l,h with
  | c :: r,_ =>
    simp only [List.all_cons,Bool.and_eq_true,digB,decide_eq_true_eq] at hd
    have:c.toNat≠48:=fun h=>h0 (by simp; exact UInt8.toNat_inj.1 h)
    rw [nj]
    have:=valS_ge r (10 * 0+(c.toNat - 48)); omega
theorem decS_val:∀ (n:Nat) (l:Str) (m:Nat),l.length=n→l≠[]→l.all digB=true→headOk l→n≤m→ng m (valS 0 l)=l
  | 0,l,m,hl,h,_,_,_=>absurd (List.eq_nil_of_length_eq_zero hl) h
  | n+1,l,0,_,_,_,_,hm=>by omega
  | n+1,l,m+1,hl,h,hd,hh,hm=>by
    obtain ⟨l',c,rfl⟩:∃ l' c,l=l'++[c]:=by
      rcases List.eq_nil_or_concat l with h1 | ⟨l',c,h1⟩
      · exact absurd h1 h
      exact ⟨l',c,by simpa using h1⟩
    simp only [List.all_append,List.all_cons,List.all_nil,Bool.and_true,Bool.and_eq_true] at hd
    obtain ⟨hd1,hd2⟩:=hd
    have hc:48≤c.toNat∧c.toNat≤57:=by simpa [digB] using hd2
    have ec:UInt8.ofNat (48+(c.toNat - 48))=c:=by rw [show 48+(c.toNat - 48)=c.toNat by omega]; simp
    rw [valS_snoc,ng]
    by_cases h1:l'=[]
    · subst h1
      simp only [valS_nil,Nat.mul_zero,Nat.zero_add,List.nil_append]
      rw [if_pos (by omega),ec]
    have hh':l'.headD 0≠48:=by
      rcases hh with hh | hh
      · match l',h1 with
        | d :: r,_=>simpa using hh
      simp only [List.length_append,List.length_singleton] at hh
      exact absurd (List.eq_nil_of_length_eq_zero (by omega)) h1
    have hp:=val_pos h1 hd1 hh'
    rw [if_neg (by omega),show (10 * valS 0 l'+(c.toNat - 48)) / 10=valS 0 l' by omega,show (10 * valS 0 l'+(c.toNat - 48)) % 10=c.toNat - 48 by omega,ec,
      decS_val n l' m (by simp only [List.length_append,List.length_singleton] at hl; omega) h1 hd1 (.inl hh') (by omega)]
def numB (w:Str):Bool:=decide (w≠[]) && decide (w.length≤9) && (decide (w.headD 0≠48) || decide (w.length=1)) && w.all digB
theorem itoaS_val {w:Str} (h:numB w=true):ne (valS 0 w:Nat)=w:=by
  simp only [numB,Bool.and_eq_true,Bool.or_eq_true,decide_eq_true_eq] at h
  unfold ne
  rw [if_neg (by omega),Int.toNat_natCast]
  exact decS_val _ w 20 rfl h.1.1.1 h.2 h.1.2 (by omega)
theorem w8_dig {c:UInt8} (h:digB c=true):w8 (nb c - 48)=((c.toNat - 48:Nat):Int):=by
  simp only [digB,Bool.and_eq_true,decide_eq_true_eq] at h
  unfold w8 nb; omega
theorem F74l_eq (w:Str) (hw:w.length≤9):∀ (m i a:Nat),w.length - i < m→i≤w.length→a < 10 ^ i→F74l2 w m (a:Int) (i:Int)=some (if (w.drop i).all digB=true then (((valS a (w.drop i):Nat):Int),true) else (0,false))
  | 0,i,a,h,_,_=>by omega
  | m+1,i,a,h,hi,ha=>by
    rw [F74l2,F74b2]
    by_cases h3:i < w.length
    · rw [if_pos (by omega),du (by omega),Int.toNat_natCast,List.getElem?_eq_getElem h3,ba,jj h3]
      have hb:a < 10 ^ 9:=Nat.lt_of_lt_of_le ha (Nat.pow_le_pow_right (by omega) (by omega))
      by_cases h4:digB w[i]=true
      · have h5:48≤w[i].toNat∧w[i].toNat≤57:=by simpa [digB] using h4
        rw [if_neg (by unfold nb; omega),if_neg (by unfold nb; omega),w8_dig h4,dr (by unfold InR; omega),dr (by unfold InR; omega),dr (by unfold InR; omega),dr (by unfold InR; omega)]
        rw [show ((i:Int)+1)=((i+1:Nat):Int) by omega,show (10 * (a:Int)+((w[i].toNat - 48:Nat):Int))=((10 * a+(w[i].toNat - 48):Nat):Int) by omega,F74l_eq w hw m (i+1) _ (by omega) (by omega) (by rw [Nat.pow_succ]; omega)]
        simp only [List.all_cons,h4,Bool.true_and,nj]
      have h5:¬ (48≤w[i].toNat∧w[i].toNat≤57):=by simpa [digB] using h4
      simp only [List.all_cons,h4,Bool.false_and,Bool.false_eq_true,if_false]
      by_cases h6:nb w[i] < 48
      · rw [if_pos h6]
      rw [if_neg h6,if_pos (by unfold nb at *; omega)]
    rw [if_neg (by omega),List.drop_of_length_le (by omega)]; rfl
theorem F74_eq (w:Str) {N:Nat} (hN:10≤N):F74 N w 9=some (if numB w=true then (((valS 0 w:Nat):Int),true) else (0,false)):=by
  unfold F74
  by_cases h1:w=[]
  · rw [if_pos h1]; simp [numB,h1]
  rw [if_neg h1]
  by_cases h2:w.length≤9
  · rw [if_neg (by omega)]
    have hj:F74j1 w N=some (if w.all digB=true then (((valS 0 w:Nat):Int),true) else (0,false)):=by
      unfold F74j1
      have:=F74l_eq w h2 N 0 0 (by omega) (by omega) (by simp)
      rw [List.drop_zero] at this
      exact this
    match w,h1 with
    | c :: r,h1 =>
      rw [show ((c :: r)[0]?:Option UInt8)=some c from rfl,ba]
      have e:nb c=48↔c=48:=by
        constructor
        · intro h
          have:c.toNat=48:=by unfold nb at h; omega
          exact UInt8.toNat_inj.1 this
        rintro rfl; rfl
      by_cases h3:c=48
      · rw [if_pos (e.2 h3)]
        by_cases h4:r=[]
        · subst h4
          rw [if_neg (by simp),hj]; simp [numB]
        have:0 < r.length:=List.length_pos_iff.2 h4
        rw [if_pos (by simp only [List.length_cons]; omega)]
        have:numB (c :: r)=false:=by
          have h5:¬ ((c :: r).length=1):=by simp only [List.length_cons]; omega
          have h6:¬ ((c :: r).headD 0≠48):=by simpa using h3
          unfold numB
          rw [decide_eq_false h5,decide_eq_false h6]; simp
        rw [this]; rfl
      rw [if_neg (fun h=>h3 (e.1 h)),hj]
      have:numB (c :: r)=(c :: r).all digB:=by
        unfold numB
        rw [decide_eq_true h1,decide_eq_true h2,decide_eq_true (show (c :: r).headD 0≠48 from h3)]; simp
      rw [this]
  rw [if_pos (by omega)]
  have:numB w=false:=by simp [numB,h2]
  rw [this]; rfl
theorem decS_small {u:Nat} (h:u≤9999):(ng 20 u).all digB=true∧valS 0 (ng 20 u)=u∧headOk (ng 20 u):=by
  have d:∀ x,x < 10→(UInt8.ofNat (48+x)).toNat=48+x:=fun x hx=>by
    rw [UInt8.toNat_ofNat']; omega
  have g:∀ x,x < 10→digB (UInt8.ofNat (48+x))=true:=fun x hx=>by
    simp only [digB,d x hx,Bool.and_eq_true,decide_eq_true_eq]; omega
  have z:∀ x,x < 10→0 < x→UInt8.ofNat (48+x)≠48:=fun x hx h0 e=>by
    have:=congrArg UInt8.toNat e
    rw [d x hx] at this
    have:(48:UInt8).toNat=48:=rfl
    omega
  by_cases h1:u < 10
  · rw [ng,if_pos h1]
    exact ⟨by simp only [List.all_cons,List.all_nil,Bool.and_true]; exact g u h1,by simp only [nj,valS_nil,d u h1]; omega,.inr rfl⟩
  by_cases h2:u < 100
  · rw [ng,if_neg h1,ng,if_pos (by omega)]
    refine ⟨by simp only [List.cons_append,List.nil_append,List.all_cons,List.all_nil,Bool.and_true,Bool.true_and,g _ (show u / 10 < 10 by omega),g _ (show u % 10 < 10 by omega)],?_,.inl (z (u / 10) (by omega) (by omega))⟩
    simp only [List.cons_append,List.nil_append,nj,valS_nil,d _ (show u / 10 < 10 by omega),d _ (show u % 10 < 10 by omega)]; omega
  by_cases h3:u < 1000
  · rw [ng,if_neg h1,ng,if_neg (by omega),ng,if_pos (by omega)]
    refine ⟨by simp only [List.cons_append,List.nil_append,List.all_cons,List.all_nil,Bool.and_true,Bool.true_and,g _ (show u / 10 / 10 < 10 by omega),g _ (show u / 10 % 10 < 10 by omega),g _ (show u % 10 < 10 by omega)],?_,.inl (z (u / 10 / 10) (by omega) (by omega))⟩
    simp only [List.cons_append,List.nil_append,nj,valS_nil,d _ (show u / 10 / 10 < 10 by omega),d _ (show u / 10 % 10 < 10 by omega),d _ (show u % 10 < 10 by omega)]; omega
  rw [ng,if_neg h1,ng,if_neg (by omega),ng,if_neg (by omega),ng,if_pos (by omega)]
  refine ⟨by simp only [List.cons_append,List.nil_append,List.all_cons,List.all_nil,Bool.and_true,Bool.true_and,g _ (show u / 10 / 10 / 10 < 10 by omega),g _ (show u / 10 / 10 % 10 < 10 by omega),g _ (show u / 10 % 10 < 10 by omega),g _ (show u % 10 < 10 by omega)],?_,.inl (z (u / 10 / 10 / 10) (by omega) (by omega))⟩
  simp only [List.cons_append,List.nil_append,nj,valS_nil,d _ (show u / 10 / 10 / 10 < 10 by omega),d _ (show u / 10 / 10 % 10 < 10 by omega),d _ (show u / 10 % 10 < 10 by omega),d _ (show u % 10 < 10 by omega)]; omega
theorem itoaS_num {n:Int} (h0:0≤n) (h1:n≤9999):numB (ne n)=true∧((valS 0 (ne n):Nat):Int)=n∧∀ c∈ne n,c≠32:=by
  have hl:=nf h0 h1
  have e:ne n=ng 20 n.toNat:=by unfold ne; rw [if_neg (by omega)]
  obtain ⟨a,b,c⟩:=decS_small (u:=n.toNat) (by omega)
  rw [← e] at a b c
  refine ⟨?_,by rw [b]; omega,fun x hx=>?_⟩
  · simp only [numB,Bool.and_eq_true,Bool.or_eq_true,decide_eq_true_eq]
    exact ⟨⟨⟨fun h=>by rw [h] at hl; simp at hl,by omega⟩,c⟩,a⟩
  have:=List.all_eq_true.1 a x hx
  simp only [digB,Bool.and_eq_true,decide_eq_true_eq] at this
  rintro rfl
  have e3:(32:UInt8).toNat=32:=rfl
  omega
theorem parse_digits:∀ (l:Str) (a:Nat),l.all digB=true→l.length≤18→∀ k,a < 10 ^ k→k+l.length≤18→Lib.parseUint10 a l=.ok (valS a l)
  | [],a,_,_,k,_,_=>rfl
  | c :: l,a,hd,hl,k,ha,hk=>by
    simp only [List.all_cons,Bool.and_eq_true] at hd
    have hc:48≤c.toNat∧c.toNat≤57:=by simpa [digB] using hd.1
    simp only [List.length_cons] at hl hk
    have hb:a < 10 ^ 17:=Nat.lt_of_lt_of_le ha (Nat.pow_le_pow_right (by omega) (by omega))
    rw [Lib.parseUint10,if_pos hc,if_neg (by omega),if_neg (by omega),nj,show 10 * a+(c.toNat - 48)=a * 10+(c.toNat - 48) by omega]
    exact parse_digits l _ hd.2 (by omega) (k+1) (by rw [Nat.pow_succ]; omega) (by omega)
theorem atoi_num {w:Str} (h:numB w=true):Lib.atoiAll w=.ok ((valS 0 w:Nat):Int):=by
  have h':=h
  simp only [numB,Bool.and_eq_true,Bool.or_eq_true,decide_eq_true_eq] at h
  obtain ⟨⟨⟨h1,h2⟩,h3⟩,h4⟩:=h
  have hp:=parse_digits w 0 h4 (by omega) 0 (by simp) (by omega)
  have hv:=valS_lt w 0 0 h4 (by simp)
  have hv2:valS 0 w < 10 ^ 9:=Nat.lt_of_lt_of_le hv (Nat.pow_le_pow_right (by omega) (by omega))
  match w,h1 with
  | c :: r,h1 =>
    have hc:48≤c.toNat∧c.toNat≤57:=by
      simp only [List.all_cons,Bool.and_eq_true] at h4
      simpa [digB] using h4.1
    simp only [Lib.atoiAll]
    rw [if_neg (by omega)]
    simp only [Lib.parseMag,if_neg h1,hp]
    rw [if_neg (by omega),if_neg (by omega),if_neg (by omega)]
end Go.K
end
section
namespace Go.K
open Go.RowKit
theorem ni {A B C:Type} (x:A) (f:A→Option C) (g:B→Option C):bindS (some (.inl x)) f g=f x:=rfl
def okv (r:Rc):Int × Int × Int × Int × Int × Int × Int × Str × Int:=(r.p,r.n,r.k,r.d,r.kn,r.op,r.on,r.t,0)
def badv:Int × Int × Int × Int × Int × Int × Int × Str × Int:=(0,0,0,0,0,0,0,[],5)
theorem F16j1_eq (N:Nat) (hN:161≤N) (rest:Str) (a b c d e f g:Int):F16j1 N rest [a,b,c,d,e,f,g]=some (if vRc ⟨a,b,c,d,e,f,g,rest⟩=true then okv ⟨a,b,c,d,e,f,g,rest⟩ else badv):=by
  unfold F16j1
  simp only [List.getElem?_cons_zero,List.getElem?_cons_succ,ba,F18_eq _ hN]
  by_cases h:vRc ⟨a,b,c,d,e,f,g,rest⟩=true
  · rw [if_pos h,if_pos h,if_pos rfl]; rfl
  rw [if_neg h,if_neg h,if_neg (by decide)]; rfl
theorem F16_sound (N:Nat) (hN:161≤N):∀ (m i:Nat) (v:Str) (u:List Int),u.length=i→i≤7→7 - i < m→v.length≤9223372036854775807→v.length < N →
    ∃ res,F16l2 N m v u (i:Int)=some res∧(res=badv∨∃ (l:List Int) (rest:Str),l.length=7 - i∧v=nl l++rest∧F16j1 N rest (u++l)=some res)
  | 0,i,v,u,_,_,h,_,_=>by omega
  | m+1,i,v,u,hu,hi,hm,hv,hn=>by
    rw [F16l2,F16b2]
    by_cases h7:i < 7
    · rw [if_pos (by omega),F73_eq v hv hn,ba]
      unfold spZ
      cases hs:spI v with
      | none=>exact ⟨badv,by rw [if_pos (by decide)]; rfl,.inl rfl⟩
      | some k =>
        have hk:=spI_lt hs
        have hc:=spI_cut hs
        simp only []
        rw [if_neg (by omega),du (by omega),du (by omega),Int.toNat_natCast,F74_eq (v.take k) (by omega),ba]
        by_cases hd:numB (v.take k)=true
        · rw [if_pos hd,if_pos rfl,du (by omega),dr (by unfold InR; omega),du (by omega),du (by omega),dr (by unfold InR; omega)]
          rw [show ((k:Int)+1).toNat=k+1 by omega,show ((i:Int)+1)=((i+1:Nat):Int) by omega]
          obtain ⟨res,h1,h2⟩:=F16_sound N hN m (i+1) (v.drop (k+1)) (u++[((valS 0 (v.take k):Nat):Int)]) (by simp [hu]) (by omega) (by omega) (by simp; omega) (by simp; omega)
          refine ⟨res,h1,?_⟩
          rcases h2 with h2 | ⟨l,rest,h3,h4,h5⟩
          · exact .inl h2
          refine .inr ⟨((valS 0 (v.take k):Nat):Int) :: l,rest,by simp only [List.length_cons]; omega,?_,by simpa using h5⟩
          have h6:v=v.take k++32 :: (nl l++rest):=by rw [← h4]; exact hc
          rw [nl,itoaS_val hd]
          exact h6.trans (by simp)
        rw [if_neg hd]
        exact ⟨badv,by rw [if_neg (by simp)]; rfl,.inl rfl⟩
    have:i=7:=by omega
    subst this
    rw [if_neg (by omega)]
    match u,hu with
    | [a,b,c,d,e,f,g],_=>exact ⟨_,F16j1_eq N hN v a b c d e f g,.inr ⟨[],v,rfl,rfl,by rw [List.append_nil]; exact F16j1_eq N hN v a b c d e f g⟩⟩
theorem F16_comp (N:Nat) (hN:161≤N):∀ (l:List Int) (m i:Nat) (u:List Int) (rest:Str),l.length=7 - i→i≤7→7 - i < m→u.length=i→(∀ x∈l,0≤x∧x≤9999)→(nl l++rest).length≤9223372036854775807→(nl l++rest).length < N →
    F16l2 N m (nl l++rest) u (i:Int)=F16j1 N rest (u++l)
  | [],0,i,u,rest,_,_,h,_,_,_,_=>by omega
  | [],m+1,i,u,rest,hl,hi,hm,hu,hx,h1,h2=>by
    have:i=7:=by simp at hl; omega
    subst this
    rw [F16l2,F16b2,if_neg (by omega),List.append_nil]; rfl
  | x :: l,0,i,u,rest,_,_,h,_,_,_,_=>by omega
  | x :: l,m+1,i,u,rest,hl,hi,hm,hu,hx,h1,h2=>by
    simp only [List.length_cons] at hl
    obtain ⟨n1,n2,n3⟩:=itoaS_num (hx x (by simp)).1 (hx x (by simp)).2
    have e:nl (x :: l)++rest=ne x++32 :: (nl l++rest):=by simp [nl]
    have hs:=spI_pre (ne x) (nl l++rest) n3
    rw [e] at h1 h2 ⊢
    have hlen:(ne x++32 :: (nl l++rest)).length=(ne x).length+1+(nl l++rest).length:=by simp only [List.length_append,List.length_cons]; omega
    rw [F16l2,F16b2,if_pos (by omega),F73_eq _ h1 h2,ba]
    unfold spZ
    rw [hs]
    simp only []
    rw [if_neg (by omega),du (by omega),du (by omega),Int.toNat_natCast,List.take_left,F74_eq (ne x) (by omega),ba,if_pos n1,if_pos rfl,du (by omega),dr (by unfold InR; omega),du (by omega),du (by omega),dr (by unfold InR; omega)]
    rw [show (((ne x).length:Int)+1).toNat=(ne x).length+1 by omega,show ((i:Int)+1)=((i+1:Nat):Int) by omega,List.drop_length_add_append,n2]
    simp only [List.drop_succ_cons,List.drop_zero]
    rw [F16_comp N hN l m (i+1) (u++[x]) rest (by omega) (by omega) (by omega) (by simp [hu]) (fun y hy=>hx y (by simp [hy])) (by omega) (by omega)]
    simp
theorem F16_all (t:Str) (N:Nat) (hN:161≤N) (h1:t.length≤9223372036854775807) (h2:t.length < N):∃ res,F16 N t=some res∧(res=badv∨∃ r,vRc r=true∧my r=t∧res=okv r):=by
  obtain ⟨res,a,b⟩:=F16_sound N hN N 0 t [] rfl (by omega) (by omega) h1 h2
  refine ⟨res,a,?_⟩
  rcases b with b | ⟨l,rest,c,d,e⟩
  · exact .inl b
  match l,c with
  | [a,b,c,d',e',f,g],_ =>
    rw [List.nil_append,F16j1_eq N hN] at e
    by_cases h:vRc ⟨a,b,c,d',e',f,g,rest⟩=true
    · rw [if_pos h] at e
      exact .inr ⟨_,h,d.symm,(Option.some.inj e).symm⟩
    rw [if_neg h] at e
    exact .inl (Option.some.inj e).symm
theorem F16_ok (r:Rc) (h:vRc r=true) (N:Nat) (hN:200≤N):F16 N (my r)=some (okv r):=by
  have hb:=txtS_bounds h
  unfold F16
  have:=F16_comp N (by omega) (nc r) N 0 [] r.t rfl (by omega) (by omega) rfl (vRc_in h) (by show (my r).length≤_; omega) (by show (my r).length < _; omega)
  refine this.trans ?_
  rw [List.nil_append]
  refine (F16j1_eq N (by omega) r.t r.p r.n r.k r.d r.kn r.op r.on).trans ?_
  rw [if_pos h]
theorem F162_eq (s:Str) (hs:s.length≤9223372036854775807):F162 s [32]=some (match spI s with | some k=>(s.take k,s.drop (k+1),true) | none=>(s,[],false)):=by
  unfold F162 F170 F187
  rw [if_pos (show ([32]:Str).length=1 from rfl),ba,show ([32]:Str).headD 0=32 from rfl,index_sp]
  unfold spZ
  cases hk:spI s with
  | none=>simp only []; rw [if_neg (by omega),ba]
  | some k =>
    have:=spI_lt hk
    have e:([32]:Str).length=1:=rfl
    simp only [e]
    rw [if_pos (by omega),du (by omega),dr (by unfold InR; omega),du (by omega),du (by omega),ba,Int.toNat_natCast,show ((k:Int)+((1:Nat):Int)).toNat=k+1 by omega]
theorem atoiO_tot (s:Str) (h:s.length≤281474976710656):∃ x,atoiO s=some x:=⟨_,if_pos h⟩
theorem F144_tot (s:Str) (hs:s.length≤281474976710656):∃ res,F144 s=some res∧∀ x,res=.inl x→x.2.length≤s.length:=by
  unfold F144
  rw [F162_eq s (by omega),ba]
  cases hk:spI s with
  | none =>
    obtain ⟨x,hx⟩:=atoiO_tot s hs
    simp only [hx]
    cases x with
    | inl y=>exact ⟨_,rfl,fun z hz=>by injection hz with hz; subst hz; simp⟩
    | inr y=>exact ⟨_,rfl,fun z hz=>by cases hz⟩
  | some k =>
    obtain ⟨x,hx⟩:=atoiO_tot (s.take k) (by simp; omega)
    simp only [hx]
    cases x with
    | inl y=>exact ⟨_,rfl,fun z hz=>by injection hz with hz; subst hz; simp⟩
    | inr y=>exact ⟨_,rfl,fun z hz=>by cases hz⟩
theorem F144_num {n:Int} (h0:0≤n) (h1:n≤9999) (rest:Str) (hr:rest.length≤1000000):F144 (ne n++32 :: rest)=some (.inl (n,rest)):=by
  obtain ⟨n1,n2,n3⟩:=itoaS_num h0 h1
  have hl:=nf h0 h1
  unfold F144
  rw [F162_eq _ (by simp only [List.length_append,List.length_cons]; omega),spI_pre _ _ n3,ba]
  simp only [List.take_left]
  have e:atoiO (ne n)=some (.inl n):=by
    unfold atoiO
    rw [if_pos (by omega),atoi_num n1,n2]
  rw [e,ni,List.drop_length_add_append]; rfl
theorem F72j1_eq (p0:Str) (N:Nat) (hN:161≤N) (a b c d e f g:Int) (rest:Str):F72j1 p0 N a b c d e f g rest=some (if vRc ⟨a,b,c,d,e,f,g,rest⟩=true∧my ⟨a,b,c,d,e,f,g,rest⟩=p0 then .inl (a,b,c,d,e,f,g,rest) else .inr ()):=by
  unfold F72j1
  rw [F17_eq _ hN,ba]
  by_cases h:vRc ⟨a,b,c,d,e,f,g,rest⟩=true
  · obtain ⟨h1,h2⟩:=vRc_small h
    have h3:=txtN_bounds _ (vRc_in h)
    have h4:(nc ⟨a,b,c,d,e,f,g,rest⟩).length=7:=rfl
    rw [if_pos h,if_pos rfl,F69_eq _ h1 (by omega) (by omega) (by omega),ba]
    by_cases h5:my ⟨a,b,c,d,e,f,g,rest⟩=p0
    · rw [if_pos h5,if_pos ⟨h,h5⟩]
    rw [if_neg h5,if_neg (fun h=>h5 h.2)]
  rw [if_neg h,if_neg (by decide),if_neg (fun k=>h k.1)]
theorem nk (p0:Str) (N:Nat) (hN:161≤N):∀ (m i:Nat) (n0 n1 n2 n3 n4 n5 n6:Int) (v:Str),i≤7→7 - i < m→v.length≤281474976710656 →
    ∃ res,F72l2 p0 N m n0 n1 n2 n3 n4 n5 n6 v (i:Int)=some res∧(res=.inr ()∨∃ r,vRc r=true∧my r=p0∧res=.inl (r.p,r.n,r.k,r.d,r.kn,r.op,r.on,r.t))
  | 0,i,n0,n1,n2,n3,n4,n5,n6,v,_,h,_=>by omega
  | m+1,i,n0,n1,n2,n3,n4,n5,n6,v,hi,hm,hv=>by
    rw [F72l2,F72b2]
    by_cases h7:i < 7
    · rw [if_pos (by omega)]
      obtain ⟨res,h1,h2⟩:=F144_tot v hv
      rw [h1]
      cases res with
      | inr y=>exact ⟨_,rfl,.inl rfl⟩
      | inl y =>
        have hy:=h2 y rfl
        rw [ni]
        have:i=0∨i=1∨i=2∨i=3∨i=4∨i=5∨i=6:=by omega
        rcases this with rfl | rfl | rfl | rfl | rfl | rfl | rfl
        · rw [if_pos (by decide),nh,dr (by unfold InR; omega)]; exact nk p0 N hN m 1 y.1 _ _ _ _ _ _ y.2 (by omega) (by omega) (by omega)
        · rw [if_neg (by decide),if_pos (by decide),nh,dr (by unfold InR; omega)]; exact nk p0 N hN m 2 _ y.1 _ _ _ _ _ y.2 (by omega) (by omega) (by omega)
        · rw [if_neg (by decide),if_neg (by decide),if_pos (by decide),nh,dr (by unfold InR; omega)]; exact nk p0 N hN m 3 _ _ y.1 _ _ _ _ y.2 (by omega) (by omega) (by omega)
        · rw [if_neg (by decide),if_neg (by decide),if_neg (by decide),if_pos (by decide),nh,dr (by unfold InR; omega)]; exact nk p0 N hN m 4 _ _ _ y.1 _ _ _ y.2 (by omega) (by omega) (by omega)
        · rw [if_neg (by decide),if_neg (by decide),if_neg (by decide),if_neg (by decide),if_pos (by decide),nh,dr (by unfold InR; omega)]; exact nk p0 N hN m 5 _ _ _ _ y.1 _ _ y.2 (by omega) (by omega) (by omega)
        · rw [if_neg (by decide),if_neg (by decide),if_neg (by decide),if_neg (by decide),if_neg (by decide),if_pos (by decide),nh,dr (by unfold InR; omega)]; exact nk p0 N hN m 6 _ _ _ _ _ y.1 _ y.2 (by omega) (by omega) (by omega)
        rw [if_neg (by decide),if_neg (by decide),if_neg (by decide),if_neg (by decide),if_neg (by decide),if_neg (by decide),if_pos (by decide),nh,dr (by unfold InR; omega)]; exact nk p0 N hN m 7 _ _ _ _ _ _ y.1 y.2 (by omega) (by omega) (by omega)
    have:i=7:=by omega
    subst this
    rw [if_neg (by omega),F72j1_eq p0 N hN]
    by_cases h:vRc ⟨n0,n1,n2,n3,n4,n5,n6,v⟩=true∧my ⟨n0,n1,n2,n3,n4,n5,n6,v⟩=p0
    · rw [if_pos h]; exact ⟨_,rfl,.inr ⟨_,h.1,h.2,rfl⟩⟩
    rw [if_neg h]; exact ⟨_,rfl,.inl rfl⟩
theorem F72_ok (r:Rc) (h:vRc r=true) (N:Nat) (hN:161≤N+8):F72 (N+8) (my r)=some (.inl (r.p,r.n,r.k,r.d,r.kn,r.op,r.on,r.t)):=by
  have hb:=txtS_bounds h
  have hv:=vRc_in h
  simp only [nc,List.mem_cons,List.not_mem_nil,or_false,forall_eq_or_imp,forall_eq] at hv
  obtain ⟨h0,h1,h2,h3,h4,h5,h6⟩:=hv
  have ht:=(vRc_small h).2
  have l0:=nf h0.1 h0.2
  have l1:=nf h1.1 h1.2
  have l2:=nf h2.1 h2.2
  have l3:=nf h3.1 h3.2
  have l4:=nf h4.1 h4.2
  have l5:=nf h5.1 h5.2
  have l6:=nf h6.1 h6.2
  have e:my r=ne r.p++32 :: (ne r.n++32 :: (ne r.k++32 :: (ne r.d++32 :: (ne r.kn++32 :: (ne r.op++32 :: (ne r.on++32 :: r.t)))))):=by
    simp [my,nl,nc]
  unfold F72
  generalize hp:my r=p0 at *
  conv=>lhs; rw [show (F72l2 p0 (N+8) (N+8) 0 0 0 0 0 0 0 p0 0)=F72l2 p0 (N+8) (N+8) 0 0 0 0 0 0 0 (ne r.p++32 :: (ne r.n++32 :: (ne r.k++32 :: (ne r.d++32 :: (ne r.kn++32 :: (ne r.op++32 :: (ne r.on++32 :: r.t))))))) 0 by rw [← e]]
  rw [F72l2,F72b2,if_pos (by decide),F144_num h0.1 h0.2 _ (by first | omega | (simp only [List.length_append,List.length_cons]; omega)),ni,if_pos (by decide),nh,dr (by unfold InR; omega)]
  rw [F72l2,F72b2,if_pos (by decide),F144_num h1.1 h1.2 _ (by first | omega | (simp only [List.length_append,List.length_cons]; omega)),ni,if_neg (by decide),if_pos (by decide),nh,dr (by unfold InR; omega)]
  rw [F72l2,F72b2,if_pos (by decide),F144_num h2.1 h2.2 _ (by first | omega | (simp only [List.length_append,List.length_cons]; omega)),ni,if_neg (by decide),if_neg (by decide),if_pos (by decide),nh,dr (by unfold InR; omega)]
  rw [F72l2,F72b2,if_pos (by decide),F144_num h3.1 h3.2 _ (by first | omega | (simp only [List.length_append,List.length_cons]; omega)),ni,if_neg (by decide),if_neg (by decide),if_neg (by decide),if_pos (by decide),nh,dr (by unfold InR; omega)]
  rw [F72l2,F72b2,if_pos (by decide),F144_num h4.1 h4.2 _ (by first | omega | (simp only [List.length_append,List.length_cons]; omega)),ni,if_neg (by decide),if_neg (by decide),if_neg (by decide),if_neg (by decide),if_pos (by decide),nh,dr (by unfold InR; omega)]
  rw [F72l2,F72b2,if_pos (by decide),F144_num h5.1 h5.2 _ (by first | omega | (simp only [List.length_append,List.length_cons]; omega)),ni,if_neg (by decide),if_neg (by decide),if_neg (by decide),if_neg (by decide),if_neg (by decide),if_pos (by decide),nh,dr (by unfold InR; omega)]
  rw [F72l2,F72b2,if_pos (by decide),F144_num h6.1 h6.2 _ (by first | omega | (simp only [List.length_append,List.length_cons]; omega)),ni,if_neg (by decide),if_neg (by decide),if_neg (by decide),if_neg (by decide),if_neg (by decide),if_neg (by decide),if_pos (by decide),nh,dr (by unfold InR; omega)]
  rw [F72l2,F72b2,if_neg (by decide),F72j1_eq p0 _ (by omega)]
  exact congrArg some (if_pos ⟨h,hp⟩)
theorem F15_all (t:Str) (N:Nat) (hN:161≤N) (h1:t.length≤281474976710656):∃ res,F15 N t=some res∧(res=badv∨∃ r,vRc r=true∧my r=t∧res=okv r):=by
  obtain ⟨res,a,b⟩:=nk t N hN N 0 0 0 0 0 0 0 0 t (by omega) (by omega) h1
  have a':F72 N t=some res:=a
  unfold F15
  rw [a']
  rcases b with rfl | ⟨r,c,d,rfl⟩
  · exact ⟨badv,rfl,.inl rfl⟩
  exact ⟨okv r,rfl,.inr ⟨r,c,d,rfl⟩⟩
theorem F15_ok (r:Rc) (h:vRc r=true) (N:Nat) (hN:200≤N):F15 N (my r)=some (okv r):=by
  unfold F15
  obtain ⟨k,rfl⟩:=Nat.exists_eq_add_of_le' (show 8≤N by omega)
  rw [F72_ok r h k (by omega)]; rfl
theorem okv_bad (r:Rc):okv r≠badv:=by
  intro h
  have:(0:Int)=5:=congrArg (fun x=>x.2.2.2.2.2.2.2.2) h
  omega
theorem F15_F16 (t:Str) (N:Nat) (hN:200≤N) (h1:t.length≤281474976710656) (h2:t.length < N):∃ res,F15 N t=some res∧F16 N t=some res∧(res=badv∨∃ r,vRc r=true∧my r=t∧res=okv r):=by
  obtain ⟨x,a,b⟩:=F15_all t N (by omega) h1
  obtain ⟨y,c,d⟩:=F16_all t N (by omega) (by omega) h2
  rcases b with rfl | ⟨r,b1,b2,rfl⟩
  · rcases d with rfl | ⟨s,d1,d2,rfl⟩
    · exact ⟨badv,a,c,.inl rfl⟩
    have:=F15_ok s d1 N hN
    rw [d2,a] at this
    exact absurd (Option.some.inj this).symm (okv_bad s)
  have:=F16_ok r b1 N hN
  rw [b2] at this
  exact ⟨okv r,a,this,.inr ⟨r,b1,b2,rfl⟩⟩
end Go.K
end
section
namespace Go.K
open Go.RowKit
end Go.K
end
section
namespace Go.K
open Go.RowKit
def zS:Sp3:=⟨0,0,[]⟩
theorem whole_no {q:Int} {s:Sp3} (h:ln q s=true):0≤s.no∧s.no≤59:=by
  simp only [ln,Bool.and_eq_true,inB,decide_eq_true_eq] at h; exact h.1.1.1.1
theorem whole_z (q:Int):ln q zS=false:=by simp [ln,zS,inB]
theorem whole_ne {q:Int} {s:Sp3} (h:ln q s=true):s≠zS:=fun e=>by rw [e,whole_z] at h; cases h
def oq (q:Nat) (A:List Sp3) (s:Sp3):List Sp3 :=
  if ln (q:Int) s=true then (if eqSp (A.getD (s.no.toNat * 3+q) zS) zS=true then A.set (s.no.toNat * 3+q) s else A) else A
theorem putS_len (q:Nat) (A:List Sp3) (s:Sp3):(oq q A s).length=A.length:=by
  unfold oq; split
  · split
    · rw [List.length_set]
    rfl
  rfl
theorem ou (q:Nat):∀ (l A:List Sp3),(l.foldl (oq q) A).length=A.length
  | [],_=>rfl
  | s :: l,A=>by rw [List.foldl_cons,ou q l,putS_len]
theorem F112l6_eq (a b c:List Sp3) (x y z:Int) (ha:a.length≤1000000000000000) (hb:b.length≤1000000000000000) (hc:c.length≤1000000000000000) (N:Nat) (hN:200≤N):∀ (m i:Nat) (A:List Sp3),i≤(c.drop (mnI c z).toNat).length→(c.drop (mnI c z).toNat).length - i < m→A.length=180 →
    F112l6 c z N m A (i:Int)=F112j5 (((c.drop (mnI c z).toNat).drop i).foldl (oq 2) A):=by
  intro m
  induction m with
  | zero=>intro i A _ h; omega
  | succ m ih =>
    intro i A hi hm hA
    show F112b6 c z N _ A (i:Int)=_
    have hseg:(c.drop (mnI c z).toNat).length≤c.length:=by first | rw [List.length_drop]; omega | rw [List.length_take]; omega
    rw [F112b6,pw]
    by_cases h:i < (c.drop (mnI c z).toNat).length
    · have hn:∀ A':List Sp3,A'.length=180→F112j7 (F112l6 c z N m) (i:Int) A'=F112j5 (((c.drop (mnI c z).toNat).drop (i+1)).foldl (oq 2) A'):=fun A' h'=>by
        rw [F112j7,dr (oo (by omega) (by omega)),show ((i:Int)+1)=((i+1:Nat):Int) by omega]
        exact ih (i+1) A' (by omega) (by omega) h'
      rw [if_pos (by omega),du (by omega),Int.toNat_natCast,List.getElem?_eq_getElem h,ba,F91_eq _ _ hN,ba,jj h,List.foldl_cons]
      generalize (c.drop (mnI c z).toNat)[i]=s
      by_cases hw:ln 2 s=true
      · have hno:=whole_no hw
        rw [if_pos hw,du hno.1,du (by omega),List.getElem?_eq_getElem (by omega:s.no.toNat * 3+2 < A.length),ba]
        show (if eqSp (A[s.no.toNat * 3+2]'(by omega)) zS=true then _ else _)=_
        have hg:A.getD (s.no.toNat * 3+2) zS=A[s.no.toNat * 3+2]'(by omega):=by rw [List.getD_eq_getElem?_getD,List.getElem?_eq_getElem (by omega:s.no.toNat * 3+2 < A.length)]; rfl
        by_cases he:eqSp (A[s.no.toNat * 3+2]'(by omega)) zS=true
        · rw [if_pos he,hn _ (by rw [List.length_set]; exact hA)]
          congr 2
          unfold oq
          rw [show (((2:Nat):Int))=2 from rfl,if_pos hw,hg,if_pos he]
        rw [if_neg he,F112j8,hn _ hA]
        congr 2
        unfold oq
        rw [show (((2:Nat):Int))=2 from rfl,if_pos hw,hg,if_neg he]
      rw [if_neg hw,F112j8,hn _ hA]
      congr 2
      unfold oq
      rw [show (((2:Nat):Int))=2 from rfl,if_neg hw]
    rw [if_neg (by omega),List.drop_of_length_le (by omega)]; rfl
theorem F112l9_eq (a b c:List Sp3) (x y z:Int) (ha:a.length≤1000000000000000) (hb:b.length≤1000000000000000) (hc:c.length≤1000000000000000) (N:Nat) (hN:200≤N):∀ (m i:Nat) (A:List Sp3),i≤(c.take (mnI c z).toNat).length→(c.take (mnI c z).toNat).length - i < m→A.length=180 →
    F112l9 c z N m A (i:Int)=F112j4 c z N (((c.take (mnI c z).toNat).drop i).foldl (oq 2) A):=by
  intro m
  induction m with
  | zero=>intro i A _ h; omega
  | succ m ih =>
    intro i A hi hm hA
    show F112b9 c z N _ A (i:Int)=_
    have hseg:(c.take (mnI c z).toNat).length≤c.length:=by first | rw [List.length_drop]; omega | rw [List.length_take]; omega
    rw [F112b9,oy]
    by_cases h:i < (c.take (mnI c z).toNat).length
    · have hn:∀ A':List Sp3,A'.length=180→F112j10 (F112l9 c z N m) (i:Int) A'=F112j4 c z N (((c.take (mnI c z).toNat).drop (i+1)).foldl (oq 2) A'):=fun A' h'=>by
        rw [F112j10,dr (oo (by omega) (by omega)),show ((i:Int)+1)=((i+1:Nat):Int) by omega]
        exact ih (i+1) A' (by omega) (by omega) h'
      rw [if_pos (by omega),du (by omega),Int.toNat_natCast,List.getElem?_eq_getElem h,ba,F91_eq _ _ hN,ba,jj h,List.foldl_cons]
      generalize (c.take (mnI c z).toNat)[i]=s
      by_cases hw:ln 2 s=true
      · have hno:=whole_no hw
        rw [if_pos hw,du hno.1,du (by omega),List.getElem?_eq_getElem (by omega:s.no.toNat * 3+2 < A.length),ba]
        show (if eqSp (A[s.no.toNat * 3+2]'(by omega)) zS=true then _ else _)=_
        have hg:A.getD (s.no.toNat * 3+2) zS=A[s.no.toNat * 3+2]'(by omega):=by rw [List.getD_eq_getElem?_getD,List.getElem?_eq_getElem (by omega:s.no.toNat * 3+2 < A.length)]; rfl
        by_cases he:eqSp (A[s.no.toNat * 3+2]'(by omega)) zS=true
        · rw [if_pos he,hn _ (by rw [List.length_set]; exact hA)]
          congr 2
          unfold oq
          rw [show (((2:Nat):Int))=2 from rfl,if_pos hw,hg,if_pos he]
        rw [if_neg he,F112j11,hn _ hA]
        congr 2
        unfold oq
        rw [show (((2:Nat):Int))=2 from rfl,if_pos hw,hg,if_neg he]
      rw [if_neg hw,F112j11,hn _ hA]
      congr 2
      unfold oq
      rw [show (((2:Nat):Int))=2 from rfl,if_neg hw]
    rw [if_neg (by omega),List.drop_of_length_le (by omega)]; rfl
theorem F112l14_eq (a b c:List Sp3) (x y z:Int) (ha:a.length≤1000000000000000) (hb:b.length≤1000000000000000) (hc:c.length≤1000000000000000) (N:Nat) (hN:200≤N):∀ (m i:Nat) (A:List Sp3),i≤(b.drop (mnI b y).toNat).length→(b.drop (mnI b y).toNat).length - i < m→A.length=180 →
    F112l14 b c y z N m A (i:Int)=F112j13 c z N (((b.drop (mnI b y).toNat).drop i).foldl (oq 1) A):=by
  intro m
  induction m with
  | zero=>intro i A _ h; omega
  | succ m ih =>
    intro i A hi hm hA
    show F112b14 b c y z N _ A (i:Int)=_
    have hseg:(b.drop (mnI b y).toNat).length≤b.length:=by first | rw [List.length_drop]; omega | rw [List.length_take]; omega
    rw [F112b14,pw]
    by_cases h:i < (b.drop (mnI b y).toNat).length
    · have hn:∀ A':List Sp3,A'.length=180→F112j15 (F112l14 b c y z N m) (i:Int) A'=F112j13 c z N (((b.drop (mnI b y).toNat).drop (i+1)).foldl (oq 1) A'):=fun A' h'=>by
        rw [F112j15,dr (oo (by omega) (by omega)),show ((i:Int)+1)=((i+1:Nat):Int) by omega]
        exact ih (i+1) A' (by omega) (by omega) h'
      rw [if_pos (by omega),du (by omega),Int.toNat_natCast,List.getElem?_eq_getElem h,ba,F91_eq _ _ hN,ba,jj h,List.foldl_cons]
      generalize (b.drop (mnI b y).toNat)[i]=s
      by_cases hw:ln 1 s=true
      · have hno:=whole_no hw
        rw [if_pos hw,du hno.1,du (by omega),List.getElem?_eq_getElem (by omega:s.no.toNat * 3+1 < A.length),ba]
        show (if eqSp (A[s.no.toNat * 3+1]'(by omega)) zS=true then _ else _)=_
        have hg:A.getD (s.no.toNat * 3+1) zS=A[s.no.toNat * 3+1]'(by omega):=by rw [List.getD_eq_getElem?_getD,List.getElem?_eq_getElem (by omega:s.no.toNat * 3+1 < A.length)]; rfl
        by_cases he:eqSp (A[s.no.toNat * 3+1]'(by omega)) zS=true
        · rw [if_pos he,hn _ (by rw [List.length_set]; exact hA)]
          congr 2
          unfold oq
          rw [show (((1:Nat):Int))=1 from rfl,if_pos hw,hg,if_pos he]
        rw [if_neg he,F112j16,hn _ hA]
        congr 2
        unfold oq
        rw [show (((1:Nat):Int))=1 from rfl,if_pos hw,hg,if_neg he]
      rw [if_neg hw,F112j16,hn _ hA]
      congr 2
      unfold oq
      rw [show (((1:Nat):Int))=1 from rfl,if_neg hw]
    rw [if_neg (by omega),List.drop_of_length_le (by omega)]; rfl
theorem F112l17_eq (a b c:List Sp3) (x y z:Int) (ha:a.length≤1000000000000000) (hb:b.length≤1000000000000000) (hc:c.length≤1000000000000000) (N:Nat) (hN:200≤N):∀ (m i:Nat) (A:List Sp3),i≤(b.take (mnI b y).toNat).length→(b.take (mnI b y).toNat).length - i < m→A.length=180 →
    F112l17 b c y z N m A (i:Int)=F112j12 b c y z N (((b.take (mnI b y).toNat).drop i).foldl (oq 1) A):=by
  intro m
  induction m with
  | zero=>intro i A _ h; omega
  | succ m ih =>
    intro i A hi hm hA
    show F112b17 b c y z N _ A (i:Int)=_
    have hseg:(b.take (mnI b y).toNat).length≤b.length:=by first | rw [List.length_drop]; omega | rw [List.length_take]; omega
    rw [F112b17,oy]
    by_cases h:i < (b.take (mnI b y).toNat).length
    · have hn:∀ A':List Sp3,A'.length=180→F112j18 (F112l17 b c y z N m) (i:Int) A'=F112j12 b c y z N (((b.take (mnI b y).toNat).drop (i+1)).foldl (oq 1) A'):=fun A' h'=>by
        rw [F112j18,dr (oo (by omega) (by omega)),show ((i:Int)+1)=((i+1:Nat):Int) by omega]
        exact ih (i+1) A' (by omega) (by omega) h'
      rw [if_pos (by omega),du (by omega),Int.toNat_natCast,List.getElem?_eq_getElem h,ba,F91_eq _ _ hN,ba,jj h,List.foldl_cons]
      generalize (b.take (mnI b y).toNat)[i]=s
      by_cases hw:ln 1 s=true
      · have hno:=whole_no hw
        rw [if_pos hw,du hno.1,du (by omega),List.getElem?_eq_getElem (by omega:s.no.toNat * 3+1 < A.length),ba]
        show (if eqSp (A[s.no.toNat * 3+1]'(by omega)) zS=true then _ else _)=_
        have hg:A.getD (s.no.toNat * 3+1) zS=A[s.no.toNat * 3+1]'(by omega):=by rw [List.getD_eq_getElem?_getD,List.getElem?_eq_getElem (by omega:s.no.toNat * 3+1 < A.length)]; rfl
        by_cases he:eqSp (A[s.no.toNat * 3+1]'(by omega)) zS=true
        · rw [if_pos he,hn _ (by rw [List.length_set]; exact hA)]
          congr 2
          unfold oq
          rw [show (((1:Nat):Int))=1 from rfl,if_pos hw,hg,if_pos he]
        rw [if_neg he,F112j19,hn _ hA]
        congr 2
        unfold oq
        rw [show (((1:Nat):Int))=1 from rfl,if_pos hw,hg,if_neg he]
      rw [if_neg hw,F112j19,hn _ hA]
      congr 2
      unfold oq
      rw [show (((1:Nat):Int))=1 from rfl,if_neg hw]
    rw [if_neg (by omega),List.drop_of_length_le (by omega)]; rfl
theorem F112l22_eq (a b c:List Sp3) (x y z:Int) (ha:a.length≤1000000000000000) (hb:b.length≤1000000000000000) (hc:c.length≤1000000000000000) (N:Nat) (hN:200≤N):∀ (m i:Nat) (A:List Sp3),i≤(a.drop (mnI a x).toNat).length→(a.drop (mnI a x).toNat).length - i < m→A.length=180 →
    F112l22 a b c x y z N m A (i:Int)=F112j21 b c y z N (((a.drop (mnI a x).toNat).drop i).foldl (oq 0) A):=by
  intro m
  induction m with
  | zero=>intro i A _ h; omega
  | succ m ih =>
    intro i A hi hm hA
    show F112b22 a b c x y z N _ A (i:Int)=_
    have hseg:(a.drop (mnI a x).toNat).length≤a.length:=by first | rw [List.length_drop]; omega | rw [List.length_take]; omega
    rw [F112b22,pw]
    by_cases h:i < (a.drop (mnI a x).toNat).length
    · have hn:∀ A':List Sp3,A'.length=180→F112j23 (F112l22 a b c x y z N m) (i:Int) A'=F112j21 b c y z N (((a.drop (mnI a x).toNat).drop (i+1)).foldl (oq 0) A'):=fun A' h'=>by
        rw [F112j23,dr (oo (by omega) (by omega)),show ((i:Int)+1)=((i+1:Nat):Int) by omega]
        exact ih (i+1) A' (by omega) (by omega) h'
      rw [if_pos (by omega),du (by omega),Int.toNat_natCast,List.getElem?_eq_getElem h,ba,F91_eq _ _ hN,ba,jj h,List.foldl_cons]
      generalize (a.drop (mnI a x).toNat)[i]=s
      by_cases hw:ln 0 s=true
      · have hno:=whole_no hw
        rw [if_pos hw,du hno.1,du (by omega),List.getElem?_eq_getElem (by omega:s.no.toNat * 3+0 < A.length),ba]
        show (if eqSp (A[s.no.toNat * 3+0]'(by omega)) zS=true then _ else _)=_
        have hg:A.getD (s.no.toNat * 3+0) zS=A[s.no.toNat * 3+0]'(by omega):=by rw [List.getD_eq_getElem?_getD,List.getElem?_eq_getElem (by omega:s.no.toNat * 3+0 < A.length)]; rfl
        by_cases he:eqSp (A[s.no.toNat * 3+0]'(by omega)) zS=true
        · rw [if_pos he,hn _ (by rw [List.length_set]; exact hA)]
          congr 2
          unfold oq
          rw [show (((0:Nat):Int))=0 from rfl,if_pos hw,hg,if_pos he]
        rw [if_neg he,F112j24,hn _ hA]
        congr 2
        unfold oq
        rw [show (((0:Nat):Int))=0 from rfl,if_pos hw,hg,if_neg he]
      rw [if_neg hw,F112j24,hn _ hA]
      congr 2
      unfold oq
      rw [show (((0:Nat):Int))=0 from rfl,if_neg hw]
    rw [if_neg (by omega),List.drop_of_length_le (by omega)]; rfl
theorem F112l25_eq (a b c:List Sp3) (x y z:Int) (ha:a.length≤1000000000000000) (hb:b.length≤1000000000000000) (hc:c.length≤1000000000000000) (N:Nat) (hN:200≤N):∀ (m i:Nat) (A:List Sp3),i≤(a.take (mnI a x).toNat).length→(a.take (mnI a x).toNat).length - i < m→A.length=180 →
    F112l25 a b c x y z N m A (i:Int)=F112j20 a b c x y z N (((a.take (mnI a x).toNat).drop i).foldl (oq 0) A):=by
  intro m
  induction m with
  | zero=>intro i A _ h; omega
  | succ m ih =>
    intro i A hi hm hA
    show F112b25 a b c x y z N _ A (i:Int)=_
    have hseg:(a.take (mnI a x).toNat).length≤a.length:=by first | rw [List.length_drop]; omega | rw [List.length_take]; omega
    rw [F112b25,oy]
    by_cases h:i < (a.take (mnI a x).toNat).length
    · have hn:∀ A':List Sp3,A'.length=180→F112j26 (F112l25 a b c x y z N m) (i:Int) A'=F112j20 a b c x y z N (((a.take (mnI a x).toNat).drop (i+1)).foldl (oq 0) A'):=fun A' h'=>by
        rw [F112j26,dr (oo (by omega) (by omega)),show ((i:Int)+1)=((i+1:Nat):Int) by omega]
        exact ih (i+1) A' (by omega) (by omega) h'
      rw [if_pos (by omega),du (by omega),Int.toNat_natCast,List.getElem?_eq_getElem h,ba,F91_eq _ _ hN,ba,jj h,List.foldl_cons]
      generalize (a.take (mnI a x).toNat)[i]=s
      by_cases hw:ln 0 s=true
      · have hno:=whole_no hw
        rw [if_pos hw,du hno.1,du (by omega),List.getElem?_eq_getElem (by omega:s.no.toNat * 3+0 < A.length),ba]
        show (if eqSp (A[s.no.toNat * 3+0]'(by omega)) zS=true then _ else _)=_
        have hg:A.getD (s.no.toNat * 3+0) zS=A[s.no.toNat * 3+0]'(by omega):=by rw [List.getD_eq_getElem?_getD,List.getElem?_eq_getElem (by omega:s.no.toNat * 3+0 < A.length)]; rfl
        by_cases he:eqSp (A[s.no.toNat * 3+0]'(by omega)) zS=true
        · rw [if_pos he,hn _ (by rw [List.length_set]; exact hA)]
          congr 2
          unfold oq
          rw [show (((0:Nat):Int))=0 from rfl,if_pos hw,hg,if_pos he]
        rw [if_neg he,F112j27,hn _ hA]
        congr 2
        unfold oq
        rw [show (((0:Nat):Int))=0 from rfl,if_pos hw,hg,if_neg he]
      rw [if_neg hw,F112j27,hn _ hA]
      congr 2
      unfold oq
      rw [show (((0:Nat):Int))=0 from rfl,if_neg hw]
    rw [if_neg (by omega),List.drop_of_length_le (by omega)]; rfl
def A0:List Sp3:=List.replicate 180 zS
theorem A0_len:A0.length=180:=List.length_replicate
def allF (a b c:List Sp3):List Sp3:=c.foldl (oq 2) (b.foldl (oq 1) (a.foldl (oq 0) A0))
theorem fold_seam (q:Nat) (l A:List Sp3) (n:Nat):(l.drop n).foldl (oq q) ((l.take n).foldl (oq q) A)=l.foldl (oq q) A:=by
  rw [← List.foldl_append,List.take_append_drop]
theorem allF_len (a b c:List Sp3):(allF a b c).length=180:=by unfold allF; rw [ou,ou,ou,A0_len]
theorem F112_eq {a b c:List Sp3} (x y z:Int) (ha:a.length≤1000000000000000) (hb:b.length≤1000000000000000) (hc:c.length≤1000000000000000) {N:Nat} (hN:10000000000000000≤N):F112 N a b c x y z=some (allF a b c):=by
  have hd:∀ (l:List Sp3) (n:Nat),(l.drop n).length≤l.length:=fun l n=>by rw [List.length_drop]; omega
  have ht:∀ (l:List Sp3) (n:Nat),(l.take n).length≤l.length:=fun l n=>by rw [List.length_take]; omega
  have hN2:200≤N:=by omega
  have hz:(List.replicate 180 (⟨0,0,[]⟩:Sp3))=A0:=rfl
  have l25:=F112l25_eq a b c x y z ha hb hc N hN2 N 0 A0 (by omega) (by have:=ht a (mnI a x).toNat; omega) A0_len
  have l22:=fun A h=>F112l22_eq a b c x y z ha hb hc N hN2 N 0 A (by omega) (by have:=hd a (mnI a x).toNat; omega) h
  have l17:=fun A h=>F112l17_eq a b c x y z ha hb hc N hN2 N 0 A (by omega) (by have:=ht b (mnI b y).toNat; omega) h
  have l14:=fun A h=>F112l14_eq a b c x y z ha hb hc N hN2 N 0 A (by omega) (by have:=hd b (mnI b y).toNat; omega) h
  have l9:=fun A h=>F112l9_eq a b c x y z ha hb hc N hN2 N 0 A (by omega) (by have:=ht c (mnI c z).toNat; omega) h
  have l6:=fun A h=>F112l6_eq a b c x y z ha hb hc N hN2 N 0 A (by omega) (by have:=hd c (mnI c z).toNat; omega) h
  simp only [List.drop_zero] at l25 l22 l17 l14 l9 l6
  rw [F112,gd3,hz]
  refine l25.trans ?_
  rw [F112j20]
  refine (l22 _ (by simp only [ou,A0_len])).trans ?_
  rw [F112j21,F112j1,gd3]
  refine (l17 _ (by simp only [ou,A0_len])).trans ?_
  rw [F112j12]
  refine (l14 _ (by simp only [ou,A0_len])).trans ?_
  rw [F112j13,F112j2,gd3]
  refine (l9 _ (by simp only [ou,A0_len])).trans ?_
  rw [F112j4]
  refine (l6 _ (by simp only [ou,A0_len])).trans ?_
  rw [F112j5,F112j3,du (by simp only [ou,A0_len]),du List.length_replicate,fold_seam,fold_seam,fold_seam]; rfl
def oz (q:Int) (l:List Sp3) (no:Int):Option Sp3:=l.find? fun s=>decide (s.no=no) && ln q s
def gQ (q:Int) (l:List Sp3) (no:Int):Sp3:=(oz q l no).getD zS
theorem fold_get (q:Nat) (hq:q < 3):∀ (l A:List Sp3),A.length=180→∀ n,n < 60→∀ r,r < 3 →
    (l.foldl (oq q) A).getD (n * 3+r) zS=if r=q∧A.getD (n * 3+r) zS=zS then gQ (q:Int) l (n:Int) else A.getD (n * 3+r) zS
  | [],A,hA,n,hn,r,hr=>by
    by_cases h:r=q∧A.getD (n * 3+r) zS=zS
    · rw [if_pos h]; exact h.2
    rw [if_neg h]; rfl
  | s :: l,A,hA,n,hn,r,hr=>by
    rw [List.foldl_cons,fold_get q hq l _ (by rw [putS_len]; exact hA) n hn r hr]
    have hset:∀ (k j:Nat),k < 180→(A.set k s).getD j zS=if j=k then s else A.getD j zS:=fun k j hk=>by
      rw [List.getD_eq_getElem?_getD,List.getElem?_set]
      by_cases hj:k=j
      · rw [if_pos hj,if_pos (by omega),if_pos hj.symm]; rfl
      rw [if_neg hj,if_neg (fun h=>hj h.symm),← List.getD_eq_getElem?_getD]
    by_cases hw:ln (q:Int) s=true
    · have hno:=whole_no hw
      by_cases he:eqSp (A.getD (s.no.toNat * 3+q) zS) zS=true
      · have hp:oq q A s=A.set (s.no.toNat * 3+q) s:=by unfold oq; rw [if_pos hw,if_pos he]
        rw [hp,hset _ _ (by omega)]
        have he':=(eqSp_iff _ _).1 he
        by_cases hk:n * 3+r=s.no.toNat * 3+q
        · have h1:r=q:=by omega
          have h2:s.no=(n:Int):=by omega
          rw [if_pos hk,if_neg (fun h=>whole_ne hw h.2),if_pos ⟨h1,by rw [hk]; exact he'⟩]
          simp [gQ,oz,h2,hw]
        have h3:r=q→s.no≠(n:Int):=fun h1 h2=>hk (by omega)
        rw [if_neg hk]
        by_cases h:r=q∧A.getD (n * 3+r) zS=zS
        · rw [if_pos h,if_pos h]
          simp [gQ,oz,h3 h.1]
        rw [if_neg h,if_neg h]
      have hp:oq q A s=A:=by unfold oq; rw [if_pos hw,if_neg he]
      rw [hp]
      by_cases h:r=q∧A.getD (n * 3+r) zS=zS
      · have h2:s.no≠(n:Int):=fun h2=>he ((eqSp_iff _ _).2 (by rw [show s.no.toNat * 3+q=n * 3+r by omega]; exact h.2))
        rw [if_pos h,if_pos h]
        simp [gQ,oz,h2]
      rw [if_neg h,if_neg h]
    have hp:oq q A s=A:=by unfold oq; rw [if_neg hw]
    rw [hp]
    have:gQ (q:Int) (s :: l) (n:Int)=gQ (q:Int) l (n:Int):=by simp [gQ,oz,hw]
    rw [this]
theorem allF_get (a b c:List Sp3) {n:Nat} (hn:n < 60):(allF a b c)[n * 3+0]?=some (gQ 0 a n)∧(allF a b c)[n * 3+1]?=some (gQ 1 b n)∧(allF a b c)[n * 3+2]?=some (gQ 2 c n):=by
  have hl:=allF_len a b c
  have hr:∀ j,A0.getD j zS=zS:=fun j=>by
    unfold A0
    rw [List.getD_eq_getElem?_getD]
    by_cases h:j < 180
    · rw [List.getElem?_replicate,if_pos h]; rfl
    rw [List.getElem?_replicate,if_neg h]; rfl
  have g:∀ r,r < 3→(allF a b c)[n * 3+r]?=some ((allF a b c).getD (n * 3+r) zS):=fun r hr=>by
    rw [List.getD_eq_getElem?_getD,List.getElem?_eq_getElem (by omega)]; rfl
  rw [g 0 (by decide),g 1 (by decide),g 2 (by decide)]
  unfold allF
  have f2:=fun r h=>fold_get 2 (by decide) c (b.foldl (oq 1) (a.foldl (oq 0) A0)) (by simp only [ou,A0_len]) n hn r h
  have f1:=fun r h=>fold_get 1 (by decide) b (a.foldl (oq 0) A0) (by simp only [ou,A0_len]) n hn r h
  have f0:=fun r h=>fold_get 0 (by decide) a A0 A0_len n hn r h
  refine ⟨?_,?_,?_⟩
  · rw [f2 0 (by decide),if_neg (fun h=>absurd h.1 (by decide)),f1 0 (by decide),if_neg (fun h=>absurd h.1 (by decide)),f0 0 (by decide),if_pos ⟨rfl,hr _⟩]; rfl
  · rw [f2 1 (by decide),if_neg (fun h=>absurd h.1 (by decide)),f1 1 (by decide),if_pos ⟨rfl,by rw [f0 1 (by decide),if_neg (fun h=>absurd h.1 (by decide))]; exact hr _⟩]; rfl
  rw [f2 2 (by decide),if_pos ⟨rfl,by rw [f1 2 (by decide),if_neg (fun h=>absurd h.1 (by decide)),f0 2 (by decide),if_neg (fun h=>absurd h.1 (by decide))]; exact hr _⟩]; rfl
end Go.K
end
section
namespace Go.K
open Go.RowKit
def decR (t:Str):Option Rc:=match F15 1000 t with | some (a,b,c,d,e,f,g,h,i)=>if i=0 then some ⟨a,b,c,d,e,f,g,h⟩ else none | none=>none
def outR (o:Option Rc):Int × Int × Int × Int × Int × Int × Int × Str × Int:=match o with | some r=>okv r | none=>badv
theorem okv_inj {r s:Rc} (h:okv r=okv s):r=s:=by
  cases r; cases s; simpa [okv] using h
theorem txtS_inj {r s:Rc} (hr:vRc r=true) (hs:vRc s=true) (h:my r=my s):r=s:=by
  have h1:=F15_ok r hr 1000 (by decide)
  have h2:=F15_ok s hs 1000 (by decide)
  rw [h,h2] at h1
  exact okv_inj (Option.some.inj h1).symm
theorem decR_some {t:Str} (ht:t.length≤281474976710656) {r:Rc}:decR t=some r↔vRc r=true∧my r=t:=by
  obtain ⟨res,h2,h3⟩:=F15_all t 1000 (by omega) ht
  unfold decR
  rw [h2]
  constructor
  · intro h
    rcases h3 with rfl | ⟨s,hs,e,rfl⟩
    · simp [badv] at h
    simp only [okv,if_pos] at h
    have:s=r:=Option.some.inj h
    subst this; exact ⟨hs,e⟩
  rintro ⟨hr,e⟩
  rcases h3 with rfl | ⟨s,hs,e',rfl⟩
  · have:=F15_ok r hr 1000 (by omega)
    rw [e,h2] at this
    exact absurd (Option.some.inj this).symm (okv_bad r)
  obtain rfl:=txtS_inj hs hr (e'.trans e.symm)
  rfl
theorem dec_out (t:Str) {N:Nat} (hN:200≤N) (ht:t.length≤281474976710656):F15 N t=some (outR (decR t)):=by
  obtain ⟨res,e1,h3⟩:=F15_all t N (by omega) ht
  rw [e1]
  rcases h3 with rfl | ⟨s,hs,e',rfl⟩
  · have:decR t=none:=by
      cases h:decR t with
      | none=>rfl
      | some r =>
        obtain ⟨hr,e⟩:=(decR_some ht).1 h
        have:=F15_ok r hr N hN
        rw [e,e1] at this
        exact absurd (Option.some.inj this).symm (okv_bad r)
    rw [this]; rfl
  rw [(decR_some ht).2 ⟨hs,e'⟩]; rfl
theorem dec_out16 (t:Str) {N:Nat} (hN:200≤N) (ht:t.length≤281474976710656) (h2:t.length < N):F16 N t=some (outR (decR t)):=by
  obtain ⟨res,e1,e2,_⟩:=F15_F16 t N hN ht h2
  rw [e2,← dec_out t hN ht,e1]
def mendT (x y z:Sp3):Str:=if ow 0 1 x y=true then mendS 0 1 x y else if ow 0 2 x z=true then mendS 0 2 x z else if ow 1 2 y z=true then mendS 1 2 y z else []
theorem mendS_len {p q:Int} (hpq:¬ q < p) {s t:Sp3} (h:ln p s=true):(mendS p q s t).length≤240:=by
  obtain ⟨h1,h2,_,_⟩:=whole_facts h
  unfold mendS
  rw [if_neg hpq,strOf_len,List.length_take]; omega
theorem match_facts {p q:Int} {s t:Sp3} (h:ow p q s t=true):ln p s=true∧ln q t=true∧s.no=t.no∧s.sz=t.sz:=by
  simpa [ow,and_assoc] using h
theorem mendT_len (x y z:Sp3):(mendT x y z).length≤240:=by
  unfold mendT
  split
  · rename_i h; exact mendS_len (by decide) (match_facts h).1
  split
  · rename_i h; exact mendS_len (by decide) (match_facts h).1
  split
  · rename_i h; exact mendS_len (by decide) (match_facts h).1
  simp
theorem F113_eq (x y z:Sp3) {N:Nat} (hN:2000≤N):F113 N x.no x.sz x.t y.no y.sz y.t z.no z.sz z.t=some (mendT x y z):=by
  obtain ⟨k,rfl⟩:∃ k,N=k+1001:=⟨N - 1001,by omega⟩
  have h:=fun (p q:Int) (hp:inB p 0 2=true∧inB q 0 2=true∧p≠q) (s t:Sp3)=>(F22_F23 p q s t k).trans ((F23_eq p q s t k).trans (by rw [if_pos hp]))
  rw [F113]
  show bp (F22 (k+1001) 0 x 1 y) _=_
  rw [h 0 1 (by decide),ba]
  unfold mendT
  by_cases h1:ow 0 1 x y=true
  · rw [if_pos h1,if_pos h1,if_pos rfl]
  rw [if_neg h1,if_neg h1,if_neg (by decide)]
  show bp (F22 (k+1001) 0 x 2 z) _=_
  rw [h 0 2 (by decide),ba]
  by_cases h2:ow 0 2 x z=true
  · rw [if_pos h2,if_pos h2,if_pos rfl]
  rw [if_neg h2,if_neg h2,if_neg (by decide),F113j1]
  show bp (F22 (k+1001) 1 y 2 z) _=_
  rw [h 1 2 (by decide),ba]
  by_cases h3:ow 1 2 y z=true
  · rw [if_pos h3,if_pos h3,if_pos rfl]
  rw [if_neg h3,if_neg h3,if_neg (by decide)]
def fOut (o:Option Sp3):Int × Int × Str × Bool:=match o with | some s=>(s.no,s.sz,s.t,true) | none=>(0,0,[],false)
theorem fst_hit {q no:Int} {s:Sp3} (l:List Sp3) (h1:s.no=no) (h2:ln q s=true):oz q (s :: l) no=some s:=by simp [oz,h1,h2]
theorem fst_miss {q no:Int} {s:Sp3} (l:List Sp3) (h:s.no=no→¬ ln q s=true):oz q (s :: l) no=oz q l no:=by
  unfold oz
  rw [List.find?_cons_of_neg]
  simp only [Bool.and_eq_true,decide_eq_true_eq,not_and]
  exact h
theorem F156l_eq (l:List Sp3) (hl:l.length≤1000000000000000) (q no:Int) {N:Nat} (hN:200≤N):∀ (m i:Nat),i≤l.length→l.length - i < m→F156l1 l q no N m (i:Int)=some (fOut (oz q (l.drop i) no)):=by
  intro m
  induction m with
  | zero=>intro i _ h; omega
  | succ m ih =>
    intro i hi hm
    show F156b1 _ _ _ _ _ _=_
    rw [F156b1]
    by_cases h:i < l.length
    · have hn:F156j2 (F156l1 l q no N m) (i:Int)=some (fOut (oz q (l.drop (i+1)) no)):=by
        rw [F156j2,dr (oo (by omega) (by omega)),show ((i:Int)+1)=((i+1:Nat):Int) by omega,ih (i+1) (by omega) (by omega)]
      rw [if_pos (by omega),du (by omega),Int.toNat_natCast,List.getElem?_eq_getElem h,ba,jj h]
      by_cases h1:l[i].no=no
      · rw [if_pos h1,F94_eq _ _ hN,ba]
        by_cases h2:ln q l[i]=true
        · rw [if_pos h2,fst_hit _ h1 h2]; rfl
        rw [if_neg h2,hn,fst_miss _ fun _=>h2]
      rw [if_neg h1,hn,fst_miss _ fun h=>absurd h h1]
    rw [if_neg (by omega),List.drop_of_length_le (by omega)]; rfl
theorem F156l3_1 (l:List Sp3) (q no:Int) (N:Nat):∀ m,F156l3 l q no N m=F156l1 l q no N m:=by
  intro m
  induction m with
  | zero=>rfl
  | succ m ih=>show F156b3 _ _ _ _ (F156l3 _ _ _ _ m)=F156b1 _ _ _ _ _; rw [ih]; rfl
theorem F156l5_1 (l:List Sp3) (q no:Int) (N:Nat):∀ m,F156l5 l q no N m=F156l1 l q no N m:=by
  intro m
  induction m with
  | zero=>rfl
  | succ m ih=>show F156b5 _ _ _ _ (F156l5 _ _ _ _ m)=F156b1 _ _ _ _ _; rw [ih]; rfl
theorem F156_eq {a b c:List Sp3} (x y z:Int) (no:Int) (ha:a.length≤1000000000000000) (hb:b.length≤1000000000000000) (hc:c.length≤1000000000000000) {N:Nat} (hN:10000000000000000≤N) :
    F156 N a b c x y z 0 no=some (fOut (oz 0 a no))∧F156 N a b c x y z 1 no=some (fOut (oz 1 b no))∧F156 N a b c x y z 2 no=some (fOut (oz 2 c no)):=by
  refine ⟨?_,?_,?_⟩
  · rw [F156,if_pos rfl]; exact F156l_eq a ha 0 no (by omega) N 0 (by omega) (by omega)
  · rw [F156,if_neg (by decide),if_pos rfl,F156l3_1]; exact F156l_eq b hb 1 no (by omega) N 0 (by omega) (by omega)
  rw [F156,if_neg (by decide),if_neg (by decide),if_pos rfl,F156l5_1]; exact F156l_eq c hc 2 no (by omega) N 0 (by omega) (by omega)
theorem fst_facts {q:Int} {l:List Sp3} {no:Int} {s:Sp3} (h:oz q l no=some s):s.no=no∧ln q s=true:=by
  have:=List.find?_some h
  simpa using this
def nextR (o:Option Rc):Int × Int × Int × Int × Int × Int × Int × Str × Bool:=match o with | some r=>(r.p,r.n,r.k,r.d,r.kn,r.op,r.on,r.t,true) | none=>(0,0,0,0,0,0,0,[],false)
theorem dec_step (t:Str) {N:Nat} (hN:10000≤N) (ht:t.length≤240):(bp (F16 N t) fun (a,b,c,d,e,f,g,h,i)=>if i=0 then some (a,b,c,d,e,f,g,h,true) else some (a,b,c,d,e,f,g,h,false))=some (nextR (decR t)):=by
  rw [dec_out16 t (by omega) (by omega) (by omega),ba]
  cases decR t <;> rfl
theorem decR_nil:decR []=none:=by
  cases h:decR [] with
  | none=>rfl
  | some r =>
    obtain ⟨hr,e⟩:=(decR_some (by simp)).1 h
    have:=(txtS_bounds hr).1
    rw [e] at this; simp at this
theorem found_match {p q:Int} (hpq:(p=0∧q=1)∨(p=0∧q=2)∨(p=1∧q=2)) {l m:List Sp3} {no:Int} {s t:Sp3} (hs:oz p l no=some s) (ht:oz q m no=some t) (hz:s.sz=t.sz) (N:Nat) :
    ow p q (gQ p l no) (gQ q m no)=true∧F95 (N+1001) p q s t=some (mendS p q (gQ p l no) (gQ q m no)):=by
  obtain ⟨a1,a2⟩:=fst_facts hs
  obtain ⟨b1,b2⟩:=fst_facts ht
  have e1:gQ p l no=s:=by simp [gQ,hs]
  have e2:gQ q m no=t:=by simp [gQ,ht]
  rw [e1,e2]
  refine ⟨by simp [ow,a2,b2,a1,b1,hz],?_⟩
  rw [F95_whole p q hpq s t a2 b2 hz N,mendS,if_neg (by omega)]
theorem no_match {p q:Int} {l m:List Sp3} {no:Int} (h:∀ s t,oz p l no=some s→oz q m no=some t→s.sz≠t.sz):¬ ow p q (gQ p l no) (gQ q m no)=true:=by
  intro hm
  obtain ⟨h1,h2,h3,h4⟩:=match_facts hm
  cases e1:oz p l no with
  | none=>rw [show gQ p l no=zS by simp [gQ,e1],whole_z] at h1; cases h1
  | some s =>
    cases e2:oz q m no with
    | none=>rw [show gQ q m no=zS by simp [gQ,e2],whole_z] at h2; cases h2
    | some t =>
      rw [show gQ p l no=s by simp [gQ,e1],show gQ q m no=t by simp [gQ,e2]] at h4
      exact h s t e1 e2 h4
theorem pair_step {p q:Int} (hpq:(p=0∧q=1)∨(p=0∧q=2)∨(p=1∧q=2)) (l m:List Sp3) (no:Int) {N:Nat} (hN:10000≤N) (K:Option (Int × Int × Int × Int × Int × Int × Int × Str × Bool)) (R:Str) (hK:¬ ow p q (gQ p l no) (gQ q m no)=true→K=some (nextR (decR R))) :
    (if (fOut (oz p l no)).2.2.2=true then
      if (fOut (oz q m no)).2.2.2=true then
        if (fOut (oz p l no)).2.1=(fOut (oz q m no)).2.1 then
          bp (F95 N p q (⟨(fOut (oz p l no)).1,(fOut (oz p l no)).2.1,(fOut (oz p l no)).2.2.1⟩:Sp3) (⟨(fOut (oz q m no)).1,(fOut (oz q m no)).2.1,(fOut (oz q m no)).2.2.1⟩:Sp3)) fun y =>
          bp (F16 N y) fun (a,b,c,d,e,f,g,h,i)=>if i=0 then some (a,b,c,d,e,f,g,h,true) else some (a,b,c,d,e,f,g,h,false)
        else K
      else K
    else if (fOut (oz q m no)).2.2.2=true then K else K)=some (nextR (decR (if ow p q (gQ p l no) (gQ q m no)=true then mendS p q (gQ p l no) (gQ q m no) else R))):=by
  obtain ⟨k,rfl⟩:∃ k,N=k+1001:=⟨N - 1001,by omega⟩
  have out:¬ ow p q (gQ p l no) (gQ q m no)=true→K=some (nextR (decR (if ow p q (gQ p l no) (gQ q m no)=true then mendS p q (gQ p l no) (gQ q m no) else R))):=fun h=>by rw [if_neg h]; exact hK h
  cases e1:oz p l no with
  | none =>
    have h:¬ ow p q (gQ p l no) (gQ q m no)=true:=no_match fun s t hs _=>by rw [e1] at hs; cases hs
    rw [if_neg (by simp [fOut]),ite_self]; exact out h
  | some s =>
    cases e2:oz q m no with
    | none =>
      have h:¬ ow p q (gQ p l no) (gQ q m no)=true:=no_match fun s t _ ht=>by rw [e2] at ht; cases ht
      rw [if_pos (show (fOut (some s)).2.2.2=true from rfl),if_neg (by simp [fOut])]; exact out h
    | some t =>
      rw [if_pos (show (fOut (some s)).2.2.2=true from rfl),if_pos (show (fOut (some t)).2.2.2=true from rfl)]
      by_cases hz:s.sz=t.sz
      · obtain ⟨h1,h2⟩:=found_match hpq e1 e2 hz k
        rw [if_pos (show (fOut (some s)).2.1=(fOut (some t)).2.1 from hz)]
        show bp (F95 (k+1001) p q s t) _=_
        rw [h2,ba,if_pos h1]
        exact dec_step _ hN (mendS_len (by omega) (match_facts h1).1)
      have h:¬ ow p q (gQ p l no) (gQ q m no)=true:=no_match fun s' t' hs ht=>by rw [e1] at hs; rw [e2] at ht; cases hs; cases ht; exact hz
      rw [if_neg (show ¬ (fOut (some s)).2.1=(fOut (some t)).2.1 from hz)]; exact out h
theorem F115_eq {a b c:List Sp3} (x y z no:Int) (ha:a.length≤1000000000000000) (hb:b.length≤1000000000000000) (hc:c.length≤1000000000000000) {N:Nat} (hN:10000000000000000≤N) :
    F115 N a b c x y z no=some (nextR (decR (mendT (gQ 0 a no) (gQ 1 b no) (gQ 2 c no)))):=by
  obtain ⟨e0,e1,e2⟩:=F156_eq (a:=a) (b:=b) (c:=c) x y z no ha hb hc hN
  unfold mendT
  rw [F115,e0,ba,e1,ba]
  refine pair_step (.inl ⟨rfl,rfl⟩) a b no (by omega) _ _ fun h1=>?_
  rw [F115j5,F115j2,e0,ba,e2,ba]
  refine pair_step (.inr (.inl ⟨rfl,rfl⟩)) a c no (by omega) _ _ fun h2=>?_
  rw [F115j4,F115j3,F115j1,e1,ba,e2,ba]
  refine pair_step (.inr (.inr ⟨rfl,rfl⟩)) b c no (by omega) _ _ fun h3=>?_
  rw [decR_nil]; rfl
def openG (f:Nat→Option Rc):Nat→List Rc→List Rc
  | 0,l=>l
  | m+1,l=>match f l.length with | some r=>if logB (l++[r])=true then openG f m (l++[r]) else l | none=>l
def foundR (a b c:List Sp3) (n:Nat):Option Rc:=decR (mendT (gQ 0 a n) (gQ 1 b n) (gQ 2 c n))
def pd (a b c:List Sp3):List Rc:=openG (foundR a b c) 60 []
theorem logR_app:∀ (a done:List Rc) (x:Rc),logR done (a++[x])=(logR done a && (decide (((done++a).length:Int) < 60) && vRc x && decide (x.n=cnt (done++a) x.p)))
  | [],done,x=>by simp [logR]
  | y :: a,done,x=>by
    show logR done (y :: (a++[x]))=_
    simp only [logR]
    rw [logR_app a (done++[y]) x,show done++[y]++a=done++y :: a by simp]
    simp only [Bool.and_assoc]
theorem logB_app (a:List Rc) (x:Rc):logB (a++[x])=(logB a && (decide ((a.length:Int) < 60) && vRc x && decide (x.n=cnt a x.p))):=logR_app a [] x
theorem openG_log (f:Nat→Option Rc):∀ (m:Nat) (l:List Rc),logB l=true→logB (openG f m l)=true
  | 0,l,h=>h
  | m+1,l,h=>by
    unfold openG
    split
    · split
      · rename_i h2; exact openG_log f m _ h2
      exact h
    exact h
theorem F40j1_eq {l:List Rc} (h:logB l=true) {N:Nat} (hN:1000≤N):F40j1 N l=some (ot 0 0 l,ot 1 0 l,ot 2 0 l,(l.length:Int),(l.length:Int),(l.length:Int),l):=by
  have hl:=np h
  have hc:=fun q=>colQ_len q l 0
  rw [F40j1,F114_eq hl (logR_v l [] h) hN,ba,F43_eq _ _ _ (by rw [hc]; omega) (by rw [hc]; omega) (by rw [hc]; omega),ba,hc,hc,hc]
theorem F41j1_eq {l:List Rc} (h:logB l=true) {N:Nat} (hN:1000≤N):F41j1 N l=some (ot 0 0 l,ot 1 0 l,ot 2 0 l,(l.length:Int),(l.length:Int),(l.length:Int),l):=by
  rw [F41j1,F117_eq (np h) (logR_v l [] h) hN,ba]
theorem F40l_eq (a b c:List Sp3) {N:Nat} (hN:10000000000000000≤N):∀ (k m:Nat) (l:List Rc),logB l=true→l.length+k=60→k < m →
    F40l2 N (allF a b c) m l (l.length:Int)=F40j1 N (openG (foundR a b c) k l):=by
  intro k
  induction k with
  | zero =>
    intro m l hl hk hm
    obtain ⟨m,rfl⟩:∃ j,m=j+1:=⟨m - 1,by omega⟩
    show F40b2 _ _ _ _ _=_
    rw [F40b2,if_neg (by omega)]; rfl
  | succ k ih =>
    intro m l hl hk hm
    obtain ⟨m,rfl⟩:∃ j,m=j+1:=⟨m - 1,by omega⟩
    show F40b2 _ _ _ _ _=_
    obtain ⟨g0,g1,g2⟩:=allF_get a b c (n:=l.length) (by omega)
    have ht:=mendT_len (gQ 0 a l.length) (gQ 1 b l.length) (gQ 2 c l.length)
    rw [F40b2,if_pos (by omega),du (by omega),Int.toNat_natCast,du (by omega),g0,ba,g1,ba,g2,ba,F113_eq _ _ _ (by omega),ba,dec_out _ (by omega) (by omega),ba]
    unfold openG
    rw [show foundR a b c l.length=decR (mendT (gQ 0 a l.length) (gQ 1 b l.length) (gQ 2 c l.length)) from rfl]
    cases decR (mendT (gQ 0 a l.length) (gQ 1 b l.length) (gQ 2 c l.length)) with
    | none=>rfl
    | some r =>
      show (if (0:Int)=0 then _ else _)=_
      rw [if_pos rfl,du (by omega)]
      show bp (F96 N (l++[r])) _=_
      rw [F96_eq _ (by omega),ba]
      by_cases h:logB (l++[r])=true
      · rw [if_pos h,dr (pi (by omega) (by omega))]
        have:=ih m (l++[r]) h (by simp; omega) (by omega)
        rw [show ((l++[r]).length:Int)=(l.length:Int)+1 by simp] at this
        refine this.trans ?_
        simp only [h,if_true]
      rw [if_neg h]
      simp only [h,if_false]
      rfl
theorem F41l_eq (a b c:List Sp3) (x y z:Int) (ha:a.length≤1000000000000000) (hb:b.length≤1000000000000000) (hc:c.length≤1000000000000000) {N:Nat} (hN:10000000000000000≤N):∀ (k m:Nat) (l:List Rc),logB l=true→l.length+k=60→k < m →
    F41l2 a b c x y z N m l (l.length:Int)=F41j1 N (openG (foundR a b c) k l):=by
  intro k
  induction k with
  | zero =>
    intro m l hl hk hm
    obtain ⟨m,rfl⟩:∃ j,m=j+1:=⟨m - 1,by omega⟩
    show F41b2 _ _ _ _ _ _ _ _ _ _=_
    rw [F41b2,if_neg (by omega)]; rfl
  | succ k ih =>
    intro m l hl hk hm
    obtain ⟨m,rfl⟩:∃ j,m=j+1:=⟨m - 1,by omega⟩
    show F41b2 _ _ _ _ _ _ _ _ _ _=_
    rw [F41b2,if_pos (by omega),F115_eq x y z _ ha hb hc hN,ba]
    unfold openG
    rw [show foundR a b c l.length=decR (mendT (gQ 0 a l.length) (gQ 1 b l.length) (gQ 2 c l.length)) from rfl]
    cases decR (mendT (gQ 0 a l.length) (gQ 1 b l.length) (gQ 2 c l.length)) with
    | none=>rfl
    | some r =>
      show (if true=true then _ else _)=_
      rw [if_pos rfl]
      show bp (F116 N l r) _=_
      rw [F116_eq l (by omega) r (by omega),ba]
      have hb:=logB_app l r
      rw [hl,Bool.true_and] at hb
      rw [← hb]
      by_cases h:logB (l++[r])=true
      · rw [if_pos h,du (by omega),dr (pi (by omega) (by omega))]
        have:=ih m (l++[r]) h (by simp; omega) (by omega)
        rw [show ((l++[r]).length:Int)=(l.length:Int)+1 by simp] at this
        refine this.trans ?_
        simp only [h,if_true]
      rw [if_neg h]
      simp only [h,if_false]
      rfl
def openV (l:List Rc):List Sp3 × List Sp3 × List Sp3 × Int × Int × Int × List Rc:=(ot 0 0 l,ot 1 0 l,ot 2 0 l,(l.length:Int),(l.length:Int),(l.length:Int),l)
theorem openL_log (a b c:List Sp3):logB (pd a b c)=true:=openG_log _ 60 [] rfl
theorem F40_eq {a b c:List Sp3} (x y z:Int) (ha:a.length≤1000000000000000) (hb:b.length≤1000000000000000) (hc:c.length≤1000000000000000) {N:Nat} (hN:10000000000000000≤N):F40 N a b c x y z=some (openV (pd a b c)):=by
  rw [F40,F112_eq x y z ha hb hc hN,ba]
  exact (F40l_eq a b c hN 60 N [] rfl rfl (by omega)).trans (F40j1_eq (openL_log a b c) (by omega))
theorem F41_eq {a b c:List Sp3} (x y z:Int) (ha:a.length≤1000000000000000) (hb:b.length≤1000000000000000) (hc:c.length≤1000000000000000) {N:Nat} (hN:10000000000000000≤N):F41 N a b c x y z=some (openV (pd a b c)):=by
  rw [F41]
  exact (F41l_eq a b c x y z ha hb hc hN 60 N [] rfl rfl (by omega)).trans (F41j1_eq (openL_log a b c) (by omega))
end Go.K
end
section
namespace Go.K
open Go.RowKit
def blkN (a:List Rc) (v:Int):List Rc:=a.reverse.filter fun x=>decide (x.n=v)
def preN (a:List Rc):Nat→List Rc
  | 0=>[]
  | k+1=>preN a k++blkN a k
end Go.K
end
section
namespace Go.K
open Go.RowKit
theorem srt_book {l:List Rc} (h:logB l=true):bookP (po l):=by
  have hls:=srt_less (logB_dis h)
  have hm:∀ z,z∈po l↔z∈l:=fun z=>(oh l).mem_iff
  refine ⟨log_of (by rw [srtRc_len]; exact np h) (fun y hy=>logR_v l [] h y ((hm y).1 hy)) (less_ord hls) (fun x hx k hk=>?_),pw_adjP hls⟩
  obtain ⟨y,hy,e⟩:=logB_closed h x ((hm x).1 hx) k hk
  exact ⟨y,(hm y).2 hy,e⟩
def addsR (l:List Rc) (x:Rc):Bool × Int :=
  if vRc x=true then (match pl l x.p x.n with | some y=>if eqRc y x=true then (true,0) else (false,82) | none=>if cnt l x.p < x.n then (false,83) else if (l.length:Int)=60 then (false,2) else (false,0)) else (false,80)
theorem F103_eq (l:List Rc) (hl:l.length≤60) (x:Rc) {N:Nat} (hN:161≤N):F103 N l x=some (addsR l x):=by
  unfold addsR
  rw [F103,F18_eq x hN,ba]
  by_cases hv:vRc x=true
  · rw [if_pos hv,if_pos hv,if_pos rfl]
    rcases F105_eq l (by omega) ⟨x.p,x.n⟩ (N:=N) (by omega) with ⟨j,y,e1,e2,e3⟩ | ⟨e1,e3⟩
    · replace e3:pl l x.p x.n=some y:=e3
      rw [e1,e3,ba,if_pos (show (0:Int)≤(j:Int) by omega),Int.toNat_natCast,e2,ba,eqRc_fold]
      by_cases he:eqRc y x=true
      · rw [if_pos he,F103j1,if_pos (show (0:Int)≤(j:Int) by omega)]; simp only [he,if_true]
      rw [if_neg he]; simp only [he,if_false]; rfl
    replace e3:pl l x.p x.n=none:=e3
    rw [e1,e3,ba,if_neg (show ¬ (0:Int)≤-1 by decide),F103j1,if_neg (show ¬ (0:Int)≤-1 by decide),F132_eq l (by omega) x.p (by omega),ba]
    dsimp only
    by_cases h1:cnt l x.p < x.n
    · rw [if_pos h1,if_pos h1]
    rw [if_neg h1,if_neg h1]
    by_cases h2:(l.length:Int)=60
    · rw [if_pos h2,if_pos h2]
    rw [if_neg h2,if_neg h2]
  rw [if_neg hv,if_neg hv,if_neg (by decide)]
theorem F29_code {l:List Rc} (hb:bookP l) (x:Rc) {N:Nat} (hN:161≤N):∃ v,F29 N l x=some v∧v.2=(addsR l x).2:=by
  have hl:=np hb.1
  unfold addsR
  rw [F29,F36_ok hb hN,ba,F17_eq x hN,ba,F86_eq _ (by simp) (by simp; omega),ba]
  by_cases hv:vRc x=true
  · rw [if_pos hv,if_pos hv,show firstN [0,0]=0 from rfl,if_pos rfl,F100_eq l (by omega) x (by omega),ba]
    cases e3:pl l x.p x.n with
    | some y =>
      dsimp only
      rcases Bool.eq_false_or_eq_true (eqRc y x) with he | he
      · simp only [he,if_true]
        rw [F97_eq l (by omega) (logB_dis hb.1),ba]; exact ⟨_,rfl,rfl⟩
      simp only [he,Bool.false_eq_true,if_false]
      rw [F101_eq l (by omega) x.p (by omega),ba]
      refine ⟨([],82),?_,rfl⟩
      by_cases h1:x.n≤cnt l x.p <;> by_cases h2:(l.length:Int) < 60 <;>
        simp [h1,h2,F78,ba,F29j1,F29j2] <;> rw [F86_eq _ (by simp) (by simp; omega),ba] <;> simp [firstN]
    | none =>
      dsimp only
      simp only [Bool.false_eq_true,if_false]
      rw [F101_eq l (by omega) x.p (by omega),ba]
      by_cases h1:x.n≤cnt l x.p
      · rw [if_pos h1,if_neg (show ¬ cnt l x.p < x.n by omega)]
        by_cases h2:(l.length:Int) < 60
        · have hd:(l++[x]).Pairwise nw:=by
            rw [List.pairwise_append]
            refine ⟨logB_dis hb.1,by simp,fun a ha b hbm=>?_⟩
            obtain rfl:=List.mem_singleton.1 hbm
            exact findRc_none e3 a ha
          simp only [F78,if_true,ba,F29j1,if_pos h2,F29j2]
          rw [F86_eq _ (by simp) (by simp; omega),ba,show firstN [0,0,0]=0 from rfl,if_pos rfl,F102,du (by omega),ba,du (by omega),if_neg (show ¬ (l.length:Int)=60 by omega)]
          show ∃ v,bp (F97 (l++[x])) _=some v∧_
          rw [F97_eq _ (by simp; omega) hd,ba]
          exact ⟨_,rfl,rfl⟩
        simp only [F78,if_true,Bool.false_eq_true,if_false,ba,F29j1,if_neg h2,F29j2]
        rw [F86_eq _ (by simp) (by simp; omega),ba,show firstN [0,0,2]=2 from rfl,if_neg (by decide),if_pos (show (l.length:Int)=60 by omega)]
        exact ⟨_,rfl,rfl⟩
      rw [if_neg h1,if_pos (show cnt l x.p < x.n by omega)]
      refine ⟨([],83),?_,rfl⟩
      by_cases h2:(l.length:Int) < 60 <;>
        simp [h2,F78,ba,F29j1,F29j2] <;> rw [F86_eq _ (by simp) (by simp; omega),ba] <;> simp [firstN]
  rw [if_neg hv,if_neg hv,show firstN [0,80]=80 from rfl,if_neg (by decide)]
  exact ⟨_,rfl,rfl⟩
theorem cnt_perm {l m:List Rc} (h:l.Perm m) (p:Int):cnt l p=cnt m p:=by
  unfold cnt; rw [(h.filter _).length_eq]
theorem find_srt {l:List Rc} (h:l.Pairwise nw) (p n:Int):pl (po l) p n=pl l p n:=by
  have hk:(po l).Pairwise nw:=(srt_less h).imp fun {a b} hab=>by unfold lessRc nw at *; omega
  cases e:pl l p n with
  | some y =>
    obtain ⟨h1,h2,h3⟩:=findRc_some e
    exact find_of hk ((oh l).mem_iff.2 h1) h2 h3
  | none =>
    have hn:=findRc_none e
    cases e2:pl (po l) p n with
    | none=>rfl
    | some y =>
      obtain ⟨h1,h2,h3⟩:=findRc_some e2
      exact absurd ⟨h2,h3⟩ (hn y ((oh l).mem_iff.1 h1))
theorem adds_srt {l:List Rc} (h:l.Pairwise nw) (x:Rc):addsR (po l) x=addsR l x:=by
  unfold addsR
  rw [find_srt h,cnt_perm (oh l),srtRc_len]
theorem F155l_eq (l:List Rc) (hl:l.length≤1000000) (x:Rc):∀ (m i:Nat),i≤l.length→l.length - i < m→∃ v:Int,F155l1 l x m (i:Int)=some v∧(0≤v↔x∈l.drop i):=by
  intro m
  induction m with
  | zero=>intro i _ h; omega
  | succ m ih =>
    intro i hi hm
    show ∃ v,F155b1 _ _ _ _=some v∧_
    rw [F155b1]
    by_cases h:i < l.length
    · rw [if_pos (by omega),du (by omega),Int.toNat_natCast,List.getElem?_eq_getElem h,ba,eqRc_fold,jj h]
      by_cases he:eqRc x l[i]=true
      · rw [if_pos he]
        exact ⟨_,rfl,by rw [← (eqRc_iff.1 he)]; simp⟩
      rw [if_neg he,dr (pi (by omega) (by omega)),show ((i:Int)+1)=((i+1:Nat):Int) by omega]
      obtain ⟨v,e1,e2⟩:=ih (i+1) (by omega) (by omega)
      refine ⟨v,e1,e2.trans ?_⟩
      have:x≠l[i]:=fun e=>he (eqRc_iff.2 e)
      simp only [List.mem_cons,this,false_or]
    rw [if_neg (by omega),List.drop_of_length_le (by omega)]
    exact ⟨_,rfl,by simp⟩
theorem F110_eq (l:List Rc) (hl:l.length≤1000000) (x:Rc) {N:Nat} (hN:l.length < N):F110 N l x=some (decide (x∈l)):=by
  obtain ⟨v,e1,e2⟩:=F155l_eq l hl x N 0 (by omega) (by omega)
  have e1:F155 N l x=some v:=e1
  rw [List.drop_zero] at e2
  rw [F110,e1,ba]
  by_cases h:0≤v
  · rw [if_pos h]; simp [e2.1 h]
  rw [if_neg h]; simp [show x ∉ l from fun h2=>h (e2.2 h2)]
theorem adds_in {l:List Rc} (h:logB l=true) {x:Rc} (h0:(addsR l x).2=0):(addsR l x).1=decide (x∈l)∧vRc x=true:=by
  unfold addsR at *
  by_cases hv:vRc x=true
  · rw [if_pos hv] at h0 ⊢
    refine ⟨?_,hv⟩
    cases e:pl l x.p x.n with
    | some y =>
      rw [e] at h0
      obtain ⟨h1,h2,h3⟩:=findRc_some e
      by_cases he:eqRc y x=true
      · simp only [he,if_true]; rw [← eqRc_iff.1 he]; simp [h1]
      simp [he] at h0
    | none =>
      rw [e] at h0
      have hn:x ∉ l:=fun hx=>findRc_none e x hx ⟨rfl,rfl⟩
      dsimp only at h0 ⊢
      split at h0
      · simp at h0
      rename_i h1; rw [if_neg h1]
      split at h0
      · simp at h0
      rename_i h2; rw [if_neg h2]; simp [hn]
  rw [if_neg hv] at h0; simp at h0
theorem F38l2_eq (l:List Rc) (x:Rc) (y:List Sp3 × List Sp3 × List Sp3 × Int × Int × Int) (s0 s1 s2:Sp3) (b0 b1 b2:List Sp3) (h0:b0.length≤1000000) (h1:b1.length≤1000000) (h2:b2.length≤1000000) (m:Nat) :
    F38l2 l x y [s0,s1,s2] (m+4) b0 b1 b2 0=F38j1 l x y (b0++[s0]) (b1++[s1]) (b2++[s2]):=by
  have hlen:(([s0,s1,s2]:List Sp3).length:Int)=3:=rfl
  show F38b2 _ _ _ _ _ _ _ _ _=_
  rw [F38b2,hlen,if_pos (by decide),du (by decide),show ([s0,s1,s2]:List Sp3)[(0:Int).toNat]?=some s0 from rfl,ba,if_pos rfl,du (by omega),F38j3,dr (pi (by decide) (by decide))]
  show F38b2 _ _ _ _ _ _ _ _ 1=_
  rw [F38b2,hlen,if_pos (by decide),du (by decide),show ([s0,s1,s2]:List Sp3)[(1:Int).toNat]?=some s1 from rfl,ba,if_neg (by decide),if_pos rfl,du (by omega),F38j3,dr (pi (by decide) (by decide))]
  show F38b2 _ _ _ _ _ _ _ _ 2=_
  rw [F38b2,hlen,if_pos (by decide),du (by decide),show ([s0,s1,s2]:List Sp3)[(2:Int).toNat]?=some s2 from rfl,ba,if_neg (by decide),if_neg (by decide),if_pos rfl,du (by omega),F38j3,dr (pi (by decide) (by decide))]
  show F38b2 _ _ _ _ _ _ _ _ 3=_
  rw [F38b2,hlen,if_neg (by decide)]
def writeR (a b c:List Sp3) (x y z:Int) (l:List Rc) (r:Rc):List Sp3 × List Sp3 × List Sp3 × Int × Int × Int × List Rc × Int :=
  if boundP a b c x y z l then if (addsR l r).2=0 then if r∈l then (a,b,c,x,y,z,l,0)
    else (a++[mz 0 (l.length:Int) (my r)],b++[mz 1 (l.length:Int) (my r)],c++[mz 2 (l.length:Int) (my r)],x,y,z,l++[r],0)
  else ([],[],[],0,0,0,[],(addsR l r).2) else ([],[],[],0,0,0,[],85)
theorem F38_eq {a b c:List Sp3} (x y z:Int) (l:List Rc) (r:Rc) (ha:a.length≤1000000000000000) (hb:b.length≤1000000000000000) (hc:c.length≤1000000000000000) {N:Nat} (hN:10000000000000000≤N) :
    F38 N a b c x y z l r=some (writeR a b c x y z l r):=by
  unfold writeR
  rw [F38,F47_eq x y z l ha hb hc hN,ba]
  by_cases h:boundP a b c x y z l
  · have hl:=np h.1
    have hq:=fun q=>colQ_len q l 0
    have la:a.length≤60:=by rw [h.2.1.1,hq]; exact hl
    have lb:b.length≤60:=by rw [h.2.2.1.1,hq]; exact hl
    have lc:c.length≤60:=by rw [h.2.2.2.1,hq]; exact hl
    obtain ⟨v,e1,e2⟩:=F29_code (srt_book h.1) r (N:=N) (by omega)
    rw [adds_srt (logB_dis h.1)] at e2
    rw [if_pos h,if_pos h,if_pos rfl,F97_eq l (by omega) (logB_dis h.1),ba,e1,ba,e2]
    by_cases h0:(addsR l r).2=0
    · obtain ⟨i1,i2⟩:=adds_in h.1 h0
      rw [if_pos h0,if_pos h0,F109_eq x y z (by omega) (by omega) (by omega),ba,F110_eq l (by omega) r (by omega),ba]
      by_cases hi:r∈l
      · rw [if_pos (by simpa using hi),if_pos hi,F102,du (by omega),ba]
      obtain ⟨k,rfl⟩:∃ k,N=k+400:=⟨N - 400,by omega⟩
      rw [if_neg (by simpa using hi),if_neg hi,F88_eq r _ i2,ba]
      show F38l2 _ _ _ [mz 0 _ _,mz 1 _ _,mz 2 _ _] (k+396+4) a b c 0=_
      rw [F38l2_eq _ _ _ _ _ _ _ _ _ (by omega) (by omega) (by omega),F38j1,F102,du (by omega),ba,du (by omega)]
    rw [if_neg h0,if_neg h0]
  rw [if_neg h,if_neg h,if_neg (by decide)]
def writeS (a b c:List Sp3) (x y z:Int) (l:List Rc) (r:Rc):(Int × Int × Int × Int) ⊕ ((Int × Int × Int × Int) ⊕ (List Sp3 × List Sp3 × List Sp3 × Int × Int × Int × List Rc × Int)) :=
  if boundP a b c x y z l then if (addsR l r).2=0 then if r∈l then .inr (.inl (x,y,z,0)) else .inr (.inr (writeR a b c x y z l r)) else .inl (0,0,0,(addsR l r).2) else .inl (0,0,0,85)
theorem F39_eq {a b c:List Sp3} (x y z:Int) (l:List Rc) (r:Rc) (ha:a.length≤1000000000000000) (hb:b.length≤1000000000000000) (hc:c.length≤1000000000000000) {N:Nat} (hN:10000000000000000≤N) :
    F39 N a b c x y z l r=some (writeS a b c x y z l r):=by
  unfold writeS
  rw [F39,F48_eq x y z l ha hb hc hN,ba]
  by_cases h:boundP a b c x y z l
  · have hl:=np h.1
    have hq:=fun q=>colQ_len q l 0
    have la:a.length≤60:=by rw [h.2.1.1,hq]; exact hl
    have lb:b.length≤60:=by rw [h.2.2.1.1,hq]; exact hl
    have lc:c.length≤60:=by rw [h.2.2.2.1,hq]; exact hl
    rw [if_pos h,if_pos h,if_pos rfl,F103_eq l hl r (by omega),ba]
    by_cases h0:(addsR l r).2=0
    · obtain ⟨i1,i2⟩:=adds_in h.1 h0
      rw [if_pos h0,if_pos h0,i1]
      by_cases hi:r∈l
      · rw [if_pos (by simpa using hi),if_pos hi]
      obtain ⟨k,rfl⟩:∃ k,N=k+400:=⟨N - 400,by omega⟩
      rw [if_neg (by simpa using hi),if_neg hi,F89_eq r _ i2,ba,du (by omega)]
      unfold writeR
      rw [if_pos h,if_pos h0,if_neg hi]
      show bp (some (mz 0 _ _)) _=_
      rw [ba,du (by omega),du (by omega)]
      show bp (some (mz 1 _ _)) _=_
      rw [ba,du (by omega),du (by omega)]
      show bp (some (mz 2 _ _)) _=_
      rw [ba,du (by omega),F39j1,du (by omega),du (by omega)]
    rw [if_neg h0,if_neg h0]
  rw [if_neg h,if_neg h,if_neg (by decide)]
theorem F6_true (a b c:List Sp3) (x y z:Int) (l:List Rc) (r0 r1 r2 r3 r4 r5 r6:Int) (r7:Str) (p:List Int) (ha:a.length≤4398046511104) (hb:b.length≤4398046511104) (hc:c.length≤4398046511104) (hp:p.length≤100000000000000000) (ta:∀ s∈a,(s.t.length:Int)≤1000000000000000) (tb:∀ s∈b,(s.t.length:Int)≤1000000000000000) (tc:∀ s∈c,(s.t.length:Int)≤1000000000000000) :
    F6 10000000000000000 a b c x y z l r0 r1 r2 r3 r4 r5 r6 r7 p=some true:=by
  generalize hN:(10000000000000000:Nat)=N
  have hN:10000000000000000≤N:=by omega
  have t38:=F38_eq x y z l ⟨r0,r1,r2,r3,r4,r5,r6,r7⟩ (a:=a) (b:=b) (c:=c) (by omega) (by omega) (by omega) hN
  have t39:=F39_eq x y z l ⟨r0,r1,r2,r3,r4,r5,r6,r7⟩ (a:=a) (b:=b) (c:=c) (by omega) (by omega) (by omega) hN
  have t40:=F40_eq x y z (a:=a) (b:=b) (c:=c) (by omega) (by omega) (by omega) hN
  have t41:=F41_eq x y z (a:=a) (b:=b) (c:=c) (by omega) (by omega) (by omega) hN
  have t43:=F43_eq x y z ha hb hc
  have t45:=F45_eq x y z p ha hb hc ta tb tc hN
  have t46:=F46_eq x y z p ha hb hc hp ta tb tc hN
  have t47:=F47_eq x y z l (a:=a) (b:=b) (c:=c) (by omega) (by omega) (by omega) hN
  have t48:=F48_eq x y z l (a:=a) (b:=b) (c:=c) (by omega) (by omega) (by omega) hN
  rw [F6]
  generalize (⟨r0,r1,r2,r3,r4,r5,r6,r7⟩:Rc)=r at t38 t39 ⊢
  have hol:=np (openL_log a b c)
  have cl:=fun q=>colQ_len q (pd a b c) 0
  have u42:F42 N (openV (pd a b c)).1 (openV (pd a b c)).2.1 (openV (pd a b c)).2.2.1 (openV (pd a b c)).2.2.2.1 (openV (pd a b c)).2.2.2.2.1 (openV (pd a b c)).2.2.2.2.2.1 (openV (pd a b c)).1 (openV (pd a b c)).2.1 (openV (pd a b c)).2.2.1 (openV (pd a b c)).2.2.2.1 (openV (pd a b c)).2.2.2.2.1 (openV (pd a b c)).2.2.2.2.2.1=some true :=
    F42_self _ _ _ _ _ _ (by show (ot 0 0 _).length≤_; rw [cl]; omega) (by show (ot 1 0 _).length≤_; rw [cl]; omega) (by show (ot 2 0 _).length≤_; rw [cl]; omega) hN
  have u35:F35 N (openV (pd a b c)).2.2.2.2.2.2 (openV (pd a b c)).2.2.2.2.2.2=some true:=F35_self _ (by show (pd a b c).length≤_; omega) (by show (pd a b c).length < _; omega)
  have u43:F42 N a b c (a.length:Int) (b.length:Int) (c.length:Int) a b c (a.length:Int) (b.length:Int) (c.length:Int)=some true:=F42_self _ _ _ _ _ _ (by omega) (by omega) (by omega) hN
  have u45:F42 N (tearR a b c x y z p).1 (tearR a b c x y z p).2.1 (tearR a b c x y z p).2.2.1 (tearR a b c x y z p).2.2.2.1 (tearR a b c x y z p).2.2.2.2.1 (tearR a b c x y z p).2.2.2.2.2 (tearR a b c x y z p).1 (tearR a b c x y z p).2.1 (tearR a b c x y z p).2.2.1 (tearR a b c x y z p).2.2.2.1 (tearR a b c x y z p).2.2.2.2.1 (tearR a b c x y z p).2.2.2.2.2=some true :=
    F42_self _ _ _ _ _ _ (by have:=partQ_len 0 (ov (om p 0) 4) p 1 a x; show (partQ _ _ _ _ _ _).length≤_; omega) (by have:=partQ_len 1 (ov (om p 0) 4) p (ol 1 a x) b y; show (partQ _ _ _ _ _ _).length≤_; omega) (by have:=partQ_len 2 (ov (om p 0) 4) p (ol (ol 1 a x) b y) c z; show (partQ _ _ _ _ _ _).length≤_; omega) hN
  have tail:∀ (w:Option Bool) (v:Option Bool) (q:Prop) [Decidable q],w=some true→v=some true→q →
      (bp (F40 N a b c x y z) fun y1=>bp (F41 N a b c x y z) fun y2=>bp w fun y3=>if y3=true then bp v fun y4=>if y4=true then if q then
        bp (F42 N y1.1 y1.2.1 y1.2.2.1 y1.2.2.2.1 y1.2.2.2.2.1 y1.2.2.2.2.2.1 y2.1 y2.2.1 y2.2.2.1 y2.2.2.2.1 y2.2.2.2.2.1 y2.2.2.2.2.2.1) fun y5=>if y5=true then bp (F35 N y1.2.2.2.2.2.2 y2.2.2.2.2.2.2) fun y6=>if y6=true then
        bp (F43 a b c x y z) fun y7=>bp (F44 a b c x y z) fun y8=>bp (F42 N y7.1 y7.2.1 y7.2.2.1 y7.2.2.2.1 y7.2.2.2.2.1 y7.2.2.2.2.2 a b c y8.1 y8.2.1 y8.2.2) fun y9=>if y9=true then
        bp (F45 N a b c x y z p) fun z1=>bp (F46 N a b c x y z p) fun z2=>bp (F42 N z1.1 z1.2.1 z1.2.2.1 z1.2.2.2.1 z1.2.2.2.2.1 z1.2.2.2.2.2 z2.1 z2.2.1 z2.2.2.1 z2.2.2.2.1 z2.2.2.2.2.1 z2.2.2.2.2.2) fun z3=>if z3=true then
        bp (F47 N a b c x y z l) fun z4=>bp (F48 N a b c x y z l) fun z5=>if z4=z5 then bp (F19 N) fun z6=>some z6 else some false else some false else some false else some false else some false else some false else some false else some false)=some true:=by
    intro w v q _ hw hv hq
    subst hw; subst hv
    rw [t40,ba,t41,ba,ba,if_pos rfl,ba,if_pos rfl,if_pos hq,u42,ba,if_pos rfl,u35,ba,if_pos rfl,t43,ba,F44,ba]
    dsimp only
    rw [u43,ba,if_pos rfl,t45,ba,t46,ba,u45,ba,if_pos rfl,t47,ba,t48,ba,if_pos rfl,sane_ok (by omega),ba]
  rw [t38,ba,t39]
  unfold writeS
  by_cases h:boundP a b c x y z l
  · have hl:=np h.1
    have hq:=fun q=>colQ_len q l 0
    have la:a.length≤60:=by rw [h.2.1.1,hq]; exact hl
    have lb:b.length≤60:=by rw [h.2.2.1.1,hq]; exact hl
    have lc:c.length≤60:=by rw [h.2.2.2.1,hq]; exact hl
    rw [if_pos h]
    by_cases h0:(addsR l r).2=0
    · rw [if_pos h0]
      by_cases hi:r∈l
      · rw [if_pos hi,show writeR a b c x y z l r=(a,b,c,x,y,z,l,0) by unfold writeR; rw [if_pos h,if_pos h0,if_pos hi]]
        exact tail _ _ _ (F42_self _ _ _ _ _ _ (by omega) (by omega) (by omega) hN) (F35_self l (by omega) (by omega)) rfl
      rw [if_neg hi,show writeR a b c x y z l r=(a++[mz 0 (l.length:Int) (my r)],b++[mz 1 (l.length:Int) (my r)],c++[mz 2 (l.length:Int) (my r)],x,y,z,l++[r],0) by unfold writeR; rw [if_pos h,if_pos h0,if_neg hi]]
      exact tail _ _ _ (F42_self _ _ _ _ _ _ (by simp; omega) (by simp; omega) (by simp; omega) hN) (F35_self _ (by simp; omega) (by simp; omega)) rfl
    rw [if_neg h0,show writeR a b c x y z l r=([],[],[],0,0,0,[],(addsR l r).2) by unfold writeR; rw [if_pos h,if_neg h0]]
    exact tail _ _ _ (F42_self _ _ _ _ _ _ (by simp) (by simp) (by simp) hN) (F35_self _ (by simp) (by simp; omega)) rfl
  rw [if_neg h,show writeR a b c x y z l r=([],[],[],0,0,0,[],85) by unfold writeR; rw [if_neg h]]
  exact tail _ _ _ (F42_self _ _ _ _ _ _ (by simp) (by simp) (by simp) hN) (F35_self _ (by simp) (by simp; omega)) rfl
end Go.K
end
