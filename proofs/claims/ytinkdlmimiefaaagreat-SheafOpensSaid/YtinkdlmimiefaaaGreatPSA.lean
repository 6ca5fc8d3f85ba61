/- S1, S2. -/

set_option linter.unusedVariables false
set_option linter.unusedSimpArgs false
section
namespace Go.K
section stable
variable {α:Type} (key:α→Int)
def Srt (l:List α):Prop:=l.Pairwise fun x y=>key x≤key y
def Sam (l m:List α):Prop:=∀ h:Int,l.filter (fun x=>decide (key x=h))=m.filter (fun x=>decide (key x=h))
variable {key}
theorem Sam.refl (l:List α):Sam key l l:=fun _=>rfl
theorem Sam.symm {l m:List α} (h:Sam key l m):Sam key m l:=fun k=>(h k).symm
theorem Sam.trans {l m n:List α} (h:Sam key l m) (h':Sam key m n):Sam key l n:=fun k=>(h k).trans (h' k)
theorem Sam.app {l m l' m':List α} (h:Sam key l m) (h':Sam key l' m'):Sam key (l++l') (m++m'):=fun k=>by rw [List.filter_append,List.filter_append,h k,h' k]
theorem Sam.mem {l m:List α} (h:Sam key l m) {x:α} (hx:x∈l):x∈m:=by
  have h1:x∈l.filter (fun y=>decide (key y=key x)):=List.mem_filter.2 ⟨hx,by simp⟩
  rw [h] at h1
  exact (List.mem_filter.1 h1).1
theorem Sam.nil_of {m:List α} (h:Sam key [] m):m=[]:=by
  cases m with
  | nil=>rfl
  | cons b m=>have:=h.symm.mem (x:=b) (by simp); cases this
theorem Sam.swap {U V:List α} (h:∀ x∈U,∀ y∈V,key x≠key y):Sam key (U++V) (V++U):=fun k=>by
  rw [List.filter_append,List.filter_append]
  by_cases hu:U.filter (fun x=>decide (key x=k))=[]
  · rw [hu]; simp
  have hv:V.filter (fun x=>decide (key x=k))=[]:=by
    rw [List.filter_eq_nil_iff]
    intro y hy hk
    obtain ⟨x,hx⟩:=List.exists_mem_of_ne_nil _ hu
    obtain ⟨h1,h2⟩:=List.mem_filter.1 hx
    exact h x h1 y hy ((of_decide_eq_true h2).trans (of_decide_eq_true hk).symm)
  rw [hv]; simp
theorem jp {A B:List α}:Srt key (A++B)↔Srt key A∧Srt key B∧∀ x∈A,∀ y∈B,key x≤key y:=List.pairwise_append
theorem srt_unique:∀ {l m:List α},Srt key l→Srt key m→Sam key l m→l=m
  | [],m,_,_,h=>h.nil_of.symm
  | a :: l,[],_,_,h=>h.symm.nil_of
  | a :: l,b :: m,h1,h2,h=>by
    obtain ⟨a1,a2⟩:=List.pairwise_cons.1 h1
    obtain ⟨b1,b2⟩:=List.pairwise_cons.1 h2
    have hk:key a=key b:=by
      have e1:key b≤key a:=by
        rcases List.mem_cons.1 (h.mem (x:=a) (by simp)) with e | e
        · rw [e]; exact Int.le_refl _
        exact b1 a e
      have e2:key a≤key b:=by
        rcases List.mem_cons.1 (h.symm.mem (x:=b) (by simp)) with e | e
        · rw [e]; exact Int.le_refl _
        exact a1 b e
      omega
    have h0:=h (key a)
    rw [List.filter_cons_of_pos (by simp),List.filter_cons_of_pos (by simp [hk])] at h0
    injection h0 with e1 e2
    subst e1
    rw [srt_unique a2 b2 fun k=>?_]
    by_cases e:key a=k
    · subst e; exact e2
    have:=h k
    rwa [List.filter_cons_of_neg (by simp [e]),List.filter_cons_of_neg (by simp [e])] at this
theorem merge_part {A1 A2 B1 B2 R1 R2:List α} (hA:Srt key (A1++A2)) (hB:Srt key (B1++B2)) (h1:∀ x∈A1,∀ y∈B2,key x≤key y) (h2:∀ x∈B1,∀ y∈A2,key x < key y)
    (r1:Srt key R1) (s1:Sam key R1 (A1++B1)) (r2:Srt key R2) (s2:Sam key R2 (A2++B2)):Srt key (R1++R2)∧Sam key (R1++R2) ((A1++A2)++(B1++B2)):=by
  obtain ⟨_,_,hA'⟩:=jp.1 hA
  obtain ⟨_,_,hB'⟩:=jp.1 hB
  refine ⟨jp.2 ⟨r1,r2,fun x hx y hy=>?_⟩,?_⟩
  · rcases List.mem_append.1 (s1.mem hx) with hx | hx <;> rcases List.mem_append.1 (s2.mem hy) with hy | hy
    · exact hA' x hx y hy
    · exact h1 x hx y hy
    · exact Int.le_of_lt (h2 x hx y hy)
    exact hB' x hx y hy
  have e:(A1++A2)++(B1++B2)=A1++((A2++B1)++B2):=by simp
  have e':(A1++B1)++(A2++B2)=A1++((B1++A2)++B2):=by simp
  rw [e]
  refine (s1.app s2).trans ?_
  rw [e']
  exact (Sam.refl A1).app ((Sam.swap fun x hx y hy=>by have:=h2 x hx y hy; omega).app (Sam.refl B2))
end stable
end Go.K
end
section
namespace Go.K
section swaps
variable {α:Type}
def fw (l:List α) (a b:Nat):Nat→List α
  | 0=>l
  | k+1=>match (fw l a b k)[a+k]?,(fw l a b k)[b+k]? with
    | some x,some y=>((fw l a b k).set (a+k) y).set (b+k) x
    | _,_=>fw l a b k
theorem swapS_step {l:List α} {a b k:Nat} {x y:α} (hx:(fw l a b k)[a+k]?=some x) (hy:(fw l a b k)[b+k]?=some y):fw l a b (k+1)=((fw l a b k).set (a+k) y).set (b+k) x:=by
  rw [fw,hx,hy]
theorem swapS_len (l:List α) (a b:Nat):∀ k,(fw l a b k).length=l.length
  | 0=>rfl
  | k+1=>by
    have ih:=swapS_len l a b k
    rw [fw]
    split
    · rw [List.length_set,List.length_set,ih]
    exact ih
theorem set_mid {X Y:List α} {n:Nat} (a b:α) (h:X.length=n):(X++a :: Y).set n b=X++b :: Y:=by
  subst h; simp
theorem get_mid {X Y:List α} {n:Nat} (a:α) (h:X.length=n):(X++a :: Y)[n]?=some a:=by
  subst h; simp
theorem swap_aux (Y Z:List α):∀ (U V P:List α) (X:List α) (Q:List α) (a b k:Nat) (l:List α),U.length=V.length→P.length=k→Q.length=k→X.length=a→X.length+k+U.length+Y.length=b →
    fw l a b k=X++(P++U)++Y++(Q++V)++Z→fw l a b (k+U.length)=X++(P++V)++Y++(Q++U)++Z
  | [],V,P,X,Q,a,b,k,l,h1,_,_,_,_,h=>by
    have:V=[]:=List.length_eq_zero_iff.1 h1.symm
    subst this; exact h
  | u :: U,[],_,_,_,_,_,_,_,h1,_,_,_,_,_=>by simp at h1
  | u :: U,v :: V,P,X,Q,a,b,k,l,h1,h2,h3,h4,h5,h=>by
    have hn:U.length=V.length:=by simpa using h1
    have e1:X++(P++u :: U)++Y++(Q++v :: V)++Z=(X++P)++u :: (U++Y++(Q++v :: V)++Z):=by simp
    have e2:X++(P++u :: U)++Y++(Q++v :: V)++Z=(X++P++u :: U++Y++Q)++v :: (V++Z):=by simp
    have g1:(fw l a b k)[a+k]?=some u:=by rw [h,e1]; exact get_mid u (by rw [List.length_append]; omega)
    have g2:(fw l a b k)[b+k]?=some v:=by rw [h,e2]; exact get_mid v (by simp only [List.length_append,List.length_cons] at *; omega)
    have hs:=swapS_step g1 g2
    have e3:fw l a b (k+1)=X++((P++[v])++U)++Y++((Q++[u])++V)++Z:=by
      rw [hs,h,e1,set_mid u v (by rw [List.length_append]; omega)]
      have e4:(X++P)++v :: (U++Y++(Q++v :: V)++Z)=(X++P++v :: U++Y++Q)++v :: (V++Z):=by simp
      rw [e4,set_mid v u (by simp only [List.length_append,List.length_cons] at *; omega)]
      simp
    have:=swap_aux Y Z U V (P++[v]) X (Q++[u]) a b (k+1) l hn (by simp; omega) (by simp; omega) h4 (by simp only [List.length_cons] at h5; omega) e3
    rw [List.length_cons,show k+(U.length+1)=k+1+U.length by omega,this]
    simp
theorem swap_blocks {X U Y V Z:List α} {a b n:Nat} (h1:U.length=n) (h2:V.length=n) (h3:X.length=a) (h4:X.length+U.length+Y.length=b):fw (X++U++Y++V++Z) a b n=X++V++Y++U++Z:=by
  have:=swap_aux Y Z U V [] X [] a b 0 (X++U++Y++V++Z) (h1.trans h2.symm) rfl rfl h3 (by omega) (by simp [fw])
  simpa [h1] using this
def fj (l:List α) (a m b:Nat):List α:=l.take a++(l.drop m).take (b - m)++(l.drop a).take (m - a)++l.drop b
theorem et {X U V Z:List α} {a m b:Nat} (h1:X.length=a) (h2:X.length+U.length=m) (h3:X.length+U.length+V.length=b):fj (X++U++V++Z) a m b=X++V++U++Z:=by
  subst h1; subst h2; subst h3
  unfold fj
  have t1:(X++U++V++Z).take X.length=X:=by rw [List.append_assoc,List.append_assoc]; exact List.take_left
  have t2:(X++U++V++Z).drop (X.length+U.length)=V++Z:=by rw [List.append_assoc,← List.length_append]; exact List.drop_left
  have t3:(X++U++V++Z).drop X.length=U++(V++Z):=by rw [List.append_assoc,List.append_assoc]; exact List.drop_left
  have t4:(X++U++V++Z).drop (X.length+U.length+V.length)=Z:=by rw [← List.length_append,← List.length_append]; exact List.drop_left
  rw [t1,t2,t3,t4,show X.length+U.length+V.length - (X.length+U.length)=V.length by omega,show X.length+U.length - X.length=U.length by omega,List.take_left,List.take_left]
theorem jc (l:List α) {a m b:Nat} (h1:a≤m) (h2:m≤b) (h3:b≤l.length):∃ X U V Z:List α,l=X++U++V++Z∧X.length=a∧U.length=m - a∧V.length=b - m :=
  ⟨l.take a,(l.drop a).take (m - a),(l.drop m).take (b - m),l.drop b,by
    have e1:l.take a++(l.drop a).take (m - a)=l.take m:=by rw [← List.take_add,show a+(m - a)=m by omega]
    have e2:l.take m++(l.drop m).take (b - m)=l.take b:=by rw [← List.take_add,show m+(b - m)=b by omega]
    rw [e1,e2,List.take_append_drop],by rw [List.length_take]; omega,by rw [List.length_take,List.length_drop]; omega,by rw [List.length_take,List.length_drop]; omega⟩
theorem rotL_len {l:List α} {a m b:Nat} (h1:a≤m) (h2:m≤b) (h3:b≤l.length):(fj l a m b).length=l.length:=by
  obtain ⟨X,U,V,Z,rfl,e1,e2,e3⟩:=jc l h1 h2 h3
  rw [et e1 (by omega) (by omega)]
  simp only [List.length_append]; omega
theorem split_len {U:List α} (j:Nat) (h:j≤U.length):∃ A B:List α,U=A++B∧A.length=j∧B.length=U.length - j :=
  ⟨U.take j,U.drop j,(List.take_append_drop j U).symm,by rw [List.length_take]; omega,List.length_drop⟩
theorem rot_left {M:List α} {m i j:Nat} (hj:j < i) (hi:i≤m) (hb:m+j≤M.length):fj (fw M (m - i) m j) (m - i+j) m (m+j)=fj M (m - i) m (m+j):=by
  obtain ⟨X,U,V,Z,rfl,e1,e2,e3⟩:=jc M (a:=m - i) (m:=m) (b:=m+j) (by omega) (by omega) hb
  obtain ⟨A,B,rfl,f1,f2⟩:=split_len (U:=U) j (by omega)
  rw [List.length_append] at e2 f2
  have hs:fw (X++(A++B)++V++Z) (m - i) m j=X++V++B++A++Z:=by
    have:=swap_blocks (X:=X) (U:=A) (Y:=B) (V:=V) (Z:=Z) (a:=m - i) (b:=m) (n:=j) f1 (by omega) e1 (by omega)
    simpa using this
  rw [hs,et (X:=X) (U:=A++B) (V:=V) (Z:=Z) e1 (by rw [List.length_append]; omega) (by rw [List.length_append]; omega)]
  have:=et (X:=X++V) (U:=B) (V:=A) (Z:=Z) (a:=m - i+j) (m:=m) (b:=m+j) (by rw [List.length_append]; omega) (by rw [List.length_append]; omega) (by rw [List.length_append]; omega)
  rw [this]; simp
theorem rot_right {M:List α} {m i j:Nat} (hj:i < j) (hi:i≤m) (hb:m+j≤M.length):fj (fw M (m - i) (m+j - i) i) (m - i) m (m+(j - i))=fj M (m - i) m (m+j):=by
  obtain ⟨X,U,V,Z,rfl,e1,e2,e3⟩:=jc M (a:=m - i) (m:=m) (b:=m+j) (by omega) (by omega) hb
  obtain ⟨A,B,rfl,f1,f2⟩:=split_len (U:=V) (j - i) (by omega)
  rw [List.length_append] at e3 f2
  have hs:fw (X++U++(A++B)++Z) (m - i) (m+j - i) i=X++B++A++U++Z:=by
    have:=swap_blocks (X:=X) (U:=U) (Y:=A) (V:=B) (Z:=Z) (a:=m - i) (b:=m+j - i) (n:=i) (by omega) (by omega) e1 (by omega)
    simpa using this
  rw [hs,et (X:=X) (U:=U) (V:=A++B) (Z:=Z) e1 (by omega) (by rw [List.length_append]; omega)]
  have:=et (X:=X) (U:=B) (V:=A) (Z:=U++Z) (a:=m - i) (m:=m) (b:=m+(j - i)) e1 (by omega) (by omega)
  rw [show X++B++A++U++Z=X++B++A++(U++Z) by simp,this]; simp
theorem rot_even {M:List α} {m i:Nat} (hi:i≤m) (hb:m+i≤M.length):fw M (m - i) m i=fj M (m - i) m (m+i):=by
  obtain ⟨X,U,V,Z,rfl,e1,e2,e3⟩:=jc M (a:=m - i) (m:=m) (b:=m+i) (by omega) (by omega) hb
  rw [et e1 (by omega) (by omega)]
  have:=swap_blocks (X:=X) (U:=U) (Y:=[]) (V:=V) (Z:=Z) (a:=m - i) (b:=m) (n:=i) (by omega) (by omega) e1 (by simp; omega)
  simpa using this
end swaps
end Go.K
end
