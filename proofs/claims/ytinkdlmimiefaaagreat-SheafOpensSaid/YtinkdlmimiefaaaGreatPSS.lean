/- S3, S4, S5, S6, S7. -/
import Derived.Test.YtinkdlmimiefaaaGreatPM14
import Derived.Test.YtinkdlmimiefaaaGreatPSA
set_option linter.unusedVariables false
set_option linter.unusedSimpArgs false
section
open Go Go.Proofs Go.RowKit
namespace Go.K
theorem dw_head {α:Type} {p:α→Bool}:∀ {l:List α} {d:α} {D:List α},l.dropWhile p=d :: D→p d=false
  | [],d,D,h=>by cases h
  | a :: l,d,D,h=>by
    rw [List.dropWhile_cons] at h
    split at h
    · exact dw_head h
    rename_i hp
    injection h with h1 _
    rw [← h1]; simpa using hp
theorem tw_all {α:Type} {p:α→Bool}:∀ {l:List α} {d:α},d∈l.takeWhile p→p d=true
  | [],d,h=>by cases h
  | a :: l,d,h=>by
    rw [List.takeWhile_cons] at h
    split at h
    · rename_i hp
      rcases List.mem_cons.1 h with e | e
      · rw [e]; exact hp
      exact tw_all e
    cases h
theorem insR_parts (x:Ld) {acc:List Ld} (h:Srt Ld.hr acc):∃ U V:List Ld,acc=U++V∧insR x acc=U++[x]++V∧(∀ y∈V,x.hr < y.hr)∧∀ y∈U,y.hr≤x.hr:=by
  have he:acc=(acc.reverse.dropWhile fun y=>decide (x.hr < y.hr)).reverse++(acc.reverse.takeWhile fun y=>decide (x.hr < y.hr)).reverse:=by
    rw [← List.reverse_append,List.takeWhile_append_dropWhile,List.reverse_reverse]
  refine ⟨_,_,he,rfl,fun y hy=>?_,fun y hy=>?_⟩
  · have h1:=tw_all (p:=fun y:Ld=>decide (x.hr < y.hr)) (List.mem_reverse.1 hy)
    simpa using h1
  cases hD:acc.reverse.dropWhile fun y=>decide (x.hr < y.hr) with
  | nil=>rw [hD] at hy; cases hy
  | cons d D =>
    have hd:¬ x.hr < d.hr:=by have h1:=dw_head (p:=fun y:Ld=>decide (x.hr < y.hr)) hD; simpa using h1
    rw [hD] at he hy
    rw [he] at h
    have h1:=(jp.1 h).1
    rw [List.reverse_cons] at h1 hy
    rcases List.mem_append.1 hy with e | e
    · have:=(jp.1 h1).2.2 y e d (by simp); omega
    rw [List.mem_singleton.1 e]; omega
theorem sortL_ok:∀ (l acc:List Ld),Srt Ld.hr acc→Srt Ld.hr (l.foldl (fun acc x=>insR x acc) acc)∧Sam Ld.hr (l.foldl (fun acc x=>insR x acc) acc) (acc++l)
  | [],acc,h=>⟨h,by rw [List.append_nil]; exact Sam.refl acc⟩
  | x :: l,acc,h=>by
    obtain ⟨U,V,e1,e2,hV,hU⟩:=insR_parts x h
    rw [e1] at h
    obtain ⟨h1,h2,h3⟩:=jp.1 h
    have hs:Srt Ld.hr (insR x acc):=by
      rw [e2,List.append_assoc]
      refine jp.2 ⟨h1,List.pairwise_cons.2 ⟨fun y hy=>Int.le_of_lt (hV y hy),h2⟩,fun u hu y hy=>?_⟩
      rcases List.mem_cons.1 hy with e | e
      · rw [e]; exact hU u hu
      exact h3 u hu y e
    obtain ⟨r1,r2⟩:=sortL_ok l (insR x acc) hs
    refine ⟨r1,r2.trans ?_⟩
    have hx:Sam Ld.hr (insR x acc) (acc++[x]):=by
      rw [e2,e1,List.append_assoc,List.append_assoc]
      exact (Sam.refl U).app (Sam.swap fun a ha y hy=>by
        rw [List.mem_singleton.1 ha]; have:=hV y hy; omega)
    have:=hx.app (Sam.refl l)
    simpa using this
theorem sortF_srt (l:List Ld):Srt Ld.hr (ed l):=(sortL_ok l [] List.Pairwise.nil).1
theorem sortF_sam (l:List Ld):Sam Ld.hr (ed l) l:=(sortL_ok l [] List.Pairwise.nil).2
theorem sortF_of {R l:List Ld} (h:Srt Ld.hr R) (hs:Sam Ld.hr R l):ed l=R:=srt_unique (sortF_srt l) h ((sortF_sam l).trans hs.symm)
theorem sortF_id {l:List Ld} (h:Srt Ld.hr l):ed l=l:=sortF_of h (Sam.refl l)
def en (l:List Ld) (a b:Nat):List Ld:=l.take a++ed ((l.drop a).take (b - a))++l.drop b
theorem fz {X S Y:List Ld} {a b:Nat} (h1:X.length=a) (h2:X.length+S.length=b):en (X++S++Y) a b=X++ed S++Y:=by
  subst h1; subst h2
  unfold en
  have t1:(X++S++Y).take X.length=X:=by rw [List.append_assoc]; exact List.take_left
  have t2:(X++S++Y).drop X.length=S++Y:=by rw [List.append_assoc]; exact List.drop_left
  have t3:(X++S++Y).drop (X.length+S.length)=Y:=by rw [← List.length_append]; exact List.drop_left
  rw [t1,t2,t3,show X.length+S.length - X.length=S.length by omega,List.take_left]
theorem segF_len {l:List Ld} {a b:Nat} (h1:a≤b) (h2:b≤l.length):(en l a b).length=l.length:=by
  unfold en
  rw [List.length_append,List.length_append,fm,List.length_take,List.length_take,List.length_drop,List.length_drop]
  omega
theorem merge_seg {X A1 A2 B1 B2 Y:List Ld} {a s m e mid b:Nat} (hX:X.length=a) (h1:a+A1.length=s) (h2:s+A2.length=m) (h3:m+B1.length=e) (h4:e+B2.length=b) (h5:s+B1.length=mid)
    (hA:Srt Ld.hr (A1++A2)) (hB:Srt Ld.hr (B1++B2)) (hle:∀ x∈A1,∀ y∈B2,x.hr≤y.hr) (hlt:∀ x∈B1,∀ y∈A2,x.hr < y.hr) :
    en (en (fj (X++(A1++A2)++(B1++B2)++Y) s m e) a mid) mid b=en (X++(A1++A2)++(B1++B2)++Y) a b:=by
  have e1:fj (X++(A1++A2)++(B1++B2)++Y) s m e=X++(A1++B1)++(A2++(B2++Y)):=by
    have:=et (X:=X++A1) (U:=A2) (V:=B1) (Z:=B2++Y) (a:=s) (m:=m) (b:=e) (by rw [List.length_append]; omega) (by rw [List.length_append]; omega) (by rw [List.length_append]; omega)
    rw [show X++(A1++A2)++(B1++B2)++Y=X++A1++A2++B1++(B2++Y) by simp,this]; simp
  obtain ⟨r1,r2⟩:=merge_part hA hB hle hlt (sortF_srt (A1++B1)) (sortF_sam _) (sortF_srt (A2++B2)) (sortF_sam _)
  rw [e1,fz hX (by rw [List.length_append]; omega)]
  have e2:X++ed (A1++B1)++(A2++(B2++Y))=(X++ed (A1++B1))++(A2++B2)++Y:=by simp
  rw [e2,fz (by rw [List.length_append,fm,List.length_append]; omega) (by rw [List.length_append,fm,List.length_append,List.length_append]; omega)]
  have e3:X++(A1++A2)++(B1++B2)++Y=X++((A1++A2)++(B1++B2))++Y:=by simp
  rw [e3,fz hX (by simp only [List.length_append]; omega),sortF_of r1 r2]; simp
theorem rot_same {l:List Ld} {a m b:Nat} (h1:a≤m) (h2:m≤b) (h3:b≤l.length) (h:a=m∨m=b):fj l a m b=l:=by
  obtain ⟨X,U,V,Z,rfl,e1,e2,e3⟩:=jc l h1 h2 h3
  rw [et e1 (by omega) (by omega)]
  rcases h with h | h
  · have:U=[]:=List.length_eq_zero_iff.1 (by omega)
    subst this; simp
  have:V=[]:=List.length_eq_zero_iff.1 (by omega)
  subst this; simp
end Go.K
end
section
open Go Go.Proofs Go.RowKit
namespace Go.K
def dp (l:List Ld) (a b:Nat):Prop:=∀ i j x y,a≤i→i≤j→j < b→l[i]?=some x→l[j]?=some y→x.hr≤y.hr
theorem dp.sub {l:List Ld} {a b a' b':Nat} (h:dp l a b) (h1:a≤a') (h2:b'≤b):dp l a' b':=fun i j x y hi hij hj hx hy=>h i j x y (by omega) hij (by omega) hx hy
theorem jo {X S Y:List Ld} {a i:Nat} (ha:X.length=a) (hi:i < S.length):(X++S++Y)[a+i]?=S[i]?:=by
  subst ha
  rw [List.append_assoc,List.getElem?_append_right (by omega),Nat.add_sub_cancel_left,List.getElem?_append_left hi]
theorem segSrt_of {X S Y:List Ld} {a b:Nat} (ha:X.length=a) (hb:X.length+S.length=b) (h:Srt Ld.hr S):dp (X++S++Y) a b:=by
  intro i j x y hi hij hj hx hy
  obtain ⟨p,rfl⟩:∃ p,i=a+p:=⟨i - a,by omega⟩
  obtain ⟨q,rfl⟩:∃ q,j=a+q:=⟨j - a,by omega⟩
  rw [jo ha (by omega)] at hx hy
  by_cases e:p=q
  · subst e; rw [hx] at hy; injection hy with hy; rw [hy]; exact Int.le_refl _
  have h1:=List.pairwise_iff_getElem.1 h p q (by omega) (by omega) (by omega)
  rw [List.getElem?_eq_getElem (by omega)] at hx hy
  injection hx with hx; injection hy with hy
  rw [hx,hy] at h1; exact h1
theorem srt_of_seg {X S Y:List Ld} {a b:Nat} (ha:X.length=a) (hb:X.length+S.length=b) (h:dp (X++S++Y) a b):Srt Ld.hr S:=by
  refine List.pairwise_iff_getElem.2 fun p q hp hq hpq=>?_
  exact h (a+p) (a+q) S[p] S[q] (by omega) (by omega) (by omega) (by rw [jo ha hp]; exact List.getElem?_eq_getElem hp) (by rw [jo ha hq]; exact List.getElem?_eq_getElem hq)
theorem blocks6 (l:List Ld) {a s m e b:Nat} (h1:a≤s) (h2:s≤m) (h3:m≤e) (h4:e≤b) (h5:b≤l.length):∃ X A1 A2 B1 B2 Y:List Ld,l=X++(A1++A2)++(B1++B2)++Y∧X.length=a∧A1.length=s - a∧A2.length=m - s∧B1.length=e - m∧B2.length=b - e:=by
  obtain ⟨X,U,V,Y,rfl,e1,e2,e3⟩:=jc l (a:=a) (m:=m) (b:=b) (by omega) (by omega) h5
  obtain ⟨A1,A2,rfl,f1,f2⟩:=split_len (U:=U) (s - a) (by omega)
  obtain ⟨B1,B2,rfl,g1,g2⟩:=split_len (U:=V) (e - m) (by omega)
  rw [List.length_append] at e2 e3 f2 g2
  exact ⟨X,A1,A2,B1,B2,Y,rfl,e1,f1,by omega,g1,by omega⟩
structure Mid (l:List Ld) (a s m e b mid:Nat):Prop where
  as_:a≤s
  sm:s≤m
  me:m≤e
  eb:e≤b
  bl:b≤l.length
  hm:mid=s+(e - m)
  left:dp l a m
  right:dp l m b
  le:∀ x y,a < s→e < b→l[s - 1]?=some x→l[e]?=some y→x.hr≤y.hr
  lt:∀ x y,s < m→m < e→l[e - 1]?=some y→l[s]?=some x→y.hr < x.hr
theorem Mid.all {l:List Ld} {a s m e b mid:Nat} (h:Mid l a s m e b mid) :
    en (en (fj l s m e) a mid) mid b=en l a b∧dp (fj l s m e) a s∧dp (fj l s m e) s mid∧dp (en (fj l s m e) a mid) mid e∧dp (en (fj l s m e) a mid) e b:=by
  obtain ⟨h1,h2,h3,h4,h5,rfl,hL,hR,hle,hlt⟩:=h
  obtain ⟨X,A1,A2,B1,B2,Y,rfl,e1,e2,e3,e4,e5⟩:=blocks6 l h1 h2 h3 h4 h5
  have hA:Srt Ld.hr (A1++A2):=srt_of_seg (X:=X) (Y:=(B1++B2)++Y) (a:=a) (b:=m) e1 (by rw [List.length_append]; omega) (by simpa using hL)
  have hB:Srt Ld.hr (B1++B2):=srt_of_seg (X:=X++(A1++A2)) (Y:=Y) (a:=m) (b:=b) (by simp only [List.length_append]; omega) (by simp only [List.length_append]; omega) (by simpa using hR)
  have gl:∀ {i:Nat} {x:Ld},A1[i]?=some x→(X++(A1++A2)++(B1++B2)++Y)[a+i]?=some x:=fun {i x} hx=>by
    have hi:=bu hx
    have:=jo (X:=X) (S:=A1) (Y:=A2++(B1++B2)++Y) e1 hi
    rw [hx] at this; simpa using this
  have gl2:∀ {i:Nat} {x:Ld},A2[i]?=some x→(X++(A1++A2)++(B1++B2)++Y)[s+i]?=some x:=fun {i x} hx=>by
    have hi:=bu hx
    have:=jo (X:=X++A1) (S:=A2) (Y:=(B1++B2)++Y) (a:=s) (by rw [List.length_append]; omega) hi
    rw [hx] at this; simpa using this
  have gr:∀ {i:Nat} {x:Ld},B1[i]?=some x→(X++(A1++A2)++(B1++B2)++Y)[m+i]?=some x:=fun {i x} hx=>by
    have hi:=bu hx
    have:=jo (X:=X++(A1++A2)) (S:=B1) (Y:=B2++Y) (a:=m) (by simp only [List.length_append]; omega) hi
    rw [hx] at this; simpa using this
  have gr2:∀ {i:Nat} {x:Ld},B2[i]?=some x→(X++(A1++A2)++(B1++B2)++Y)[e+i]?=some x:=fun {i x} hx=>by
    have hi:=bu hx
    have:=jo (X:=X++(A1++A2)++B1) (S:=B2) (Y:=Y) (a:=e) (by simp only [List.length_append]; omega) hi
    rw [hx] at this; simpa using this
  have hle':∀ x∈A1,∀ y∈B2,x.hr≤y.hr:=fun x hx y hy=>by
    obtain ⟨i,hi⟩:=List.getElem?_of_mem hx
    obtain ⟨j,hj⟩:=List.getElem?_of_mem hy
    have hi':=bu hi
    have hj':=bu hj
    obtain ⟨u,hu⟩:=bq (l:=A1) (i:=A1.length - 1) (by omega)
    obtain ⟨v,hv⟩:=bq (l:=B2) (i:=0) (by omega)
    have k1:=hL (a+i) (a+(A1.length - 1)) x u (by omega) (by omega) (by omega) (gl hi) (gl hu)
    have k2:=hR (e+0) (e+j) v y (by omega) (by omega) (by omega) (gr2 hv) (gr2 hj)
    have k3:=hle u v (by omega) (by omega) (by have:=gl hu; rwa [show a+(A1.length - 1)=s - 1 by omega] at this) (by simpa using gr2 hv)
    omega
  have hlt':∀ x∈B1,∀ y∈A2,x.hr < y.hr:=fun x hx y hy=>by
    obtain ⟨i,hi⟩:=List.getElem?_of_mem hx
    obtain ⟨j,hj⟩:=List.getElem?_of_mem hy
    have hi':=bu hi
    have hj':=bu hj
    obtain ⟨u,hu⟩:=bq (l:=B1) (i:=B1.length - 1) (by omega)
    obtain ⟨v,hv⟩:=bq (l:=A2) (i:=0) (by omega)
    have k1:=hR (m+i) (m+(B1.length - 1)) x u (by omega) (by omega) (by omega) (gr hi) (gr hu)
    have k2:=hL (s+0) (s+j) v y (by omega) (by omega) (by omega) (gl2 hv) (gl2 hj)
    have k3:=hlt v u (by omega) (by omega) (by have:=gr hu; rwa [show m+(B1.length - 1)=e - 1 by omega] at this) (by simpa using gl2 hv)
    omega
  obtain ⟨a1,a2,_⟩:=jp.1 hA
  obtain ⟨b1,b2,_⟩:=jp.1 hB
  have hr:fj (X++(A1++A2)++(B1++B2)++Y) s m e=X++(A1++B1)++(A2++(B2++Y)):=by
    have:=et (X:=X++A1) (U:=A2) (V:=B1) (Z:=B2++Y) (a:=s) (m:=m) (b:=e) (by rw [List.length_append]; omega) (by rw [List.length_append]; omega) (by rw [List.length_append]; omega)
    rw [show X++(A1++A2)++(B1++B2)++Y=X++A1++A2++B1++(B2++Y) by simp,this]; simp
  have hs:en (fj (X++(A1++A2)++(B1++B2)++Y) s m e) a (s+(e - m))=X++ed (A1++B1)++(A2++(B2++Y)):=by
    rw [hr,fz e1 (by rw [List.length_append]; omega)]
  refine ⟨merge_seg e1 (by omega) (by omega) (by omega) (by omega) (by omega) hA hB hle' hlt',?_,?_,?_,?_⟩
  · rw [hr,show X++(A1++B1)++(A2++(B2++Y))=X++A1++(B1++(A2++(B2++Y))) by simp]
    exact segSrt_of e1 (by omega) a1
  · rw [hr,show X++(A1++B1)++(A2++(B2++Y))=(X++A1)++B1++(A2++(B2++Y)) by simp]
    exact segSrt_of (by rw [List.length_append]; omega) (by rw [List.length_append]; omega) b1
  · rw [hs,show X++ed (A1++B1)++(A2++(B2++Y))=(X++ed (A1++B1))++A2++(B2++Y) by simp]
    exact segSrt_of (by rw [List.length_append,fm,List.length_append]; omega) (by rw [List.length_append,fm,List.length_append]; omega) a2
  rw [hs,show X++ed (A1++B1)++(A2++(B2++Y))=(X++ed (A1++B1)++A2)++B2++Y by simp]
  exact segSrt_of (by simp only [List.length_append,fm]; omega) (by simp only [List.length_append,fm]; omega) b2
theorem segSrt_id {l:List Ld} {a b:Nat} (h1:a≤b) (h2:b≤l.length) (h:dp l a b):en l a b=l:=by
  obtain ⟨X,U,V,Z,rfl,e1,e2,e3⟩:=jc l (a:=a) (m:=b) (b:=b) h1 (Nat.le_refl _) h2
  have hv:V=[]:=List.length_eq_zero_iff.1 (by omega)
  subst hv
  rw [List.append_nil] at h ⊢
  rw [fz e1 (by omega),sortF_id (srt_of_seg e1 (by omega) h)]
end Go.K
end
section
open Go Go.Proofs Go.RowKit
namespace Go.K
section steps
variable {P:Program} {ρ:Env} {w:World} {R:Value→World→Prop} {d:Option Nat} {ty:TypeId} {pos:String} {af:Array Edge} {gd:Option (Nat × Bool)}
theorem s_toUM {s t:TypeId} {x:Operand} {n:Int} (hs:P.underlying s=some (.int .i64)) (ht:P.underlying t=some (.int .u64)) (hx:ev ρ x=.int .i64 n) (h0:0≤n) (h1:n≤4000000000) (k:R (.int .u64 n) w):cw P ⟨d,.convert s t x,ty,pos,af,gd⟩ ρ w R:=by
  refine kl (.int .u64 n) ?_ k
  have:execOp (ev ρ) ⟨d,.convert s t x,ty,pos,af,gd⟩=(do pure (.value (← convert s t (ev ρ x)))):=rfl
  rw [this,hx]
  have hw:IntKind.u64.wrap n=n:=by simp [IntKind.wrap,IntKind.signed,IntKind.bits]; omega
  simp [convert,run_underlying hs,run_underlying ht,Conv.intToInt,hw]
theorem s_toIM {s t:TypeId} {x:Operand} {n:Int} (hs:P.underlying s=some (.int .u64)) (ht:P.underlying t=some (.int .i64)) (hx:ev ρ x=.int .u64 n) (h0:0≤n) (h1:n≤4000000000) (k:R (.int .i64 n) w):cw P ⟨d,.convert s t x,ty,pos,af,gd⟩ ρ w R:=by
  refine kl (.int .i64 n) ?_ k
  have:execOp (ev ρ) ⟨d,.convert s t x,ty,pos,af,gd⟩=(do pure (.value (← convert s t (ev ρ x)))):=rfl
  rw [this,hx]
  have hw:IntKind.i64.wrap n=n:=by simp [IntKind.wrap,IntKind.signed,IntKind.bits]; omega
  simp [convert,run_underlying hs,run_underlying ht,Conv.intToInt,hw]
theorem s_halfM {T Ty:TypeId} {x y:Operand} {n:Int} {k2:IntKind} (hx:ev ρ x=.int .u64 n) (hy:ev ρ y=.int k2 1) (k:R (.int .u64 (n / 2)) w):cw P ⟨d,.binOp .shr T x y Ty,ty,pos,af,gd⟩ ρ w R:=by
  refine kl (.int .u64 (n / 2)) ?_ k
  have:execOp (ev ρ) ⟨d,.binOp .shr T x y Ty,ty,pos,af,gd⟩=(do pure (.value (← (do eqGuard .shr T x y (ev ρ x) (ev ρ y); binOp .shr T (ev ρ x) (ev ρ y))))):=rfl
  rw [this,hx,hy]
  have h2:n.fdiv 2=n / 2:=Int.fdiv_eq_ediv_of_nonneg n (by decide)
  simp [eqGuard,binOp,Op.shift,IntKind.bits,h2]
end steps
theorem one_left {l:List Ld} {a e b:Nat} {x:Ld} (hx:l[a]?=some x) (h1:a+1≤e) (h2:e≤b) (h3:b≤l.length) (hR:dp l (a+1) b) (hlt:∀ q y,a+1≤q→q < e→l[q]?=some y→y.hr < x.hr) (hle:∀ q y,e≤q→q < b→l[q]?=some y→x.hr≤y.hr):fj l a (a+1) e=en l a b:=by
  obtain ⟨X,A1,A2,B1,B2,Y,rfl,e1,e2,e3,e4,e5⟩:=blocks6 l (a:=a) (s:=a) (m:=a+1) (e:=e) (b:=b) (Nat.le_refl _) (by omega) h1 h2 h3
  have hA1:A1=[]:=List.length_eq_zero_iff.1 (by omega)
  subst hA1
  rw [List.nil_append] at *
  match A2,(show A2.length=1 by omega) with
  | [z],_ =>
  have hz:z=x:=by
    have:=jo (X:=X) (S:=[z]) (Y:=(B1++B2)++Y) (i:=0) e1 (by simp)
    rw [Nat.add_zero] at this
    rw [← List.append_assoc] at this
    rw [this] at hx; simpa using hx
  subst hz
  have hB:Srt Ld.hr (B1++B2):=srt_of_seg (X:=X++[z]) (Y:=Y) (a:=a+1) (b:=b) (by simp; omega) (by simp only [List.length_append,List.length_singleton]; omega) hR
  obtain ⟨b1,b2,b3⟩:=jp.1 hB
  have k1:∀ y∈B1,y.hr < z.hr:=fun y hy=>by
    obtain ⟨i,hi⟩:=List.getElem?_of_mem hy
    have hi':=bu hi
    have:=jo (X:=X++[z]) (S:=B1) (Y:=B2++Y) (a:=a+1) (i:=i) (by simp; omega) hi'
    rw [hi] at this
    exact hlt (a+1+i) y (by omega) (by omega) (by simpa using this)
  have k2:∀ y∈B2,z.hr≤y.hr:=fun y hy=>by
    obtain ⟨i,hi⟩:=List.getElem?_of_mem hy
    have hi':=bu hi
    have:=jo (X:=X++[z]++B1) (S:=B2) (Y:=Y) (a:=e) (i:=i) (by simp only [List.length_append,List.length_singleton]; omega) hi'
    rw [hi] at this
    exact hle (e+i) y (by omega) (by omega) (by simpa using this)
  have hr:=et (X:=X) (U:=[z]) (V:=B1) (Z:=B2++Y) (a:=a) (m:=a+1) (b:=e) e1 (by simp; omega) (by simp; omega)
  rw [show X++[z]++(B1++B2)++Y=X++[z]++B1++(B2++Y) by simp,hr]
  rw [show X++[z]++B1++(B2++Y)=X++([z]++(B1++B2))++Y by simp,fz e1 (by simp; omega)]
  have hs:ed ([z]++(B1++B2))=B1++[z]++B2:=by
    refine sortF_of ?_ ?_
    · rw [List.append_assoc]
      refine jp.2 ⟨b1,List.pairwise_cons.2 ⟨k2,b2⟩,fun u hu y hy=>?_⟩
      rcases List.mem_cons.1 hy with q | q
      · rw [q]; exact Int.le_of_lt (k1 u hu)
      exact b3 u hu y q
    rw [← List.append_assoc]
    exact (Sam.swap fun u hu y hy=>by rw [List.mem_singleton.1 hy]; have:=k1 u hu; omega).app (Sam.refl B2)
  rw [hs]; simp
theorem one_right {l:List Ld} {a i m:Nat} {x:Ld} (hx:l[m]?=some x) (h1:a≤i) (h2:i≤m) (hL:dp l a m) (hle:∀ q y,a≤q→q < i→l[q]?=some y→y.hr≤x.hr) (hlt:∀ q y,i≤q→q < m→l[q]?=some y→x.hr < y.hr):fj l i m (m+1)=en l a (m+1):=by
  have h3:=bu hx
  obtain ⟨X,A1,A2,B1,B2,Y,rfl,e1,e2,e3,e4,e5⟩:=blocks6 l (a:=a) (s:=i) (m:=m) (e:=m+1) (b:=m+1) h1 h2 (by omega) (Nat.le_refl _) (by omega)
  have hB2:B2=[]:=List.length_eq_zero_iff.1 (by omega)
  subst hB2
  rw [List.append_nil] at *
  match B1,(show B1.length=1 by omega) with
  | [z],_ =>
  have hz:z=x:=by
    have:=jo (X:=X++(A1++A2)) (S:=[z]) (Y:=Y) (a:=m) (i:=0) (by simp only [List.length_append]; omega) (by simp)
    rw [Nat.add_zero,hx] at this
    simpa using this.symm
  subst hz
  have hA:Srt Ld.hr (A1++A2):=srt_of_seg (X:=X) (Y:=[z]++Y) (a:=a) (b:=m) e1 (by rw [List.length_append]; omega) (by simpa using hL)
  obtain ⟨a1,a2,a3⟩:=jp.1 hA
  have k1:∀ y∈A1,y.hr≤z.hr:=fun y hy=>by
    obtain ⟨j,hj⟩:=List.getElem?_of_mem hy
    have hj':=bu hj
    have:=jo (X:=X) (S:=A1) (Y:=A2++[z]++Y) e1 hj'
    rw [hj] at this
    exact hle (a+j) y (by omega) (by omega) (by simpa using this)
  have k2:∀ y∈A2,z.hr < y.hr:=fun y hy=>by
    obtain ⟨j,hj⟩:=List.getElem?_of_mem hy
    have hj':=bu hj
    have:=jo (X:=X++A1) (S:=A2) (Y:=[z]++Y) (a:=i) (by rw [List.length_append]; omega) hj'
    rw [hj] at this
    exact hlt (i+j) y (by omega) (by omega) (by simpa using this)
  have hr:=et (X:=X++A1) (U:=A2) (V:=[z]) (Z:=Y) (a:=i) (m:=m) (b:=m+1) (by rw [List.length_append]; omega) (by rw [List.length_append]; omega) (by simp only [List.length_append,List.length_singleton]; omega)
  rw [show X++(A1++A2)++[z]++Y=X++A1++A2++[z]++Y by simp,hr]
  rw [show X++A1++A2++[z]++Y=X++((A1++A2)++[z])++Y by simp,fz e1 (by simp only [List.length_append,List.length_singleton]; omega)]
  have hs:ed ((A1++A2)++[z])=A1++([z]++A2):=by
    refine sortF_of ?_ ?_
    · refine jp.2 ⟨a1,List.pairwise_cons.2 ⟨fun y hy=>Int.le_of_lt (k2 y hy),a2⟩,fun u hu y hy=>?_⟩
      rcases List.mem_cons.1 hy with q | q
      · rw [q]; exact k1 u hu
      exact a3 u hu y q
    rw [List.append_assoc]
    exact (Sam.refl A1).app (Sam.swap fun u hu y hy=>by rw [List.mem_singleton.1 hu]; have:=k2 y hy; omega)
  rw [hs]; simp
theorem move_right {l:List Ld} {a k:Nat} {x y:Ld} (h1:a≤k) (hx:(fj l a (a+1) (k+1))[k]?=some x) (hy:(fj l a (a+1) (k+1))[k+1]?=some y) (hk:k+1 < l.length):((fj l a (a+1) (k+1)).set k y).set (k+1) x=fj l a (a+1) (k+2):=by
  obtain ⟨X,U,V,Z,rfl,e1,e2,e3⟩:=jc l (a:=a) (m:=a+1) (b:=k+1) (by omega) (by omega) (by omega)
  match U,(show U.length=1 by omega) with
  | [u],_ =>
  match Z,(show 0 < Z.length by simp only [List.length_append,List.length_singleton] at hk; omega) with
  | z :: Z,_ =>
  have hr:=et (X:=X) (U:=[u]) (V:=V) (Z:=z :: Z) (a:=a) (m:=a+1) (b:=k+1) e1 (by simp; omega) (by simp; omega)
  have hr2:=et (X:=X) (U:=[u]) (V:=V++[z]) (Z:=Z) (a:=a) (m:=a+1) (b:=k+2) e1 (by simp; omega) (by simp; omega)
  rw [hr] at hx hy ⊢
  have hl:(X++V).length=k:=by rw [List.length_append]; omega
  have hl2:(X++V++[u]).length=k+1:=by rw [List.length_append,hl]; rfl
  have g1:(X++V++[u]++z :: Z)[k]?=some u:=by rw [show X++V++[u]++z :: Z=(X++V)++u :: (z :: Z) by simp]; exact get_mid u hl
  have g2:(X++V++[u]++z :: Z)[k+1]?=some z:=get_mid z hl2
  rw [g1] at hx; rw [g2] at hy
  injection hx with hx; injection hy with hy
  subst hx; subst hy
  rw [show X++V++[u]++z :: Z=(X++V)++u :: (z :: Z) by simp,set_mid u z hl,show (X++V)++z :: (z :: Z)=(X++V++[z])++z :: Z by simp,set_mid z u (by rw [List.length_append,hl]; rfl)]
  rw [show X++[u]++V++z :: Z=X++[u]++(V++[z])++Z by simp,hr2]; simp
theorem move_left {l:List Ld} {m k:Nat} {x y:Ld} (h0:0 < k) (h1:k≤m) (hx:(fj l k m (m+1))[k]?=some x) (hy:(fj l k m (m+1))[k - 1]?=some y) (hk:m < l.length):((fj l k m (m+1)).set k y).set (k - 1) x=fj l (k - 1) m (m+1):=by
  obtain ⟨X,U,V,Z,rfl,e1,e2,e3⟩:=jc l (a:=k - 1) (m:=m) (b:=m+1) (by omega) (by omega) (by omega)
  match U,(show 0 < U.length by omega) with
  | u :: U,_ =>
  match V,(show V.length=1 by omega) with
  | [v],_ =>
  simp only [List.length_cons] at e2
  have hr:=et (X:=X++[u]) (U:=U) (V:=[v]) (Z:=Z) (a:=k) (m:=m) (b:=m+1) (by simp; omega) (by simp; omega) (by simp; omega)
  have hr2:=et (X:=X) (U:=u :: U) (V:=[v]) (Z:=Z) (a:=k - 1) (m:=m) (b:=m+1) e1 (by simp; omega) (by simp; omega)
  rw [show X++u :: U++[v]++Z=X++[u]++U++[v]++Z by simp,hr] at hx hy ⊢
  have hl:(X++[u]).length=k:=by simp; omega
  have g1:(X++[u]++[v]++U++Z)[k]?=some v:=by rw [show X++[u]++[v]++U++Z=(X++[u])++v :: (U++Z) by simp]; exact get_mid v hl
  have g2:(X++[u]++[v]++U++Z)[k - 1]?=some u:=by rw [show X++[u]++[v]++U++Z=X++u :: ([v]++U++Z) by simp]; exact get_mid u e1
  rw [g1] at hx; rw [g2] at hy
  injection hx with hx; injection hy with hy
  subst hx; subst hy
  rw [show X++[u]++[v]++U++Z=(X++[u])++v :: (U++Z) by simp,set_mid v u hl,show (X++[u])++u :: (U++Z)=X++u :: (u :: (U++Z)) by simp,set_mid u v e1]
  rw [show X++[u]++U++[v]++Z=X++u :: U++[v]++Z by simp,hr2]; simp
end Go.K
end
section
open Go Go.Proofs Go.RowKit
namespace Go.K
theorem seg_one (l:List Ld) (a:Nat):en l a (a+1)=l:=by
  unfold en
  have h1:ed ((l.drop a).take (a+1 - a))=(l.drop a).take 1:=by
    rw [Nat.add_sub_cancel_left]
    refine sortF_id ?_
    cases l.drop a with
    | nil=>exact List.Pairwise.nil
    | cons x t=>exact List.pairwise_singleton _ _
  rw [h1,← List.take_add,List.take_append_drop]
theorem seg_none (l:List Ld) (a:Nat):en l a a=l:=by
  unfold en
  rw [Nat.sub_self,List.take_zero]
  show l.take a++[]++l.drop a=l
  rw [List.append_nil,List.take_append_drop]
theorem seg_srt {l:List Ld} {a b:Nat} (h1:a≤b) (h2:b≤l.length):dp (en l a b) a b:=by
  unfold en
  refine segSrt_of (by rw [List.length_take]; omega) ?_ (sortF_srt _)
  rw [fm,List.length_take,List.length_take,List.length_drop]; omega
theorem seg_seg {l:List Ld} {a i b:Nat} (h1:a≤i) (h2:i≤b) (h3:b≤l.length):en (en l a i) a b=en l a b:=by
  obtain ⟨X,U,V,Z,rfl,e1,e2,e3⟩:=jc l h1 h2 h3
  rw [show X++U++V++Z=X++U++(V++Z) by simp,fz e1 (by omega)]
  rw [show X++ed U++(V++Z)=X++(ed U++V)++Z by simp,fz e1 (by rw [List.length_append,fm]; omega)]
  rw [show X++U++(V++Z)=X++(U++V)++Z by simp,fz e1 (by rw [List.length_append]; omega)]
  rw [sortF_of (R:=ed (U++V)) (sortF_srt _) ((sortF_sam _).trans ((sortF_sam U).symm.app (Sam.refl V)))]
theorem rot_at {l:List Ld} {k q:Nat} (h1:k≤q) (h2:q < l.length):(fj l k q (q+1))[k]?=l[q]?:=by
  obtain ⟨X,U,V,Z,rfl,e1,e2,e3⟩:=jc l (a:=k) (m:=q) (b:=q+1) h1 (by omega) (by omega)
  match V,(show V.length=1 by omega) with
  | [v],_ =>
  rw [et e1 (by omega) (by simp; omega)]
  rw [show X++[v]++U++Z=X++v :: (U++Z) by simp,get_mid v e1,show X++U++[v]++Z=(X++U)++v :: Z by simp,get_mid v (by rw [List.length_append]; omega)]
theorem rot_before {l:List Ld} {k q r p:Nat} (h0:p < k) (h1:k≤q) (h2:q≤r) (h3:r≤l.length):(fj l k q r)[p]?=l[p]?:=by
  obtain ⟨X,U,V,Z,rfl,e1,e2,e3⟩:=jc l h1 h2 h3
  rw [et e1 (by omega) (by omega)]
  rw [show X++V++U++Z=X++(V++U++Z) by simp,show X++U++V++Z=X++(U++V++Z) by simp,List.getElem?_append_left (by omega),List.getElem?_append_left (by omega)]
theorem ins_end {l:List Ld} {a i j:Nat} {x:Ld} (hx:(en l a i)[i]?=some x) (h1:a≤j) (h2:j≤i) (h3:i < l.length) (hgt:∀ p y,j≤p→p < i→(en l a i)[p]?=some y→x.hr < y.hr)
    (hs:∀ y,a < j→(en l a i)[j - 1]?=some y→¬ x.hr < y.hr):fj (en l a i) j i (i+1)=en l a (i+1):=by
  have hS:=seg_srt (l:=l) (a:=a) (b:=i) (by omega) (by omega)
  have hl:=segF_len (l:=l) (a:=a) (b:=i) (by omega) (by omega)
  rw [one_right hx h1 h2 hS (fun p y k1 k2 k3=>?_) hgt,seg_seg (by omega) (by omega) (by omega)]
  obtain ⟨u,hu⟩:=bq (l:=en l a i) (i:=j - 1) (by omega)
  have:=hs u (by omega) hu
  have:=hS p (j - 1) y u k1 (by omega) (by omega) k3 hu
  omega
end Go.K
end
section
open Go Go.Proofs Go.RowKit
namespace Go.K
theorem seg_sam {l:List Ld} {a b:Nat} (h1:a≤b) (h2:b≤l.length):Sam Ld.hr (en l a b) l:=by
  obtain ⟨X,U,V,Z,rfl,e1,e2,e3⟩:=jc l h1 (Nat.le_refl _) h2
  have hv:V=[]:=List.length_eq_zero_iff.1 (by omega)
  subst hv
  rw [List.append_nil,fz e1 (by omega)]
  exact ((Sam.refl X).app (sortF_sam U)).app (Sam.refl Z)
theorem seg_out {l:List Ld} {a b p:Nat} (h1:a≤b) (h2:b≤l.length) (hp:p < a∨b≤p):(en l a b)[p]?=l[p]?:=by
  obtain ⟨X,U,V,Z,rfl,e1,e2,e3⟩:=jc l h1 (Nat.le_refl _) h2
  have hv:V=[]:=List.length_eq_zero_iff.1 (by omega)
  subst hv
  rw [List.append_nil,fz e1 (by omega)]
  rcases hp with hp | hp
  · rw [List.append_assoc,List.append_assoc,List.getElem?_append_left (by omega),List.getElem?_append_left (by omega)]
  rw [List.getElem?_append_right (by rw [List.length_append,fm]; omega),List.getElem?_append_right (by rw [List.length_append]; omega),List.length_append,List.length_append,fm]
theorem seg_keep {l:List Ld} {a b p q:Nat} (h1:a≤b) (h2:b≤l.length) (hp:q≤a∨b≤p) (h:dp l p q):dp (en l a b) p q:=fun i j x y hi hij hj hx hy=>by
  rw [seg_out h1 h2 (by omega)] at hx hy
  exact h i j x y hi hij hj hx hy
theorem dp.none {l:List Ld} {a b:Nat} (h:l.length≤a∨b≤a):dp l a b:=fun i j x y hi hij hj hx _=>by
  have:=bu hx; omega
theorem dp.long {l:List Ld} {a b c:Nat} (h:dp l a b) (hb:l.length≤b):dp l a c:=fun i j x y hi hij hj hx hy=>by
  have:=bu hy; exact h i j x y hi hij (by omega) hx hy
def BlkOk (M:List Ld) (s:Nat):Prop:=(s=20∧dp M 0 20∧dp M 20 40∧dp M 40 60)∨(s=40∧dp M 0 40∧dp M 40 60)∨(s=80∧dp M 0 60)
def InOk (M:List Ld) (s a b:Nat):Prop:=(BlkOk M s∧a=0∧b=2 * s∧s < 80)∨(s=20∧a=40∧b=80∧40≤M.length∧dp M 0 40∧dp M 40 60)
theorem BlkOk.done {M:List Ld} {s:Nat} (h:BlkOk M s) (hn:M.length≤60) (hs:M.length≤s):dp M 0 60:=by
  rcases h with ⟨rfl,h1,_⟩ | ⟨rfl,h1,_⟩ | ⟨rfl,h1⟩
  · exact h1.long hs
  · exact h1.long hs
  exact h1
theorem BlkOk.start {M:List Ld} {s:Nat} (h:BlkOk M s) (hn:M.length≤60) (hs:s < M.length):InOk M s 0 (2 * s):=.inl ⟨h,rfl,rfl,by omega⟩
theorem InOk.step {M:List Ld} {s a b:Nat} (h:InOk M s a b) (hn:M.length≤60) (hb:b≤M.length):0 < s∧a+s < b∧dp M a (a+s)∧dp M (a+s) b∧InOk (en M a b) s b (b+2 * s):=by
  rcases h with ⟨h,rfl,rfl,hs⟩ | ⟨rfl,rfl,rfl,_⟩
  · rcases h with ⟨rfl,h1,h2,h3⟩ | ⟨rfl,_⟩ | ⟨rfl,_⟩
    · refine ⟨by omega,by omega,h1,h2,.inr ⟨rfl,rfl,rfl,?_,seg_srt (by omega) (by omega),seg_keep (by omega) (by omega) (.inr (by omega)) h3⟩⟩
      rw [segF_len (by omega) (by omega)]; omega
    · omega
    omega
  omega
theorem InOk.last {M:List Ld} {s a b:Nat} (h:InOk M s a b) (hn:M.length≤60) (hb:M.length < b) (hm:a+s < M.length):0 < s∧dp M a (a+s)∧dp M (a+s) M.length∧BlkOk (en M a M.length) (s * 2):=by
  rcases h with ⟨h,rfl,rfl,hs⟩ | ⟨rfl,rfl,rfl,_⟩
  · rcases h with ⟨rfl,h1,h2,h3⟩ | ⟨rfl,h1,h2⟩ | ⟨rfl,_⟩
    · exact ⟨by omega,h1,h2.sub (by omega) (by omega),.inr (.inl ⟨rfl,(seg_srt (by omega) (by omega)).long (by rw [segF_len (by omega) (by omega)]; omega),dp.none (.inl (by rw [segF_len (by omega) (by omega)]; omega))⟩)⟩
    · exact ⟨by omega,h1,h2.sub (by omega) hn,.inr (.inr ⟨rfl,(seg_srt (by omega) (by omega)).long (by rw [segF_len (by omega) (by omega)]; omega)⟩)⟩
    omega
  omega
theorem InOk.none {M:List Ld} {s a b:Nat} (h:InOk M s a b) (hn:M.length≤60) (hb:M.length < b) (hm:M.length≤a+s):BlkOk M (s * 2):=by
  rcases h with ⟨h,rfl,rfl,hs⟩ | ⟨rfl,rfl,rfl,_,h1,h2⟩
  · rcases h with ⟨rfl,h1,h2,h3⟩ | ⟨rfl,h1,h2⟩ | ⟨rfl,_⟩
    · exact .inr (.inl ⟨rfl,h1.long (by omega),dp.none (.inl (by omega))⟩)
    · exact .inr (.inr ⟨rfl,h1.long (by omega)⟩)
    omega
  exact .inr (.inl ⟨rfl,h1,h2⟩)
def InsOk (M:List Ld) (k:Nat):Prop:=∀ t,t < k→dp M (20 * t) (20 * (t+1))
theorem InsOk.step {M:List Ld} {k:Nat} (h:InsOk M k) (hb:20 * (k+1)≤M.length):InsOk (en M (20 * k) (20 * (k+1))) (k+1):=fun t ht=>by
  by_cases e:t=k
  · subst e; exact seg_srt (by omega) hb
  exact seg_keep (by omega) hb (.inl (by omega)) (h t (by omega))
theorem InsOk.last {M:List Ld} {k:Nat} (h:InsOk M k) (hn:M.length≤60) (hk:20 * k≤M.length) (hb:M.length < 20 * (k+1)):BlkOk (en M (20 * k) M.length) 20:=by
  have hl:=segF_len (l:=M) (a:=20 * k) (b:=M.length) hk (Nat.le_refl _)
  have hs:=seg_srt (l:=M) (a:=20 * k) (b:=M.length) hk (Nat.le_refl _)
  have hk':∀ t,t < k→dp (en M (20 * k) M.length) (20 * t) (20 * (t+1)):=fun t ht=>seg_keep hk (Nat.le_refl _) (.inl (by omega)) (h t ht)
  have key:∀ t,dp (en M (20 * k) M.length) (20 * t) (20 * (t+1)):=fun t=>by
    rcases Nat.lt_trichotomy t k with e | e | e
    · exact hk' t e
    · subst e; exact hs.long (by omega)
    exact dp.none (.inl (by omega))
  exact .inl ⟨rfl,key 0,key 1,key 2⟩
theorem stable_end {M l:List Ld} (hs:Sam Ld.hr M l) (h:dp M 0 60) (hn:M.length≤60):M=ed l:=by
  have h2:Srt Ld.hr M:=srt_of_seg (X:=[]) (S:=M) (Y:=[]) (a:=0) (b:=M.length) rfl (by simp) (by simpa using h.sub (Nat.le_refl 0) hn)
  exact (sortF_of h2 hs).symm
end Go.K
end
