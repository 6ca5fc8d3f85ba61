/- Y1, Y2, Y3, Y4, Y5, Y6, Y7, Y8, Y9, Ya, Yb, Yc, Yd, Ye. -/
import Derived.Test.YtcondbkhcjgemaaGreatDoorUD
import Derived.KernelRfl
set_option linter.unusedVariables false
set_option linter.unusedSimpArgs false
section
namespace Go.K
open Go.RowKit
theorem ba {α β:Type} (x:α) (k:α→Option β):bp (some x) k=k x:=rfl
theorem du {β:Type} {p:Prop} [Decidable p] {k:Option β} (h:p):gdO p k=k:=if_pos h
theorem dr {β:Type} {n:Int} {k:Option β} (h:InR n):ckO n k=k:=if_pos h
theorem dy {n:Int} (h0:-1000000000000≤n) (h1:n≤1000000000000):InR n:=by unfold InR; omega
def okB (b:UInt8):Bool:=decide (32≤nb b) && decide (nb b≤126)
def ck (s:Str):Bool:=s.all okB
theorem jj {α:Type} {l:List α} {i:Nat} (h:i < l.length):l.drop i=l[i] :: l.drop (i+1):=List.drop_eq_getElem_cons h
theorem F145l_eq (s:Str) (hs:(s.length:Int)≤1000000000):∀ (m i:Nat),i≤s.length→s.length - i < m→F145l1 s m (i:Int)=some ((s.drop i).all okB):=by
  intro m
  induction m with
  | zero=>intro i _ h; omega
  | succ m ih =>
    intro i hi hm
    simp only [F145l1,F145b1]
    by_cases h:i < s.length
    · rw [if_pos (by omega),du (by omega),Int.toNat_natCast,List.getElem?_eq_getElem h,ba,jj h,List.all_cons]
      by_cases h1:nb s[i] < 32
      · rw [if_pos h1,show okB s[i]=false by simp [okB]; omega]; simp
      rw [if_neg h1]
      by_cases h2:126 < nb s[i]
      · rw [if_pos h2,show okB s[i]=false by simp [okB]; omega]; simp
      rw [if_neg h2,dr (dy (by omega) (by omega)),show ((i:Int)+1)=((i+1:Nat):Int) by omega,ih (i+1) (by omega) (by omega),show okB s[i]=true by simp [okB]; omega]
      simp
    rw [if_neg (by omega),List.drop_of_length_le (by omega)]
    rfl
theorem F145_eq (s:Str) (hs:(s.length:Int)≤1000000000) {N:Nat} (hN:s.length < N):F145 N s=some (ck s):=by
  have:=F145l_eq s hs N 0 (by omega) (by omega)
  simpa [F145,ck] using this
theorem F84l_eq (s:Str) (hs:(s.length:Int)≤1000000000):∀ (m i:Nat),i≤s.length→s.length - i < m→F84l1 s m (i:Int)=some ((s.drop i).all okB):=by
  intro m
  induction m with
  | zero=>intro i _ h; omega
  | succ m ih =>
    intro i hi hm
    simp only [F84l1,F84b1]
    by_cases h:i < s.length
    · rw [if_pos (by omega),du (by omega),Int.toNat_natCast,List.getElem?_eq_getElem h,ba,jj h,List.all_cons]
      by_cases h1:nb s[i] < 32
      · rw [if_pos h1,show okB s[i]=false by simp [okB]; omega]; simp
      rw [if_neg h1]
      by_cases h2:126 < nb s[i]
      · rw [if_pos h2,show okB s[i]=false by simp [okB]; omega]; simp
      rw [if_neg h2,dr (dy (by omega) (by omega)),show ((i:Int)+1)=((i+1:Nat):Int) by omega,ih (i+1) (by omega) (by omega),show okB s[i]=true by simp [okB]; omega]
      simp
    rw [if_neg (by omega),List.drop_of_length_le (by omega)]
    rfl
theorem F84_eq (s:Str) (hs:(s.length:Int)≤1000000000) {N:Nat} (hN:s.length < N):F84 N s=some (ck s):=by
  have:=F84l_eq s hs N 0 (by omega) (by omega)
  simpa [F84,ck] using this
def inB (x a b:Int):Bool:=decide (a≤x) && decide (x≤b)
theorem F76_eq (x a b:Int):F76 x a b=some (inB x a b):=by
  simp only [F76,inB]; by_cases h1:a≤x <;> by_cases h2:x≤b <;> simp [h1,h2]
theorem F82_eq (x a b:Int):F82 x a b=some (inB x a b):=F76_eq x a b
def vIt (x:It):Bool:=inB x.p 0 5 && inB x.n 0 9999
theorem F75_eq (x:It):F75 x=some (vIt x):=by
  simp only [F75,F126,F76_eq,ba,vIt]
  cases inB x.p 0 5 <;> simp
theorem F81_eq (x:It):F81 x=some (vIt x):=by
  simp only [F81,F127,F82_eq,ba,vIt]
  cases inB x.p 0 5 <;> simp
def suitB (p0:Rc):Bool :=
  if p0.k=0 then vIt ⟨p0.op,p0.on⟩ && decide (p0.op=p0.p) && decide (p0.on < p0.n) && decide (p0.d=0) && decide (p0.t=[])
  else decide (p0.op=0) && decide (p0.on=0)
theorem F80_eq (p0:Rc):F80 p0=some (suitB p0):=by
  unfold F80 suitB
  by_cases h:p0.k=0
  · rw [if_pos h,if_pos h,F75_eq,ba]
    cases h1:vIt ⟨p0.op,p0.on⟩ <;> by_cases h2:p0.op=p0.p <;> by_cases h3:p0.on < p0.n <;> by_cases h4:p0.d=0 <;> by_cases h5:p0.t=[] <;> simp [F80j1,h2,h3,h4,h5]
  rw [if_neg h,if_neg h]
  by_cases h1:p0.op=0 <;> by_cases h2:p0.on=0 <;> simp [h1,h2]
def vRc (p0:Rc):Bool:=vIt ⟨p0.p,p0.n⟩ && inB p0.k 0 60 && inB p0.d 0 4166 && inB p0.kn 0 4166 && decide ((p0.t.length:Int)≤160) && ck p0.t && suitB p0
theorem F17_eq (p0:Rc) {N:Nat} (hN:161≤N):F17 N p0=some (if vRc p0=true then 0 else 80):=by
  have h79:F79 N p0.t=some (decide ((p0.t.length:Int)≤160) && ck p0.t):=by
    unfold F79
    by_cases h:(p0.t.length:Int)≤160
    · rw [if_pos h,F145_eq p0.t (by omega) (by omega),ba]; simp [h]
    rw [if_neg h]; simp [h]
  simp only [F17,F17j1,F77,F78,F75_eq,F76_eq,F80_eq,h79,ba,vRc]
  rcases Bool.eq_false_or_eq_true (vIt ⟨p0.p,p0.n⟩) with h1 | h1 <;> rcases Bool.eq_false_or_eq_true (inB p0.k 0 60) with h2 | h2 <;> rcases Bool.eq_false_or_eq_true (inB p0.d 0 4166) with h3 | h3 <;> rcases Bool.eq_false_or_eq_true (inB p0.kn 0 4166) with h4 | h4 <;> by_cases h5:(p0.t.length:Int)≤160 <;> rcases Bool.eq_false_or_eq_true (ck p0.t) with h6 | h6 <;> rcases Bool.eq_false_or_eq_true (suitB p0) with h7 | h7 <;> simp [h1,h2,h3,h4,h5,h6,h7,ba]
theorem F18_eq (p0:Rc) {N:Nat} (hN:161≤N):F18 N p0=some (if vRc p0=true then 0 else 80):=by
  simp only [F18,F81_eq,F82_eq,F83,ba,vRc]
  rcases Bool.eq_false_or_eq_true (vIt ⟨p0.p,p0.n⟩) with h1 | h1
  · rcases Bool.eq_false_or_eq_true (inB p0.k 0 60) with h2 | h2
    · rcases Bool.eq_false_or_eq_true (inB p0.d 0 4166) with h3 | h3
      · rcases Bool.eq_false_or_eq_true (inB p0.kn 0 4166) with h4 | h4
        · by_cases h5:(p0.t.length:Int)≤160
          · rw [F84_eq p0.t (by omega) (by omega)]
            rcases Bool.eq_false_or_eq_true (ck p0.t) with h6 | h6
            · simp only [ba,suitB,h1,h2,h3,h4,h6,if_true,decide_eq_true h5,Bool.and_true,Bool.true_and,if_neg (show ¬ (160:Int) < p0.t.length by omega)]
              by_cases hk:p0.k=0
              · simp only [if_pos hk]
                rcases Bool.eq_false_or_eq_true (vIt ⟨p0.op,p0.on⟩) with g1 | g1
                · simp only [g1]
                  by_cases g2:p0.op=p0.p <;> by_cases g3:p0.n≤p0.on <;> by_cases g4:p0.d=0 <;> by_cases g5:p0.t=[] <;> simp [g2,g3,g4,g5,show p0.on < p0.n↔¬ p0.n≤p0.on from Int.not_le.symm]
                simp only [g1]
                by_cases g4:p0.d=0 <;> by_cases g5:p0.t=[] <;> simp [g4,g5]
              simp only [if_neg hk]
              by_cases g2:p0.op=0 <;> by_cases g3:p0.on=0 <;> simp [g2,g3]
            simp [h1,h2,h3,h4,h5,h6,Int.not_lt.2 h5,ba]
          simp [h1,h2,h3,h4,h5,show (160:Int) < p0.t.length by omega]
        simp [h1,h2,h3,h4]
      simp [h1,h2,h3]
    simp [h1,h2]
  simp [h1]
end Go.K
end
section
namespace Go.K
open Go.RowKit
theorem decS_len:∀ (m u:Nat),(decS m u).length≤m
  | 0,u=>by simp [decS]
  | m+1,u=>by
    rw [decS]; split
    · simp
    have:=decS_len m (u / 10); simp; omega
theorem dig_eq {u:Nat} (h:u < 10):bl [w8 (48+(u:Int))]=[UInt8.ofNat (48+u)]:=by
  simp only [bl,List.map_cons,List.map_nil,ub,w8]
  rw [show ((48+(u:Int)) % 256).toNat=48+u by omega]
theorem F143_nat:∀ (m u:Nat),m≤19→u < 10 ^ (m+1)→(u:Int)≤9223372036854775807→F143 (m+1) (u:Int)=some (decS (m+1) u)
  | 0,u,_,h,hr=>by
    have h:u < 10:=by simpa using h
    rw [F143,F143b,if_neg (by omega),if_neg (by omega),if_pos (by omega),dr (by unfold InR; omega),dig_eq h,decS,if_pos h]
  | m+1,u,hm,h,hr=>by
    rw [F143,F143b,if_neg (by omega),if_neg (by omega),decS]
    by_cases h1:u < 10
    · rw [if_pos (by omega),dr (by unfold InR; omega),dig_eq h1,if_pos h1]
    have e1:(u:Int).tdiv 10=((u / 10:Nat):Int):=rfl
    have e2:(u:Int).tmod 10=((u % 10:Nat):Int):=rfl
    rw [if_neg (by omega),dr (by unfold InR; omega),e1,F143_nat m (u / 10) (by omega) (by rw [Nat.pow_succ] at h; omega) (by omega),ba,e2,dr (by unfold InR; omega),dig_eq (Nat.mod_lt _ (by decide)),du (by have:=decS_len (m+1) (u / 10); simp; omega),if_neg h1]
theorem F143_neg:∀ (m u:Nat),m≤19→0 < u→u < 10 ^ (m+1)→(u:Int)≤9223372036854775808→F143 (m+1) (-(u:Int))=some (45 :: decS (m+1) u)
  | 0,u,_,h0,h,hr=>by
    have h:u < 10:=by simpa using h
    rw [F143,F143b,if_neg (by omega),if_pos (by omega),show (48:Int) - -(u:Int)=48+u by omega,dr (by unfold InR; omega),dig_eq h,decS,if_pos h]
    rfl
  | m+1,u,hm,h0,h,hr=>by
    rw [F143,F143b,decS]
    by_cases h1:u < 10
    · rw [if_neg (by omega),if_pos (by omega),show (48:Int) - -(u:Int)=48+u by omega,dr (by unfold InR; omega),dig_eq h1,if_pos h1]
      rfl
    have e1:(-(u:Int)).tdiv 10=-((u / 10:Nat):Int):=by rw [Int.neg_tdiv]; rfl
    have e2:(-(u:Int)).tmod 10=-((u % 10:Nat):Int):=by rw [Int.neg_tmod]; rfl
    rw [if_pos (by omega),dr (by unfold InR; omega),e1,F143_neg m (u / 10) (by omega) (by omega) (by rw [Nat.pow_succ] at h; omega) (by omega),ba,e2,show (48:Int) - -((u % 10:Nat):Int)=48+((u % 10:Nat):Int) by omega,dr (by unfold InR; omega),dig_eq (Nat.mod_lt _ (by decide)),du (by have:=decS_len (m+1) (u / 10); simp; omega),if_neg h1]
    rfl
theorem F143_more:∀ (N:Nat) (n:Int) (x:Str),F143 N n=some x→F143 (N+1) n=some x:=by
  intro N
  induction N with
  | zero=>intro n x h; cases h
  | succ N ih =>
    intro n x h
    rw [F143] at h ⊢
    unfold F143b at h ⊢
    split at h
    · rename_i h1; rw [if_pos h1]
      revert h; unfold ckO bp gdO; split
      · cases h2:F143 N (n.tdiv 10) with
        | none=>intro h; cases h
        | some y=>rw [ih _ _ h2]; exact id
      intro h; cases h
    rename_i h1; rw [if_neg h1]
    split at h
    · rename_i h2; rw [if_pos h2]; exact h
    rename_i h2; rw [if_neg h2]
    split at h
    · rename_i h3; rw [if_pos h3]; exact h
    rename_i h3; rw [if_neg h3]
    revert h; unfold ckO bp gdO; split
    · cases h2:F143 N (n.tdiv 10) with
      | none=>intro h; cases h
      | some y=>rw [ih _ _ h2]; exact id
    intro h; cases h
theorem F143_eq (n:Int) (h:InR n) (N:Nat):F143 (N+20) n=some (itoaS n):=by
  induction N with
  | zero =>
    unfold InR at h
    unfold itoaS
    by_cases h1:n < 0
    · rw [if_pos h1]
      have:=F143_neg 19 n.natAbs (by omega) (by omega) (by have:(10:Nat) ^ 20=100000000000000000000:=rfl; omega) (by omega)
      rwa [show (-(n.natAbs:Int))=n by omega] at this
    rw [if_neg h1]
    have:=F143_nat 19 n.toNat (by omega) (by have:(10:Nat) ^ 20=100000000000000000000:=rfl; omega) (by omega)
    rwa [show ((n.toNat:Nat):Int)=n by omega] at this
  | succ N ih=>rw [show N+1+20=N+20+1 by omega]; exact F143_more _ _ _ ih
end Go.K
end
section
namespace Go.K
open Go.RowKit
theorem itoaS_len (n:Int):(itoaS n).length≤21:=by
  unfold itoaS; split
  · have:=decS_len 20 n.natAbs; simp; omega
  have:=decS_len 20 n.toNat; omega
def txtN:List Int→Str
  | []=>[]
  | n :: r=>itoaS n++[32]++txtN r
def nc (r:Rc):List Int:=[r.p,r.n,r.k,r.d,r.kn,r.op,r.on]
def my (r:Rc):Str:=txtN (nc r)++r.t
theorem F142_eq {n:Int} (h:InR n):F142 n=some (itoaS n):=by unfold F142; rw [dr h]
theorem F69l_eq (r:Rc) (hr:∀ x∈nc r,InR x):∀ (m i:Nat) (t:Str),i≤7→7 - i < m→t.length≤22 * i→F69l2 r m t (i:Int)=F69j1 r (t++txtN ((nc r).drop i)):=by
  intro m
  induction m with
  | zero=>intro i t _ h; omega
  | succ m ih =>
    intro i t hi hm ht
    simp only [F69l2,F69b2]
    by_cases h:i < 7
    · have hl:i < (nc r).length:=h
      rw [if_pos (by omega),du (by omega),Int.toNat_natCast,show [r.p,r.n,r.k,r.d,r.kn,r.op,r.on]=nc r from rfl,List.getElem?_eq_getElem hl,ba,F142_eq (hr _ (List.getElem_mem hl)),ba]
      have:=itoaS_len (nc r)[i]
      rw [du (by simp; omega),du (by simp; omega),dr (dy (by omega) (by omega)),show ((i:Int)+1)=((i+1:Nat):Int) by omega,ih (i+1) _ (by omega) (by omega) (by simp; omega),jj hl,txtN]
      simp
    have:i=7:=by omega
    subst this
    rw [if_neg (by omega),show (nc r).drop 7=[] from rfl,txtN,List.append_nil]
theorem F69_eq (r:Rc) (hr:∀ x∈nc r,InR x) (ht:r.t.length≤1000) (hx:(txtN (nc r)).length≤1000) {N:Nat} (hN:8≤N):F69 N r=some (my r):=by
  have:=F69l_eq r hr N 0 [] (by omega) (by omega) (by simp)
  unfold F69
  rw [show (0:Int)=((0:Nat):Int) from rfl,this,List.nil_append,List.drop_zero,F69j1,du (by omega)]
  rfl
theorem txtN_len:∀ l:List Int,(txtN l).length≤22 * l.length
  | []=>by simp [txtN]
  | n :: l=>by have:=txtN_len l; have:=itoaS_len n; simp [txtN]; omega
theorem F70l_eq (r:Rc) (hr:∀ x∈nc r,InR x) (N:Nat):∀ (m i:Nat) (t:Str),i≤7→7 - i < m→t.length≤22 * i→F70l2 r (N+20) m t (i:Int)=F70j1 r (t++txtN ((nc r).drop i)):=by
  intro m
  induction m with
  | zero=>intro i t _ h; omega
  | succ m ih =>
    intro i t hi hm ht
    simp only [F70l2,F70b2]
    by_cases h:i < 7
    · have hl:i < (nc r).length:=h
      rw [if_pos (by omega),du (by omega),Int.toNat_natCast,show [r.p,r.n,r.k,r.d,r.kn,r.op,r.on]=nc r from rfl,List.getElem?_eq_getElem hl,ba,F143_eq _ (hr _ (List.getElem_mem hl)),ba]
      have:=itoaS_len (nc r)[i]
      rw [du (by omega),du (by simp; omega),dr (dy (by omega) (by omega)),show ((i:Int)+1)=((i+1:Nat):Int) by omega,ih (i+1) _ (by omega) (by omega) (by simp; omega),jj hl,txtN]
      simp
    have:i=7:=by omega
    subst this
    rw [if_neg (by omega),show (nc r).drop 7=[] from rfl,txtN,List.append_nil]
theorem F70_eq (r:Rc) (hr:∀ x∈nc r,InR x) (ht:r.t.length≤1000) (N:Nat):F70 (N+20) r=some (my r):=by
  have:=F70l_eq r hr N (N+20) 0 [] (by omega) (by omega) (by simp)
  have hx:=txtN_len (nc r)
  have hx:(txtN (nc r)).length≤154:=hx
  unfold F70
  rw [show (0:Int)=((0:Nat):Int) from rfl,this,List.nil_append,List.drop_zero,F70j1,du (by omega)]
  rfl
theorem vRc_small {r:Rc} (h:vRc r=true):(∀ x∈nc r,InR x)∧r.t.length≤160:=by
  simp only [vRc,vIt,inB,suitB,Bool.and_eq_true,decide_eq_true_eq] at h
  obtain ⟨⟨⟨⟨⟨⟨⟨h1,h2⟩,h3⟩,h4⟩,h5⟩,h6⟩,h7⟩,h8⟩:=h
  refine ⟨fun x hx=>?_,by omega⟩
  have ho:(0≤r.op∧r.op≤5)∧0≤r.on∧r.on≤9999:=by
    split at h8
    · simp only [Bool.and_eq_true,decide_eq_true_eq] at h8
      obtain ⟨⟨⟨⟨⟨a,b⟩,_⟩,_⟩,_⟩,_⟩:=h8
      exact ⟨a,b⟩
    simp only [Bool.and_eq_true,decide_eq_true_eq] at h8
    omega
  simp only [nc,List.mem_cons,List.not_mem_nil,or_false] at hx
  unfold InR
  rcases hx with rfl | rfl | rfl | rfl | rfl | rfl | rfl <;> omega
theorem F13_F14 (r:Rc) (N:Nat):F13 (N+200) r=F14 (N+200) r∧F13 (N+200) r=some (if vRc r=true then (my r,0) else ([],80)):=by
  have e1:=F17_eq r (N:=N+200) (by omega)
  have e2:=F18_eq r (N:=N+200) (by omega)
  have hh:vRc r=true→F69 (N+200) r=some (my r)∧F70 (N+200) r=some (my r):=fun h=>by
    obtain ⟨h1,h2⟩:=vRc_small h
    have hx:=txtN_len (nc r)
    exact ⟨F69_eq r h1 (by omega) (by have:(nc r).length=7:=rfl; omega) (by omega),F70_eq r h1 (by omega) (N+180)⟩
  unfold F13 F14
  rw [e1,e2]
  rcases Bool.eq_false_or_eq_true (vRc r) with h | h
  · obtain ⟨a,b⟩:=hh h
    simp [h,a,b,ba]
  simp [h,ba]
end Go.K
end
section
namespace Go.K
open Go.RowKit
def pickQ (q:Int) (x y:Int):Int:=if q=0 then x else if q=1 then y else 32+(x+y - 64) % 95
def thQ (q:Int):Str→List Int
  | []=>[]
  | [x]=>[pickQ q (nb x) 32]
  | x :: y :: r=>pickQ q (nb x) (nb y) :: thQ q r
theorem na (b:UInt8):okB b=true↔32≤nb b∧nb b≤126:=by simp [okB]
theorem F164_eq {x y:Int} (hx:32≤x∧x≤126) (hy:32≤y∧y≤126):F164 x y=some (32+(x+y - 64) % 95):=by
  have e:(x - 32+y - 32)=x+y - 64:=by omega
  have e2:(x+y - 64).tmod 95=(x+y - 64) % 95:=Int.tmod_eq_emod_of_nonneg (by omega)
  have e3:0≤(x+y - 64) % 95∧(x+y - 64) % 95 < 95:=⟨Int.emod_nonneg _ (by decide),Int.emod_lt_of_pos _ (by decide)⟩
  unfold F164
  rw [e,e2,dr (by unfold InR; omega),dr (by unfold InR; omega),dr (by unfold InR; omega),dr (by unfold InR; omega),dr (by unfold InR; omega),dr (by unfold InR; omega),w8,Int.emod_eq_of_lt (by omega) (by omega)]
theorem F147_eq {x y:Int} (hx:32≤x∧x≤126) (hy:32≤y∧y≤126):F147 x y=some (32+(x+y - 64) % 95):=by
  have e0:w8 (x - 32)=x - 32:=Int.emod_eq_of_lt (by omega) (by omega)
  have e1:w8 (x - 32+y)=x - 32+y:=Int.emod_eq_of_lt (by omega) (by omega)
  have e2:w8 (x - 32+y - 32)=x+y - 64:=by rw [show x - 32+y - 32=x+y - 64 by omega]; exact Int.emod_eq_of_lt (by omega) (by omega)
  have e3:(x+y - 64).tmod 95=(x+y - 64) % 95:=Int.tmod_eq_emod_of_nonneg (by omega)
  have e4:0≤(x+y - 64) % 95∧(x+y - 64) % 95 < 95:=⟨Int.emod_nonneg _ (by decide),Int.emod_lt_of_pos _ (by decide)⟩
  unfold F147
  rw [e0,e1,e2,e3,w8,Int.emod_eq_of_lt (by omega) (by omega)]
theorem F148j3_eq {q:Int} (rec1:List Int→Int→Option Str) (out:List Int) (i:Nat) (x:UInt8) {y:Int} (hx:okB x=true) (hy:32≤y∧y≤126) (ho:out.length+1≤1000000000) (hi:i≤1000000000):F148j3 q rec1 out (i:Int) x y=rec1 (out++[pickQ q (nb x) y]) ((i+2:Nat):Int):=by
  rw [na] at hx
  unfold F148j3 pickQ
  by_cases h0:q=0
  · rw [if_pos h0,if_pos h0,du ho,F148j2,dr (dy (by omega) (by omega))]; rfl
  rw [if_neg h0,if_neg h0]
  by_cases h1:q=1
  · rw [if_pos h1,if_pos h1,du ho,F148j2,dr (dy (by omega) (by omega))]; rfl
  rw [if_neg h1,if_neg h1,F164_eq hx hy,ba,du ho,F148j2,dr (dy (by omega) (by omega))]; rfl
theorem F148l_eq (s:Str) (q:Int) (hs:s.length≤1000000) (hp:ck s=true):∀ (m i:Nat) (out:List Int),s.length - i < m→i≤s.length+1→out.length≤i→F148l1 s q m out (i:Int)=some (bl (out++thQ q (s.drop i))):=by
  have hb:∀ b∈s,okB b=true:=by simpa [ck] using hp
  intro m
  induction m with
  | zero=>intro i out h; omega
  | succ m ih =>
    intro i out hm hi ho
    simp only [F148l1,F148b1]
    by_cases h:i < s.length
    · rw [if_pos (by omega),du (by omega),Int.toNat_natCast,List.getElem?_eq_getElem h,ba,dr (dy (by omega) (by omega))]
      by_cases h2:i+1 < s.length
      · rw [if_pos (by omega),du (by omega),show ((i:Int)+1).toNat=i+1 by omega,List.getElem?_eq_getElem h2,ba,F148j3_eq _ _ _ _ (hb _ (List.getElem_mem h)) ((na _).1 (hb _ (List.getElem_mem h2))) (by omega) (by omega),ih (i+2) _ (by omega) (by omega) (by simp; omega),jj h,jj h2]
        simp [thQ]
      rw [if_neg (by omega),F148j3_eq _ _ _ _ (hb _ (List.getElem_mem h)) (by omega) (by omega) (by omega),ih (i+2) _ (by omega) (by omega) (by simp; omega),jj h,List.drop_of_length_le (show s.length≤i+1 by omega),List.drop_of_length_le (show s.length≤i+2 by omega)]
      simp [thQ]
    rw [if_neg (by omega),List.drop_of_length_le (by omega)]
    simp [thQ]
theorem F148_eq (s:Str) (q:Int) (hs:s.length≤1000000) (hp:ck s=true) {N:Nat} (hN:s.length < N):F148 N s q=some (bl (thQ q s)):=by
  have:=F148l_eq s q hs hp N 0 [] (by omega) (by omega) (by simp)
  simpa [F148] using this
end Go.K
end
section
namespace Go.K
open Go.RowKit
theorem okDig {u:Nat} (h:u < 10):okB (UInt8.ofNat (48+u))=true:=by
  rw [na]
  have:(UInt8.ofNat (48+u)).toNat=48+u:=by simp [UInt8.toNat_ofNat']; omega
  unfold nb; rw [this]; omega
theorem decS_ok:∀ (m u:Nat),∀ b∈decS m u,okB b=true
  | 0,u,b,hb=>by simp [decS] at hb
  | m+1,u,b,hb=>by
    rw [decS] at hb
    split at hb
    · rename_i h; rw [List.mem_singleton.1 hb]; exact okDig h
    rcases List.mem_append.1 hb with hb | hb
    · exact decS_ok m _ b hb
    rw [List.mem_singleton.1 hb]; exact okDig (Nat.mod_lt u (by decide))
theorem itoaS_ok {n:Int}:∀ b∈itoaS n,okB b=true:=by
  intro b hb
  unfold itoaS at hb
  split at hb
  · rcases List.mem_cons.1 hb with rfl | hb
    · decide
    exact decS_ok _ _ b hb
  exact decS_ok _ _ b hb
theorem txtN_ok:∀ (l:List Int),∀ b∈txtN l,okB b=true
  | [],b,hb=>by simp [txtN] at hb
  | n :: l,b,hb=>by
    simp only [txtN,List.append_assoc,List.mem_append,List.mem_cons,List.not_mem_nil,or_false] at hb
    rcases hb with hb | rfl | hb
    · exact itoaS_ok b hb
    · decide
    exact txtN_ok l b hb
theorem txtS_plain {r:Rc} (h:ck r.t=true):ck (my r)=true:=by
  simp only [ck,List.all_eq_true] at *
  intro b hb
  rcases List.mem_append.1 hb with hb | hb
  · exact txtN_ok _ b hb
  exact h b hb
theorem vRc_plain {r:Rc} (h:vRc r=true):ck r.t=true:=by
  simp only [vRc,Bool.and_eq_true] at h; exact h.1.2
theorem txtS_len (r:Rc):(my r).length≤154+r.t.length:=by
  have h:=txtN_len (nc r)
  have h:(txtN (nc r)).length≤154:=h
  simp [my]; omega
theorem thQ_pad (q:Int):∀ (n:Nat) (s:Str),s.length≤n→s.length % 2=1→thQ q (s++[32])=thQ q s
  | _,[],_,h=>by simp at h
  | _,[x],_,_=>rfl
  | 0,x :: y :: r,h,_=>by simp at h
  | 1,x :: y :: r,h,_=>by simp at h
  | n+2,x :: y :: r,hn,h=>by
    simp only [List.cons_append,thQ]
    rw [thQ_pad q n r (by simp at hn; omega) (by simp at h; omega)]
def strips (r:Rc) (no:Int):List Sp3:=[⟨no,(my r).length,bl (thQ 0 (my r))⟩,⟨no,(my r).length,bl (thQ 1 (my r))⟩,⟨no,(my r).length,bl (thQ 2 (my r))⟩]
theorem F88l_eq (no:Int) (y v:Str) (hv:v.length≤1000000) (hp:ck v=true):∀ (m j:Nat) (a b c:List Int),v.length % 2=0→v.length - 2 * j < m→2 * j≤v.length→a.length≤2 * j→b.length≤2 * j→c.length≤2 * j →
    F88l2 no y v m a b c ((2 * j:Nat):Int)=some [(⟨no,y.length,bl (a++thQ 0 (v.drop (2 * j)))⟩:Sp3),⟨no,y.length,bl (b++thQ 1 (v.drop (2 * j)))⟩,⟨no,y.length,bl (c++thQ 2 (v.drop (2 * j)))⟩]:=by
  have hb:∀ b∈v,okB b=true:=by simpa [ck] using hp
  intro m
  induction m with
  | zero=>intro j a b c _ h; omega
  | succ m ih =>
    intro j a b c he hm hj ha hbb hc
    simp only [F88l2,F88b2]
    by_cases h:2 * j < v.length
    · have h2:2 * j+1 < v.length:=by omega
      have o1:=hb _ (List.getElem_mem h)
      have o2:=hb _ (List.getElem_mem h2)
      rw [if_pos (by omega),du (by omega),Int.toNat_natCast,List.getElem?_eq_getElem h,ba,dr (dy (by omega) (by omega)),du (by omega),show (((2 * j:Nat):Int)+1).toNat=2 * j+1 by omega,List.getElem?_eq_getElem h2,ba,du (by omega),du (by omega),F147_eq ((na _).1 o1) ((na _).1 o2),ba,du (by omega),dr (dy (by omega) (by omega)),show (((2 * j:Nat):Int)+2)=((2 * (j+1):Nat):Int) by omega,ih (j+1) _ _ _ he (by omega) (by omega) (by simp; omega) (by simp; omega) (by simp; omega),jj h,jj h2]
      simp [thQ,pickQ,Nat.mul_add]
    rw [if_neg (by omega),List.drop_of_length_le (by omega)]
    simp [thQ]
theorem F88_eq (r:Rc) (no:Int) (h:vRc r=true) (N:Nat):F88 (N+400) r no=some (strips r no):=by
  obtain ⟨h1,h2⟩:=vRc_small h
  have hl:=txtS_len r
  have hp:=txtS_plain (vRc_plain h)
  have hx:=txtN_len (nc r)
  have hx:(txtN (nc r)).length≤154:=hx
  unfold F88
  rw [F69_eq r h1 (by omega) (by omega) (by omega),ba]
  have e:((my r).length:Int).tmod 2=(((my r).length % 2:Nat):Int):=rfl
  rw [e]
  by_cases ho:(my r).length % 2=1
  · rw [if_pos (by omega),du (by simp; omega),F88j1]
    have hp2:ck (my r++[32])=true:=by
      simp only [ck,List.all_append,Bool.and_eq_true] at hp ⊢; exact ⟨hp,by decide⟩
    have:=F88l_eq no (my r) (my r++[32]) (by simp; omega) hp2 (N+400) 0 [] [] [] (by simp; omega) (by simp; omega) (by omega) (by simp) (by simp) (by simp)
    rw [show ((2 * 0:Nat):Int)=0 from rfl] at this
    rw [this]
    simp only [Nat.mul_zero,List.drop_zero,List.nil_append,thQ_pad _ _ (my r) (Nat.le_refl _) ho]
    rfl
  rw [if_neg (by omega),F88j1]
  have:=F88l_eq no (my r) (my r) (by omega) hp (N+400) 0 [] [] [] (by omega) (by omega) (by omega) (by simp) (by simp) (by simp)
  rw [show ((2 * 0:Nat):Int)=0 from rfl] at this
  rw [this]
  simp only [Nat.mul_zero,List.drop_zero,List.nil_append]
  rfl
theorem F89_eq (r:Rc) (no:Int) (h:vRc r=true) (N:Nat):F89 (N+400) r no=some (strips r no):=by
  obtain ⟨h1,h2⟩:=vRc_small h
  have hl:=txtS_len r
  have hp:=txtS_plain (vRc_plain h)
  have e:∀ q,F148 (N+400) (my r) q=some (bl (thQ q (my r))):=fun q=>F148_eq _ q (by omega) hp (by omega)
  have hh:∀ M,F89l1 no (N+400) (my r) (M+4) [] 0=some (strips r no):=fun M=>by
    simp only [F89l1,F89b1,e,ba]
    rw [if_pos (by omega),du (by simp),dr (by unfold InR; omega),if_pos (by omega),du (by simp),dr (by unfold InR; omega),if_pos (by omega),du (by simp),dr (by unfold InR; omega),if_neg (by omega)]
    rfl
  unfold F89
  rw [show F70 (N+400) r=some (my r) from F70_eq r h1 (by omega) (N+380),ba]
  exact hh (N+396)
theorem F86_two (N:Nat) (a b:Int):F86 (N+3) [a,b]=some (if a=0 then b else a):=by
  simp only [F86,F146,F146l1,F146b1]
  by_cases h1:a=0
  · by_cases h2:b=0
    · simp [h1,h2,ba,gdO,ckO,InR]
    simp [h1,h2,ba,gdO,ckO,InR]
  simp [h1,ba,gdO,ckO,InR]
theorem F20_F21 (r:Rc) (no:Int) (N:Nat):F20 (N+400) r no=F21 (N+400) r no:=by
  have e1:=F17_eq r (N:=N+400) (by omega)
  have e2:=F18_eq r (N:=N+400) (by omega)
  unfold F20 F21
  rw [e1,e2]
  have e3:∀ a b,F86 (N+400) [a,b]=some (if a=0 then b else a):=F86_two (N+397)
  simp only [F87,F78,F76_eq,F82_eq,ba]
  rcases Bool.eq_false_or_eq_true (vRc r) with h | h
  · rcases Bool.eq_false_or_eq_true (inB no 0 59) with h2 | h2
    · simp [h,h2,e3,ba,F88_eq r no h N,F89_eq r no h N]
    simp [h,h2,e3,ba]
  rcases Bool.eq_false_or_eq_true (inB no 0 59) with h2 | h2 <;> simp [h,h2,e3,ba]
end Go.K
end
section
namespace Go.K
open Go.RowKit
def lastB (s:Str):Bool:=decide (s.getLast?=some 32)
def ln (q:Int) (s:Sp3):Bool:=inB s.no 0 59 && inB s.sz 14 240 && decide ((s.t.length:Int)=(s.sz+1).tdiv 2) && ck s.t && (!(decide (q=1) && decide (s.sz.tmod 2=1)) || lastB s.t)
theorem last_step {s:Str} (h:0 < s.length) (hs:s.length≤1000):(ckO ((s.length:Int) - 1) <| gdO (0≤((s.length:Int) - 1)) <| bp (s[((s.length:Int) - 1).toNat]?) fun x=>if nb x=32 then some true else some false)=some (lastB s):=by
  rw [dr (dy (by omega) (by omega)),du (by omega),show ((s.length:Int) - 1).toNat=s.length - 1 by omega]
  have e:s.getLast?=s[s.length - 1]?:=List.getLast?_eq_getElem?
  unfold lastB
  rw [e,List.getElem?_eq_getElem (by omega),ba]
  have hx:nb (s[s.length - 1])=32↔s[s.length - 1]=32:=by
    constructor
    · intro h; unfold nb at h; exact UInt8.toNat_inj.1 (by simpa using (by omega:(s[s.length - 1]).toNat=32))
    intro h; rw [h]; rfl
  by_cases h1:s[s.length - 1]=32
  · rw [if_pos (hx.2 h1)]; simp [h1]
  rw [if_neg (fun h=>h1 (hx.1 h))]; simp [h1]
theorem F91_eq (q:Int) (s:Sp3) {N:Nat} (hN:200≤N):F91 N q s=some (ln q s):=by
  simp only [F91,F87,F76_eq,ba,ln]
  rcases Bool.eq_false_or_eq_true (inB s.no 0 59) with h1 | h1
  · rcases Bool.eq_false_or_eq_true (inB s.sz 14 240) with h2 | h2
    · have hz:14≤s.sz∧s.sz≤240:=by simpa [inB] using h2
      simp only [h1,h2,if_true,Bool.true_and]
      rw [dr (dy (by omega) (by omega))]
      by_cases h3:(s.t.length:Int)=(s.sz+1).tdiv 2
      · have hd:(s.sz+1).tdiv 2=(s.sz+1) / 2:=Int.tdiv_eq_ediv_of_nonneg (by omega)
        rw [hd] at h3
        rw [if_pos (by rw [hd]; exact h3),F145_eq s.t (by omega) (by omega),ba]
        rcases Bool.eq_false_or_eq_true (ck s.t) with h4 | h4
        · simp only [h4,if_true,hd,decide_eq_true h3,Bool.true_and]
          by_cases h5:q=1 <;> by_cases h6:s.sz.tmod 2=1 <;> simp only [h5,h6,if_true,if_false,F91j1,last_step (s:=s.t) (by omega) (by omega)] <;> simp
        simp [h4]
      rw [if_neg h3]; simp [h3]
    simp [h1,h2]
  simp [h1]
theorem F94_eq (q:Int) (s:Sp3) {N:Nat} (hN:200≤N):F94 N q s=some (ln q s):=by
  simp only [F94,F82_eq,ba,ln]
  rcases Bool.eq_false_or_eq_true (inB s.no 0 59) with h1 | h1
  · rcases Bool.eq_false_or_eq_true (inB s.sz 14 240) with h2 | h2
    · have hz:14≤s.sz∧s.sz≤240:=by simpa [inB] using h2
      simp only [h1,h2,if_true,Bool.true_and]
      rw [dr (dy (by omega) (by omega))]
      by_cases h3:(s.t.length:Int)=(s.sz+1).tdiv 2
      · have hd:(s.sz+1).tdiv 2=(s.sz+1) / 2:=Int.tdiv_eq_ediv_of_nonneg (by omega)
        rw [hd] at h3
        rw [if_pos (by rw [hd]; exact h3),F84_eq s.t (by omega) (by omega),ba]
        rcases Bool.eq_false_or_eq_true (ck s.t) with h4 | h4
        · simp only [h4,if_true,hd,decide_eq_true h3,Bool.true_and]
          have hm:s.sz.tmod 2=s.sz % 2:=Int.tmod_eq_emod_of_nonneg (by omega)
          by_cases h5:q=1
          · by_cases h6:s.sz.tmod 2=0
            · have h7:¬ s.sz.tmod 2=1:=by omega
              simp [h5,h6]
            have h7:s.sz.tmod 2=1:=by omega
            rw [if_pos h5,if_neg h6,last_step (s:=s.t) (by omega) (by omega)]; simp [h5,h7]
          simp [h5]
        simp [h4]
      rw [if_neg h3]; simp [h3]
    simp [h1,h2]
  simp [h1]
theorem F25_F26 (q:Int) (s:Sp3) (N:Nat):F25 (N+400) q s=F26 (N+400) q s:=by
  have e3:∀ a b,F86 (N+400) [a,b]=some (if a=0 then b else a):=F86_two (N+397)
  simp only [F25,F26,F90,F78,F76_eq,F82_eq,F91_eq q s (N:=N+400) (by omega),F94_eq q s (N:=N+400) (by omega),ba]
  rcases Bool.eq_false_or_eq_true (inB q 0 2) with h1 | h1 <;> rcases Bool.eq_false_or_eq_true (ln q s) with h2 | h2 <;> simp [h1,h2,e3,ba]
end Go.K
end
section
namespace Go.K
open Go.RowKit
end Go.K
end
section
namespace Go.K
open Go.RowKit
def difQ (z x:Int):Int:=32+(z - x+95) % 95
def okI (x:Int):Prop:=32≤x∧x≤126
theorem F150_eq {z x:Int} (hz:okI z) (hx:okI x):F150 z x=some (difQ z x):=by
  unfold okI at *
  have e2:(z - x+95).tmod 95=(z - x+95) % 95:=Int.tmod_eq_emod_of_nonneg (by omega)
  have e3:0≤(z - x+95) % 95∧(z - x+95) % 95 < 95:=⟨Int.emod_nonneg _ (by decide),Int.emod_lt_of_pos _ (by decide)⟩
  unfold F150 difQ
  rw [e2,dr (by unfold InR; omega),dr (by unfold InR; omega),dr (by unfold InR; omega),dr (by unfold InR; omega),dr (by unfold InR; omega),w8,Int.emod_eq_of_lt (by omega) (by omega)]
theorem F165_eq {z x:Int} (hz:okI z) (hx:okI x):F165 z x=some (difQ z x):=by
  unfold okI at *
  have e0:w8 (z+95)=z+95:=Int.emod_eq_of_lt (by omega) (by omega)
  have e1:w8 (z+95 - x)=z - x+95:=by rw [show z+95 - x=z - x+95 by omega]; exact Int.emod_eq_of_lt (by omega) (by omega)
  have e2:(z - x+95).tmod 95=(z - x+95) % 95:=Int.tmod_eq_emod_of_nonneg (by omega)
  have e3:0≤(z - x+95) % 95∧(z - x+95) % 95 < 95:=⟨Int.emod_nonneg _ (by decide),Int.emod_lt_of_pos _ (by decide)⟩
  unfold F165 difQ
  rw [e0,e1,e2,w8,Int.emod_eq_of_lt (by omega) (by omega)]
theorem F149l_eq (a b:List Int) (hl:a.length=b.length) (hs:a.length≤1000000) (ha:∀ x∈a,okI x) (hb:∀ x∈b,okI x):∀ (m i:Nat) (o:List Int),a.length - i < m→i≤a.length→o.length≤i→F149l1 a b m o (i:Int)=some (o++List.zipWith difQ (a.drop i) (b.drop i)):=by
  intro m
  induction m with
  | zero=>intro i o h; omega
  | succ m ih =>
    intro i o hm hi ho
    simp only [F149l1,F149b1]
    by_cases h:i < a.length
    · have h2:i < b.length:=by omega
      rw [if_pos (by omega),du (by omega),Int.toNat_natCast,List.getElem?_eq_getElem h,ba,List.getElem?_eq_getElem h2,ba,F165_eq (ha _ (List.getElem_mem h)) (hb _ (List.getElem_mem h2)),ba,du (by omega),dr (dy (by omega) (by omega)),show ((i:Int)+1)=((i+1:Nat):Int) by omega,ih (i+1) _ (by omega) (by omega) (by simp; omega),jj h,jj h2,List.zipWith_cons_cons,List.append_assoc,List.singleton_append]
    rw [if_neg (by omega),List.drop_of_length_le (by omega)]
    simp
theorem F149_eq (a b:List Int) (hl:a.length=b.length) (hs:a.length≤1000000) (ha:∀ x∈a,okI x) (hb:∀ x∈b,okI x) {N:Nat} (hN:a.length < N):F149 N a b=some (List.zipWith difQ a b):=by
  have:=F149l_eq a b hl hs ha hb N 0 [] (by omega) (by omega) (by simp)
  simpa [F149] using this
def zipQ:List Int→List Int→List Int
  | x :: a,y :: b=>x :: y :: zipQ a b
  | _,_=>[]
theorem F93l4_eq (a b:List Int) (hl:a.length=b.length) (hs:a.length≤1000000):∀ (m i:Nat) (o:List Int),a.length - i < m→i≤a.length→o.length≤2 * i→F93l4 a b m o (i:Int)=some (bl (o++zipQ (a.drop i) (b.drop i))):=by
  intro m
  induction m with
  | zero=>intro i o h; omega
  | succ m ih =>
    intro i o hm hi ho
    simp only [F93l4,F93b4]
    by_cases h:i < a.length
    · have h2:i < b.length:=by omega
      rw [if_pos (by omega),du (by omega),Int.toNat_natCast,List.getElem?_eq_getElem h,ba,List.getElem?_eq_getElem h2,ba,du (by omega),dr (dy (by omega) (by omega)),show ((i:Int)+1)=((i+1:Nat):Int) by omega,ih (i+1) _ (by omega) (by omega) (by simp; omega),jj h,jj h2]
      simp [zipQ]
    rw [if_neg (by omega),List.drop_of_length_le (by omega)]
    simp [zipQ]
theorem F93l3_4 (a b:List Int):∀ m,F93l3 a b m=F93l4 a b m:=by
  intro m; induction m with
  | zero=>rfl
  | succ m ih=>funext t v; simp only [F93l3,F93l4,F93b3,F93b4,ih]
theorem F93l2_4 (a b:List Int):∀ m,F93l2 b a m=F93l4 a b m:=by
  intro m; induction m with
  | zero=>rfl
  | succ m ih=>funext t v; simp only [F93l2,F93l4,F93b2,F93b4,ih]
theorem weave_eq (a b:List Int) (hl:a.length=b.length) (hs:a.length≤1000000) {N:Nat} (hN:a.length < N):F93l4 a b N [] 0=some (bl (zipQ a b)):=by
  have:=F93l4_eq a b hl hs N 0 [] (by omega) (by omega) (by simp)
  simpa using this
end Go.K
end
section
namespace Go.K
open Go.RowKit
theorem bytes_ok {s:Str} (h:ck s=true):∀ x∈bs s,okI x:=by
  intro x hx
  obtain ⟨b,hb,rfl⟩:=List.mem_map.1 hx
  exact (na b).1 (by simp only [ck,List.all_eq_true] at h; exact h b hb)
def mendQ (p q:Int) (X Y:List Int):List Int :=
  if p=0 then (if q=1 then zipQ X Y else zipQ X (List.zipWith difQ Y X)) else zipQ (List.zipWith difQ Y X) X
theorem F95l_eq (p q:Int) (hpq:(p=0∧q=1)∨(p=0∧q=2)∨(p=1∧q=2)) (s t:Sp3) (hl:s.t.length=t.t.length) (hn:s.t.length≤1000) (hs:ck s.t=true) (ht:ck t.t=true):∀ (m i:Nat) (o:List Int),s.t.length - i < m→i≤s.t.length→o.length≤2 * i →
    F95l2 p q s t m o (i:Int)=F95j1 s (o++mendQ p q (bs (s.t.drop i)) (bs (t.t.drop i))):=by
  have h1:∀ b∈s.t,okB b=true:=by simpa [ck] using hs
  have h2:∀ b∈t.t,okB b=true:=by simpa [ck] using ht
  intro m
  induction m with
  | zero=>intro i o h; omega
  | succ m ih =>
    intro i o hm hi ho
    simp only [F95l2,F95b2]
    by_cases h:i < s.t.length
    · have hh:i < t.t.length:=by omega
      have e1:F150 (nb t.t[i]) (nb s.t[i])=some (difQ (nb t.t[i]) (nb s.t[i])):=F150_eq ((na _).1 (h2 _ (List.getElem_mem hh))) ((na _).1 (h1 _ (List.getElem_mem h)))
      have hj:∀ x y,F95j4 (F95l2 p q s t m) o (i:Int) x y=F95j1 s (o++([x,y]++mendQ p q (bs (s.t.drop (i+1))) (bs (t.t.drop (i+1))))):=fun x y=>by
        rw [F95j4,du (by omega),dr (dy (by omega) (by omega)),show ((i:Int)+1)=((i+1:Nat):Int) by omega,ih (i+1) _ (by omega) (by omega) (by simp; omega),List.append_assoc]
      rw [if_pos (by omega),du (by omega),Int.toNat_natCast,List.getElem?_eq_getElem h,ba,List.getElem?_eq_getElem hh,ba,jj h,jj hh]
      rcases hpq with ⟨rfl,rfl⟩ | ⟨rfl,rfl⟩ | ⟨rfl,rfl⟩
      · rw [if_neg (by decide),F95j3,if_neg (by decide),hj]; rfl
      · rw [if_pos (by decide),e1,ba,F95j3,if_neg (by decide),hj]; rfl
      rw [if_neg (by decide),F95j3,if_pos (by decide),e1,ba,hj]; rfl
    rw [if_neg (by omega),List.drop_of_length_le (show s.t.length≤i by omega),List.drop_of_length_le (show t.t.length≤i by omega)]
    have:mendQ p q (bs []) (bs [])=[]:=by unfold mendQ; split <;> (try split) <;> rfl
    rw [this,List.append_nil]
end Go.K
end
section
namespace Go.K
open Go.RowKit
theorem zipQ_len:∀ (a b:List Int),a.length=b.length→(zipQ a b).length=2 * a.length
  | [],[],_=>rfl
  | [],_ :: _,h=>by simp at h
  | _ :: _,[],h=>by simp at h
  | x :: a,y :: b,h=>by have:=zipQ_len a b (by simpa using h); simp [zipQ,this]; omega
theorem dif_len {X Y:List Int} (h:X.length=Y.length):(List.zipWith difQ Y X).length=X.length:=by simp [h]
theorem mendQ_len (p q:Int) {X Y:List Int} (h:X.length=Y.length):(mendQ p q X Y).length=2 * X.length:=by
  unfold mendQ; split
  · split
    · exact zipQ_len _ _ h
    exact zipQ_len _ _ (dif_len h).symm
  rw [zipQ_len _ _ (dif_len h),dif_len h]
theorem F92_eq (s:Sp3) (h:s.t.length≤1000):F92 s=some (bs s.t):=by
  unfold F92; rw [du (by omega),du (by omega),du (by simp)]
theorem bytes_len (s:Str):(bs s).length=s.length:=by simp [bs]
theorem strOf_take (l:List Int) (n:Nat):(bl l).take n=bl (l.take n):=by simp [bl]
theorem strOf_len (l:List Int):(bl l).length=l.length:=by simp [bl]
theorem m01 {X Y:List Int} (h:X.length=Y.length) (hx:X.length≤1000) {N:Nat} (hN:1000 < N):F93 N X false Y false [] true=some (bl (mendQ 0 1 X Y)):=by
  unfold F93; rw [if_neg (by decide),if_neg (by decide),weave_eq X Y h (by omega) (by omega)]; rfl
theorem m02 {X Y:List Int} (h:X.length=Y.length) (hx:X.length≤1000) (oX:∀ x∈X,okI x) (oY:∀ x∈Y,okI x) {N:Nat} (hN:1000 < N):F93 N X false [] true Y false=some (bl (mendQ 0 2 X Y)):=by
  unfold F93; rw [if_neg (by decide),if_pos rfl,F149_eq Y X h.symm (by omega) oY oX (by omega),ba,F93l3_4,weave_eq X _ (dif_len h).symm (by omega) (by omega)]; rfl
theorem m12 {X Y:List Int} (h:X.length=Y.length) (hx:X.length≤1000) (oX:∀ x∈X,okI x) (oY:∀ x∈Y,okI x) {N:Nat} (hN:1000 < N):F93 N [] true X false Y false=some (bl (mendQ 1 2 X Y)):=by
  unfold F93; rw [if_pos rfl,F149_eq Y X h.symm (by omega) oY oX (by omega),ba,if_neg (by decide),F93l2_4,weave_eq _ X (dif_len h) (by rw [dif_len h]; omega) (by rw [dif_len h]; omega)]; rfl
theorem F95_eq (p q:Int) (hpq:(p=0∧q=1)∨(p=0∧q=2)∨(p=1∧q=2)) (s t:Sp3) (hl:s.t.length=t.t.length) (hn:s.t.length≤1000) (h0:0 < s.t.length) (hz:0≤s.sz) (hz2:s.sz.toNat≤2 * s.t.length) (hs:ck s.t=true) (ht:ck t.t=true) {N:Nat} (hN:1000 < N) :
    F95 N p q s t=some (bl ((mendQ p q (bs s.t) (bs t.t)).take s.sz.toNat)):=by
  have:=F95l_eq p q hpq s t hl hn hs ht N 0 [] (by omega) (by omega) (by simp)
  have hm:=mendQ_len p q (X:=bs s.t) (Y:=bs t.t) (by simp [bytes_len,hl])
  rw [bytes_len] at hm
  unfold F95
  rw [show (0:Int)=((0:Nat):Int) from rfl,this,List.drop_zero,List.drop_zero,List.nil_append,F95j1,du (by omega),du hz,du (by omega)]
end Go.K
end
section
namespace Go.K
open Go.RowKit
theorem whole_facts {q:Int} {s:Sp3} (h:ln q s=true):14≤s.sz∧s.sz≤240∧(s.t.length:Int)=(s.sz+1) / 2∧ck s.t=true:=by
  simp only [ln,inB,Bool.and_eq_true,decide_eq_true_eq] at h
  obtain ⟨⟨⟨⟨_,h2⟩,h3⟩,h4⟩,_⟩:=h
  rw [Int.tdiv_eq_ediv_of_nonneg (by omega)] at h3
  exact ⟨h2.1,h2.2,h3,h4⟩
theorem F22_F23 (p q:Int) (s t:Sp3) (N:Nat):F22 (N+1001) p s q t=F23 (N+1001) p s q t:=by
  simp only [F22,F23,F90,F76_eq,F82_eq,ba,F91_eq p s (N:=N+1001) (by omega),F94_eq p s (N:=N+1001) (by omega),F91_eq q t (N:=N+1001) (by omega),F94_eq q t (N:=N+1001) (by omega)]
  rcases Bool.eq_false_or_eq_true (inB p 0 2) with h1 | h1
  · rcases Bool.eq_false_or_eq_true (inB q 0 2) with h2 | h2
    · by_cases h3:p=q
      · simp only [h1,h2,if_true,if_pos h3]
      rcases Bool.eq_false_or_eq_true (ln p s) with h4 | h4
      · rcases Bool.eq_false_or_eq_true (ln q t) with h5 | h5
        · by_cases h6:s.no=t.no
          · by_cases h7:s.sz=t.sz
            · obtain ⟨a1,a2,a3,a4⟩:=whole_facts h4
              obtain ⟨b1,b2,b3,b4⟩:=whole_facts h5
              have hl:s.t.length=t.t.length:=by omega
              have lX:(bs s.t).length=s.t.length:=bytes_len _
              have lY:(bs t.t).length=t.t.length:=bytes_len _
              have hX:=bytes_ok a4
              have hY:=bytes_ok b4
              have hXY:(bs s.t).length=(bs t.t).length:=by omega
              have l1:∀ p q,(mendQ p q (bs s.t) (bs t.t)).length=2 * s.t.length:=fun p q=>by rw [mendQ_len p q hXY,lX]
              have l2:∀ p q,(mendQ p q (bs t.t) (bs s.t)).length=2 * s.t.length:=fun p q=>by rw [mendQ_len p q hXY.symm,lY]; omega
              have hp:p=0∨p=1∨p=2:=by simp [inB] at h1; omega
              have hq:q=0∨q=1∨q=2:=by simp [inB] at h2; omega
              simp only [h1,h2,h4,h5,if_true,if_neg h3,if_pos h6,if_pos h7,F92_eq s (by omega),F92_eq t (by omega),ba]
              have e:∀ p q,((p=0∧q=1)∨(p=0∧q=2)∨(p=1∧q=2))→F95 (N+1001) p q s t=some (bl ((mendQ p q (bs s.t) (bs t.t)).take s.sz.toNat)):=fun p q h=>F95_eq p q h s t hl (by omega) (by omega) (by omega) (by omega) a4 b4 (by omega)
              have e':∀ p q,((p=0∧q=1)∨(p=0∧q=2)∨(p=1∧q=2))→F95 (N+1001) p q t s=some (bl ((mendQ p q (bs t.t) (bs s.t)).take t.sz.toNat)):=fun p q h=>F95_eq p q h t s hl.symm (by omega) (by omega) (by omega) (by omega) b4 a4 (by omega)
              have g:∀ l:List Int,l.length=2 * s.t.length→(gdO (0≤s.sz) <| gdO (0≤s.sz.toNat∧s.sz.toNat≤(bl l).length) <| some ((bl l).take s.sz.toNat,(0:Int)))=some (bl (l.take s.sz.toNat),0):=fun l hl=>by
                rw [du (by omega),du (by rw [strOf_len]; omega),strOf_take]
              rcases hp with rfl | rfl | rfl <;> rcases hq with rfl | rfl | rfl
              · exact absurd rfl h3
              · simp only [show ¬ ((1:Int)=0) by decide,show ¬ ((1:Int) < 0) by decide,if_true,if_false]
                rw [du (by omega),du (by omega),m01 hXY (by omega) (by omega),ba,g _ (l1 _ _),e 0 1 (by omega),ba]
              · simp only [show ¬ ((2:Int)=0) by decide,show ¬ ((2:Int)=1) by decide,show ¬ ((2:Int) < 0) by decide,if_true,if_false]
                rw [du (by omega),du (by omega),m02 hXY (by omega) hX hY (by omega),ba,g _ (l1 _ _),e 0 2 (by omega),ba]
              · simp only [show ¬ ((1:Int)=0) by decide,show ((0:Int) < 1) by decide,if_true,if_false]
                rw [du (by omega),du (by omega),m01 hXY.symm (by omega) (by omega),ba,g _ (l2 _ _),e' 0 1 (by omega),ba,h7]
              · exact absurd rfl h3
              · simp only [show ¬ ((1:Int)=0) by decide,show ¬ ((2:Int)=0) by decide,show ¬ ((2:Int)=1) by decide,show ¬ ((2:Int) < 1) by decide,if_true,if_false]
                rw [du (by omega),du (by omega),m12 hXY (by omega) hX hY (by omega),ba,g _ (l1 _ _),e 1 2 (by omega),ba]
              · simp only [show ¬ ((2:Int)=0) by decide,show ¬ ((2:Int)=1) by decide,show ((0:Int) < 2) by decide,if_true,if_false]
                rw [du (by omega),du (by omega),m02 hXY.symm (by omega) hY hX (by omega),ba,g _ (l2 _ _),e' 0 2 (by omega),ba,h7]
              · simp only [show ¬ ((2:Int)=0) by decide,show ¬ ((2:Int)=1) by decide,show ¬ ((1:Int)=0) by decide,show ((1:Int) < 2) by decide,if_true,if_false]
                rw [du (by omega),du (by omega),m12 hXY.symm (by omega) hY hX (by omega),ba,g _ (l2 _ _),e' 1 2 (by omega),ba,h7]
              exact absurd rfl h3
            simp only [h1,h2,h4,h5,if_true,if_neg h3,if_pos h6,if_neg h7]
          simp only [h1,h2,h4,h5,if_true,if_neg h3,if_neg h6]
        simp [h1,h2,h3,h4,h5]
      simp [h1,h2,h3,h4]
    simp [h1,h2]
  simp [h1]
end Go.K
end
section
namespace Go.K
open Go.RowKit
theorem pick0 (x y:Int):pickQ 0 x y=x:=rfl
theorem pick1 (x y:Int):pickQ 1 x y=y:=rfl
theorem pick2 (x y:Int):pickQ 2 x y=32+(x+y - 64) % 95:=rfl
theorem dif_snd {x y:Int} (hx:okI x) (hy:okI y):difQ (pickQ 2 x y) x=y:=by
  unfold okI at *; rw [pick2]; unfold difQ; omega
theorem dif_fst {x y:Int} (hx:okI x) (hy:okI y):difQ (pickQ 2 x y) y=x:=by
  unfold okI at *; rw [pick2]; unfold difQ; omega
theorem ok32:okI 32:=by unfold okI; omega
theorem th_snd:∀ (s:Str),(∀ b∈s,okB b=true)→List.zipWith difQ (thQ 2 s) (thQ 0 s)=thQ 1 s
  | [],_=>rfl
  | [x],h=>by
    have:=(na x).1 (h x (by simp))
    simp only [thQ,List.zipWith_cons_cons,pick0,pick1,dif_snd this ok32]; rfl
  | x :: y :: r,h=>by
    have h1:=(na x).1 (h x (by simp)); have h2:=(na y).1 (h y (by simp))
    simp only [thQ,List.zipWith_cons_cons,pick0,pick1,dif_snd h1 h2,th_snd r fun b hb=>h b (by simp [hb])]
theorem th_fst:∀ (s:Str),(∀ b∈s,okB b=true)→List.zipWith difQ (thQ 2 s) (thQ 1 s)=thQ 0 s
  | [],_=>rfl
  | [x],h=>by
    have:=(na x).1 (h x (by simp))
    simp only [thQ,List.zipWith_cons_cons,pick0,pick1,dif_fst this ok32]; rfl
  | x :: y :: r,h=>by
    have h1:=(na x).1 (h x (by simp)); have h2:=(na y).1 (h y (by simp))
    simp only [thQ,List.zipWith_cons_cons,pick0,pick1,dif_fst h1 h2,th_fst r fun b hb=>h b (by simp [hb])]
theorem zip_th:∀ (s:Str),(zipQ (thQ 0 s) (thQ 1 s)).take s.length=bs s
  | []=>rfl
  | [x]=>rfl
  | x :: y :: r=>by
    have:=zip_th r
    simp only [thQ,zipQ,pick0,pick1,List.length_cons,List.take_succ_cons,this]
    rfl
theorem nb_ub {x:Int} (h:okI x):nb (ub x)=x:=by
  unfold okI at h; unfold nb ub
  have:(UInt8.ofNat x.toNat).toNat=x.toNat:=by simp [UInt8.toNat_ofNat']; omega
  rw [this]; omega
theorem ub_nb (b:UInt8):ub (nb b)=b:=by unfold ub nb; simp
theorem bytes_strOf {l:List Int} (h:∀ x∈l,okI x):bs (bl l)=l:=by
  simp only [bs,bl,List.map_map]
  conv=>rhs; rw [← List.map_id l]
  exact List.map_congr_left fun x hx=>nb_ub (h x hx)
theorem strOf_bytes (s:Str):bl (bs s)=s:=by
  simp only [bs,bl,List.map_map]
  conv=>rhs; rw [← List.map_id s]
  exact List.map_congr_left fun x hx=>ub_nb x
theorem mend_th (s:Str) (h:ck s=true) (p q:Int) (hpq:(p=0∧q=1)∨(p=0∧q=2)∨(p=1∧q=2)):bl ((mendQ p q (thQ p s) (thQ q s)).take s.length)=s:=by
  have hb:∀ b∈s,okB b=true:=by simpa [ck] using h
  have e:mendQ p q (thQ p s) (thQ q s)=zipQ (thQ 0 s) (thQ 1 s):=by
    rcases hpq with ⟨rfl,rfl⟩ | ⟨rfl,rfl⟩ | ⟨rfl,rfl⟩
    · rfl
    · show zipQ (thQ 0 s) (List.zipWith difQ (thQ 2 s) (thQ 0 s))=_
      rw [th_snd s hb]
    show zipQ (List.zipWith difQ (thQ 2 s) (thQ 1 s)) (thQ 1 s)=_
    rw [th_fst s hb]
  rw [e,zip_th,strOf_bytes]
end Go.K
end
section
namespace Go.K
open Go.RowKit
theorem F21_eq (r:Rc) (no:Int) (N:Nat):F21 (N+400) r no=some (if vRc r=true then if inB no 0 59=true then (strips r no,0) else ([],1) else ([],80)):=by
  unfold F21
  rw [F18_eq r (N:=N+400) (by omega)]
  simp only [F82_eq,ba]
  rcases Bool.eq_false_or_eq_true (vRc r) with h | h
  · rcases Bool.eq_false_or_eq_true (inB no 0 59) with h2 | h2
    · simp [h,h2,ba,F89_eq r no h N]
    simp [h,h2,ba]
  simp [h,ba]
theorem F26_eq (q:Int) (s:Sp3) (N:Nat):F26 (N+400) q s=some (if inB q 0 2=true then if ln q s=true then 0 else 84 else 1):=by
  simp only [F26,F82_eq,F94_eq q s (N:=N+400) (by omega),ba]
  rcases Bool.eq_false_or_eq_true (inB q 0 2) with h1 | h1 <;> rcases Bool.eq_false_or_eq_true (ln q s) with h2 | h2 <;> simp [h1,h2]
def mendS (p q:Int) (s t:Sp3):Str:=if q < p then bl ((mendQ q p (bs t.t) (bs s.t)).take t.sz.toNat) else bl ((mendQ p q (bs s.t) (bs t.t)).take s.sz.toNat)
def matchB (p q:Int) (s t:Sp3):Bool:=ln p s && ln q t && decide (s.no=t.no) && decide (s.sz=t.sz)
theorem F95_whole (p q:Int) (hpq:(p=0∧q=1)∨(p=0∧q=2)∨(p=1∧q=2)) (s t:Sp3) (h4:ln p s=true) (h5:ln q t=true) (h7:s.sz=t.sz) (N:Nat):F95 (N+1001) p q s t=some (bl ((mendQ p q (bs s.t) (bs t.t)).take s.sz.toNat)):=by
  obtain ⟨a1,a2,a3,a4⟩:=whole_facts h4
  obtain ⟨b1,b2,b3,b4⟩:=whole_facts h5
  exact F95_eq p q hpq s t (by omega) (by omega) (by omega) (by omega) (by omega) a4 b4 (by omega)
theorem F23_eq (p q:Int) (s t:Sp3) (N:Nat):F23 (N+1001) p s q t=some (if inB p 0 2=true∧inB q 0 2=true∧p≠q then if matchB p q s t=true then (mendS p q s t,0) else ([],84) else ([],1)):=by
  simp only [F23,F82_eq,ba,F94_eq p s (N:=N+1001) (by omega),F94_eq q t (N:=N+1001) (by omega),matchB,Bool.and_eq_true,decide_eq_true_eq]
  by_cases h1:inB p 0 2=true
  · by_cases h2:inB q 0 2=true
    · by_cases h3:p=q
      · simp [h1,h2,h3]
      by_cases h4:ln p s=true
      · by_cases h5:ln q t=true
        · by_cases h6:s.no=t.no
          · by_cases h7:s.sz=t.sz
            · have hp:p=0∨p=1∨p=2:=by simp [inB] at h1; omega
              have hq:q=0∨q=1∨q=2:=by simp [inB] at h2; omega
              by_cases h8:q < p
              · simp only [h1,h2,h4,h5,if_true,if_neg h3,if_pos h6,if_pos h7,if_pos h8,mendS,F95_whole q p (by omega) t s h5 h4 h7.symm N,ba]
                simp [h3,h6,h7]
              simp only [h1,h2,h4,h5,if_true,if_neg h3,if_pos h6,if_pos h7,if_neg h8,mendS,F95_whole p q (by omega) s t h4 h5 h7 N,ba]
              simp [h3,h6,h7]
            simp [h1,h2,h3,h4,h5,h6,h7]
          simp [h1,h2,h3,h4,h5,h6]
        simp [h1,h2,h3,h4,h5]
      simp [h1,h2,h3,h4]
    simp [h1,h2]
  simp [h1]
set_option maxRecDepth 100000 in
theorem sane_run (n:Nat):F19 (n+400)=some true:=by kernel_rfl
theorem sane_ok {N:Nat} (h:400≤N):F19 N=some true:=by
  obtain ⟨k,rfl⟩:=Nat.exists_eq_add_of_le' h
  exact sane_run k
end Go.K
end
section
namespace Go.K
open Go.RowKit
theorem decS_pos (m u:Nat):1≤(decS (m+1) u).length:=by
  rw [decS]; split <;> simp
theorem decS_le:∀ (k m u:Nat),u < 10 ^ (k+1)→(decS (m+1) u).length≤k+1
  | 0,m,u,h=>by
    have h:u < 10:=by simpa using h
    rw [decS,if_pos h]; simp
  | k+1,0,u,h=>by
    rw [decS]; split
    · simp
    simp [decS]
  | k+1,m+1,u,h=>by
    rw [decS]; split
    · simp
    have:=decS_le k m (u / 10) (by rw [Nat.pow_succ] at h; omega)
    simp only [List.length_append,List.length_singleton]; omega
theorem itoaS_small {n:Int} (h0:0≤n) (h1:n≤9999):1≤(itoaS n).length∧(itoaS n).length≤4:=by
  unfold itoaS
  rw [if_neg (by omega)]
  exact ⟨decS_pos 19 _,decS_le 3 19 _ (by omega)⟩
theorem vRc_in {r:Rc} (h:vRc r=true):∀ x∈nc r,0≤x∧x≤9999:=by
  simp only [vRc,vIt,inB,suitB,Bool.and_eq_true,decide_eq_true_eq] at h
  obtain ⟨⟨⟨⟨⟨⟨⟨h1,h2⟩,h3⟩,h4⟩,h5⟩,h6⟩,h7⟩,h8⟩:=h
  intro x hx
  have ho:(0≤r.op∧r.op≤5)∧0≤r.on∧r.on≤9999:=by
    split at h8
    · simp only [Bool.and_eq_true,decide_eq_true_eq] at h8
      obtain ⟨⟨⟨⟨⟨a,b⟩,_⟩,_⟩,_⟩,_⟩:=h8
      exact ⟨a,b⟩
    simp only [Bool.and_eq_true,decide_eq_true_eq] at h8
    omega
  simp only [nc,List.mem_cons,List.not_mem_nil,or_false] at hx
  rcases hx with rfl | rfl | rfl | rfl | rfl | rfl | rfl <;> omega
theorem txtN_bounds:∀ (l:List Int),(∀ x∈l,0≤x∧x≤9999)→2 * l.length≤(txtN l).length∧(txtN l).length≤5 * l.length
  | [],_=>by simp [txtN]
  | x :: l,h=>by
    have h1:=itoaS_small (h x (by simp)).1 (h x (by simp)).2
    have h2:=txtN_bounds l fun y hy=>h y (by simp [hy])
    simp only [txtN,List.length_append,List.length_cons,List.length_nil]; omega
theorem txtS_bounds {r:Rc} (h:vRc r=true):14≤(my r).length∧(my r).length≤195:=by
  have h1:=txtN_bounds (nc r) (vRc_in h)
  have h2:=(vRc_small h).2
  have h3:(nc r).length=7:=rfl
  simp only [my,List.length_append]; omega
theorem thQ_len (q:Int):∀ s:Str,(thQ q s).length=(s.length+1) / 2
  | []=>rfl
  | [x]=>by simp [thQ]
  | x :: y :: r=>by simp only [thQ,List.length_cons,thQ_len q r]; omega
theorem thQ_ok (q:Int):∀ s:Str,(∀ b∈s,okB b=true)→∀ x∈thQ q s,okI x
  | [],_,x,hx=>by simp [thQ] at hx
  | [a],h,x,hx=>by
    have h1:=(na a).1 (h a (by simp))
    simp only [thQ,List.mem_singleton] at hx
    subst hx; unfold pickQ okI; split
    · exact h1
    split <;> omega
  | a :: b :: r,h,x,hx=>by
    have h1:=(na a).1 (h a (by simp)); have h2:=(na b).1 (h b (by simp))
    simp only [thQ,List.mem_cons] at hx
    rcases hx with rfl | hx
    · unfold pickQ okI; split
      · exact h1
      split <;> omega
    exact thQ_ok q r (fun c hc=>h c (by simp [hc])) x hx
theorem thQ_last:∀ s:Str,s.length % 2=1→(thQ 1 s).getLast?=some 32
  | [],h=>by simp at h
  | [x],_=>rfl
  | x :: y :: r,h=>by
    have h1:r.length % 2=1:=by simp only [List.length_cons] at h; omega
    have h2:=thQ_last r h1
    have h3:thQ 1 r≠[]:=by intro h; rw [h] at h2; cases h2
    rw [thQ,List.getLast?_cons_of_ne_nil h3]; exact h2
theorem plain_strOf {l:List Int} (h:∀ x∈l,okI x):ck (bl l)=true:=by
  simp only [ck,bl,List.all_map,List.all_eq_true]
  intro x hx
  have h1:=h x hx
  simp only [Function.comp]
  rw [na,nb_ub h1]; exact h1
def mz (q no:Int) (s:Str):Sp3:=⟨no,s.length,bl (thQ q s)⟩
theorem whole_strip {q no:Int} {s:Str} (hn:inB no 0 59=true) (h14:14≤s.length) (h240:s.length≤240) (hp:ck s=true):ln q (mz q no s)=true:=by
  have hb:∀ b∈s,okB b=true:=by simpa [ck] using hp
  have h1:(bl (thQ q s)).length=(s.length+1) / 2:=by simp [bl,thQ_len]
  simp only [ln,mz,hn,plain_strOf (thQ_ok q s hb),h1,Bool.true_and,Bool.and_true]
  have e1:inB (s.length:Int) 14 240=true:=by simp [inB]; omega
  have e2:(((s.length+1) / 2:Nat):Int)=((s.length:Int)+1).tdiv 2:=by rw [Int.tdiv_eq_ediv_of_nonneg (by omega)]; omega
  rw [e1,decide_eq_true e2]
  simp only [Bool.true_and]
  by_cases hq:q=1
  · subst hq
    by_cases ho:(s.length:Int).tmod 2=1
    · have:s.length % 2=1:=by rw [Int.tmod_eq_emod_of_nonneg (by omega)] at ho; omega
      have h2:=thQ_last s this
      have h3:lastB (bl (thQ 1 s))=true:=by
        simp only [lastB,bl,List.getLast?_map,h2]; rfl
      simp [h3]
    simp [ho]
  simp [hq]
theorem cut_strip {q no:Int} {s:Str} {m:Nat} (hm:m < (thQ q s).length):ln q ⟨no,s.length,(bl (thQ q s)).take m⟩=false:=by
  have h1:((bl (thQ q s)).take m).length=m:=by simp [bl]; omega
  have e2:¬ ((m:Int)=((s.length:Int)+1).tdiv 2):=by rw [Int.tdiv_eq_ediv_of_nonneg (by omega)]; rw [thQ_len] at hm; omega
  unfold ln
  rw [h1,decide_eq_false e2]
  simp
theorem mend_strip {p q no:Int} {s:Str} (hn:inB no 0 59=true) (h14:14≤s.length) (h240:s.length≤240) (hp:ck s=true) (h1:inB p 0 2=true) (h2:inB q 0 2=true) (hpq:p≠q) (N:Nat) :
    F22 (N+1001) p (mz p no s) q (mz q no s)=some (s,0):=by
  have hb:∀ b∈s,okB b=true:=by simpa [ck] using hp
  have hm:matchB p q (mz p no s) (mz q no s)=true:=by
    have a:=whole_strip (q:=p) hn h14 h240 hp
    have b:=whole_strip (q:=q) hn h14 h240 hp
    simp only [matchB,a,b,Bool.true_and,Bool.and_eq_true,decide_eq_true_eq]; exact ⟨rfl,rfl⟩
  have e:mendS p q (mz p no s) (mz q no s)=s:=by
    have hp:p=0∨p=1∨p=2:=by simp [inB] at h1; omega
    have hq:q=0∨q=1∨q=2:=by simp [inB] at h2; omega
    unfold mendS mz
    simp only [bytes_strOf (thQ_ok _ s hb),Int.toNat_natCast]
    split
    · exact mend_th s (by simpa [ck] using hb) q p (by omega)
    exact mend_th s (by simpa [ck] using hb) p q (by omega)
  rw [F22_F23,F23_eq,if_pos ⟨h1,h2,hpq⟩,if_pos hm,e]
theorem mod_pos (a:Int) {n:Int} (h0:0 < n) (h1:n≤1000000000):∃ m:Nat,F63 a n=some (m:Int)∧(m:Int) < n:=by
  have e:=Int.tmod_lt_of_pos a h0
  have e2:-n < a.tmod n:=by
    rcases Int.le_total 0 a with h | h
    · have:=Int.tmod_nonneg n h; omega
    have:=Int.lt_tmod_of_pos a h0; omega
  refine ⟨(((a.tmod n)+n).tmod n).toNat,?_,?_⟩
  · unfold F63
    rw [du h0,dr (by unfold InR; omega)]
    rw [Int.toNat_of_nonneg (Int.tmod_nonneg _ (by omega))]
  rw [Int.toNat_of_nonneg (Int.tmod_nonneg _ (by omega))]
  exact Int.tmod_lt_of_pos _ h0
theorem strips_get (r:Rc) (no:Int) {q:Nat} (h:q < 3):(strips r no)[((q:Int)).toNat]?=some (mz (q:Int) no (my r)):=by
  have:q=0∨q=1∨q=2:=by omega
  rcases this with rfl | rfl | rfl <;> rfl
theorem F9l4_eq {r:Rc} (h:vRc r=true) {no:Int} (hn:inB no 0 59=true) (rec2:Int→Option Bool) {q:Nat} (hq:q < 3) (e:Int):∀ (m o:Nat),o≤3→3 - o < m →
    F9l4 2000 rec2 (my r,0) (strips r no,e) (q:Int) (mz (q:Int) no (my r)) m (o:Int)=F9j3 rec2 (q:Int)
  | 0,o,_,hm=>by omega
  | m+1,o,ho,hm=>by
    have hb:=txtS_bounds h
    have hp:=txtS_plain (vRc_plain h)
    rw [F9l4,F9b4]
    by_cases h3:o < 3
    · have hj:F9j5 (F9l4 2000 rec2 (my r,0) (strips r no,e) (q:Int) (mz (q:Int) no (my r)) m) (o:Int)=F9j3 rec2 (q:Int):=by
        rw [F9j5,dr (by unfold InR; omega)]
        exact F9l4_eq h hn rec2 hq e m (o+1) (by omega) (by omega)
      rw [if_pos (by omega)]
      by_cases hqo:(o:Int)=(q:Int)
      · rw [if_pos hqo]; exact hj
      rw [if_neg hqo,du (by omega),strips_get r no h3,ba]
      rw [show F22 2000 (q:Int) (mz (q:Int) no (my r)) (o:Int) (mz (o:Int) no (my r))=some (my r,0) from mend_strip hn hb.1 (by omega) hp (by simp [inB]; omega) (by simp [inB]; omega) (fun h=>hqo h.symm) 999,ba,if_pos rfl,if_pos rfl]
      exact hj
    rw [if_neg (by omega)]
theorem F9l2_eq {r:Rc} (h:vRc r=true) {no:Int} (hn:inB no 0 59=true) (left:Int) (e:Int):∀ (m q:Nat),q≤3→3 - q < m→F9l2 left 2000 no (my r,0) (strips r no,e) m (q:Int)=some true
  | 0,q,_,hm=>by omega
  | m+1,q,hq,hm=>by
    have hb:=txtS_bounds h
    have hp:=txtS_plain (vRc_plain h)
    rw [F9l2,F9b2]
    by_cases h3:q < 3
    · have hw:=whole_strip (q:=(q:Int)) hn hb.1 (by omega) hp
      have hi:inB (q:Int) 0 2=true:=by simp [inB]; omega
      have hl:(mz (q:Int) no (my r)).t.length=(thQ (q:Int) (my r)).length:=by simp [mz,bl]
      have hl2:=thQ_len (q:Int) (my r)
      obtain ⟨k,hk,hk2⟩:=mod_pos left (n:=((mz (q:Int) no (my r)).t.length:Int)) (by omega) (by omega)
      rw [if_pos (by omega),du (by omega),strips_get r no h3,ba]
      rw [show F25 2000 (q:Int) (mz (q:Int) no (my r))=F26 2000 (q:Int) (mz (q:Int) no (my r)) from F25_F26 _ _ 1600,show F26 2000 (q:Int) (mz (q:Int) no (my r))=_ from F26_eq _ _ 1600,if_pos hi,if_pos hw,ba,if_pos rfl,if_pos (show (mz (q:Int) no (my r)).no=no from rfl),if_neg (by omega),hk,ba,du (by omega),du (by omega)]
      have e2:∀ s:Sp3,F25 2000 (q:Int) s=_:=fun s=>(F25_F26 (q:Int) s 1600).trans (F26_eq (q:Int) s 1600)
      rw [e2,if_pos hi,if_neg,ba,if_pos rfl]
      · refine (F9l4_eq h hn (F9l2 left 2000 no (my r,0) (strips r no,e) m) h3 e 2000 0 (by omega) (by omega)).trans ?_
        rw [F9j3,dr (by unfold InR; omega)]
        exact F9l2_eq h hn left e m (q+1) (by omega) (by omega)
      rw [show ln (q:Int) ⟨(mz (q:Int) no (my r)).no,(mz (q:Int) no (my r)).sz,(mz (q:Int) no (my r)).t.take ((k:Int)).toNat⟩=false from cut_strip (by rw [Int.toNat_natCast]; omega)]
      decide
    rw [if_neg (by omega),F9j1,sane_ok (by omega)]; rfl
theorem F9_true (r:Rc) (a b:Int):F9 2000 r a b=some true:=by
  unfold F9
  obtain ⟨no,hn,hn2⟩:=mod_pos a (n:=60) (by omega) (by omega)
  have hno:inB (no:Int) 0 59=true:=by simp [inB]; omega
  rw [hn,ba,show F18 2000 r=_ from F18_eq r (by omega),ba]
  rw [show F20 2000 r (no:Int)=F21 2000 r (no:Int) from F20_F21 _ _ 1600,show F21 2000 r (no:Int)=_ from F21_eq _ _ 1600]
  by_cases h:vRc r=true
  · rw [if_pos h,if_pos rfl,show F13 2000 r=_ from (F13_F14 r 1800).2,if_pos h,ba,if_pos h,if_pos hno,ba,if_pos rfl,if_pos rfl,if_pos (show ((strips r (no:Int)).length:Int)=3 from rfl)]
    exact F9l2_eq h hno b 0 2000 0 (by omega) (by omega)
  rw [if_neg h,if_neg (by decide),if_neg h,ba,if_pos rfl,sane_ok (by omega)]
  rfl
end Go.K
end
