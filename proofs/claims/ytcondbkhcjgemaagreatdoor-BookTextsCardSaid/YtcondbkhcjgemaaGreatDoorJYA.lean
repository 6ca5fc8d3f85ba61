/- Y1, Y2, Y3, Y4, Y5, Y6, Y7, Y8, Y9, Ya, Yb, Yc, Yd, Ye, Yf, Yg, Yh. -/
import Derived.Test.YtcondbkhcjgemaaGreatDoorJD
import Derived.KernelRfl
set_option linter.unusedVariables false
set_option linter.unusedSimpArgs false
section
namespace Go.K
open Go.RowKit
theorem ba {α β:Type} (x:α) (k:α→Option β):bp (some x) k=k x:=rfl
theorem du {β:Type} {p:Prop} [Decidable p] {k:Option β} (h:p):gdO p k=k:=if_pos h
theorem dr {β:Type} {n:Int} {k:Option β} (h:InR n):ckO n k=k:=if_pos h
theorem inR_small {n:Int} (h0:-1000000000000≤n) (h1:n≤1000000000000):InR n:=by unfold InR; omega
def okB (b:UInt8):Bool:=decide (32≤nb b) && decide (nb b≤126)
def plainB (s:Str):Bool:=s.all okB
theorem drop_get {α:Type} {l:List α} {i:Nat} (h:i < l.length):l.drop i=l[i] :: l.drop (i+1):=List.drop_eq_getElem_cons h
theorem F145l_eq (s:Str) (hs:(s.length:Int)≤1000000000):∀ (m i:Nat),i≤s.length→s.length - i < m→F145l1 s m (i:Int)=some ((s.drop i).all okB):=by
  intro m
  induction m with
  | zero=>intro i _ h; omega
  | succ m ih =>
    intro i hi hm
    simp only [F145l1,F145b1]
    by_cases h:i < s.length
    · rw [if_pos (by omega),du (by omega),Int.toNat_natCast,List.getElem?_eq_getElem h,ba,drop_get h,List.all_cons]
      by_cases h1:nb s[i] < 32
      · rw [if_pos h1,show okB s[i]=false by simp [okB]; omega]; simp
      rw [if_neg h1]
      by_cases h2:126 < nb s[i]
      · rw [if_pos h2,show okB s[i]=false by simp [okB]; omega]; simp
      rw [if_neg h2,dr (inR_small (by omega) (by omega)),show ((i:Int)+1)=((i+1:Nat):Int) by omega,ih (i+1) (by omega) (by omega),show okB s[i]=true by simp [okB]; omega]
      simp
    rw [if_neg (by omega),List.drop_of_length_le (by omega)]
    rfl
theorem F145_eq (s:Str) (hs:(s.length:Int)≤1000000000) {N:Nat} (hN:s.length < N):F145 N s=some (plainB s):=by
  have:=F145l_eq s hs N 0 (by omega) (by omega)
  simpa [F145,plainB] using this
theorem F84l_eq (s:Str) (hs:(s.length:Int)≤1000000000):∀ (m i:Nat),i≤s.length→s.length - i < m→F84l1 s m (i:Int)=some ((s.drop i).all okB):=by
  intro m
  induction m with
  | zero=>intro i _ h; omega
  | succ m ih =>
    intro i hi hm
    simp only [F84l1,F84b1]
    by_cases h:i < s.length
    · rw [if_pos (by omega),du (by omega),Int.toNat_natCast,List.getElem?_eq_getElem h,ba,drop_get h,List.all_cons]
      by_cases h1:nb s[i] < 32
      · rw [if_pos h1,show okB s[i]=false by simp [okB]; omega]; simp
      rw [if_neg h1]
      by_cases h2:126 < nb s[i]
      · rw [if_pos h2,show okB s[i]=false by simp [okB]; omega]; simp
      rw [if_neg h2,dr (inR_small (by omega) (by omega)),show ((i:Int)+1)=((i+1:Nat):Int) by omega,ih (i+1) (by omega) (by omega),show okB s[i]=true by simp [okB]; omega]
      simp
    rw [if_neg (by omega),List.drop_of_length_le (by omega)]
    rfl
theorem F84_eq (s:Str) (hs:(s.length:Int)≤1000000000) {N:Nat} (hN:s.length < N):F84 N s=some (plainB s):=by
  have:=F84l_eq s hs N 0 (by omega) (by omega)
  simpa [F84,plainB] using this
def inB (x a b:Int):Bool:=decide (a≤x) && decide (x≤b)
theorem F76_eq (x a b:Int):F76 x a b=some (inB x a b):=by
  simp only [F76,inB]; by_cases h1:a≤x <;> by_cases h2:x≤b <;> simp [h1,h2]
theorem F82_eq (x a b:Int):F82 x a b=some (inB x a b):=F76_eq x a b
def vIt (x:It):Bool:=inB x.p 0 5 && inB x.n 0 9999
theorem F75_eq (x:It):F75 x=some (vIt x):=by
  simp only [F75,F126,F76_eq,ba,vIt]
  cases inB x.p 0 5 <;> simp
theorem F81_eq (x:It):F81 x=some (vIt x):=by
  simp only [F81,F127,F82_eq,ba,vIt]
  cases inB x.p 0 5 <;> simp
def suitB (p0:Rc):Bool :=
  if p0.k=0 then vIt ⟨p0.op,p0.on⟩ && decide (p0.op=p0.p) && decide (p0.on < p0.n) && decide (p0.d=0) && decide (p0.t=[])
  else decide (p0.op=0) && decide (p0.on=0)
theorem F80_eq (p0:Rc):F80 p0=some (suitB p0):=by
  unfold F80 suitB
  by_cases h:p0.k=0
  · rw [if_pos h,if_pos h,F75_eq,ba]
    cases h1:vIt ⟨p0.op,p0.on⟩ <;> by_cases h2:p0.op=p0.p <;> by_cases h3:p0.on < p0.n <;> by_cases h4:p0.d=0 <;> by_cases h5:p0.t=[] <;> simp [F80j1,h2,h3,h4,h5]
  rw [if_neg h,if_neg h]
  by_cases h1:p0.op=0 <;> by_cases h2:p0.on=0 <;> simp [h1,h2]
def vRc (p0:Rc):Bool:=vIt ⟨p0.p,p0.n⟩ && inB p0.k 0 60 && inB p0.d 0 4166 && inB p0.kn 0 4166 && decide ((p0.t.length:Int)≤160) && plainB p0.t && suitB p0
theorem F17_eq (p0:Rc) {N:Nat} (hN:161≤N):F17 N p0=some (if vRc p0=true then 0 else 80):=by
  have h79:F79 N p0.t=some (decide ((p0.t.length:Int)≤160) && plainB p0.t):=by
    unfold F79
    by_cases h:(p0.t.length:Int)≤160
    · rw [if_pos h,F145_eq p0.t (by omega) (by omega),ba]; simp [h]
    rw [if_neg h]; simp [h]
  simp only [F17,F17j1,F77,F78,F75_eq,F76_eq,F80_eq,h79,ba,vRc]
  rcases Bool.eq_false_or_eq_true (vIt ⟨p0.p,p0.n⟩) with h1 | h1 <;> rcases Bool.eq_false_or_eq_true (inB p0.k 0 60) with h2 | h2 <;> rcases Bool.eq_false_or_eq_true (inB p0.d 0 4166) with h3 | h3 <;> rcases Bool.eq_false_or_eq_true (inB p0.kn 0 4166) with h4 | h4 <;> by_cases h5:(p0.t.length:Int)≤160 <;> rcases Bool.eq_false_or_eq_true (plainB p0.t) with h6 | h6 <;> rcases Bool.eq_false_or_eq_true (suitB p0) with h7 | h7 <;> simp [h1,h2,h3,h4,h5,h6,h7,ba]
theorem F18_eq (p0:Rc) {N:Nat} (hN:161≤N):F18 N p0=some (if vRc p0=true then 0 else 80):=by
  simp only [F18,F81_eq,F82_eq,F83,ba,vRc]
  rcases Bool.eq_false_or_eq_true (vIt ⟨p0.p,p0.n⟩) with h1 | h1
  · rcases Bool.eq_false_or_eq_true (inB p0.k 0 60) with h2 | h2
    · rcases Bool.eq_false_or_eq_true (inB p0.d 0 4166) with h3 | h3
      · rcases Bool.eq_false_or_eq_true (inB p0.kn 0 4166) with h4 | h4
        · by_cases h5:(p0.t.length:Int)≤160
          · rw [F84_eq p0.t (by omega) (by omega)]
            rcases Bool.eq_false_or_eq_true (plainB p0.t) with h6 | h6
            · simp only [ba,suitB,h1,h2,h3,h4,h6,if_true,decide_eq_true h5,Bool.and_true,Bool.true_and,if_neg (show ¬ (160:Int) < p0.t.length by omega)]
              by_cases hk:p0.k=0
              · simp only [if_pos hk]
                rcases Bool.eq_false_or_eq_true (vIt ⟨p0.op,p0.on⟩) with g1 | g1
                · simp only [g1]
                  by_cases g2:p0.op=p0.p <;> by_cases g3:p0.n≤p0.on <;> by_cases g4:p0.d=0 <;> by_cases g5:p0.t=[] <;> simp [g2,g3,g4,g5,show p0.on < p0.n↔¬ p0.n≤p0.on from Int.not_le.symm]
                simp only [g1]
                by_cases g4:p0.d=0 <;> by_cases g5:p0.t=[] <;> simp [g4,g5]
              simp only [if_neg hk]
              by_cases g2:p0.op=0 <;> by_cases g3:p0.on=0 <;> simp [g2,g3]
            simp [h1,h2,h3,h4,h5,h6,Int.not_lt.2 h5,ba]
          simp [h1,h2,h3,h4,h5,show (160:Int) < p0.t.length by omega]
        simp [h1,h2,h3,h4]
      simp [h1,h2,h3]
    simp [h1,h2]
  simp [h1]
end Go.K
end
section
namespace Go.K
open Go.RowKit
theorem decS_len:∀ (m u:Nat),(ng m u).length≤m
  | 0,u=>by simp [ng]
  | m+1,u=>by
    rw [ng]; split
    · simp
    have:=decS_len m (u / 10); simp; omega
theorem dig_eq {u:Nat} (h:u < 10):bl [w8 (48+(u:Int))]=[UInt8.ofNat (48+u)]:=by
  simp only [bl,List.map_cons,List.map_nil,ub,w8]
  rw [show ((48+(u:Int)) % 256).toNat=48+u by omega]
theorem F143_nat:∀ (m u:Nat),m≤19→u < 10 ^ (m+1)→(u:Int)≤9223372036854775807→F143 (m+1) (u:Int)=some (ng (m+1) u)
  | 0,u,_,h,hr=>by
    have h:u < 10:=by simpa using h
    rw [F143,F143b,if_neg (by omega),if_neg (by omega),if_pos (by omega),dr (by unfold InR; omega),dig_eq h,ng,if_pos h]
  | m+1,u,hm,h,hr=>by
    rw [F143,F143b,if_neg (by omega),if_neg (by omega),ng]
    by_cases h1:u < 10
    · rw [if_pos (by omega),dr (by unfold InR; omega),dig_eq h1,if_pos h1]
    have e1:(u:Int).tdiv 10=((u / 10:Nat):Int):=rfl
    have e2:(u:Int).tmod 10=((u % 10:Nat):Int):=rfl
    rw [if_neg (by omega),dr (by unfold InR; omega),e1,F143_nat m (u / 10) (by omega) (by rw [Nat.pow_succ] at h; omega) (by omega),ba,e2,dr (by unfold InR; omega),dig_eq (Nat.mod_lt _ (by decide)),du (by have:=decS_len (m+1) (u / 10); simp; omega),if_neg h1]
theorem F143_neg:∀ (m u:Nat),m≤19→0 < u→u < 10 ^ (m+1)→(u:Int)≤9223372036854775808→F143 (m+1) (-(u:Int))=some (45 :: ng (m+1) u)
  | 0,u,_,h0,h,hr=>by
    have h:u < 10:=by simpa using h
    rw [F143,F143b,if_neg (by omega),if_pos (by omega),show (48:Int) - -(u:Int)=48+u by omega,dr (by unfold InR; omega),dig_eq h,ng,if_pos h]
    rfl
  | m+1,u,hm,h0,h,hr=>by
    rw [F143,F143b,ng]
    by_cases h1:u < 10
    · rw [if_neg (by omega),if_pos (by omega),show (48:Int) - -(u:Int)=48+u by omega,dr (by unfold InR; omega),dig_eq h1,if_pos h1]
      rfl
    have e1:(-(u:Int)).tdiv 10=-((u / 10:Nat):Int):=by rw [Int.neg_tdiv]; rfl
    have e2:(-(u:Int)).tmod 10=-((u % 10:Nat):Int):=by rw [Int.neg_tmod]; rfl
    rw [if_pos (by omega),dr (by unfold InR; omega),e1,F143_neg m (u / 10) (by omega) (by omega) (by rw [Nat.pow_succ] at h; omega) (by omega),ba,e2,show (48:Int) - -((u % 10:Nat):Int)=48+((u % 10:Nat):Int) by omega,dr (by unfold InR; omega),dig_eq (Nat.mod_lt _ (by decide)),du (by have:=decS_len (m+1) (u / 10); simp; omega),if_neg h1]
    rfl
theorem F143_more:∀ (N:Nat) (n:Int) (x:Str),F143 N n=some x→F143 (N+1) n=some x:=by
  intro N
  induction N with
  | zero=>intro n x h; cases h
  | succ N ih =>
    intro n x h
    rw [F143] at h ⊢
    unfold F143b at h ⊢
    split at h
    · rename_i h1; rw [if_pos h1]
      revert h; unfold ckO bp gdO; split
      · cases h2:F143 N (n.tdiv 10) with
        | none=>intro h; cases h
        | some y=>rw [ih _ _ h2]; exact id
      intro h; cases h
    rename_i h1; rw [if_neg h1]
    split at h
    · rename_i h2; rw [if_pos h2]; exact h
    rename_i h2; rw [if_neg h2]
    split at h
    · rename_i h3; rw [if_pos h3]; exact h
    rename_i h3; rw [if_neg h3]
    revert h; unfold ckO bp gdO; split
    · cases h2:F143 N (n.tdiv 10) with
      | none=>intro h; cases h
      | some y=>rw [ih _ _ h2]; exact id
    intro h; cases h
theorem F143_eq (n:Int) (h:InR n) (N:Nat):F143 (N+20) n=some (ne n):=by
  induction N with
  | zero =>
    unfold InR at h
    unfold ne
    by_cases h1:n < 0
    · rw [if_pos h1]
      have:=F143_neg 19 n.natAbs (by omega) (by omega) (by have:(10:Nat) ^ 20=100000000000000000000:=rfl; omega) (by omega)
      rwa [show (-(n.natAbs:Int))=n by omega] at this
    rw [if_neg h1]
    have:=F143_nat 19 n.toNat (by omega) (by have:(10:Nat) ^ 20=100000000000000000000:=rfl; omega) (by omega)
    rwa [show ((n.toNat:Nat):Int)=n by omega] at this
  | succ N ih=>rw [show N+1+20=N+20+1 by omega]; exact F143_more _ _ _ ih
end Go.K
end
section
namespace Go.K
open Go.RowKit
theorem itoaS_len (n:Int):(ne n).length≤21:=by
  unfold ne; split
  · have:=decS_len 20 n.natAbs; simp; omega
  have:=decS_len 20 n.toNat; omega
def nl:List Int→Str
  | []=>[]
  | n :: r=>ne n++[32]++nl r
def nc (r:Rc):List Int:=[r.p,r.n,r.k,r.d,r.kn,r.op,r.on]
def my (r:Rc):Str:=nl (nc r)++r.t
theorem F142_eq {n:Int} (h:InR n):F142 n=some (ne n):=by unfold F142; rw [dr h]
theorem F69l_eq (r:Rc) (hr:∀ x∈nc r,InR x):∀ (m i:Nat) (t:Str),i≤7→7 - i < m→t.length≤22 * i→F69l2 r m t (i:Int)=F69j1 r (t++nl ((nc r).drop i)):=by
  intro m
  induction m with
  | zero=>intro i t _ h; omega
  | succ m ih =>
    intro i t hi hm ht
    simp only [F69l2,F69b2]
    by_cases h:i < 7
    · have hl:i < (nc r).length:=h
      rw [if_pos (by omega),du (by omega),Int.toNat_natCast,show [r.p,r.n,r.k,r.d,r.kn,r.op,r.on]=nc r from rfl,List.getElem?_eq_getElem hl,ba,F142_eq (hr _ (List.getElem_mem hl)),ba]
      have:=itoaS_len (nc r)[i]
      rw [du (by simp; omega),du (by simp; omega),dr (inR_small (by omega) (by omega)),show ((i:Int)+1)=((i+1:Nat):Int) by omega,ih (i+1) _ (by omega) (by omega) (by simp; omega),drop_get hl,nl]
      simp
    have:i=7:=by omega
    subst this
    rw [if_neg (by omega),show (nc r).drop 7=[] from rfl,nl,List.append_nil]
theorem F69_eq (r:Rc) (hr:∀ x∈nc r,InR x) (ht:r.t.length≤1000) (hx:(nl (nc r)).length≤1000) {N:Nat} (hN:8≤N):F69 N r=some (my r):=by
  have:=F69l_eq r hr N 0 [] (by omega) (by omega) (by simp)
  unfold F69
  rw [show (0:Int)=((0:Nat):Int) from rfl,this,List.nil_append,List.drop_zero,F69j1,du (by omega)]
  rfl
theorem txtN_len:∀ l:List Int,(nl l).length≤22 * l.length
  | []=>by simp [nl]
  | n :: l=>by have:=txtN_len l; have:=itoaS_len n; simp [nl]; omega
theorem F70l_eq (r:Rc) (hr:∀ x∈nc r,InR x) (N:Nat):∀ (m i:Nat) (t:Str),i≤7→7 - i < m→t.length≤22 * i→F70l2 r (N+20) m t (i:Int)=F70j1 r (t++nl ((nc r).drop i)):=by
  intro m
  induction m with
  | zero=>intro i t _ h; omega
  | succ m ih =>
    intro i t hi hm ht
    simp only [F70l2,F70b2]
    by_cases h:i < 7
    · have hl:i < (nc r).length:=h
      rw [if_pos (by omega),du (by omega),Int.toNat_natCast,show [r.p,r.n,r.k,r.d,r.kn,r.op,r.on]=nc r from rfl,List.getElem?_eq_getElem hl,ba,F143_eq _ (hr _ (List.getElem_mem hl)),ba]
      have:=itoaS_len (nc r)[i]
      rw [du (by omega),du (by simp; omega),dr (inR_small (by omega) (by omega)),show ((i:Int)+1)=((i+1:Nat):Int) by omega,ih (i+1) _ (by omega) (by omega) (by simp; omega),drop_get hl,nl]
      simp
    have:i=7:=by omega
    subst this
    rw [if_neg (by omega),show (nc r).drop 7=[] from rfl,nl,List.append_nil]
theorem F70_eq (r:Rc) (hr:∀ x∈nc r,InR x) (ht:r.t.length≤1000) (N:Nat):F70 (N+20) r=some (my r):=by
  have:=F70l_eq r hr N (N+20) 0 [] (by omega) (by omega) (by simp)
  have hx:=txtN_len (nc r)
  have hx:(nl (nc r)).length≤154:=hx
  unfold F70
  rw [show (0:Int)=((0:Nat):Int) from rfl,this,List.nil_append,List.drop_zero,F70j1,du (by omega)]
  rfl
theorem vRc_small {r:Rc} (h:vRc r=true):(∀ x∈nc r,InR x)∧r.t.length≤160:=by
  simp only [vRc,vIt,inB,suitB,Bool.and_eq_true,decide_eq_true_eq] at h
  obtain ⟨⟨⟨⟨⟨⟨⟨h1,h2⟩,h3⟩,h4⟩,h5⟩,h6⟩,h7⟩,h8⟩:=h
  refine ⟨fun x hx=>?_,by omega⟩
  have ho:(0≤r.op∧r.op≤5)∧0≤r.on∧r.on≤9999:=by
    split at h8
    · simp only [Bool.and_eq_true,decide_eq_true_eq] at h8
      obtain ⟨⟨⟨⟨⟨a,b⟩,_⟩,_⟩,_⟩,_⟩:=h8
      exact ⟨a,b⟩
    simp only [Bool.and_eq_true,decide_eq_true_eq] at h8
    omega
  simp only [nc,List.mem_cons,List.not_mem_nil,or_false] at hx
  unfold InR
  rcases hx with rfl | rfl | rfl | rfl | rfl | rfl | rfl <;> omega
theorem F13_F14 (r:Rc) (N:Nat):F13 (N+200) r=F14 (N+200) r∧F13 (N+200) r=some (if vRc r=true then (my r,0) else ([],80)):=by
  have e1:=F17_eq r (N:=N+200) (by omega)
  have e2:=F18_eq r (N:=N+200) (by omega)
  have hh:vRc r=true→F69 (N+200) r=some (my r)∧F70 (N+200) r=some (my r):=fun h=>by
    obtain ⟨h1,h2⟩:=vRc_small h
    have hx:=txtN_len (nc r)
    exact ⟨F69_eq r h1 (by omega) (by have:(nc r).length=7:=rfl; omega) (by omega),F70_eq r h1 (by omega) (N+180)⟩
  unfold F13 F14
  rw [e1,e2]
  rcases Bool.eq_false_or_eq_true (vRc r) with h | h
  · obtain ⟨a,b⟩:=hh h
    simp [h,a,b,ba]
  simp [h,ba]
end Go.K
end
section
namespace Go.K
open Go.RowKit
def pickQ (q:Int) (x y:Int):Int:=if q=0 then x else if q=1 then y else 32+(x+y - 64) % 95
def thQ (q:Int):Str→List Int
  | []=>[]
  | [x]=>[pickQ q (nb x) 32]
  | x :: y :: r=>pickQ q (nb x) (nb y) :: thQ q r
end Go.K
end
section
namespace Go.K
open Go.RowKit
def strips (r:Rc) (no:Int):List Sp3:=[⟨no,(my r).length,bl (thQ 0 (my r))⟩,⟨no,(my r).length,bl (thQ 1 (my r))⟩,⟨no,(my r).length,bl (thQ 2 (my r))⟩]
end Go.K
end
section
namespace Go.K
open Go.RowKit
def lastB (s:Str):Bool:=decide (s.getLast?=some 32)
def wholeB (q:Int) (s:Sp3):Bool:=inB s.no 0 59 && inB s.sz 14 240 && decide ((s.t.length:Int)=(s.sz+1).tdiv 2) && plainB s.t && (!(decide (q=1) && decide (s.sz.tmod 2=1)) || lastB s.t)
end Go.K
end
section
namespace Go.K
open Go.RowKit
end Go.K
end
section
namespace Go.K
open Go.RowKit
def difQ (z x:Int):Int:=32+(z - x+95) % 95
def okI (x:Int):Prop:=32≤x∧x≤126
def zipQ:List Int→List Int→List Int
  | x :: a,y :: b=>x :: y :: zipQ a b
  | _,_=>[]
end Go.K
end
section
namespace Go.K
open Go.RowKit
def mendQ (p q:Int) (X Y:List Int):List Int :=
  if p=0 then (if q=1 then zipQ X Y else zipQ X (List.zipWith difQ Y X)) else zipQ (List.zipWith difQ Y X) X
end Go.K
end
section
namespace Go.K
open Go.RowKit
end Go.K
end
section
namespace Go.K
open Go.RowKit
end Go.K
end
section
namespace Go.K
open Go.RowKit
end Go.K
end
section
namespace Go.K
open Go.RowKit
def mendS (p q:Int) (s t:Sp3):Str:=if q < p then bl ((mendQ q p (bytesOf t.t) (bytesOf s.t)).take t.sz.toNat) else bl ((mendQ p q (bytesOf s.t) (bytesOf t.t)).take s.sz.toNat)
def matchB (p q:Int) (s t:Sp3):Bool:=wholeB p s && wholeB q t && decide (s.no=t.no) && decide (s.sz=t.sz)
set_option maxRecDepth 100000 in
theorem sane_run (n:Nat):F19 (n+400)=some true:=by kernel_rfl
theorem sane_ok {N:Nat} (h:400≤N):F19 N=some true:=by
  obtain ⟨k,rfl⟩:=Nat.exists_eq_add_of_le' h
  exact sane_run k
end Go.K
end
section
namespace Go.K
open Go.RowKit
theorem decS_pos (m u:Nat):1≤(ng (m+1) u).length:=by
  rw [ng]; split <;> simp
theorem decS_le:∀ (k m u:Nat),u < 10 ^ (k+1)→(ng (m+1) u).length≤k+1
  | 0,m,u,h=>by
    have h:u < 10:=by simpa using h
    rw [ng,if_pos h]; simp
  | k+1,0,u,h=>by
    rw [ng]; split
    · simp
    simp [ng]
  | k+1,m+1,u,h=>by
    rw [ng]; split
    · simp
    have:=decS_le k m (u / 10) (by rw [Nat.pow_succ] at h; omega)
    simp only [List.length_append,List.length_singleton]; omega
theorem nf {n:Int} (h0:0≤n) (h1:n≤9999):1≤(ne n).length∧(ne n).length≤4:=by
  unfold ne
  rw [if_neg (by omega)]
  exact ⟨decS_pos 19 _,decS_le 3 19 _ (by omega)⟩
theorem vRc_in {r:Rc} (h:vRc r=true):∀ x∈nc r,0≤x∧x≤9999:=by
  simp only [vRc,vIt,inB,suitB,Bool.and_eq_true,decide_eq_true_eq] at h
  obtain ⟨⟨⟨⟨⟨⟨⟨h1,h2⟩,h3⟩,h4⟩,h5⟩,h6⟩,h7⟩,h8⟩:=h
  intro x hx
  have ho:(0≤r.op∧r.op≤5)∧0≤r.on∧r.on≤9999:=by
    split at h8
    · simp only [Bool.and_eq_true,decide_eq_true_eq] at h8
      obtain ⟨⟨⟨⟨⟨a,b⟩,_⟩,_⟩,_⟩,_⟩:=h8
      exact ⟨a,b⟩
    simp only [Bool.and_eq_true,decide_eq_true_eq] at h8
    omega
  simp only [nc,List.mem_cons,List.not_mem_nil,or_false] at hx
  rcases hx with rfl | rfl | rfl | rfl | rfl | rfl | rfl <;> omega
theorem txtN_bounds:∀ (l:List Int),(∀ x∈l,0≤x∧x≤9999)→2 * l.length≤(nl l).length∧(nl l).length≤5 * l.length
  | [],_=>by simp [nl]
  | x :: l,h=>by
    have h1:=nf (h x (by simp)).1 (h x (by simp)).2
    have h2:=txtN_bounds l fun y hy=>h y (by simp [hy])
    simp only [nl,List.length_append,List.length_cons,List.length_nil]; omega
theorem txtS_bounds {r:Rc} (h:vRc r=true):14≤(my r).length∧(my r).length≤195:=by
  have h1:=txtN_bounds (nc r) (vRc_in h)
  have h2:=(vRc_small h).2
  have h3:(nc r).length=7:=rfl
  simp only [my,List.length_append]; omega
def stripQ (q no:Int) (s:Str):Sp3:=⟨no,s.length,bl (thQ q s)⟩
end Go.K
end
section
namespace Go.K
open Go.RowKit
def spI:Str→Option Nat
  | []=>none
  | c :: r=>if c=32 then some 0 else (spI r).map (· + 1)
def spZ (s:Str):Int:=match spI s with | some k=>(k:Int) | none=>-1
theorem nb32 (c:UInt8):nb c=32↔c=32:=by
  constructor
  · intro h
    have:c.toNat=32:=by unfold nb at h; omega
    exact UInt8.toNat_inj.1 this
  rintro rfl; rfl
theorem spI_lt:∀ {s:Str} {k:Nat},spI s=some k→k < s.length
  | [],k,h=>by cases h
  | c :: r,k,h=>by
    rw [spI] at h
    split at h
    · injection h with h; subst h; simp
    obtain ⟨j,hj,rfl⟩:=Option.map_eq_some_iff.1 h
    have:=spI_lt hj; simp only [List.length_cons]; omega
theorem spI_cut:∀ {s:Str} {k:Nat},spI s=some k→s=s.take k++32 :: s.drop (k+1)
  | [],k,h=>by cases h
  | c :: r,k,h=>by
    rw [spI] at h
    split at h
    · rename_i hc; injection h with h; subst h; subst hc; rfl
    obtain ⟨j,hj,rfl⟩:=Option.map_eq_some_iff.1 h
    have:=spI_cut hj
    simp only [List.take_succ_cons,List.drop_succ_cons,List.cons_append]
    rw [← this]
theorem spI_pre:∀ (w rest:Str),(∀ c∈w,c≠32)→spI (w++32 :: rest)=some w.length
  | [],rest,_=>rfl
  | c :: w,rest,h=>by
    rw [List.cons_append,spI,if_neg (h c (by simp)),spI_pre w rest fun d hd=>h d (by simp [hd])]
    rfl
theorem index_sp:∀ s:Str,Lib.indexByte s 32=spZ s
  | []=>rfl
  | c :: r=>by
    have ih:=index_sp r
    unfold Lib.indexByte
    unfold spZ at ih ⊢
    rw [spI]
    by_cases hc:c=32
    · simp [hc]
    rw [if_neg (by simpa using hc),if_neg hc,ih]
    cases h:spI r with
    | none=>simp
    | some k =>
      have:¬ ((k:Int)=-1):=by omega
      simp [this]
theorem F73l_eq (s:Str) (hs:s.length≤9223372036854775807):∀ (m i:Nat),s.length - i < m→i≤s.length→F73l1 s m (i:Int)=some (match spI (s.drop i) with | some k=>((i+k:Nat):Int) | none=>-1)
  | 0,i,h,_=>by omega
  | m+1,i,h,hi=>by
    rw [F73l1,F73b1]
    by_cases h3:i < s.length
    · rw [if_pos (by omega),du (by omega),Int.toNat_natCast,List.getElem?_eq_getElem h3,ba,drop_get h3,spI]
      by_cases hc:s[i]=32
      · rw [if_pos ((nb32 _).2 hc),if_pos hc]; simp
      rw [if_neg (fun h=>hc ((nb32 _).1 h)),if_neg hc,dr (by unfold InR; omega)]
      rw [show ((i:Int)+1)=((i+1:Nat):Int) by omega,F73l_eq s hs m (i+1) (by omega) (by omega)]
      cases spI (s.drop (i+1)) with
      | none=>rfl
      | some k =>
        show some ((i+1+k:Nat):Int)=some ((i+(k+1):Nat):Int)
        rw [show i+1+k=i+(k+1) by omega]
    rw [if_neg (by omega),List.drop_of_length_le (by omega)]; rfl
theorem F73_eq (s:Str) (hs:s.length≤9223372036854775807) {N:Nat} (hN:s.length < N):F73 N s=some (spZ s):=by
  unfold F73
  rw [show (0:Int)=((0:Nat):Int) from rfl,F73l_eq s hs N 0 (by omega) (by omega),List.drop_zero]
  unfold spZ
  cases spI s <;> simp
def digB (c:UInt8):Bool:=decide (48≤c.toNat) && decide (c.toNat≤57)
def stepV (a:Nat) (c:UInt8):Nat:=10 * a+(c.toNat - 48)
def valS (a:Nat) (l:Str):Nat:=l.foldl stepV a
theorem valS_nil (a:Nat):valS a []=a:=rfl
theorem nj (a:Nat) (c:UInt8) (r:Str):valS a (c :: r)=valS (10 * a+(c.toNat - 48)) r:=by
  unfold valS; rw [List.foldl_cons,stepV]
theorem valS_snoc (l:Str) (a:Nat) (c:UInt8):valS a (l++[c])=10 * valS a l+(c.toNat - 48):=by
  unfold valS; rw [List.foldl_append,List.foldl_cons,List.foldl_nil,stepV]
theorem valS_ge:∀ (l:Str) (a:Nat),a≤valS a l
  | [],a=>Nat.le_refl _
  | c :: l,a=>by rw [nj]; have:=valS_ge l (10 * a+(c.toNat - 48)); omega
theorem valS_lt:∀ (l:Str) (a k:Nat),l.all digB=true→a < 10 ^ k→valS a l < 10 ^ (k+l.length)
  | [],a,k,_,h=>by simpa [valS_nil] using h
  | c :: l,a,k,hd,h=>by
    simp only [List.all_cons,Bool.and_eq_true,digB,decide_eq_true_eq] at hd
    rw [nj,List.length_cons,show k+(l.length+1)=(k+1)+l.length by omega]
    exact valS_lt l _ (k+1) (by simpa [digB] using hd.2) (by rw [Nat.pow_succ]; omega)
def headOk (l:Str):Prop:=l.headD 0≠48∨l.length=1
theorem val_pos {l:Str} (h:l≠[]) (hd:l.all digB=true) (h0:l.headD 0≠48):1≤valS 0 l:=by
  match l,h with
  | c :: r,_ =>
    simp only [List.all_cons,Bool.and_eq_true,digB,decide_eq_true_eq] at hd
    have:c.toNat≠48:=fun h=>h0 (by simp; exact UInt8.toNat_inj.1 h)
    rw [nj]
    have:=valS_ge r (10 * 0+(c.toNat - 48)); omega
theorem decS_val:∀ (n:Nat) (l:Str) (m:Nat),l.length=n→l≠[]→l.all digB=true→headOk l→n≤m→ng m (valS 0 l)=l
  | 0,l,m,hl,h,_,_,_=>absurd (List.eq_nil_of_length_eq_zero hl) h
  | n+1,l,0,_,_,_,_,hm=>by omega
  | n+1,l,m+1,hl,h,hd,hh,hm=>by
    obtain ⟨l',c,rfl⟩:∃ l' c,l=l'++[c]:=by
      rcases List.eq_nil_or_concat l with h1 | ⟨l',c,h1⟩
      · exact absurd h1 h
      exact ⟨l',c,by simpa using h1⟩
    simp only [List.all_append,List.all_cons,List.all_nil,Bool.and_true,Bool.and_eq_true] at hd
    obtain ⟨hd1,hd2⟩:=hd
    have hc:48≤c.toNat∧c.toNat≤57:=by simpa [digB] using hd2
    have ec:UInt8.ofNat (48+(c.toNat - 48))=c:=by rw [show 48+(c.toNat - 48)=c.toNat by omega]; simp
    rw [valS_snoc,ng]
    by_cases h1:l'=[]
    · subst h1
      simp only [valS_nil,Nat.mul_zero,Nat.zero_add,List.nil_append]
      rw [if_pos (by omega),ec]
    have hh':l'.headD 0≠48:=by
      rcases hh with hh | hh
      · match l',h1 with
        | d :: r,_=>simpa using hh
      simp only [List.length_append,List.length_singleton] at hh
      exact absurd (List.eq_nil_of_length_eq_zero (by omega)) h1
    have hp:=val_pos h1 hd1 hh'
    rw [if_neg (by omega),show (10 * valS 0 l'+(c.toNat - 48)) / 10=valS 0 l' by omega,show (10 * valS 0 l'+(c.toNat - 48)) % 10=c.toNat - 48 by omega,ec,
      decS_val n l' m (by simp only [List.length_append,List.length_singleton] at hl; omega) h1 hd1 (.inl hh') (by omega)]
def numB (w:Str):Bool:=decide (w≠[]) && decide (w.length≤9) && (decide (w.headD 0≠48) || decide (w.length=1)) && w.all digB
theorem itoaS_val {w:Str} (h:numB w=true):ne (valS 0 w:Nat)=w:=by
  simp only [numB,Bool.and_eq_true,Bool.or_eq_true,decide_eq_true_eq] at h
  unfold ne
  rw [if_neg (by omega),Int.toNat_natCast]
  exact decS_val _ w 20 rfl h.1.1.1 h.2 h.1.2 (by omega)
theorem w8_dig {c:UInt8} (h:digB c=true):w8 (nb c - 48)=((c.toNat - 48:Nat):Int):=by
  simp only [digB,Bool.and_eq_true,decide_eq_true_eq] at h
  unfold w8 nb; omega
theorem F74l_eq (w:Str) (hw:w.length≤9):∀ (m i a:Nat),w.length - i < m→i≤w.length→a < 10 ^ i→F74l2 w m (a:Int) (i:Int)=some (if (w.drop i).all digB=true then (((valS a (w.drop i):Nat):Int),true) else (0,false))
  | 0,i,a,h,_,_=>by omega
  | m+1,i,a,h,hi,ha=>by
    rw [F74l2,F74b2]
    by_cases h3:i < w.length
    · rw [if_pos (by omega),du (by omega),Int.toNat_natCast,List.getElem?_eq_getElem h3,ba,drop_get h3]
      have hb:a < 10 ^ 9:=Nat.lt_of_lt_of_le ha (Nat.pow_le_pow_right (by omega) (by omega))
      by_cases h4:digB w[i]=true
      · have h5:48≤w[i].toNat∧w[i].toNat≤57:=by simpa [digB] using h4
        rw [if_neg (by unfold nb; omega),if_neg (by unfold nb; omega),w8_dig h4,dr (by unfold InR; omega),dr (by unfold InR; omega),dr (by unfold InR; omega),dr (by unfold InR; omega)]
        rw [show ((i:Int)+1)=((i+1:Nat):Int) by omega,show (10 * (a:Int)+((w[i].toNat - 48:Nat):Int))=((10 * a+(w[i].toNat - 48):Nat):Int) by omega,F74l_eq w hw m (i+1) _ (by omega) (by omega) (by rw [Nat.pow_succ]; omega)]
        simp only [List.all_cons,h4,Bool.true_and,nj]
      have h5:¬ (48≤w[i].toNat∧w[i].toNat≤57):=by simpa [digB] using h4
      simp only [List.all_cons,h4,Bool.false_and,Bool.false_eq_true,if_false]
      by_cases h6:nb w[i] < 48
      · rw [if_pos h6]
      rw [if_neg h6,if_pos (by unfold nb at *; omega)]
    rw [if_neg (by omega),List.drop_of_length_le (by omega)]; rfl
theorem F74_eq (w:Str) {N:Nat} (hN:10≤N):F74 N w 9=some (if numB w=true then (((valS 0 w:Nat):Int),true) else (0,false)):=by
  unfold F74
  by_cases h1:w=[]
  · rw [if_pos h1]; simp [numB,h1]
  rw [if_neg h1]
  by_cases h2:w.length≤9
  · rw [if_neg (by omega)]
    have hj:F74j1 w N=some (if w.all digB=true then (((valS 0 w:Nat):Int),true) else (0,false)):=by
      unfold F74j1
      have:=F74l_eq w h2 N 0 0 (by omega) (by omega) (by simp)
      rw [List.drop_zero] at this
      exact this
    match w,h1 with
    | c :: r,h1 =>
      rw [show ((c :: r)[0]?:Option UInt8)=some c from rfl,ba]
      have e:nb c=48↔c=48:=by
        constructor
        · intro h
          have:c.toNat=48:=by unfold nb at h; omega
          exact UInt8.toNat_inj.1 this
        rintro rfl; rfl
      by_cases h3:c=48
      · rw [if_pos (e.2 h3)]
        by_cases h4:r=[]
        · subst h4
          rw [if_neg (by simp),hj]; simp [numB]
        have:0 < r.length:=List.length_pos_iff.2 h4
        rw [if_pos (by simp only [List.length_cons]; omega)]
        have:numB (c :: r)=false:=by
          have h5:¬ ((c :: r).length=1):=by simp only [List.length_cons]; omega
          have h6:¬ ((c :: r).headD 0≠48):=by simpa using h3
          unfold numB
          rw [decide_eq_false h5,decide_eq_false h6]; simp
        rw [this]; rfl
      rw [if_neg (fun h=>h3 (e.1 h)),hj]
      have:numB (c :: r)=(c :: r).all digB:=by
        unfold numB
        rw [decide_eq_true h1,decide_eq_true h2,decide_eq_true (show (c :: r).headD 0≠48 from h3)]; simp
      rw [this]
  rw [if_pos (by omega)]
  have:numB w=false:=by simp [numB,h2]
  rw [this]; rfl
theorem decS_small {u:Nat} (h:u≤9999):(ng 20 u).all digB=true∧valS 0 (ng 20 u)=u∧headOk (ng 20 u):=by
  have d:∀ x,x < 10→(UInt8.ofNat (48+x)).toNat=48+x:=fun x hx=>by
    rw [UInt8.toNat_ofNat']; omega
  have g:∀ x,x < 10→digB (UInt8.ofNat (48+x))=true:=fun x hx=>by
    simp only [digB,d x hx,Bool.and_eq_true,decide_eq_true_eq]; omega
  have z:∀ x,x < 10→0 < x→UInt8.ofNat (48+x)≠48:=fun x hx h0 e=>by
    have:=congrArg UInt8.toNat e
    rw [d x hx] at this
    have:(48:UInt8).toNat=48:=rfl
    omega
  by_cases h1:u < 10
  · rw [ng,if_pos h1]
    exact ⟨by simp only [List.all_cons,List.all_nil,Bool.and_true]; exact g u h1,by simp only [nj,valS_nil,d u h1]; omega,.inr rfl⟩
  by_cases h2:u < 100
  · rw [ng,if_neg h1,ng,if_pos (by omega)]
    refine ⟨by simp only [List.cons_append,List.nil_append,List.all_cons,List.all_nil,Bool.and_true,Bool.true_and,g _ (show u / 10 < 10 by omega),g _ (show u % 10 < 10 by omega)],?_,.inl (z (u / 10) (by omega) (by omega))⟩
    simp only [List.cons_append,List.nil_append,nj,valS_nil,d _ (show u / 10 < 10 by omega),d _ (show u % 10 < 10 by omega)]; omega
  by_cases h3:u < 1000
  · rw [ng,if_neg h1,ng,if_neg (by omega),ng,if_pos (by omega)]
    refine ⟨by simp only [List.cons_append,List.nil_append,List.all_cons,List.all_nil,Bool.and_true,Bool.true_and,g _ (show u / 10 / 10 < 10 by omega),g _ (show u / 10 % 10 < 10 by omega),g _ (show u % 10 < 10 by omega)],?_,.inl (z (u / 10 / 10) (by omega) (by omega))⟩
    simp only [List.cons_append,List.nil_append,nj,valS_nil,d _ (show u / 10 / 10 < 10 by omega),d _ (show u / 10 % 10 < 10 by omega),d _ (show u % 10 < 10 by omega)]; omega
  rw [ng,if_neg h1,ng,if_neg (by omega),ng,if_neg (by omega),ng,if_pos (by omega)]
  refine ⟨by simp only [List.cons_append,List.nil_append,List.all_cons,List.all_nil,Bool.and_true,Bool.true_and,g _ (show u / 10 / 10 / 10 < 10 by omega),g _ (show u / 10 / 10 % 10 < 10 by omega),g _ (show u / 10 % 10 < 10 by omega),g _ (show u % 10 < 10 by omega)],?_,.inl (z (u / 10 / 10 / 10) (by omega) (by omega))⟩
  simp only [List.cons_append,List.nil_append,nj,valS_nil,d _ (show u / 10 / 10 / 10 < 10 by omega),d _ (show u / 10 / 10 % 10 < 10 by omega),d _ (show u / 10 % 10 < 10 by omega),d _ (show u % 10 < 10 by omega)]; omega
theorem itoaS_num {n:Int} (h0:0≤n) (h1:n≤9999):numB (ne n)=true∧((valS 0 (ne n):Nat):Int)=n∧∀ c∈ne n,c≠32:=by
  have hl:=nf h0 h1
  have e:ne n=ng 20 n.toNat:=by unfold ne; rw [if_neg (by omega)]
  obtain ⟨a,b,c⟩:=decS_small (u:=n.toNat) (by omega)
  rw [← e] at a b c
  refine ⟨?_,by rw [b]; omega,fun x hx=>?_⟩
  · simp only [numB,Bool.and_eq_true,Bool.or_eq_true,decide_eq_true_eq]
    exact ⟨⟨⟨fun h=>by rw [h] at hl; simp at hl,by omega⟩,c⟩,a⟩
  have:=List.all_eq_true.1 a x hx
  simp only [digB,Bool.and_eq_true,decide_eq_true_eq] at this
  rintro rfl
  have e3:(32:UInt8).toNat=32:=rfl
  omega
theorem parse_digits:∀ (l:Str) (a:Nat),l.all digB=true→l.length≤18→∀ k,a < 10 ^ k→k+l.length≤18→Lib.parseUint10 a l=.ok (valS a l)
  | [],a,_,_,k,_,_=>rfl
  | c :: l,a,hd,hl,k,ha,hk=>by
    simp only [List.all_cons,Bool.and_eq_true] at hd
    have hc:48≤c.toNat∧c.toNat≤57:=by simpa [digB] using hd.1
    simp only [List.length_cons] at hl hk
    have hb:a < 10 ^ 17:=Nat.lt_of_lt_of_le ha (Nat.pow_le_pow_right (by omega) (by omega))
    rw [Lib.parseUint10,if_pos hc,if_neg (by omega),if_neg (by omega),nj,show 10 * a+(c.toNat - 48)=a * 10+(c.toNat - 48) by omega]
    exact parse_digits l _ hd.2 (by omega) (k+1) (by rw [Nat.pow_succ]; omega) (by omega)
theorem atoi_num {w:Str} (h:numB w=true):Lib.atoiAll w=.ok ((valS 0 w:Nat):Int):=by
  have h':=h
  simp only [numB,Bool.and_eq_true,Bool.or_eq_true,decide_eq_true_eq] at h
  obtain ⟨⟨⟨h1,h2⟩,h3⟩,h4⟩:=h
  have hp:=parse_digits w 0 h4 (by omega) 0 (by simp) (by omega)
  have hv:=valS_lt w 0 0 h4 (by simp)
  have hv2:valS 0 w < 10 ^ 9:=Nat.lt_of_lt_of_le hv (Nat.pow_le_pow_right (by omega) (by omega))
  match w,h1 with
  | c :: r,h1 =>
    have hc:48≤c.toNat∧c.toNat≤57:=by
      simp only [List.all_cons,Bool.and_eq_true] at h4
      simpa [digB] using h4.1
    simp only [Lib.atoiAll]
    rw [if_neg (by omega)]
    simp only [Lib.parseMag,if_neg h1,hp]
    rw [if_neg (by omega),if_neg (by omega),if_neg (by omega)]
end Go.K
end
section
namespace Go.K
open Go.RowKit
theorem ni {A B C:Type} (x:A) (f:A→Option C) (g:B→Option C):bindS (some (.inl x)) f g=f x:=rfl
def okv (r:Rc):Int × Int × Int × Int × Int × Int × Int × Str × Int:=(r.p,r.n,r.k,r.d,r.kn,r.op,r.on,r.t,0)
def badv:Int × Int × Int × Int × Int × Int × Int × Str × Int:=(0,0,0,0,0,0,0,[],5)
theorem F16j1_eq (N:Nat) (hN:161≤N) (rest:Str) (a b c d e f g:Int):F16j1 N rest [a,b,c,d,e,f,g]=some (if vRc ⟨a,b,c,d,e,f,g,rest⟩=true then okv ⟨a,b,c,d,e,f,g,rest⟩ else badv):=by
  unfold F16j1
  simp only [List.getElem?_cons_zero,List.getElem?_cons_succ,ba,F18_eq _ hN]
  by_cases h:vRc ⟨a,b,c,d,e,f,g,rest⟩=true
  · rw [if_pos h,if_pos h,if_pos rfl]; rfl
  rw [if_neg h,if_neg h,if_neg (by decide)]; rfl
theorem F16_sound (N:Nat) (hN:161≤N):∀ (m i:Nat) (v:Str) (u:List Int),u.length=i→i≤7→7 - i < m→v.length≤9223372036854775807→v.length < N →
    ∃ res,F16l2 N m v u (i:Int)=some res∧(res=badv∨∃ (l:List Int) (rest:Str),l.length=7 - i∧v=nl l++rest∧F16j1 N rest (u++l)=some res)
  | 0,i,v,u,_,_,h,_,_=>by omega
  | m+1,i,v,u,hu,hi,hm,hv,hn=>by
    rw [F16l2,F16b2]
    by_cases h7:i < 7
    · rw [if_pos (by omega),F73_eq v hv hn,ba]
      unfold spZ
      cases hs:spI v with
      | none=>exact ⟨badv,by rw [if_pos (by decide)]; rfl,.inl rfl⟩
      | some k =>
        have hk:=spI_lt hs
        have hc:=spI_cut hs
        simp only []
        rw [if_neg (by omega),du (by omega),du (by omega),Int.toNat_natCast,F74_eq (v.take k) (by omega),ba]
        by_cases hd:numB (v.take k)=true
        · rw [if_pos hd,if_pos rfl,du (by omega),dr (by unfold InR; omega),du (by omega),du (by omega),dr (by unfold InR; omega)]
          rw [show ((k:Int)+1).toNat=k+1 by omega,show ((i:Int)+1)=((i+1:Nat):Int) by omega]
          obtain ⟨res,h1,h2⟩:=F16_sound N hN m (i+1) (v.drop (k+1)) (u++[((valS 0 (v.take k):Nat):Int)]) (by simp [hu]) (by omega) (by omega) (by simp; omega) (by simp; omega)
          refine ⟨res,h1,?_⟩
          rcases h2 with h2 | ⟨l,rest,h3,h4,h5⟩
          · exact .inl h2
          refine .inr ⟨((valS 0 (v.take k):Nat):Int) :: l,rest,by simp only [List.length_cons]; omega,?_,by simpa using h5⟩
          have h6:v=v.take k++32 :: (nl l++rest):=by rw [← h4]; exact hc
          rw [nl,itoaS_val hd]
          exact h6.trans (by simp)
        rw [if_neg hd]
        exact ⟨badv,by rw [if_neg (by simp)]; rfl,.inl rfl⟩
    have:i=7:=by omega
    subst this
    rw [if_neg (by omega)]
    match u,hu with
    | [a,b,c,d,e,f,g],_=>exact ⟨_,F16j1_eq N hN v a b c d e f g,.inr ⟨[],v,rfl,rfl,by rw [List.append_nil]; exact F16j1_eq N hN v a b c d e f g⟩⟩
theorem F16_comp (N:Nat) (hN:161≤N):∀ (l:List Int) (m i:Nat) (u:List Int) (rest:Str),l.length=7 - i→i≤7→7 - i < m→u.length=i→(∀ x∈l,0≤x∧x≤9999)→(nl l++rest).length≤9223372036854775807→(nl l++rest).length < N →
    F16l2 N m (nl l++rest) u (i:Int)=F16j1 N rest (u++l)
  | [],0,i,u,rest,_,_,h,_,_,_,_=>by omega
  | [],m+1,i,u,rest,hl,hi,hm,hu,hx,h1,h2=>by
    have:i=7:=by simp at hl; omega
    subst this
    rw [F16l2,F16b2,if_neg (by omega),List.append_nil]; rfl
  | x :: l,0,i,u,rest,_,_,h,_,_,_,_=>by omega
  | x :: l,m+1,i,u,rest,hl,hi,hm,hu,hx,h1,h2=>by
    simp only [List.length_cons] at hl
    obtain ⟨n1,n2,n3⟩:=itoaS_num (hx x (by simp)).1 (hx x (by simp)).2
    have e:nl (x :: l)++rest=ne x++32 :: (nl l++rest):=by simp [nl]
    have hs:=spI_pre (ne x) (nl l++rest) n3
    rw [e] at h1 h2 ⊢
    have hlen:(ne x++32 :: (nl l++rest)).length=(ne x).length+1+(nl l++rest).length:=by simp only [List.length_append,List.length_cons]; omega
    rw [F16l2,F16b2,if_pos (by omega),F73_eq _ h1 h2,ba]
    unfold spZ
    rw [hs]
    simp only []
    rw [if_neg (by omega),du (by omega),du (by omega),Int.toNat_natCast,List.take_left,F74_eq (ne x) (by omega),ba,if_pos n1,if_pos rfl,du (by omega),dr (by unfold InR; omega),du (by omega),du (by omega),dr (by unfold InR; omega)]
    rw [show (((ne x).length:Int)+1).toNat=(ne x).length+1 by omega,show ((i:Int)+1)=((i+1:Nat):Int) by omega,List.drop_length_add_append,n2]
    simp only [List.drop_succ_cons,List.drop_zero]
    rw [F16_comp N hN l m (i+1) (u++[x]) rest (by omega) (by omega) (by omega) (by simp [hu]) (fun y hy=>hx y (by simp [hy])) (by omega) (by omega)]
    simp
theorem F16_all (t:Str) (N:Nat) (hN:161≤N) (h1:t.length≤9223372036854775807) (h2:t.length < N):∃ res,F16 N t=some res∧(res=badv∨∃ r,vRc r=true∧my r=t∧res=okv r):=by
  obtain ⟨res,a,b⟩:=F16_sound N hN N 0 t [] rfl (by omega) (by omega) h1 h2
  refine ⟨res,a,?_⟩
  rcases b with b | ⟨l,rest,c,d,e⟩
  · exact .inl b
  match l,c with
  | [a,b,c,d',e',f,g],_ =>
    rw [List.nil_append,F16j1_eq N hN] at e
    by_cases h:vRc ⟨a,b,c,d',e',f,g,rest⟩=true
    · rw [if_pos h] at e
      exact .inr ⟨_,h,d.symm,(Option.some.inj e).symm⟩
    rw [if_neg h] at e
    exact .inl (Option.some.inj e).symm
theorem F16_ok (r:Rc) (h:vRc r=true) (N:Nat) (hN:200≤N):F16 N (my r)=some (okv r):=by
  have hb:=txtS_bounds h
  unfold F16
  have:=F16_comp N (by omega) (nc r) N 0 [] r.t rfl (by omega) (by omega) rfl (vRc_in h) (by show (my r).length≤_; omega) (by show (my r).length < _; omega)
  refine this.trans ?_
  rw [List.nil_append]
  refine (F16j1_eq N (by omega) r.t r.p r.n r.k r.d r.kn r.op r.on).trans ?_
  rw [if_pos h]
theorem F162_eq (s:Str) (hs:s.length≤9223372036854775807):F162 s [32]=some (match spI s with | some k=>(s.take k,s.drop (k+1),true) | none=>(s,[],false)):=by
  unfold F162 F170 F187
  rw [if_pos (show ([32]:Str).length=1 from rfl),ba,show ([32]:Str).headD 0=32 from rfl,index_sp]
  unfold spZ
  cases hk:spI s with
  | none=>simp only []; rw [if_neg (by omega),ba]
  | some k =>
    have:=spI_lt hk
    have e:([32]:Str).length=1:=rfl
    simp only [e]
    rw [if_pos (by omega),du (by omega),dr (by unfold InR; omega),du (by omega),du (by omega),ba,Int.toNat_natCast,show ((k:Int)+((1:Nat):Int)).toNat=k+1 by omega]
theorem atoiO_tot (s:Str) (h:s.length≤281474976710656):∃ x,atoiO s=some x:=⟨_,if_pos h⟩
theorem F144_tot (s:Str) (hs:s.length≤281474976710656):∃ res,F144 s=some res∧∀ x,res=.inl x→x.2.length≤s.length:=by
  unfold F144
  rw [F162_eq s (by omega),ba]
  cases hk:spI s with
  | none =>
    obtain ⟨x,hx⟩:=atoiO_tot s hs
    simp only [hx]
    cases x with
    | inl y=>exact ⟨_,rfl,fun z hz=>by injection hz with hz; subst hz; simp⟩
    | inr y=>exact ⟨_,rfl,fun z hz=>by cases hz⟩
  | some k =>
    obtain ⟨x,hx⟩:=atoiO_tot (s.take k) (by simp; omega)
    simp only [hx]
    cases x with
    | inl y=>exact ⟨_,rfl,fun z hz=>by injection hz with hz; subst hz; simp⟩
    | inr y=>exact ⟨_,rfl,fun z hz=>by cases hz⟩
theorem F144_num {n:Int} (h0:0≤n) (h1:n≤9999) (rest:Str) (hr:rest.length≤1000000):F144 (ne n++32 :: rest)=some (.inl (n,rest)):=by
  obtain ⟨n1,n2,n3⟩:=itoaS_num h0 h1
  have hl:=nf h0 h1
  unfold F144
  rw [F162_eq _ (by simp only [List.length_append,List.length_cons]; omega),spI_pre _ _ n3,ba]
  simp only [List.take_left]
  have e:atoiO (ne n)=some (.inl n):=by
    unfold atoiO
    rw [if_pos (by omega),atoi_num n1,n2]
  rw [e,ni,List.drop_length_add_append]; rfl
theorem F72j1_eq (p0:Str) (N:Nat) (hN:161≤N) (a b c d e f g:Int) (rest:Str):F72j1 p0 N a b c d e f g rest=some (if vRc ⟨a,b,c,d,e,f,g,rest⟩=true∧my ⟨a,b,c,d,e,f,g,rest⟩=p0 then .inl (a,b,c,d,e,f,g,rest) else .inr ()):=by
  unfold F72j1
  rw [F17_eq _ hN,ba]
  by_cases h:vRc ⟨a,b,c,d,e,f,g,rest⟩=true
  · obtain ⟨h1,h2⟩:=vRc_small h
    have h3:=txtN_bounds _ (vRc_in h)
    have h4:(nc ⟨a,b,c,d,e,f,g,rest⟩).length=7:=rfl
    rw [if_pos h,if_pos rfl,F69_eq _ h1 (by omega) (by omega) (by omega),ba]
    by_cases h5:my ⟨a,b,c,d,e,f,g,rest⟩=p0
    · rw [if_pos h5,if_pos ⟨h,h5⟩]
    rw [if_neg h5,if_neg (fun h=>h5 h.2)]
  rw [if_neg h,if_neg (by decide),if_neg (fun k=>h k.1)]
theorem nk (p0:Str) (N:Nat) (hN:161≤N):∀ (m i:Nat) (n0 n1 n2 n3 n4 n5 n6:Int) (v:Str),i≤7→7 - i < m→v.length≤281474976710656 →
    ∃ res,F72l2 p0 N m n0 n1 n2 n3 n4 n5 n6 v (i:Int)=some res∧(res=.inr ()∨∃ r,vRc r=true∧my r=p0∧res=.inl (r.p,r.n,r.k,r.d,r.kn,r.op,r.on,r.t))
  | 0,i,n0,n1,n2,n3,n4,n5,n6,v,_,h,_=>by omega
  | m+1,i,n0,n1,n2,n3,n4,n5,n6,v,hi,hm,hv=>by
    rw [F72l2,F72b2]
    by_cases h7:i < 7
    · rw [if_pos (by omega)]
      obtain ⟨res,h1,h2⟩:=F144_tot v hv
      rw [h1]
      cases res with
      | inr y=>exact ⟨_,rfl,.inl rfl⟩
      | inl y =>
        have hy:=h2 y rfl
        rw [ni]
        have:i=0∨i=1∨i=2∨i=3∨i=4∨i=5∨i=6:=by omega
        rcases this with rfl | rfl | rfl | rfl | rfl | rfl | rfl
        · rw [if_pos (by decide),nh,dr (by unfold InR; omega)]; exact nk p0 N hN m 1 y.1 _ _ _ _ _ _ y.2 (by omega) (by omega) (by omega)
        · rw [if_neg (by decide),if_pos (by decide),nh,dr (by unfold InR; omega)]; exact nk p0 N hN m 2 _ y.1 _ _ _ _ _ y.2 (by omega) (by omega) (by omega)
        · rw [if_neg (by decide),if_neg (by decide),if_pos (by decide),nh,dr (by unfold InR; omega)]; exact nk p0 N hN m 3 _ _ y.1 _ _ _ _ y.2 (by omega) (by omega) (by omega)
        · rw [if_neg (by decide),if_neg (by decide),if_neg (by decide),if_pos (by decide),nh,dr (by unfold InR; omega)]; exact nk p0 N hN m 4 _ _ _ y.1 _ _ _ y.2 (by omega) (by omega) (by omega)
        · rw [if_neg (by decide),if_neg (by decide),if_neg (by decide),if_neg (by decide),if_pos (by decide),nh,dr (by unfold InR; omega)]; exact nk p0 N hN m 5 _ _ _ _ y.1 _ _ y.2 (by omega) (by omega) (by omega)
        · rw [if_neg (by decide),if_neg (by decide),if_neg (by decide),if_neg (by decide),if_neg (by decide),if_pos (by decide),nh,dr (by unfold InR; omega)]; exact nk p0 N hN m 6 _ _ _ _ _ y.1 _ y.2 (by omega) (by omega) (by omega)
        rw [if_neg (by decide),if_neg (by decide),if_neg (by decide),if_neg (by decide),if_neg (by decide),if_neg (by decide),if_pos (by decide),nh,dr (by unfold InR; omega)]; exact nk p0 N hN m 7 _ _ _ _ _ _ y.1 y.2 (by omega) (by omega) (by omega)
    have:i=7:=by omega
    subst this
    rw [if_neg (by omega),F72j1_eq p0 N hN]
    by_cases h:vRc ⟨n0,n1,n2,n3,n4,n5,n6,v⟩=true∧my ⟨n0,n1,n2,n3,n4,n5,n6,v⟩=p0
    · rw [if_pos h]; exact ⟨_,rfl,.inr ⟨_,h.1,h.2,rfl⟩⟩
    rw [if_neg h]; exact ⟨_,rfl,.inl rfl⟩
theorem F72_ok (r:Rc) (h:vRc r=true) (N:Nat) (hN:161≤N+8):F72 (N+8) (my r)=some (.inl (r.p,r.n,r.k,r.d,r.kn,r.op,r.on,r.t)):=by
  have hb:=txtS_bounds h
  have hv:=vRc_in h
  simp only [nc,List.mem_cons,List.not_mem_nil,or_false,forall_eq_or_imp,forall_eq] at hv
  obtain ⟨h0,h1,h2,h3,h4,h5,h6⟩:=hv
  have ht:=(vRc_small h).2
  have l0:=nf h0.1 h0.2
  have l1:=nf h1.1 h1.2
  have l2:=nf h2.1 h2.2
  have l3:=nf h3.1 h3.2
  have l4:=nf h4.1 h4.2
  have l5:=nf h5.1 h5.2
  have l6:=nf h6.1 h6.2
  have e:my r=ne r.p++32 :: (ne r.n++32 :: (ne r.k++32 :: (ne r.d++32 :: (ne r.kn++32 :: (ne r.op++32 :: (ne r.on++32 :: r.t)))))):=by
    simp [my,nl,nc]
  unfold F72
  generalize hp:my r=p0 at *
  conv=>lhs; rw [show (F72l2 p0 (N+8) (N+8) 0 0 0 0 0 0 0 p0 0)=F72l2 p0 (N+8) (N+8) 0 0 0 0 0 0 0 (ne r.p++32 :: (ne r.n++32 :: (ne r.k++32 :: (ne r.d++32 :: (ne r.kn++32 :: (ne r.op++32 :: (ne r.on++32 :: r.t))))))) 0 by rw [← e]]
  rw [F72l2,F72b2,if_pos (by decide),F144_num h0.1 h0.2 _ (by first | omega | (simp only [List.length_append,List.length_cons]; omega)),ni,if_pos (by decide),nh,dr (by unfold InR; omega)]
  rw [F72l2,F72b2,if_pos (by decide),F144_num h1.1 h1.2 _ (by first | omega | (simp only [List.length_append,List.length_cons]; omega)),ni,if_neg (by decide),if_pos (by decide),nh,dr (by unfold InR; omega)]
  rw [F72l2,F72b2,if_pos (by decide),F144_num h2.1 h2.2 _ (by first | omega | (simp only [List.length_append,List.length_cons]; omega)),ni,if_neg (by decide),if_neg (by decide),if_pos (by decide),nh,dr (by unfold InR; omega)]
  rw [F72l2,F72b2,if_pos (by decide),F144_num h3.1 h3.2 _ (by first | omega | (simp only [List.length_append,List.length_cons]; omega)),ni,if_neg (by decide),if_neg (by decide),if_neg (by decide),if_pos (by decide),nh,dr (by unfold InR; omega)]
  rw [F72l2,F72b2,if_pos (by decide),F144_num h4.1 h4.2 _ (by first | omega | (simp only [List.length_append,List.length_cons]; omega)),ni,if_neg (by decide),if_neg (by decide),if_neg (by decide),if_neg (by decide),if_pos (by decide),nh,dr (by unfold InR; omega)]
  rw [F72l2,F72b2,if_pos (by decide),F144_num h5.1 h5.2 _ (by first | omega | (simp only [List.length_append,List.length_cons]; omega)),ni,if_neg (by decide),if_neg (by decide),if_neg (by decide),if_neg (by decide),if_neg (by decide),if_pos (by decide),nh,dr (by unfold InR; omega)]
  rw [F72l2,F72b2,if_pos (by decide),F144_num h6.1 h6.2 _ (by first | omega | (simp only [List.length_append,List.length_cons]; omega)),ni,if_neg (by decide),if_neg (by decide),if_neg (by decide),if_neg (by decide),if_neg (by decide),if_neg (by decide),if_pos (by decide),nh,dr (by unfold InR; omega)]
  rw [F72l2,F72b2,if_neg (by decide),F72j1_eq p0 _ (by omega)]
  exact congrArg some (if_pos ⟨h,hp⟩)
theorem F15_all (t:Str) (N:Nat) (hN:161≤N) (h1:t.length≤281474976710656):∃ res,F15 N t=some res∧(res=badv∨∃ r,vRc r=true∧my r=t∧res=okv r):=by
  obtain ⟨res,a,b⟩:=nk t N hN N 0 0 0 0 0 0 0 0 t (by omega) (by omega) h1
  have a':F72 N t=some res:=a
  unfold F15
  rw [a']
  rcases b with rfl | ⟨r,c,d,rfl⟩
  · exact ⟨badv,rfl,.inl rfl⟩
  exact ⟨okv r,rfl,.inr ⟨r,c,d,rfl⟩⟩
theorem F15_ok (r:Rc) (h:vRc r=true) (N:Nat) (hN:200≤N):F15 N (my r)=some (okv r):=by
  unfold F15
  obtain ⟨k,rfl⟩:=Nat.exists_eq_add_of_le' (show 8≤N by omega)
  rw [F72_ok r h k (by omega)]; rfl
theorem okv_bad (r:Rc):okv r≠badv:=by
  intro h
  have:(0:Int)=5:=congrArg (fun x=>x.2.2.2.2.2.2.2.2) h
  omega
theorem F15_F16 (t:Str) (N:Nat) (hN:200≤N) (h1:t.length≤281474976710656) (h2:t.length < N):∃ res,F15 N t=some res∧F16 N t=some res∧(res=badv∨∃ r,vRc r=true∧my r=t∧res=okv r):=by
  obtain ⟨x,a,b⟩:=F15_all t N (by omega) h1
  obtain ⟨y,c,d⟩:=F16_all t N (by omega) (by omega) h2
  rcases b with rfl | ⟨r,b1,b2,rfl⟩
  · rcases d with rfl | ⟨s,d1,d2,rfl⟩
    · exact ⟨badv,a,c,.inl rfl⟩
    have:=F15_ok s d1 N hN
    rw [d2,a] at this
    exact absurd (Option.some.inj this).symm (okv_bad s)
  have:=F16_ok r b1 N hN
  rw [b2] at this
  exact ⟨okv r,a,this,.inr ⟨r,b1,b2,rfl⟩⟩
end Go.K
end
section
namespace Go.K
open Go.RowKit
theorem F13_eq (r:Rc) {N:Nat} (hN:200≤N):F13 N r=some (if vRc r=true then (my r,0) else ([],80)):=by
  obtain ⟨k,rfl⟩:=Nat.exists_eq_add_of_le' hN
  exact (F13_F14 r k).2
theorem F14_eq (r:Rc) {N:Nat} (hN:200≤N):F14 N r=some (if vRc r=true then (my r,0) else ([],80)):=by
  obtain ⟨k,rfl⟩:=Nat.exists_eq_add_of_le' hN
  exact (F13_F14 r k).1.symm.trans (F13_F14 r k).2
theorem F3j1_eq (p0:Rc) {N:Nat} (hN:400≤N):F3j1 p0 N (if vRc p0=true then (my p0,0) else ([],80))=some true:=by
  unfold F3j1
  by_cases h:vRc p0=true
  · rw [if_pos h,if_pos rfl,F15_ok p0 h N (by omega),ba]
    simp [okv,sane_ok hN,ba]
  rw [if_neg h,if_neg (by decide),sane_ok hN]; rfl
theorem F3_true (p0:Rc) (p1:Str) (h:p1.length≤281474976710656):F3 (p1.length+2000) p0 p1=some true:=by
  obtain ⟨res,a,b,c⟩:=F15_F16 p1 (p1.length+2000) (by omega) h (by omega)
  have hj:=F3j1_eq p0 (N:=p1.length+2000) (by omega)
  unfold F3
  rw [F13_eq p0 (by omega),F14_eq p0 (by omega),a,b]
  simp only [ba,if_true,F17_eq p0 (show 161≤p1.length+2000 by omega),F18_eq p0 (show 161≤p1.length+2000 by omega)]
  rcases c with rfl | ⟨r,c1,c2,rfl⟩
  · simp only [badv,decide_true,Bool.and_true,if_true]
    exact (if_neg (show ¬ ((5:Int)=0) by decide)).trans hj
  simp only [okv,decide_true,Bool.and_true,if_true]
  rw [show F13 (p1.length+2000) ⟨r.p,r.n,r.k,r.d,r.kn,r.op,r.on,r.t⟩=_ from F13_eq r (by omega),if_pos c1,ba,if_pos c2,if_pos rfl]
  exact hj
end Go.K
end
