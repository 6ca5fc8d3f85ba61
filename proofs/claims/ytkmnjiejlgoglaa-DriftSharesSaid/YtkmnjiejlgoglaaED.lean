import Derived.Test.YtkmnjiejlgoglaaEKK2
namespace Go.K
open Go.RowKit
set_option linter.unusedVariables false
structure Ch where
  id:Int
  lo:Int
  hi:Int
deriving DecidableEq

def eCh (x:Ch):List Value:=[.int .i64 x.id,.int .i64 x.lo,.int .i64 x.hi]

theorem eCh_len (x:Ch):(eCh x).length=3:=rfl

structure Ce where
  ch:Int
  ln:Int
  wo:Int
deriving DecidableEq

def eCe (x:Ce):List Value:=[.int .i64 x.ch,.int .i64 x.ln,.int .i64 x.wo]

theorem eCe_len (x:Ce):(eCe x).length=3:=rfl

structure Cl where
  fam:Int
  hd:Int
  fr:Int
  to:Int
deriving DecidableEq

def eCl (x:Cl):List Value:=[.int .i64 x.fam,.int .i64 x.hd,.int .i64 x.fr,.int .i64 x.to]

theorem eb (x:Cl):(eCl x).length=4:=rfl

theorem eCl_cell (x:Cl):∀ u∈eCl x,u.oneCell'=true:=by simp [eCl,Value.oneCell']

structure Dr where
  fr:Int
  to:Int
deriving DecidableEq

def eDr (x:Dr):List Value:=[.int .i64 x.fr,.int .i64 x.to]

theorem eDr_len (x:Dr):(eDr x).length=2:=rfl

structure Gn where
  num:Int
  den:Int
deriving DecidableEq

def eGn (x:Gn):List Value:=[.int .i64 x.num,.int .i64 x.den]

theorem ms (x:Gn):(eGn x).length=2:=rfl

structure Cw where
  fst:Int
  lst:Int
deriving DecidableEq

def eCw (x:Cw):List Value:=[.int .i64 x.fst,.int .i64 x.lst]

structure A2 where
  a:Int
  b:Int
deriving DecidableEq

def eA2 (x:A2):List Value:=[.int .i64 x.a,.int .i64 x.b]

structure A3 where
  a:Int
  b:Int
  c:Int
deriving DecidableEq

def eA3 (x:A3):List Value:=[.int .i64 x.a,.int .i64 x.b,.int .i64 x.c]

structure D26 where
  p:(List Cl)
  A0:Option Addr
  c0:Nat

def eD26 (d:D26):List Value:=[.slice d.A0 d.p.length d.c0]

theorem eD26_len (d:D26):(eD26 d).length=1:=rfl

def okD26 (w:World) (d:D26):Prop:=(bi w d.A0 (al eCl d.p)∧d.p.length≤9223372036854775807∧d.p.length≤d.c0)

theorem getD26 {l:List (List Cl)} {dl:List D26} (h:dl.map D26.p=l) {m:Nat} {x:(List Cl)} (hx:l[m]?=some x):∃ (A0:Option Addr) (c0:Nat),dl[m]?=some (⟨x,A0,c0⟩:D26):=by
  subst h
  rw [List.getElem?_map,Option.map_eq_some_iff] at hx
  obtain ⟨⟨y,a0,b0⟩,hd,rfl⟩:=hx
  exact ⟨a0,b0,hd⟩

structure D72 where
  p:(List Gn)
  A0:Option Addr
  c0:Nat

def eD72 (d:D72):List Value:=[.slice d.A0 d.p.length d.c0]

theorem eD72_len (d:D72):(eD72 d).length=1:=rfl

theorem eD72_cell (d:D72):∀ u∈eD72 d,u.oneCell'=true:=by simp [eD72,Value.oneCell']

def okD72 (w:World) (d:D72):Prop:=(bi w d.A0 (al eGn d.p)∧d.p.length≤9223372036854775807∧d.p.length≤d.c0)

theorem getD72 {l:List (List Gn)} {dl:List D72} (h:dl.map D72.p=l) {m:Nat} {x:(List Gn)} (hx:l[m]?=some x):∃ (A0:Option Addr) (c0:Nat),dl[m]?=some (⟨x,A0,c0⟩:D72):=by
  subst h
  rw [List.getElem?_map,Option.map_eq_some_iff] at hx
  obtain ⟨⟨y,a0,b0⟩,hd,rfl⟩:=hx
  exact ⟨a0,b0,hd⟩
def F59 (a:Int) (b:Int) (d:Int):Option Bool:=if b≤a then if a≤d then some true else some false else some false
def F23j1 (a:Cl) (b:Bool):Option Int:=if b=true then bp (F59 a.fam 1 99) fun d=>if d=true then bp (F59 a.hd 1 20) fun e=>if e=true then some 0 else some 43 else some 43 else some 43
def F23 (a:Cl):Option Int:=if 0≤a.fr then if a.fr≤a.to then if a.to < 24 then F23j1 a true else F23j1 a false else F23j1 a false else F23j1 a false
def F19j1 (a:Ch) (b:Bool):Option Int:=if b=true then bp (F59 a.id 1 99) fun d=>if d=true then some 0 else some 40 else some 40
def F19 (a:Ch):Option Int:=if 1≤a.lo then if a.lo≤a.hi then if a.hi≤1000 then F19j1 a true else F19j1 a false else F19j1 a false else F19j1 a false
def F21 (a:Ce):Option Int:=bp (F59 a.ch 1 99) fun b=>if b=true then bp (F59 a.ln 1 1000) fun d=>if d=true then bp (F59 a.wo 0 10000) fun e=>if e=true then some 0 else some 41 else some 41 else some 41
def F62j3 (rec2:Int→Option (Unit ⊕ (Int→Option Int))) (a:Int) (b:Ce) (d:Bool):Option (Unit ⊕ (Int→Option Int)):=if d=true then bp (F21 b) fun e=>if e=0 then ckO (a+1) <| rec2 (a+1) else some (.inl ()) else some (.inl ())
def F62b2 (d:List Ce) (e:Int→Option Int) (rec2:Int→Option (Unit ⊕ (Int→Option Int))) (a:Int):Option (Unit ⊕ (Int→Option Int)):=if a < (d.length:Int) then gdO (0≤a) <| bp (d[(a).toNat]?) fun b=>if (e b.ch).isSome=true then F62j3 rec2 a b true else F62j3 rec2 a b false else some (.inr e)
def F62l2 (a:List Ce) (b:Int→Option Int):Nat→Int→Option (Unit ⊕ (Int→Option Int)) | 0=>fun _=>none | m+1=>F62b2 a b (F62l2 a b m)
def F62j1 (a:List Ce) (N:Nat) (b:Int→Option Int):Option (Unit ⊕ (Int→Option Int)):=F62l2 a b N 0
def F62b4 (d:List Ch) (f:List Ce) (N:Nat) (rec4:(Int→Option Int)→Int→Int→Option (Unit ⊕ (Int→Option Int))) (e:Int→Option Int) (g:Int) (a:Int):Option (Unit ⊕ (Int→Option Int)):=if a < (d.length:Int) then gdO (0≤a) <| bp (d[(a).toNat]?) fun b=>bp (F19 b) fun h=>if h=0 then if b.id≤g then some (.inl ()) else ckO (a+1) <| rec4 (updM e b.id a) b.id (a+1) else some (.inl ()) else F62j1 f N e
def F62l4 (a:List Ch) (b:List Ce) (N:Nat):Nat→(Int→Option Int)→Int→Int→Option (Unit ⊕ (Int→Option Int)) | 0=>fun _ _ _=>none | m+1=>F62b4 a b N (F62l4 a b N m)
def F62 (N:Nat) (a:List Ch) (b:List Ce):Option (Unit ⊕ (Int→Option Int)):=bp (F59 (a.length:Int) 1 6) fun d=>if d=true then bp (F59 (b.length:Int) 1 24) fun e=>if e=true then F62l4 a b N N noM 0 0 else some (.inl ()) else some (.inl ())
def F64b1 (f:List Ce) (d:List Cl) (g:(Int→Option Int)) (rec1:(Int→Option Bool)→Int→Option (Unit ⊕ (Unit ⊕ (Int→Option Int)))) (e:Int→Option Bool) (a:Int):Option (Unit ⊕ (Unit ⊕ (Int→Option Int))):=if a < (d.length:Int) then gdO (0≤a) <| bp (d[(a).toNat]?) fun b=>bp (F23 b) fun h=>if h=0 then if (f.length:Int)≤b.to then some (.inr (.inl ())) else if ((e b.fam).getD false)=true then some (.inr (.inl ())) else ckO (a+1) <| rec1 (updM e b.fam true) (a+1) else some (.inr (.inl ())) else some (.inr (.inr g))
def F64l1 (a:List Ce) (b:List Cl) (d:(Int→Option Int)):Nat→(Int→Option Bool)→Int→Option (Unit ⊕ (Unit ⊕ (Int→Option Int))) | 0=>fun _ _=>none | m+1=>F64b1 a b d (F64l1 a b d m)
def F64 (N:Nat) (d:List Ch) (a:List Ce) (b:List Cl):Option (Unit ⊕ (Unit ⊕ (Int→Option Int))):=bindS (F62 N d a) (fun g=>some (.inl ())) (fun e=>bp (F59 (b.length:Int) 1 12) fun f=>if f=true then F64l1 a b e N noM 0 else some (.inr (.inl ())))
def F17 (N:Nat) (a:List Ch) (b:List Ce) (d:List Cl):Option Int:=bindS3 (F64 N a b d) (fun e=>some 42) (fun f=>some 44) (fun g=>some 0)
def F60b3 (d:List (List Cl)) (rec3:List Cl→Int→Option (List Cl)) (b:List Cl) (a:Int):Option (List Cl):=if a < (d.length:Int) then gdO (0≤a) <| bp (d[(a).toNat]?) fun e=>gdO (b.length+e.length≤1000000000) <| ckO (a+1) <| rec3 (b++e) (a+1) else some b
def F60l3 (a:List (List Cl)):Nat→List Cl→Int→Option (List Cl) | 0=>fun _ _=>none | m+1=>F60b3 a (F60l3 a m)
def F60j2 (a:List (List Cl)) (N:Nat):Option (List Cl):=F60l3 a N ([]:List Cl) 0
def F60j1 (b:List (List Cl)) (N:Nat) (a:Int):Option (List Cl):=if a < 0 then none else ckO (a - (0 - 0)) <| if 0 < (a - (0 - 0)) then gdO ((a - (0 - 0))≤1000000) <| F60j2 b N else F60j2 b N
def F60b4 (d:List (List Cl)) (N:Nat) (rec4:Int→Int→Option (List Cl)) (b:Int) (a:Int):Option (List Cl):=if a < (d.length:Int) then gdO (0≤a) <| bp (d[(a).toNat]?) fun e=>ckO (b+(e.length:Int)) <| if (b+(e.length:Int)) < 0 then none else ckO (a+1) <| rec4 (b+(e.length:Int)) (a+1) else F60j1 d N b
def F60l4 (a:List (List Cl)) (N:Nat):Nat→Int→Int→Option (List Cl) | 0=>fun _ _=>none | m+1=>F60b4 a N (F60l4 a N m)
def F60 (N:Nat) (a:List (List Cl)):Option (List Cl):=F60l4 a N N 0 0
def F12 (N:Nat) (e:List Ch) (f:List Ce) (a:List Cl) (b:Int):Option (List Cl × Int):=bp (F17 N e f a) fun d=>if d=0 then bp (F59 b 0 4166) fun g=>if g=true then gdO (0 < (a.length:Int)) <| gdO (0≤(b.tmod (a.length:Int))) <| gdO ((b.tmod (a.length:Int)).toNat≤a.length∧a.length≤a.length) <| gdO (0≤(b.tmod (a.length:Int)).toNat∧(b.tmod (a.length:Int)).toNat≤a.length) <| bp (F60 N [(a.drop ((b.tmod (a.length:Int)).toNat)).take (a.length - ((b.tmod (a.length:Int)).toNat)),(a.drop 0).take ((b.tmod (a.length:Int)).toNat - 0)]) fun h=>some (h,0) else some ([],6) else some ([],d)
def F73 (d:List Ch) (b:List Ce) (e:Int→Option Int) (a:Dr):Option Bool:=if 0≤a.fr then if a.fr≤a.to then if a.to < (b.length:Int) then some true else some false else some false else some false
def F66b1 (e:List Ch) (f:List Ce) (b:List Dr) (d:(Int→Option Int)) (rec1:Int→Option (Unit ⊕ (Unit ⊕ (Int→Option Int)))) (a:Int):Option (Unit ⊕ (Unit ⊕ (Int→Option Int))):=if a < (b.length:Int) then gdO (0≤a) <| bp (b[(a).toNat]?) fun g=>bp (F73 e f d g) fun h=>if h=true then ckO (a+1) <| rec1 (a+1) else some (.inr (.inl ())) else some (.inr (.inr d))
def F66l1 (a:List Ch) (b:List Ce) (d:List Dr) (e:(Int→Option Int)):Nat→Int→Option (Unit ⊕ (Unit ⊕ (Int→Option Int))) | 0=>fun _=>none | m+1=>F66b1 a b d e (F66l1 a b d e m)
def F66 (N:Nat) (a:List Ch) (b:List Ce) (d:List Dr):Option (Unit ⊕ (Unit ⊕ (Int→Option Int))):=bindS (F62 N a b) (fun f=>some (.inl ())) (fun e=>F66l1 a b d e N 0)
def F74b1 (d:List Int) (rec1:Int→Int→Option Int) (b:Int) (a:Int):Option Int:=if a < (d.length:Int) then gdO (0≤a) <| bp (d[(a).toNat]?) fun e=>ckO (b+e) <| ckO (a+1) <| rec1 (b+e) (a+1) else some b
def F74l1 (a:List Int):Nat→Int→Int→Option Int | 0=>fun _ _=>none | m+1=>F74b1 a (F74l1 a m)
def F74 (N:Nat) (a:List Int):Option Int:=F74l1 a N 0 0
def F67j1 (N:Nat) (a:List Int) (b:List Int):Option (Int × Int):=bp (F74 N a) fun d=>bp (F74 N b) fun e=>some (d,e)
def F67b2 (g:List Ch) (h:List Int) (N:Nat) (rec2:List Int→List Int→Int→Option (Int × Int)) (e:List Int) (f:List Int) (d:Int):Option (Int × Int):=if d < (g.length:Int) then gdO (0≤d) <| bp (g[(d).toNat]?) fun a=>bp (h[(d).toNat]?) fun b=>ckO (b * a.lo) <| ckO (b * a.hi) <| gdO (e.length+1≤1000000000) <| gdO (f.length+1≤1000000000) <| ckO (d+1) <| rec2 (e++[if (b * a.hi) < (b * a.lo) then (b * a.hi) else (b * a.lo)]) (f++[if (b * a.hi) > (b * a.lo) then (b * a.hi) else (b * a.lo)]) (d+1) else F67j1 N e f
def F67l2 (a:List Ch) (b:List Int) (N:Nat):Nat→List Int→List Int→Int→Option (Int × Int) | 0=>fun _ _ _=>none | m+1=>F67b2 a b N (F67l2 a b N m)
def F67 (N:Nat) (a:List Ch) (d:List Ce) (e:Int→Option Int) (b:List Int):Option (Int × Int):=F67l2 a b N N [] [] 0
def F68b1 (g:List Ce) (e:Int→Option Int) (a:Dr) (rec1:List Int→Int→Option (List Int)) (f:List Int) (b:Int):Option (List Int):=if b < (((g.drop ((a.fr).toNat)).take ((a.to+1).toNat - ((a.fr).toNat))).length:Int) then gdO (0≤b) <| bp (((g.drop ((a.fr).toNat)).take ((a.to+1).toNat - ((a.fr).toNat)))[(b).toNat]?) fun d=>gdO (0≤((e d.ch).getD 0)) <| bp (f[((e d.ch).getD 0).toNat]?) fun h=>ckO (h+d.ln) <| ckO (b+1) <| rec1 ((f).set (((e d.ch).getD 0).toNat) (h+d.ln)) (b+1) else some f
def F68l1 (a:List Ce) (b:Int→Option Int) (d:Dr):Nat→List Int→Int→Option (List Int) | 0=>fun _ _=>none | m+1=>F68b1 a b d (F68l1 a b d m)
def F68 (N:Nat) (b:List Ch) (d:List Ce) (e:Int→Option Int) (a:Dr):Option (List Int):=gdO (0≤(b.length:Int)) <| gdO ((b.length:Int)≤1000000) <| ckO (a.to+1) <| gdO (0≤a.fr) <| gdO (0≤(a.to+1)) <| gdO ((a.fr).toNat≤(a.to+1).toNat∧(a.to+1).toNat≤d.length) <| F68l1 d e a N (List.replicate ((b.length:Int)).toNat (0:Int)) 0
def F25 (N:Nat) (a:List Ch) (b:List Ce) (d:Dr):Option (Int × Int × Int):=bindS3 (F66 N a b [(⟨d.fr,d.to⟩:Dr)]) (fun h=>some (0,0,42)) (fun i=>some (0,0,45)) (fun e=>bp (F68 N a b e d) fun g=>bp (F67 N a b e g) fun f=>some (f.1,f.2,0))
def F27j1 (b:List Ch) (d:List Ce) (N:Nat) (e:(Int→Option Int)) (f:List Int):Option (Int × Int):=bp (F67 N b d e f) fun a=>if 0 < a.1 then some (1,0) else if a.2≤0 then some (0,0) else some (2,0)
def F27b2 (g:List Ch) (h:List Ce) (N:Nat) (i:(Int→Option Int)) (d:List Int) (rec2:List Int→Int→Option (Int × Int)) (b:List Int) (a:Int):Option (Int × Int):=if a < (d.length:Int) then gdO (0≤a) <| bp (d[(a).toNat]?) fun e=>bp (b[(a).toNat]?) fun f=>ckO (f - e) <| ckO (a+1) <| rec2 ((b).set ((a).toNat) (f - e)) (a+1) else F27j1 g h N i b
def F27l2 (a:List Ch) (b:List Ce) (N:Nat) (d:(Int→Option Int)) (e:List Int):Nat→List Int→Int→Option (Int × Int) | 0=>fun _ _=>none | m+1=>F27b2 a b N d e (F27l2 a b N d e m)
def F27 (N:Nat) (a:List Ch) (b:List Ce) (d:Dr) (e:Dr):Option (Int × Int):=bindS3 (F66 N a b [(⟨d.fr,d.to⟩:Dr),(⟨e.fr,e.to⟩:Dr)]) (fun i=>some (0,42)) (fun j=>some (0,45)) (fun f=>bp (F68 N a b f d) fun g=>bp (F68 N a b f e) fun h=>F27l2 a b N f h N g 0)
def F100 (a:Int):Option Bool:=some false
def F93j2 (a:Int) (b:Int) (xNaN_13:Bool) (yNaN_16:Bool):Option Int:=if xNaN_13=true then if yNaN_16=true then some 0 else some (-1) else if yNaN_16=true then some 1 else if a < b then some (-1) else if b < a then some 1 else some 0
def F93j1 (b:Int) (a:Int) (xNaN_13:Bool):Option Int:=bp (F100 a) fun d=>if d=true then F93j2 b a xNaN_13 true else F93j2 b a xNaN_13 false
def F93 (a:Int) (b:Int):Option Int:=bp (F100 a) fun d=>if d=true then F93j1 a b true else F93j1 a b false
def F79 (a:Gn) (b:Gn):Option Int:=ckO (a.num * b.den) <| ckO (b.num * a.den) <| bp (F93 (a.num * b.den) (b.num * a.den)) fun d=>some d
def F76j1 (N:Nat) (a:List Int):Option Int:=bp (F74 N a) fun b=>some b
def F76j3 (N:Nat) (a:List Int):Option Int:=F76j1 N a
def F76b2 (d:List Ce) (e:Dr) (N:Nat) (rec2:List Int→Int→Option Int) (b:List Int) (a:Int):Option Int:=if a≤e.to then if a < (d.length:Int) then gdO (0≤a) <| bp (d[(a).toNat]?) fun f=>gdO (b.length+1≤1000000000) <| ckO (a+1) <| rec2 (b++[f.wo]) (a+1) else F76j3 N b else F76j3 N b
def F76l2 (a:List Ce) (b:Dr) (N:Nat):Nat→List Int→Int→Option Int | 0=>fun _ _=>none | m+1=>F76b2 a b N (F76l2 a b N m)
def F76 (N:Nat) (d:List Ch) (b:List Ce) (e:Int→Option Int) (a:Dr):Option Int:=F76l2 b a N N [] a.fr
def F105b1 (rec1:Int→Int→Option Int) (b:Int) (a:Int):Option Int:=if a=0 then some b else gdO (0 < a) <| rec1 a (b.tmod a)
def F105l1:Nat→Int→Int→Option Int | 0=>fun _ _=>none | m+1=>F105b1 (F105l1 m)
def F105 (N:Nat) (a:Int) (b:Int):Option Int:=F105l1 N a b
def F101 (N:Nat) (a:Int) (b:Int):Option (Int × Int):=bp (F105 N a b) fun y9=>gdO (0 < y9) <| ckO (a) <| ckO (b) <| some (a.tdiv y9,b.tdiv y9)
def F94 (N:Nat) (b:List Ch) (d:List Ce) (e:Int→Option Int) (f:Cl) (g:Dr):Option (Int × Int):=bp (F76 N b d e g) fun h=>bp (F101 N h f.hd) fun a=>some (a.1,a.2)
def F96j2 (rec1:List Dr→List Int→Int→Option (List Dr × List Int × Bool)) (a:Int) (b:List Dr) (d:List Int):Option (List Dr × List Int × Bool):=ckO (a+1) <| rec1 b d (a+1)
def F96b3 (h:List Ch) (i:List Ce) (j:Int→Option Int) (k:Gn) (N:Nat) (rec1:List Dr→List Int→Int→Option (List Dr × List Int × Bool)) (f:List Dr) (e:List Int) (l:Int) (a:Cl) (b:Int) (rec3:Int→Option (List Dr × List Int × Bool)) (d:Int):Option (List Dr × List Int × Bool):=if d≤a.to then bp (F94 N h i j a (⟨if a.fr > b then a.fr else b,d⟩:Dr)) fun g=>bp (F79 (⟨g.1,g.2⟩:Gn) k) fun m=>if 0 < m then gdO (f.length+1≤1000000000) <| ckO (d+1) <| gdO (e.length+1≤1000000000) <| F96j2 rec1 l (f++[(⟨if a.fr > b then a.fr else b,d⟩:Dr)]) (e++[d+1]) else ckO (d+1) <| rec3 (d+1) else ckO (a.to+1) <| ckO ((if (a.to+1) > (if a.fr > b then a.fr else b) then (a.to+1) else (if a.fr > b then a.fr else b))+1) <| gdO (e.length+1≤1000000000) <| some (f,e++[(if (a.to+1) > (if a.fr > b then a.fr else b) then (a.to+1) else (if a.fr > b then a.fr else b))+1],false)
def F96l3 (a:List Ch) (b:List Ce) (d:Int→Option Int) (e:Gn) (N:Nat) (rec1:List Dr→List Int→Int→Option (List Dr × List Int × Bool)) (f:List Dr) (g:List Int) (h:Int) (i:Cl) (j:Int):Nat→Int→Option (List Dr × List Int × Bool) | 0=>fun _=>none | m+1=>F96b3 a b d e N rec1 f g h i j (F96l3 a b d e N rec1 f g h i j m)
def F96b1 (h:List Ch) (i:List Ce) (j:Int→Option Int) (f:List Cl) (k:Gn) (N:Nat) (rec1:List Dr→List Int→Int→Option (List Dr × List Int × Bool)) (g:List Dr) (a:List Int) (b:Int):Option (List Dr × List Int × Bool):=if b < (f.length:Int) then gdO (0≤b) <| bp (f[(b).toNat]?) fun d=>ckO ((a.length:Int) - 1) <| gdO (0≤((a.length:Int) - 1)) <| bp (a[((a.length:Int) - 1).toNat]?) fun e=>F96l3 h i j k N rec1 g a b d e N (if d.fr > e then d.fr else e) else some (g,a,true)
def F96l1 (a:List Ch) (b:List Ce) (d:Int→Option Int) (e:List Cl) (f:Gn) (N:Nat):Nat→List Dr→List Int→Int→Option (List Dr × List Int × Bool) | 0=>fun _ _ _=>none | m+1=>F96b1 a b d e f N (F96l1 a b d e f N m)
def F96 (N:Nat) (b:List Ch) (d:List Ce) (e:Int→Option Int) (a:List Cl) (f:Gn):Option (List Dr × List Int × Bool):=bp (a[0]?) fun g=>F96l1 b d e a f N N [] [g.fr] 0
def F82b1 (f:List Ch) (g:List Ce) (h:Int→Option Int) (i:List Cl) (d:List Dr) (N:Nat) (rec1:List Gn→Int→Option (List Gn)) (b:List Gn) (a:Int):Option (List Gn):=if a < (d.length:Int) then gdO (0≤a) <| bp (d[(a).toNat]?) fun j=>bp (i[(a).toNat]?) fun k=>bp (F94 N f g h k j) fun e=>gdO (b.length+1≤1000000000) <| ckO (a+1) <| rec1 (b++[(⟨e.1,e.2⟩:Gn)]) (a+1) else some b
def F82l1 (a:List Ch) (b:List Ce) (d:Int→Option Int) (e:List Cl) (f:List Dr) (N:Nat):Nat→List Gn→Int→Option (List Gn) | 0=>fun _ _=>none | m+1=>F82b1 a b d e f N (F82l1 a b d e f N m)
def F82 (N:Nat) (a:List Ch) (b:List Ce) (d:Int→Option Int) (e:List Cl) (f:List Dr):Option (List Gn):=F82l1 a b d e f N N [] 0
def F97j2 (rec1:Int→Int→Int→Option (Int × Int)) (a:Int) (b:Int) (d:Int):Option (Int × Int):=ckO (a+1) <| rec1 b d (a+1)
def F97b1 (f:List Gn) (rec1:Int→Int→Int→Option (Int × Int)) (b:Int) (d:Int) (a:Int):Option (Int × Int):=if a < (f.length:Int) then gdO (0≤a) <| bp (f[(a).toNat]?) fun e=>bp (F79 e (⟨b,d⟩:Gn)) fun g=>if g < 0 then F97j2 rec1 a e.num e.den else F97j2 rec1 a b d else some (b,d)
def F97l1 (a:List Gn):Nat→Int→Int→Int→Option (Int × Int) | 0=>fun _ _ _=>none | m+1=>F97b1 a (F97l1 a m)
def F97 (N:Nat) (d:List Ch) (e:List Ce) (f:Int→Option Int) (g:List Cl) (h:List Dr):Option (Int × Int):=bp (F82 N d e f g h) fun a=>if (a.length:Int) < 1 then none else bp (a[0]?) fun b=>F97l1 a N b.num b.den 1
def F86b1 (d:List Ch) (e:List Ce) (f:Int→Option Int) (g:List Cl) (N:Nat) (rec1:List Dr→List Int→Bool→List Dr→Int→Int→Option (List Dr × Int × Int × List Int × Bool)) (h:List Dr) (i:List Int) (j:Bool) (k:List Dr) (l:Int) (m:Int):Option (List Dr × Int × Int × List Int × Bool):=if j=true then bp (F97 N d e f g h) fun a=>bp (F96 N d e f g (⟨a.1,a.2⟩:Gn)) fun b=>rec1 b.1 b.2.1 b.2.2 h a.1 a.2 else some (k,l,m,i,true)
def F86l1 (a:List Ch) (b:List Ce) (d:Int→Option Int) (e:List Cl) (N:Nat):Nat→List Dr→List Int→Bool→List Dr→Int→Int→Option (List Dr × Int × Int × List Int × Bool) | 0=>fun _ _ _ _ _ _=>none | m+1=>F86b1 a b d e N (F86l1 a b d e N m)
def F86 (N:Nat) (b:List Ch) (d:List Ce) (e:Int→Option Int) (f:List Cl):Option (List Dr × Int × Int × List Int × Bool):=bp (F96 N b d e f (⟨-1,1⟩:Gn)) fun a=>if a.2.2=true then F86l1 b d e f N N a.1 a.2.1 a.2.2 [] 0 0 else some ([],0,0,[],false)
def F84 (N:Nat) (b:List Ch) (d:List Ce) (e:List Cl):Option (List Dr × Int × Int × List Int × Int):=bindS3 (F64 N b d e) (fun g=>some ([],0,0,[],42)) (fun h=>some ([],0,0,[],44)) (fun f=>bp (F86 N b d f e) fun a=>if a.2.2.2.2=true then some (a.1,a.2.1,a.2.2.1,a.2.2.2.1,0) else some ([],0,0,[],47))
def F37 (N:Nat) (b:List Ch) (d:List Ce) (e:List Cl):Option (Int × Int × Int):=bp (F84 N b d e) fun a=>some (a.2.1,a.2.2.1,a.2.2.2.2)
def F98 (a:List Cl) (d:Int) (b:Int):Option (List Cl):=gdO (0≤d) <| gdO (0≤b) <| gdO ((d).toNat≤(b).toNat∧(b).toNat≤a.length∧a.length≤a.length) <| if d=b then some a else gdO ((d).toNat≤a.length) <| gdO ((b).toNat≤a.length) <| gdO (((a.take ((d).toNat))++(a.drop ((b).toNat))).length≤a.length) <| gdO (0≤(((a.take ((d).toNat))++(a.drop ((b).toNat))).length:Int)) <| gdO (((((a.take ((d).toNat))++(a.drop ((b).toNat))).length:Int)).toNat≤a.length) <| some ((a.take ((d).toNat))++(a.drop ((b).toNat)))
def F99 (a:List Cl):Option (List Cl):=gdO (a.length≤1000000000) <| some a
def F87 (f:List Ch) (g:List Ce) (h:Int→Option Int) (d:List Cl) (a:Int):Option (List Cl):=bp (F99 d) fun b=>ckO (a+1) <| gdO (0 < b.length) <| bp (F98 b a (a+1)) fun e=>some e
def F39j2 (rec1:List Int→Int→Option (List Int × Int)) (a:Int) (b:List Int):Option (List Int × Int):=ckO (a+1) <| rec1 b (a+1)
def F39j3 (rec1:List Int→Int→Option (List Int × Int)) (a:List Int) (b:Int) (d:Cl):Option (List Int × Int):=gdO (a.length+1≤1000000000) <| F39j2 rec1 b (a++[d.fam])
def F39b1 (g:List Ch) (h:List Ce) (d:List Cl) (N:Nat) (i:(Int→Option Int)) (e:(List Dr × Int × Int × List Int × Bool)) (rec1:List Int→Int→Option (List Int × Int)) (b:List Int) (a:Int):Option (List Int × Int):=if a < (d.length:Int) then gdO (0≤a) <| bp (d[(a).toNat]?) fun j=>bp (F87 g h i d a) fun k=>bp (F86 N g h i k) fun f=>if e.2.2.2.2=f.2.2.2.2 then if (decide (e.2.1=f.2.1) && decide (e.2.2.1=f.2.2.1))=true then F39j2 rec1 a b else F39j3 rec1 b a j else F39j3 rec1 b a j else some (b,0)
def F39l1 (a:List Ch) (b:List Ce) (d:List Cl) (N:Nat) (e:(Int→Option Int)) (f:(List Dr × Int × Int × List Int × Bool)):Nat→List Int→Int→Option (List Int × Int) | 0=>fun _ _=>none | m+1=>F39b1 a b d N e f (F39l1 a b d N e f m)
def F39 (N:Nat) (b:List Ch) (d:List Ce) (a:List Cl):Option (List Int × Int):=bindS3 (F64 N b d a) (fun h=>some ([],42)) (fun i=>some ([],44)) (fun e=>if (a.length:Int)=1 then bp (a[0]?) fun f=>some ([f.fam],0) else bp (F86 N b d e a) fun g=>F39l1 b d a N e g N [] 0)
def F42j2 (a:Bool):Option Bool:=if a=true then some true else some false
def F42j4 (a:Bool):Option Bool:=F42j2 a
def F42j5 (rec3:Bool→Int→Option Bool) (a:Int) (b:Bool):Option Bool:=ckO (a+1) <| rec3 b (a+1)
def F42b3 (b:List Int) (d:List Int) (rec3:Bool→Int→Option Bool) (e:Bool) (a:Int):Option Bool:=if e=true then if a < (b.length:Int) then gdO (0≤a) <| bp (b[(a).toNat]?) fun f=>bp (d[(a).toNat]?) fun g=>if f=g then F42j5 rec3 a true else F42j5 rec3 a false else F42j4 true else if a < (b.length:Int) then F42j4 false else F42j4 false
def F42l3 (a:List Int) (b:List Int):Nat→Bool→Int→Option Bool | 0=>fun _ _=>none | m+1=>F42b3 a b (F42l3 a b m)
def F42j1 (a:List Int) (b:List Int) (N:Nat) (d:Bool):Option Bool:=F42l3 a b N d 0
def F42 (N:Nat) (a:List Int) (b:List Int):Option Bool:=if (a.length:Int)=(b.length:Int) then F42j1 a b N true else F42j1 a b N false
def F78 (a:Gn):Option Bool:=bp (F59 a.num 0 1000000) fun b=>if b=true then bp (F59 a.den 1 1000000) fun d=>some d else some false
def F90j1 (b:List Cl) (a:Int) (d:List Int):Option Bool:=bp (d[0]?) fun e=>gdO (0≤a) <| bp (b[(a).toNat]?) fun f=>if e=f.fr then some true else some false
def F90b2 (d:List Cl) (e:Int) (b:List Int) (rec2:Int→Option Bool) (a:Int):Option Bool:=if a < (b.length:Int) then gdO (0≤a) <| bp (b[(a).toNat]?) fun f=>bp (F59 f 0 25) fun g=>if g=true then ckO (a+1) <| rec2 (a+1) else some false else F90j1 d e b
def F90l2 (a:List Cl) (b:Int) (d:List Int):Nat→Int→Option Bool | 0=>fun _=>none | m+1=>F90b2 a b d (F90l2 a b d m)
def F90 (N:Nat) (g:List Ch) (h:List Ce) (i:Int→Option Int) (a:List Cl) (b:Int) (d:List Int):Option Bool:=ckO ((a.length:Int) - 1) <| bp (F59 b 0 ((a.length:Int) - 1)) fun e=>if e=true then ckO ((a.length:Int) - b) <| ckO (((a.length:Int) - b)+1) <| bp (F59 (d.length:Int) 2 (((a.length:Int) - b)+1)) fun f=>if f=true then F90l2 a b d N 0 else some false else some false
def F91j1 (e:List Cl) (b:Int) (a:List Int):Option Bool:=gdO (0≤((a.length:Int) - 1)) <| bp (a[((a.length:Int) - 1).toNat]?) fun d=>ckO (d - 1) <| ckO (b+((a.length:Int) - 1)) <| ckO ((b+((a.length:Int) - 1)) - 1) <| gdO (0≤((b+((a.length:Int) - 1)) - 1)) <| bp (e[((b+((a.length:Int) - 1)) - 1).toNat]?) fun f=>if f.to < (d - 1) then some true else some false
def F91b2 (j:List Ch) (k:List Ce) (l:Int→Option Int) (g:List Cl) (b:Int) (d:List Int) (m:Gn) (N:Nat) (rec2:Int→Option Bool) (a:Int):Option Bool:=if a < (((g.drop ((b).toNat)).take ((b+((d.length:Int) - 1)).toNat - ((b).toNat))).length:Int) then gdO (0≤a) <| bp (((g.drop ((b).toNat)).take ((b+((d.length:Int) - 1)).toNat - ((b).toNat)))[(a).toNat]?) fun e=>bp (d[(a).toNat]?) fun f=>ckO (a+1) <| gdO (0≤(a+1)) <| bp (d[(a+1).toNat]?) fun h=>if h≤(if e.fr > f then e.fr else f) then some false else ckO (h - 2) <| bp (F94 N j k l e (⟨if e.fr > f then e.fr else f,h - 2⟩:Dr)) fun i=>bp (F79 (⟨i.1,i.2⟩:Gn) m) fun n=>if 0 < n then some false else rec2 (a+1) else F91j1 g b d
def F91l2 (a:List Ch) (b:List Ce) (d:Int→Option Int) (e:List Cl) (f:Int) (g:List Int) (h:Gn) (N:Nat):Nat→Int→Option Bool | 0=>fun _=>none | m+1=>F91b2 a b d e f g h N (F91l2 a b d e f g h N m)
def F91 (N:Nat) (e:List Ch) (f:List Ce) (g:Int→Option Int) (d:List Cl) (a:Int) (b:List Int) (h:Gn):Option Bool:=ckO ((b.length:Int) - 1) <| ckO (a+((b.length:Int) - 1)) <| gdO (0≤a) <| gdO (0≤(a+((b.length:Int) - 1))) <| gdO ((a).toNat≤(a+((b.length:Int) - 1)).toNat∧(a+((b.length:Int) - 1)).toNat≤d.length) <| F91l2 e f g d a b h N N 0
def F47 (N:Nat) (a:List Ch) (b:List Ce) (d:List Cl) (e:Int) (f:List Int) (g:Gn):Option Int:=bindS3 (F64 N a b d) (fun l=>some 42) (fun m=>some 44) (fun h=>bp (F78 g) fun i=>if i=true then bp (F90 N a b h d e f) fun j=>if j=true then bp (F91 N a b h d e f g) fun k=>if k=true then some 0 else some 49 else some 49 else some 1)
def F49 (N:Nat) (b:List Ch) (d:List Ce) (e:List Cl):Option (List Dr × Int):=bp (F84 N b d e) fun a=>some (a.1,a.2.2.2.2)
def F89 (g:List Ch) (h:List Ce) (i:Int→Option Int) (f:List Cl) (a:Int) (b:Int):Option Bool:=gdO (0≤b) <| bp (f[(b).toNat]?) fun d=>gdO (0≤a) <| bp (f[(a).toNat]?) fun e=>ckO (d.to - e.fr) <| ckO ((d.to - e.fr)+1) <| ckO (b - a) <| ckO ((b - a)+1) <| if (if ((d.to - e.fr)+1) > 0 then ((d.to - e.fr)+1) else 0) < ((b - a)+1) then some true else some false
def F51j2 (rec1:Int→Option (Int × Int × Int)) (a:Int):Option (Int × Int × Int):=ckO (a+1) <| rec1 (a+1)
def F51b3 (e:List Ch) (f:List Ce) (d:List Cl) (rec1:Int→Option (Int × Int × Int)) (g:(Int→Option Int)) (b:Int) (rec3:Int→Option (Int × Int × Int)) (a:Int):Option (Int × Int × Int):=if a < (d.length:Int) then bp (F89 e f g d b a) fun h=>if h=true then some (b,a,0) else ckO (a+1) <| rec3 (a+1) else F51j2 rec1 b
def F51l3 (a:List Ch) (b:List Ce) (d:List Cl) (rec1:Int→Option (Int × Int × Int)) (e:(Int→Option Int)) (f:Int):Nat→Int→Option (Int × Int × Int) | 0=>fun _=>none | m+1=>F51b3 a b d rec1 e f (F51l3 a b d rec1 e f m)
def F51b1 (d:List Ch) (e:List Ce) (b:List Cl) (N:Nat) (f:(Int→Option Int)) (rec1:Int→Option (Int × Int × Int)) (a:Int):Option (Int × Int × Int):=if a < (b.length:Int) then F51l3 d e b rec1 f a N a else some (0,0,48)
def F51l1 (a:List Ch) (b:List Ce) (d:List Cl) (N:Nat) (e:(Int→Option Int)):Nat→Int→Option (Int × Int × Int) | 0=>fun _=>none | m+1=>F51b1 a b d N e (F51l1 a b d N e m)
def F51 (N:Nat) (a:List Ch) (b:List Ce) (d:List Cl):Option (Int × Int × Int):=bindS3 (F64 N a b d) (fun f=>some (0,0,42)) (fun g=>some (0,0,44)) (fun e=>F51l1 a b d N e N 0)
def F57:Option (List Ch × List Ce):=some ([(⟨1,98,102⟩:Ch),(⟨2,99,100⟩:Ch)],[(⟨1,10,6⟩:Ce),(⟨1,5,2⟩:Ce),(⟨2,10,4⟩:Ce),(⟨2,5,9⟩:Ce),(⟨1,10,3⟩:Ce)])
def F58:Option (List Cl):=some [(⟨7,2,0,3⟩:Cl),(⟨4,1,1,4⟩:Cl),(⟨9,3,2,4⟩:Cl)]
def F11j2 (N:Nat) (a:(List Ch × List Ce)) (b:List Cl) (d:(Int × Int × Int)) (f:Bool) (e:Bool):Option Bool:=if f=true then if e=true then bp (F47 N a.1 a.2 b 0 [0,2,3,6] (⟨d.1,d.2.1⟩:Gn)) fun g=>if g=0 then bp (F47 N a.1 a.2 b 0 [0,2,3,6] (⟨3,1⟩:Gn)) fun h=>if h=49 then some true else some false else some false else some false else if e=true then some false else some false
def F11j1 (N:Nat) (a:(List Ch × List Ce)) (b:List Cl) (d:(Int × Int × Int)) (j:(List Int × Int)) (f:(List Dr × Int)) (g:(Int × Int × Int)) (e:Bool):Option Bool:=bp (F42 N j.1 [9]) fun k=>if k=true then bp (f.1[0]?) fun h=>if (decide (h.fr=0) && decide (h.to=1))=true then bp (f.1[2]?) fun i=>if (decide (i.fr=3) && decide (i.to=4))=true then if (decide (g.1=0) && decide (g.2.1=1))=true then F11j2 N a b d e true else F11j2 N a b d e false else F11j2 N a b d e false else F11j2 N a b d e false else F11j2 N a b d e false
def F11 (N:Nat):Option Bool:=bp (F57) fun a=>bp (F58) fun b=>bp (F25 N a.1 a.2 (⟨0,2⟩:Dr)) fun i=>bp (F27 N a.1 a.2 (⟨0,0⟩:Dr) (⟨2,2⟩:Dr)) fun k=>bp (F27 N a.1 a.2 (⟨0,1⟩:Dr) (⟨2,2⟩:Dr)) fun l=>bp (F37 N a.1 a.2 b) fun d=>bp (F12 N a.1 a.2 b 4) fun h=>bp (F37 N a.1 a.2 h.1) fun j=>bp (F39 N a.1 a.2 b) fun f=>bp (F49 N a.1 a.2 b) fun e=>bp (F51 N a.1 a.2 [(⟨7,1,2,2⟩:Cl),(⟨4,1,2,2⟩:Cl)]) fun g=>if i.2.2=0 then if k.2=0 then if l.2=0 then if d.2.2=0 then if h.2=0 then if j.2.2=0 then if f.2=0 then if e.2=0 then if g.2.2=0 then if (e.1.length:Int)=3 then if (h.1.length:Int)=3 then if (decide (i.1=2460) && decide (i.2.1=2530))=true then if k.1=2 then if l.1=1 then if (decide (d.1=4) && decide (d.2.1=1))=true then bp (h.1[0]?) fun m=>if m.fam=4 then if (decide (j.1=4) && decide (j.2.1=3))=true then F11j1 N a b d f e g true else F11j1 N a b d f e g false else F11j1 N a b d f e g false else F11j1 N a b d f e g false else F11j1 N a b d f e g false else F11j1 N a b d f e g false else F11j1 N a b d f e g false else some false else some false else some false else some false else some false else some false else some false else some false else some false else some false else some false
def F61 (a:Int) (b:Int) (d:Int):Option Bool:=if b≤a then if a≤d then some true else some false else some false
def F20 (a:Ch):Option Int:=bp (F61 a.id 1 99) fun b=>if b=true then bp (F61 a.lo 1 a.hi) fun d=>if d=true then if 1000 < a.hi then some 40 else some 0 else some 40 else some 40
def F22 (a:Ce):Option Int:=bp (F61 a.ch 1 99) fun b=>if b=true then bp (F61 a.ln 1 1000) fun d=>if d=true then bp (F61 a.wo 0 10000) fun e=>if e=true then some 0 else some 41 else some 41 else some 41
def F63b1 (b:List Ch) (d:Int) (rec1:Int→Option Int) (a:Int):Option Int:=if a < (b.length:Int) then gdO (0≤a) <| bp (b[(a).toNat]?) fun e=>if e.id=d then some a else ckO (a+1) <| rec1 (a+1) else some (-1)
def F63l1 (a:List Ch) (b:Int):Nat→Int→Option Int | 0=>fun _=>none | m+1=>F63b1 a b (F63l1 a b m)
def F63 (N:Nat) (a:List Ch) (d:List Ce) (b:Int):Option Int:=F63l1 a b N 0
def F16b2 (e:List Ch) (b:List Ce) (N:Nat) (rec2:Int→Option Int) (a:Int):Option Int:=if a < (b.length:Int) then gdO (0≤a) <| bp (b[(a).toNat]?) fun d=>bp (F22 d) fun f=>if f=0 then bp (F63 N e b d.ch) fun g=>if g < 0 then some 42 else ckO (a+1) <| rec2 (a+1) else some 42 else some 0
def F16l2 (a:List Ch) (b:List Ce) (N:Nat):Nat→Int→Option Int | 0=>fun _=>none | m+1=>F16b2 a b N (F16l2 a b N m)
def F16j1 (a:List Ch) (b:List Ce) (N:Nat):Option Int:=F16l2 a b N N 0
def F16j4 (rec3:Int→Option Int) (a:Int):Option Int:=ckO (a+1) <| rec3 (a+1)
def F16b3 (b:List Ch) (e:List Ce) (N:Nat) (rec3:Int→Option Int) (a:Int):Option Int:=if a < (b.length:Int) then gdO (0≤a) <| bp (b[(a).toNat]?) fun d=>bp (F20 d) fun f=>if f=0 then if 0 < a then ckO (a - 1) <| gdO (0≤(a - 1)) <| bp (b[(a - 1).toNat]?) fun g=>if d.id≤g.id then some 42 else F16j4 rec3 a else F16j4 rec3 a else some 42 else F16j1 b e N
def F16l3 (a:List Ch) (b:List Ce) (N:Nat):Nat→Int→Option Int | 0=>fun _=>none | m+1=>F16b3 a b N (F16l3 a b N m)
def F16 (N:Nat) (a:List Ch) (b:List Ce):Option Int:=bp (F61 (a.length:Int) 1 6) fun d=>if d=true then bp (F61 (b.length:Int) 1 24) fun e=>if e=true then F16l3 a b N N 0 else some 42 else some 42
def F24 (a:Cl):Option Int:=bp (F61 a.fam 1 99) fun b=>if b=true then bp (F61 a.hd 1 20) fun d=>if d=true then bp (F61 a.fr 0 a.to) fun e=>if e=true then if 24≤a.to then some 43 else some 0 else some 43 else some 43 else some 43
def F65j1 (a:List Cl):Option Bool:=bp (F61 (a.length:Int) 1 12) fun b=>some b
def F65j3 (rec2:Int→Option Bool) (a:Int):Option Bool:=ckO (a+1) <| rec2 (a+1)
def F65b4 (d:List Cl) (rec2:Int→Option Bool) (b:Int) (e:Cl) (rec4:Int→Option Bool) (a:Int):Option Bool:=if a < b then gdO (0≤a) <| bp (d[(a).toNat]?) fun f=>if f.fam=e.fam then some false else ckO (a+1) <| rec4 (a+1) else F65j3 rec2 b
def F65l4 (a:List Cl) (rec2:Int→Option Bool) (b:Int) (d:Cl):Nat→Int→Option Bool | 0=>fun _=>none | m+1=>F65b4 a rec2 b d (F65l4 a rec2 b d m)
def F65b2 (e:List Ce) (a:List Cl) (N:Nat) (rec2:Int→Option Bool) (b:Int):Option Bool:=if b < (a.length:Int) then gdO (0≤b) <| bp (a[(b).toNat]?) fun d=>bp (F24 d) fun f=>if f=0 then if (e.length:Int)≤d.to then some false else F65l4 a rec2 b d N 0 else some false else F65j1 a
def F65l2 (a:List Ce) (b:List Cl) (N:Nat):Nat→Int→Option Bool | 0=>fun _=>none | m+1=>F65b2 a b N (F65l2 a b N m)
def F65 (N:Nat) (d:List Ch) (a:List Ce) (b:List Cl):Option Bool:=F65l2 a b N N 0
def F18 (N:Nat) (a:List Ch) (b:List Ce) (d:List Cl):Option Int:=bp (F16 N a b) fun e=>if e=0 then bp (F65 N a b d) fun f=>if f=true then some 0 else some 44 else some 42
def F69 (e:List Ch) (b:List Ce) (a:Dr):Option Bool:=bp (F61 a.fr 0 a.to) fun d=>if d=true then if a.to < (b.length:Int) then some true else some false else some false
def F77b1 (d:List Ce) (f:Int) (rec1:Int→Int→Option Int) (b:Int) (a:Int):Option Int:=if a≤f then if a < (d.length:Int) then gdO (0≤a) <| bp (d[(a).toNat]?) fun e=>ckO (b+e.wo) <| ckO (a+1) <| rec1 (b+e.wo) (a+1) else some b else some b
def F77l1 (a:List Ce) (b:Int):Nat→Int→Int→Option Int | 0=>fun _ _=>none | m+1=>F77b1 a b (F77l1 a b m)
def F77 (N:Nat) (e:List Ch) (a:List Ce) (b:Int) (d:Int):Option Int:=F77l1 a d N 0 b
def F53 (a:Gn) (b:Gn):Option Bool:=ckO (a.num * b.den) <| ckO (b.num * a.den) <| if (a.num * b.den) < (b.num * a.den) then some true else some false
def F80 (a:Gn):Option Bool:=bp (F61 a.num 0 1000000) fun b=>if b=true then bp (F61 a.den 1 1000000) fun d=>some d else some false
def F81b1 (g:List Cl) (e:List Dr) (rec1:Int→Int→Option Bool) (f:Int) (a:Int):Option Bool:=if a < (e.length:Int) then gdO (0≤a) <| bp (e[(a).toNat]?) fun b=>bp (g[(a).toNat]?) fun d=>if b.fr < (if d.fr > f then d.fr else f) then some false else if b.to < b.fr then some false else if d.to < b.to then some false else ckO (b.to+1) <| ckO (a+1) <| rec1 (b.to+1) (a+1) else some true
def F81l1 (a:List Cl) (b:List Dr):Nat→Int→Int→Option Bool | 0=>fun _ _=>none | m+1=>F81b1 a b (F81l1 a b m)
def F81 (N:Nat) (d:List Ch) (e:List Ce) (f:Int→Option Int) (a:List Cl) (b:List Dr):Option Bool:=if (b.length:Int)=(a.length:Int) then F81l1 a b N 0 0 else some false
def F35b1 (d:List Gn) (rec1:List Gn→Int→Option (List Gn × Int)) (b:List Gn) (a:Int):Option (List Gn × Int):=if a < (d.length:Int) then gdO (0≤a) <| bp (d[(a).toNat]?) fun e=>gdO (b.length+1≤1000000000) <| ckO (a+1) <| rec1 (b++[(⟨e.num,e.den⟩:Gn)]) (a+1) else some (b,0)
def F35l1 (a:List Gn):Nat→List Gn→Int→Option (List Gn × Int) | 0=>fun _ _=>none | m+1=>F35b1 a (F35l1 a m)
def F35 (N:Nat) (a:List Ch) (b:List Ce) (d:List Cl) (e:List Dr):Option (List Gn × Int):=bindS3 (F64 N a b d) (fun i=>some ([],42)) (fun j=>some ([],44)) (fun f=>bp (F81 N a b f d e) fun g=>if g=true then bp (F82 N a b f d e) fun h=>F35l1 h N [] 0 else some ([],46))
def F88j2 (rec1:Int→Option Bool) (a:Int):Option Bool:=ckO (a+1) <| rec1 (a+1)
def F88b1 (g:List Ch) (h:List Ce) (d:List Cl) (e:List Dr) (rec1:Int→Option Bool) (a:Int):Option Bool:=if a < (d.length:Int) then gdO (0≤a) <| bp (e[(a).toNat]?) fun b=>bp (F69 g h b) fun i=>if i=true then bp (d[(a).toNat]?) fun f=>if b.fr < f.fr then some false else if f.to < b.to then some false else if 0 < a then ckO (a - 1) <| gdO (0≤(a - 1)) <| bp (e[(a - 1).toNat]?) fun j=>if b.fr≤j.to then some false else F88j2 rec1 a else F88j2 rec1 a else some false else some true
def F88l1 (a:List Ch) (b:List Ce) (d:List Cl) (e:List Dr):Nat→Int→Option Bool | 0=>fun _=>none | m+1=>F88b1 a b d e (F88l1 a b d e m)
def F88 (N:Nat) (d:List Ch) (e:List Ce) (a:List Cl) (b:List Dr):Option Bool:=if (b.length:Int)=(a.length:Int) then F88l1 d e a b N 0 else some false
def F44 (N:Nat) (b:List Ch) (d:List Ce) (e:List Cl) (f:List Dr):Option Int:=bp (F18 N b d e) fun a=>if a=0 then bp (F88 N b d e f) fun g=>if g=true then some a else some 46 else some a
def F83j1 (b:Int) (d:Int) (a:Int):Option (Int × Int):=gdO (0 < a) <| ckO (b) <| ckO (d) <| some (b.tdiv a,d.tdiv a)
def F83b2 (d:Int) (e:Int) (rec2:Int→Int→Option (Int × Int)) (b:Int) (a:Int):Option (Int × Int):=if a=0 then F83j1 d e b else gdO (0 < a) <| rec2 a (b.tmod a)
def F83l2 (a:Int) (b:Int):Nat→Int→Int→Option (Int × Int) | 0=>fun _ _=>none | m+1=>F83b2 a b (F83l2 a b m)
def F83 (N:Nat) (a:Int) (b:Int):Option (Int × Int):=F83l2 a b N a b
def F36b1 (g:List Ch) (h:List Ce) (d:List Cl) (i:List Dr) (N:Nat) (rec1:List Gn→Int→Option (List Gn × Int)) (b:List Gn) (a:Int):Option (List Gn × Int):=if a < (d.length:Int) then gdO (0≤a) <| bp (i[(a).toNat]?) fun e=>bp (F77 N g h e.fr e.to) fun j=>bp (d[(a).toNat]?) fun k=>bp (F83 N j k.hd) fun f=>gdO (b.length+1≤1000000000) <| ckO (a+1) <| rec1 (b++[(⟨f.1,f.2⟩:Gn)]) (a+1) else some (b,0)
def F36l1 (a:List Ch) (b:List Ce) (d:List Cl) (e:List Dr) (N:Nat):Nat→List Gn→Int→Option (List Gn × Int) | 0=>fun _ _=>none | m+1=>F36b1 a b d e N (F36l1 a b d e N m)
def F36 (N:Nat) (a:List Ch) (b:List Ce) (d:List Cl) (e:List Dr):Option (List Gn × Int):=bp (F44 N a b d e) fun f=>if f=0 then F36l1 a b d e N N [] 0 else some ([],f)
def F95j1 (a:List (List Gn)) (b:List Gn):Option (List (List Gn)):=gdO (0+1≤1000000000) <| gdO (1+a.length≤1000000000) <| some (b :: a)
def F95j3 (rec2:List Gn→Int→Option (List (List Gn))) (a:Int) (b:List Gn):Option (List (List Gn)):=ckO (a - 1) <| rec2 b (a - 1)
def F95j5 (rec4:List Gn→Int→Option (List (List Gn))) (a:Int) (b:List Gn):Option (List (List Gn)):=ckO (a+1) <| rec4 b (a+1)
def F95j7 (rec4:List Gn→Int→Option (List (List Gn))) (a:Int) (b:List Gn) (d:Int) (e:Int) (f:Int):Option (List (List Gn)):=bp (b[(a).toNat]?) fun g=>F95j5 rec4 d ((b).set ((a).toNat) (⟨e,f⟩:Gn))
def F95j6 (rec4:List Gn→Int→Option (List (List Gn))) (b:Int) (a:List Gn) (d:Int) (e:Int) (f:Int):Option (List (List Gn)):=bp (a[(b).toNat]?) fun g=>if g.den=0 then F95j7 rec4 b a d e f else bp (F53 g (⟨e,f⟩:Gn)) fun h=>if h=true then F95j7 rec4 b a d e f else F95j5 rec4 d a
def F95b4 (h:List Ch) (i:List Ce) (N:Nat) (rec2:List Gn→Int→Option (List (List Gn))) (j:(List Gn)) (g:Cl) (b:Int) (rec4:List Gn→Int→Option (List (List Gn))) (d:List Gn) (a:Int):Option (List (List Gn)):=if a≤g.to then ckO (a+1) <| gdO (0≤(a+1)) <| bp (j[(a+1).toNat]?) fun e=>if e.den=0 then F95j5 rec4 a d else bp (F77 N h i b a) fun k=>bp (F83 N k g.hd) fun f=>bp (F53 e (⟨f.1,f.2⟩:Gn)) fun l=>if l=true then F95j6 rec4 b d a e.num e.den else F95j6 rec4 b d a f.1 f.2 else F95j3 rec2 b d
def py (a:List Ch) (b:List Ce) (N:Nat) (rec2:List Gn→Int→Option (List (List Gn))) (d:(List Gn)) (e:Cl) (f:Int):Nat→List Gn→Int→Option (List (List Gn)) | 0=>fun _ _=>none | m+1=>F95b4 a b N rec2 d e f (py a b N rec2 d e f m)
def F95b2 (f:List Ch) (g:List Ce) (h:List (List Gn)) (N:Nat) (i:(List Gn)) (d:Cl) (rec2:List Gn→Int→Option (List (List Gn))) (b:List Gn) (a:Int):Option (List (List Gn)):=if 0≤a then ckO (a+1) <| gdO (0≤(a+1)) <| bp (b[(a+1).toNat]?) fun e=>bp (b[(a).toNat]?) fun j=>if a < d.fr then F95j3 rec2 a ((b).set ((a).toNat) e) else py f g N rec2 i d a N ((b).set ((a).toNat) e) a else F95j1 h b
def pa (a:List Ch) (b:List Ce) (d:List (List Gn)) (N:Nat) (e:(List Gn)) (f:Cl):Nat→List Gn→Int→Option (List (List Gn)) | 0=>fun _ _=>none | m+1=>F95b2 a b d N e f (pa a b d N e f m)
def F95 (N:Nat) (e:List Ch) (a:List Ce) (b:List Cl) (d:List (List Gn)):Option (List (List Gn)):=ckO ((a.length:Int)+1) <| gdO (0≤((a.length:Int)+1)) <| gdO (((a.length:Int)+1)≤1000000) <| bp (d[0]?) fun f=>ckO ((b.length:Int) - 1) <| ckO (((b.length:Int) - 1) - (d.length:Int)) <| gdO (0≤(((b.length:Int) - 1) - (d.length:Int))) <| bp (b[(((b.length:Int) - 1) - (d.length:Int)).toNat]?) fun g=>ckO ((a.length:Int) - 1) <| pa e a d N f g N (List.replicate ((a.length:Int)+1).toNat (⟨0,0⟩:Gn)) ((a.length:Int) - 1)
def G95j2 (a:List Gn):Option (List (List Gn)) :=
  gdO (0+1≤1000000000) <|
  gdO (1+0≤1000000000) <|
  some (a :: [])
def G95j4 (rec3:List Gn→Int→Option (List (List Gn))) (a:Int) (b:List Gn):Option (List (List Gn)) :=
  ckO (a - 1) <|
  rec3 b (a - 1)
def G95j6 (rec5:List Gn→Int→Option (List (List Gn))) (a:Int) (b:List Gn):Option (List (List Gn)) :=
  ckO (a+1) <|
  rec5 b (a+1)
def G95j8 (rec5:List Gn→Int→Option (List (List Gn))) (a:Int) (b:List Gn) (d:Int) (e:Int) (f:Int):Option (List (List Gn)) :=
  bp (b[(a).toNat]?) fun g =>
  G95j6 rec5 d ((b).set ((a).toNat) (⟨e,f⟩:Gn))
def G95j7 (rec5:List Gn→Int→Option (List (List Gn))) (b:Int) (a:List Gn) (d:Int) (e:Int) (f:Int):Option (List (List Gn)) :=
  bp (a[(b).toNat]?) fun g =>
  if g.den=0 then
    G95j8 rec5 b a d e f
  else
    bp (F53 g (⟨e,f⟩:Gn)) fun h =>
    if h=true then
      G95j8 rec5 b a d e f
    else
      G95j6 rec5 d a
def G95b5 (h:List Ch) (i:List Ce) (N:Nat) (rec3:List Gn→Int→Option (List (List Gn))) (j:List Gn) (g:Cl) (b:Int) (rec5:List Gn→Int→Option (List (List Gn))) (d:List Gn) (a:Int):Option (List (List Gn)) :=
  if a≤g.to then
    ckO (a+1) <|
    gdO (0≤(a+1)) <|
    bp (j[(a+1).toNat]?) fun e =>
    if e.den=0 then
      G95j6 rec5 a d
    else
      bp (F77 N h i b a) fun k =>
      bp (F83 N k g.hd) fun f =>
      bp (F53 e (⟨f.1,f.2⟩:Gn)) fun l =>
      if l=true then
        G95j7 rec5 b d a e.num e.den
      else
        G95j7 rec5 b d a f.1 f.2
  else
    G95j4 rec3 b d
def G95l5 (a:List Ch) (b:List Ce) (N:Nat) (rec3:List Gn→Int→Option (List (List Gn))) (d:List Gn) (e:Cl) (f:Int):Nat→List Gn→Int→Option (List (List Gn))
  | 0=>fun _ _=>none
  | m+1=>G95b5 a b N rec3 d e f (G95l5 a b N rec3 d e f m)
def G95b3 (f:List Ch) (g:List Ce) (N:Nat) (h:List Gn) (d:Cl) (rec3:List Gn→Int→Option (List (List Gn))) (b:List Gn) (a:Int):Option (List (List Gn)) :=
  if 0≤a then
    ckO (a+1) <|
    gdO (0≤(a+1)) <|
    bp (b[(a+1).toNat]?) fun e =>
    bp (b[(a).toNat]?) fun i =>
    if a < d.fr then
      G95j4 rec3 a ((b).set ((a).toNat) e)
    else
      G95l5 f g N rec3 h d a N ((b).set ((a).toNat) e) a
  else
    G95j2 b
def G95l3 (a:List Ch) (b:List Ce) (N:Nat) (d:List Gn) (e:Cl):Nat→List Gn→Int→Option (List (List Gn))
  | 0=>fun _ _=>none
  | m+1=>G95b3 a b N d e (G95l3 a b N d e m)
def G95j1 (d:List Ch) (b:List Ce) (a:List Cl) (N:Nat) (e:List Gn):Option (List (List Gn)) :=
  ckO ((a.length:Int) - 1) <|
  ckO (((a.length:Int) - 1) - 0) <|
  gdO (0≤(((a.length:Int) - 1) - 0)) <|
  bp (a[(((a.length:Int) - 1) - 0).toNat]?) fun f =>
  ckO ((b.length:Int) - 1) <|
  G95l3 d b N e f N (List.replicate ((b.length:Int)+1).toNat (⟨0,0⟩:Gn)) ((b.length:Int) - 1)
def G95b9 (e:List Ch) (d:List Ce) (f:List Cl) (N:Nat) (rec9:List Gn→Int→Option (List (List Gn))) (b:List Gn) (a:Int):Option (List (List Gn)) :=
  if a≤(d.length:Int) then
    gdO (0≤a) <|
    bp (b[(a).toNat]?) fun g =>
    ckO (a+1) <|
    rec9 ((b).set ((a).toNat) (⟨1000000,1⟩:Gn)) (a+1)
  else
    G95j1 e d f N b
def G95l9 (a:List Ch) (b:List Ce) (d:List Cl) (N:Nat):Nat→List Gn→Int→Option (List (List Gn))
  | 0=>fun _ _=>none
  | m+1=>G95b9 a b d N (G95l9 a b d N m)
def G95 (N:Nat) (b:List Ch) (a:List Ce) (d:List Cl):Option (List (List Gn)) :=
  ckO ((a.length:Int)+1) <|
  gdO (0≤((a.length:Int)+1)) <|
  gdO (((a.length:Int)+1)≤1000000) <|
  G95l9 b a d N N (List.replicate ((a.length:Int)+1).toNat (⟨0,0⟩:Gn)) 0
def F85s (N:Nat) (a:List Ch) (b:List Ce) (d:List Cl) (t:List (List Gn)):Option (List (List Gn)):=bp (match t with | []=>G95 N a b d | x :: y=>F95 N a b d (x :: y)) fun r=>if r.length=0 then none else some r
def F85l (N:Nat) (b:List Ch) (d:List Ce) (a:List Cl):Nat→List (List Gn)→Option (List (List Gn)) | 0,_=>none | m+1,t=>if (t.length:Int) < (a.length:Int) then bp (F85s N b d a t) fun y=>F85l N b d a m y else some t
def F85 (N:Nat) (a:List Ch) (b:List Ce) (d:List Cl):Option (Int × Int):=bp (F85l N a b d N []) fun t=>bp (t[0]?) fun x=>bp (x[0]?) fun g=>some (g.num,g.den)
def F38 (N:Nat) (b:List Ch) (d:List Ce) (e:List Cl):Option (Int × Int × Int):=bp (F18 N b d e) fun f=>if f=0 then bp (F85 N b d e) fun a=>if a.2=0 then some (0,0,47) else some (a.1,a.2,0) else some (0,0,f)
def F40j2 (rec1:List Int→Int→Option (List Int × Int)) (a:Int) (b:List Int):Option (List Int × Int):=ckO (a+1) <| rec1 b (a+1)
def F40j3 (d:List Cl) (rec1:List Int→Int→Option (List Int × Int)) (a:List Int) (b:Int):Option (List Int × Int):=bp (d[(b).toNat]?) fun e=>gdO (a.length+1≤1000000000) <| F40j2 rec1 b (a++[e.fam])
def F40b1 (g:List Ch) (h:List Ce) (b:List Cl) (N:Nat) (e:(Int × Int)) (rec1:List Int→Int→Option (List Int × Int)) (d:List Int) (a:Int):Option (List Int × Int):=if a < (b.length:Int) then gdO (0≤a) <| gdO (0≤(a).toNat∧(a).toNat≤b.length) <| gdO (0+(((b.drop 0).take ((a).toNat - 0)).length)≤1000000000) <| ckO (a+1) <| gdO (0≤(a+1)) <| gdO ((a+1).toNat≤b.length∧b.length≤b.length) <| gdO ((((b.drop 0).take ((a).toNat - 0)).length)+(((b.drop ((a+1).toNat)).take (b.length - ((a+1).toNat))).length)≤1000000000) <| if ((((b.drop 0).take ((a).toNat - 0))++((b.drop ((a+1).toNat)).take (b.length - ((a+1).toNat)))).length:Int)=0 then F40j3 b rec1 d a else bp (F85 N g h (((b.drop 0).take ((a).toNat - 0))++((b.drop ((a+1).toNat)).take (b.length - ((a+1).toNat))))) fun f=>if (decide (f.1=e.1) && decide (f.2=e.2))=true then F40j2 rec1 a d else F40j3 b rec1 d a else some (d,0)
def F40l1 (a:List Ch) (b:List Ce) (d:List Cl) (N:Nat) (e:(Int × Int)):Nat→List Int→Int→Option (List Int × Int) | 0=>fun _ _=>none | m+1=>F40b1 a b d N e (F40l1 a b d N e m)
def F40 (N:Nat) (a:List Ch) (b:List Ce) (d:List Cl):Option (List Int × Int):=bp (F18 N a b d) fun e=>if e=0 then bp (F85 N a b d) fun f=>F40l1 a b d N f N [] 0 else some ([],e)
def F41j2 (a:Bool):Option Bool:=if a=true then some true else some false
def F41j4 (a:Bool):Option Bool:=F41j2 a
def F41j5 (rec3:Bool→Int→Option Bool) (a:Int) (b:Bool):Option Bool:=ckO (a+1) <| rec3 b (a+1)
def F41b3 (b:List Gn) (f:List Gn) (rec3:Bool→Int→Option Bool) (g:Bool) (a:Int):Option Bool:=if g=true then if a < (b.length:Int) then gdO (0≤a) <| bp (b[(a).toNat]?) fun d=>bp (f[(a).toNat]?) fun e=>if (decide (d.num=e.num) && decide (d.den=e.den))=true then F41j5 rec3 a true else F41j5 rec3 a false else F41j4 true else if a < (b.length:Int) then F41j4 false else F41j4 false
def F41l3 (a:List Gn) (b:List Gn):Nat→Bool→Int→Option Bool | 0=>fun _ _=>none | m+1=>F41b3 a b (F41l3 a b m)
def F41j1 (a:List Gn) (b:List Gn) (N:Nat) (d:Bool):Option Bool:=F41l3 a b N d 0
def F41 (N:Nat) (a:List Gn) (b:List Gn):Option Bool:=if (a.length:Int)=(b.length:Int) then F41j1 a b N true else F41j1 a b N false
def F43 (N:Nat) (a:List Ch) (b:List Ce) (d:List Cl) (e:List Dr):Option Int:=bindS3 (F64 N a b d) (fun h=>some 42) (fun i=>some 44) (fun f=>bp (F81 N a b f d e) fun g=>if g=true then some 0 else some 46)
def F45j1 (b:List Ch) (d:List Ce) (e:List Cl) (a:Cw) (f:(Int→Option Int)) (inOrder_72:Bool):Option Int:=if inOrder_72=true then bp (F89 b d f e a.fst a.lst) fun g=>if g=true then some 0 else some 48 else some 48
def F45 (N:Nat) (d:List Ch) (e:List Ce) (b:List Cl) (a:Cw):Option Int:=bindS3 (F64 N d e b) (fun g=>some 42) (fun h=>some 44) (fun f=>if 0≤a.fst then if a.fst≤a.lst then if a.lst < (b.length:Int) then F45j1 d e b a f true else F45j1 d e b a f false else F45j1 d e b a f false else F45j1 d e b a f false)
def F46 (N:Nat) (g:List Ch) (h:List Ce) (b:List Cl) (a:Cw):Option Int:=bp (F18 N g h b) fun f=>if f=0 then bp (F61 a.fst 0 a.lst) fun i=>if i=true then if (b.length:Int)≤a.lst then some 48 else gdO (0≤a.lst) <| bp (b[(a.lst).toNat]?) fun d=>gdO (0≤a.fst) <| bp (b[(a.fst).toNat]?) fun e=>ckO (d.to - e.fr) <| ckO ((d.to - e.fr)+1) <| ckO (a.lst - a.fst) <| ckO ((a.lst - a.fst)+1) <| if ((a.lst - a.fst)+1)≤(if ((d.to - e.fr)+1) > 0 then ((d.to - e.fr)+1) else 0) then some 48 else some 0 else some 48 else some f
def F48j1 (e:List Cl) (b:Int) (a:List Int):Option Int:=gdO (0≤((a.length:Int) - 1)) <| bp (a[((a.length:Int) - 1).toNat]?) fun d=>ckO (d - 1) <| ckO (b+((a.length:Int) - 1)) <| ckO ((b+((a.length:Int) - 1)) - 1) <| gdO (0≤((b+((a.length:Int) - 1)) - 1)) <| bp (e[((b+((a.length:Int) - 1)) - 1).toNat]?) fun f=>if (d - 1)≤f.to then some 49 else some 0
def F48b2 (l:List Ch) (m:List Ce) (h:List Cl) (e:Int) (f:List Int) (i:Int) (n:Int) (N:Nat) (rec2:Int→Option Int) (a:Int):Option Int:=if a < ((f.length:Int) - 1) then ckO (e+a) <| gdO (0≤(e+a)) <| bp (h[(e+a).toNat]?) fun b=>gdO (0≤a) <| bp (f[(a).toNat]?) fun d=>ckO (a+1) <| gdO (0≤(a+1)) <| bp (f[(a+1).toNat]?) fun g=>ckO ((if b.fr > d then b.fr else d)+1) <| bp (F61 g ((if b.fr > d then b.fr else d)+1) 25) fun o=>if o=true then ckO (b.hd * i) <| bp (F83 N (b.hd * i) n) fun j=>ckO (g - 2) <| bp (F77 N l m (if b.fr > d then b.fr else d) (g - 2)) fun p=>bp (F83 N p 1) fun k=>bp (F53 (⟨j.1,j.2⟩:Gn) (⟨k.1,k.2⟩:Gn)) fun q=>if q=true then some 49 else rec2 (a+1) else some 49 else F48j1 h e f
def F48l2 (a:List Ch) (b:List Ce) (d:List Cl) (e:Int) (f:List Int) (g:Int) (h:Int) (N:Nat):Nat→Int→Option Int | 0=>fun _=>none | m+1=>F48b2 a b d e f g h N (F48l2 a b d e f g h N m)
def F48 (N:Nat) (e:List Ch) (f:List Ce) (b:List Cl) (d:Int) (a:List Int) (g:Int) (h:Int):Option Int:=bp (F18 N e f b) fun i=>if i=0 then bp (F80 (⟨g,h⟩:Gn)) fun j=>if j=true then ckO ((a.length:Int) - 1) <| if ((a.length:Int) - 1) < 1 then some 49 else if (b.length:Int) < ((a.length:Int) - 1) then some 49 else ckO ((b.length:Int) - ((a.length:Int) - 1)) <| bp (F61 d 0 ((b.length:Int) - ((a.length:Int) - 1))) fun k=>if k=true then bp (a[0]?) fun l=>gdO (0≤d) <| bp (b[(d).toNat]?) fun m=>if l=m.fr then F48l2 e f b d a g h N N 0 else some 49 else some 49 else some 1 else some i
def F50 (N:Nat) (b:List Ch) (d:List Ce) (e:List Cl):Option (Int × List Int × Int):=bp (F84 N b d e) fun a=>some (0,a.2.2.2.1,a.2.2.2.2)
def F52 (N:Nat) (b:List Ch) (d:List Ce) (e:List Cl):Option Int:=bp (F38 N b d e) fun a=>if a.2.2=0 then some 48 else if a.2.2=47 then some 0 else some a.2.2
def F5j5 (a:Bool):Option Bool:=if a=true then some true else some false
def F5j7 (rec6:Bool→Int→Option Bool) (a:Int) (b:Bool):Option Bool:=ckO (a+1) <| rec6 b (a+1)
def F5b6 (b:(Int × Int × Int)) (e:(List Gn × Int)) (rec6:Bool→Int→Option Bool) (f:Bool) (a:Int):Option Bool:=if a < (e.1.length:Int) then gdO (0≤a) <| bp (e.1[(a).toNat]?) fun d=>bp (F53 d (⟨b.1,b.2.1⟩:Gn)) fun g=>if g=true then some false else if f=true then F5j7 rec6 a true else if (decide (d.num=b.1) && decide (d.den=b.2.1))=true then F5j7 rec6 a true else F5j7 rec6 a false else F5j5 f
def F5l6 (a:(Int × Int × Int)) (b:(List Gn × Int)):Nat→Bool→Int→Option Bool | 0=>fun _ _=>none | m+1=>F5b6 a b (F5l6 a b m)
def F5j4 (d:List Ch) (e:List Ce) (f:List Cl) (N:Nat) (a:(Int × Int × Int)) (g:(List Dr × Int)) (b:(Int × List Int × Int)):Option Bool:=if a.2.2=0 then bp (F36 N d e f g.1) fun h=>if h.2=0 then bp (F48 N d e f b.1 b.2.1 a.1 a.2.1) fun i=>if i=0 then F5l6 a h N false 0 else some false else some false else if (g.1.length:Int)=0 then if b.1=0 then if (b.2.1.length:Int)=0 then some true else some false else some false else some false
def F5j3 (a:List Ch) (b:List Ce) (d:List Cl) (k:List Dr) (l:Int) (m:Int) (n:Int) (o:List Int) (p:Int) (q:Int) (N:Nat) (u:Bool) (r:(List Gn × Int)) (s:(List Gn × Int)) (f:(Int × Int × Int)) (e:(Int × Int × Int)) (v:(List Int × Int)) (x:(List Int × Int)) (t:Bool) (h:Bool):Option Bool:=if u=true then if t=true then if h=true then if r.2=s.2 then if (decide (f.1=e.1) && decide (f.2.1=e.2.1))=true then if f.2.2=e.2.2 then if v.2=x.2 then bp (F43 N a b d k) fun y=>bp (F44 N a b d k) fun z=>if y=z then bp (F45 N a b d (⟨l,m⟩:Cw)) fun A=>bp (F46 N a b d (⟨l,m⟩:Cw)) fun B=>if A=B then bp (F47 N a b d n o (⟨p,q⟩:Gn)) fun C=>bp (F48 N a b d n o p q) fun D=>if C=D then bp (F49 N a b d) fun i=>bp (F50 N a b d) fun j=>bp (F51 N a b d) fun g=>if i.2=e.2.2 then if j.2.2=e.2.2 then bp (F52 N a b d) fun E=>if g.2.2=E then if g.2.2=0 then bp (F46 N a b d (⟨g.1,g.2.1⟩:Cw)) fun G=>if G=0 then F5j4 a b d N e i j else some false else if (decide (g.1=0) && decide (g.2.1=0))=true then F5j4 a b d N e i j else some false else some false else some false else some false else some false else some false else some false else some false else some false else some false else some false else if r.2=s.2 then if (decide (f.1=e.1) && decide (f.2.1=e.2.1))=true then if f.2.2=e.2.2 then some false else some false else some false else some false else if h=true then some false else some false else if t=true then if h=true then some false else some false else if h=true then some false else some false
def F5j2 (d:List Ch) (e:List Ce) (f:List Cl) (g:List Dr) (h:Int) (i:Int) (j:Int) (k:List Int) (l:Int) (m:Int) (N:Nat) (n:Bool) (o:(List Gn × Int)) (p:(List Gn × Int)) (q:(Int × Int × Int)) (r:(Int × Int × Int)) (a:(List Int × Int)) (b:(List Int × Int)) (s:Bool):Option Bool:=bp (F42 N a.1 b.1) fun t=>if t=true then F5j3 d e f g h i j k l m N n o p q r a b s true else F5j3 d e f g h i j k l m N n o p q r a b s false
def F5j1 (a:List Ch) (b:List Ce) (d:List Cl) (e:List Dr) (h:Int) (i:Int) (j:Int) (k:List Int) (l:Int) (m:Int) (N:Nat) (n:Bool):Option Bool:=bp (F35 N a b d e) fun f=>bp (F36 N a b d e) fun g=>bp (F37 N a b d) fun o=>bp (F38 N a b d) fun p=>bp (F39 N a b d) fun q=>bp (F40 N a b d) fun r=>bp (F41 N f.1 g.1) fun s=>if s=true then F5j2 a b d e h i j k l m N n f g o p q r true else F5j2 a b d e h i j k l m N n f g o p q r false
def F5 (N:Nat) (a:List Ch) (b:List Ce) (d:List Cl) (e:List Dr) (f:Int) (g:Int) (h:Int) (i:List Int) (j:Int) (k:Int):Option Bool:=bp (F11 N) fun l=>if l=true then F5j1 a b d e f g h i j k N true else F5j1 a b d e f g h i j k N false
end Go.K
