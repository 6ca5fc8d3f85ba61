import Derived.Test.YtinkdlmimiefaaaGreatPD
import Derived.Test.YtinkdlmimiefaaaGreatPEa
namespace Go.K
open Go.RowKit
set_option linter.unusedVariables false
def F85 (a:Int) (b:Int) (d:List Ld) (e:List Ld) (f:List Sp) (g:Int) (h:Int):Option Int :=
  some (fi (⟨a,b,d,e,f,g⟩:Pl) h)
def F97 (a:Int) (b:Int) (d:List Ld) (e:List Ld) (f:List Sp) (g:Int) (h:Int) (i:Int):Option Int :=
  some (ec (⟨a,b,d,e,f,g⟩:Pl) h i)
def F86 (e:Int) (f:Int) (a:List Ld) (b:List Ld) (d:List Sp) (g:Int) (h:Int):Option (Int × Int × List Ld × List Ld × List Sp × Int × List Ld) :=
  gdO (a.length≤60∧b.length≤60∧d.length≤60) <| some ((ae (⟨e,f,a,b,d,g⟩:Pl) h).lo,(ae (⟨e,f,a,b,d,g⟩:Pl) h).hi,(ae (⟨e,f,a,b,d,g⟩:Pl) h).loads,(ae (⟨e,f,a,b,d,g⟩:Pl) h).stands,(ae (⟨e,f,a,b,d,g⟩:Pl) h).spells,(ae (⟨e,f,a,b,d,g⟩:Pl) h).geese,ax (⟨e,f,a,b,d,g⟩:Pl) h)
def F87 (a:Int) (b:Int) (d:List Ld) (e:List Ld) (f:List Sp) (g:Int) (h:List Ld):Option Bool :=
  gdO (scB (⟨a,b,d,e,f,g⟩:Pl) h=true) <| some (ay (⟨a,b,d,e,f,g⟩:Pl) h).2
def F98 (a:Int) (b:Int) (d:List Ld) (e:List Ld) (f:List Sp) (g:Int) (h:List Ld) (i:Int):Option (Int × Int × Bool) :=
  gdO (scB (⟨a,b,d,e,f,g⟩:Pl) h=true) <| some ((ep (⟨a,b,d,e,f,g⟩:Pl) h i).1.lo,(ep (⟨a,b,d,e,f,g⟩:Pl) h i).1.hi,(ep (⟨a,b,d,e,f,g⟩:Pl) h i).2)
def F102 (a:Int) (b:Int) (d:List Ld) (e:List Ld) (f:List Sp) (g:Int) (h:List Ld):Option (List Rg × Bool) :=
  gdO (scB (⟨a,b,d,e,f,g⟩:Pl) h=true) <| some (ay (⟨a,b,d,e,f,g⟩:Pl) h)
def F116 (b:Int) (d:Int) (e:List Ld) (f:List Ld) (g:List Sp) (h:Int) (i:List Ld) (a:Int):Option Bool :=
  gdO ((lenB (⟨b,d,e,f,g,h⟩:Pl) i=true∧(0≤a∧a≤100000))) <| some (shutF (⟨b,d,e,f,g,h⟩:Pl) a)
def F119 (d:Int) (e:Int) (f:List Ld) (g:List Ld) (h:List Sp) (a:Int) (i:List Ld) (b:Int):Option (Int × Bool) :=
  gdO ((lenB (⟨d,e,f,g,h,a⟩:Pl) i=true∧(0≤b∧b≤100000)∧(0≤a∧a≤60))) <| some (ki (⟨d,e,f,g,h,a⟩:Pl) b)
def F101 (b:Int) (d:Int) (e:List Ld) (f:List Ld) (g:List Sp) (h:Int) (a:List Ld) (i:Int):Option (Int × Bool) :=
  gdO (lenB (⟨b,d,e,f,g,h⟩:Pl) a=true) <| some (placeF a i)
def F118 (a:Int) (b:Int) (e:List Ld) (f:List Ld) (g:List Sp) (d:Int) (i:List Ld) (j:Int) (h:Rg):Option (Int × Int × List Ld × Int) :=
  gdO (lenB (⟨a,b,e,f,g,d⟩:Pl) i=true) <| some (a,b,(kj (⟨a,b,e,f,g,d⟩:Pl) j h.lo h.hi).stands,d)
def F32 (a:Int) (b:Int) (d:List Ld) (e:List Ld) (f:List Sp) (g:Int) (h:Int):Option (List Int × Int) :=
  some (clashI (⟨a,b,d,e,f,g⟩:Pl) h)
def F47 (a:Int) (b:Int) (d:List Ld) (e:List Ld) (f:List Sp) (g:Int) (h:Int):Option (Int × Int × Int) :=
  some ((ky (⟨a,b,d,e,f,g⟩:Pl) h).1.lo,(ky (⟨a,b,d,e,f,g⟩:Pl) h).1.hi,(ky (⟨a,b,d,e,f,g⟩:Pl) h).2)
def F16 (a:Int) (b:Int) (d:List Ld) (e:List Ld) (f:List Sp) (g:Int) (h:Int):Option (Int × Int × List Ld × List Ld × List Sp × Int × Int) :=
  some ((ff (⟨a,b,d,e,f,g⟩:Pl) h).1.lo,(ff (⟨a,b,d,e,f,g⟩:Pl) h).1.hi,(ff (⟨a,b,d,e,f,g⟩:Pl) h).1.loads,(ff (⟨a,b,d,e,f,g⟩:Pl) h).1.stands,(ff (⟨a,b,d,e,f,g⟩:Pl) h).1.spells,(ff (⟨a,b,d,e,f,g⟩:Pl) h).1.geese,(ff (⟨a,b,d,e,f,g⟩:Pl) h).2)
def F21j2 (a:Bool):Option Bool :=
  if a=true then
    some true
  else
    some false
def F21j4 (a:Bool):Option Bool :=
  F21j2 a
def F21j5 (rec3:Bool→Int→Option Bool) (a:Int) (b:Bool):Option Bool :=
  ckO (a+1) <|
  rec3 b (a+1)
def F21b3 (b:List Int) (d:List Int) (rec3:Bool→Int→Option Bool) (e:Bool) (a:Int):Option Bool :=
  if e=true then
    if a < (b.length:Int) then
      gdO (0≤a) <|
      bp (b[(a).toNat]?) fun f =>
      bp (d[(a).toNat]?) fun g =>
      if f=g then
        F21j5 rec3 a true
      else
        F21j5 rec3 a false
    else
      F21j4 true
  else
    if a < (b.length:Int) then
      F21j4 false
    else
      F21j4 false
def F21l3 (a:List Int) (b:List Int):Nat→Bool→Int→Option Bool
  | 0=>fun _ _=>none
  | m+1=>F21b3 a b (F21l3 a b m)
def F21j1 (a:List Int) (b:List Int) (N:Nat) (d:Bool):Option Bool :=
  F21l3 a b N d 0
def F21 (N:Nat) (a:List Int) (b:List Int):Option Bool :=
  if (a.length:Int)=(b.length:Int) then
    F21j1 a b N true
  else
    F21j1 a b N false
def F36 (d:Int) (e:Int) (f:List Ld) (g:List Ld) (h:List Sp) (i:Int) (j:Int) (k:Int):Option (Int × Int × Int) :=
  bp (F97 d e f g h i j k) fun l =>
  if l=0 then
    bp (F86 d e f g h i k) fun a =>
    bp (F98 a.1 a.2.1 a.2.2.1 a.2.2.2.1 a.2.2.2.2.1 a.2.2.2.2.2.1 a.2.2.2.2.2.2 j) fun b =>
    if b.2.2=true then
      some (b.1,b.2.1,0)
    else
      some (0,0,14)
  else
    some (0,0,l)
def F103 (a:Rg) (b:Rg):Option (Int × Int) :=
  some (if b.lo > a.lo then b.lo else a.lo,if b.hi < a.hi then b.hi else a.hi)
def F38 (g:Int) (h:Int) (i:List Ld) (j:List Ld) (k:List Sp) (l:Int) (q:Int) (m:Int):Option (Int × Int × Int) :=
  bp (F85 g h i j k l m) fun n =>
  if n=0 then
    bp (F86 g h i j k l m) fun a =>
    bp (F101 a.1 a.2.1 a.2.2.1 a.2.2.2.1 a.2.2.2.2.1 a.2.2.2.2.2.1 a.2.2.2.2.2.2 q) fun b =>
    if b.2=true then
      bp (F102 a.1 a.2.1 a.2.2.1 a.2.2.2.1 a.2.2.2.2.1 a.2.2.2.2.2.1 a.2.2.2.2.2.2) fun f =>
      if f.2=true then
        gdO (0≤b.1) <|
        bp (f.1[(b.1).toNat]?) fun d =>
        ckO (b.1+1) <|
        gdO (0≤(b.1+1)) <|
        bp (f.1[(b.1+1).toNat]?) fun e =>
        ckO (d.lo - e.hi) <|
        ckO (d.hi - e.lo) <|
        bp (a.2.2.2.2.2.2[(b.1).toNat]?) fun o =>
        bp (F103 (⟨o.lo,o.hi⟩:Rg) (⟨d.lo - e.hi,d.hi - e.lo⟩:Rg)) fun p =>
        some (p.1,p.2,0)
      else
        some (0,0,14)
    else
      some (0,0,17)
  else
    some (0,0,n)
def F112 (a:Bool) (b:Bool):Option Int :=
  if b=true then
    some 1
  else
    if a=true then
      some 2
    else
      some 0
def F45 (b:Int) (d:Int) (e:List Ld) (f:List Ld) (g:List Sp) (h:Int) (i:Int) (j:Int):Option (Int × Int) :=
  bp (F36 b d e f g h i j) fun a =>
  if a.2.2=0 then
    if a.1=0 then
      if a.2.1=0 then
        bp (F112 true true) fun k =>
        some (k,0)
      else
        bp (F112 true false) fun l =>
        some (l,0)
    else
      if a.2.1=0 then
        bp (F112 false true) fun m =>
        some (m,0)
      else
        bp (F112 false false) fun n =>
        some (n,0)
  else
    some (0,a.2.2)
def F49 (b:Int) (d:Int) (e:List Ld) (f:List Ld) (g:List Sp) (h:Int) (i:Int) (j:Int):Option (Bool × Int) :=
  bp (F97 b d e f g h i j) fun k =>
  if k=0 then
    bp (F86 b d e f g h j) fun a =>
    bp (F116 a.1 a.2.1 a.2.2.1 a.2.2.2.1 a.2.2.2.2.1 a.2.2.2.2.2.1 a.2.2.2.2.2.2 i) fun l =>
    some (l,0)
  else
    some (false,k)
def F51j2 (a:(Int × Int × List Ld × List Ld × List Sp × Int × List Ld)) (b:Int) (d:Int) (e:List Ld) (f:Int) (g:Bool):Option (Int × Int) :=
  if g=true then
    bp (F87 b d a.2.2.1 e a.2.2.2.2.1 f a.2.2.2.2.2.2) fun h =>
    bp (F112 h false) fun i =>
    some (i,0)
  else
    bp (F87 b d a.2.2.1 e a.2.2.2.2.1 f a.2.2.2.2.2.2) fun j =>
    bp (F112 j true) fun k =>
    some (k,0)
def F51j1 (k:Int) (a:(Int × Int × List Ld × List Ld × List Sp × Int × List Ld)) (f:Int) (g:Int) (h:List Ld) (i:Int) (j:Bool):Option (Int × Int) :=
  bp (F119 a.1 a.2.1 a.2.2.1 a.2.2.2.1 a.2.2.2.2.1 a.2.2.2.2.2.1 a.2.2.2.2.2.2 k) fun e =>
  if e.2=true then
    bp (F118 f g a.2.2.1 h a.2.2.2.2.1 i a.2.2.2.2.2.2 e.1 (⟨1,10000⟩:Rg)) fun b =>
    if j=true then
      F51j2 a b.1 b.2.1 b.2.2.1 b.2.2.2 true
    else
      bp (F118 a.1 a.2.1 a.2.2.1 a.2.2.2.1 a.2.2.2.2.1 a.2.2.2.2.2.1 a.2.2.2.2.2.2 e.1 (⟨0,0⟩:Rg)) fun d =>
      bp (F87 d.1 d.2.1 a.2.2.1 d.2.2.1 a.2.2.2.2.1 d.2.2.2 a.2.2.2.2.2.2) fun l =>
      if l=true then
        F51j2 a b.1 b.2.1 b.2.2.1 b.2.2.2 true
      else
        F51j2 a b.1 b.2.1 b.2.2.1 b.2.2.2 false
  else
    F51j2 a f g h i j
def F51 (f:Int) (g:Int) (h:List Ld) (i:List Ld) (j:List Sp) (k:Int) (d:Int) (l:Int):Option (Int × Int) :=
  bp (F97 f g h i j k d l) fun m =>
  if m=0 then
    bp (F86 f g h i j k l) fun a =>
    bp (F87 a.1 a.2.1 a.2.2.1 a.2.2.2.1 a.2.2.2.2.1 a.2.2.2.2.2.1 a.2.2.2.2.2.2) fun n =>
    if n=true then
      bp (F116 a.1 a.2.1 a.2.2.1 a.2.2.2.1 a.2.2.2.2.1 a.2.2.2.2.2.1 a.2.2.2.2.2.2 d) fun o =>
      if o=true then
        some (0,0)
      else
        bp (F118 a.1 a.2.1 a.2.2.1 a.2.2.2.1 a.2.2.2.2.1 a.2.2.2.2.2.1 a.2.2.2.2.2.2 d (⟨0,0⟩:Rg)) fun b =>
        bp (F118 a.1 a.2.1 a.2.2.1 a.2.2.2.1 a.2.2.2.2.1 a.2.2.2.2.2.1 a.2.2.2.2.2.2 d (⟨1,10000⟩:Rg)) fun e =>
        bp (F87 e.1 e.2.1 a.2.2.1 e.2.2.1 a.2.2.2.2.1 e.2.2.2 a.2.2.2.2.2.2) fun p =>
        if p=true then
          F51j1 d a b.1 b.2.1 b.2.2.1 b.2.2.2 true
        else
          F51j1 d a b.1 b.2.1 b.2.2.1 b.2.2.2 false
    else
      some (0,14)
  else
    some (0,m)
def F55j1 (a:List Int):Option (List Int × Int) :=
  gdO (a.length≤1000000000) <|
  some (ea (sortI a),0)
def F55j3 (rec2:List Int→Int→Option (List Int × Int)) (a:Int) (b:List Int):Option (List Int × Int) :=
  ckO (a+1) <|
  rec2 b (a+1)
def F55j4 (rec2:List Int→Int→Option (List Int × Int)) (a:List Int) (b:Int) (d:Ld):Option (List Int × Int) :=
  gdO (a.length+1≤1000000000) <|
  F55j3 rec2 b (a++[d.hr])
def F55b2 (i:List Ld) (a:(Int × Int × List Ld × List Ld × List Sp × Int × List Ld)) (b:(Int × Int × List Ld × List Ld × List Sp × Int × List Ld)) (rec2:List Int→Int→Option (List Int × Int)) (e:List Int) (d:Int):Option (List Int × Int) :=
  if d < (i.length:Int) then
    gdO (0≤d) <|
    bp (i[(d).toNat]?) fun f =>
    bp (F98 a.1 a.2.1 a.2.2.1 a.2.2.2.1 a.2.2.2.2.1 a.2.2.2.2.2.1 a.2.2.2.2.2.2 f.hr) fun g =>
    bp (F98 b.1 b.2.1 b.2.2.1 b.2.2.2.1 b.2.2.2.2.1 b.2.2.2.2.2.1 b.2.2.2.2.2.2 f.hr) fun h =>
    if (decide (g.1=h.1) && decide (g.2.1=h.2.1))=true then
      if g.2.2=h.2.2 then
        F55j3 rec2 d e
      else
        F55j4 rec2 e d f
    else
      F55j4 rec2 e d f
  else
    F55j1 e
def F55l2 (a:List Ld) (b:(Int × Int × List Ld × List Ld × List Sp × Int × List Ld)) (d:(Int × Int × List Ld × List Ld × List Sp × Int × List Ld)):Nat→List Int→Int→Option (List Int × Int)
  | 0=>fun _ _=>none
  | m+1=>F55b2 a b d (F55l2 a b d m)
def F55 (N:Nat) (d:Int) (e:Int) (b:List Ld) (f:List Ld) (g:List Sp) (h:Int) (k:Int) (i:Int):Option (List Int × Int) :=
  bp (F85 d e b f g h i) fun j =>
  if j=0 then
    bp (F16 d e b f g h k) fun a =>
    if a.2.2.2.2.2.2=0 then
      bp (F86 d e b f g h i) fun l =>
      bp (F86 a.1 a.2.1 a.2.2.1 a.2.2.2.1 a.2.2.2.2.1 a.2.2.2.2.2.1 i) fun m =>
      F55l2 b l m N [] 0
    else
      some ([],a.2.2.2.2.2.2)
  else
    some ([],j)
def F60:Option (Int × Int × List Ld × List Ld × List Sp × Int) :=
  some (100,120,[(⟨1,30,40,50,0,0⟩:Ld),(⟨2,35,30,40,0,0⟩:Ld),(⟨3,58,10,60,4,0⟩:Ld)],[(⟨11,35,20,35,2,0⟩:Ld),(⟨12,58,0,5,5,0⟩:Ld),(⟨13,58,0,0,6,0⟩:Ld),(⟨14,30,80,90,9,0⟩:Ld)],[(⟨21,1,58,60,4,0⟩:Sp),(⟨22,2,64,70,5,0⟩:Sp)],2)
def F13j3 (b:Bool) (a:Bool) (d:Bool):Option Bool :=
  if b=true then
    if a=true then
      some d
    else
      some false
  else
    if a=true then
      some false
    else
      some false
def F13j2 (N:Nat) (d:(Int × Int)) (e:(Int × Int)) (f:(Int × Int)) (g:(List Int × Int)) (h:(List Int × Int)) (a:Bool) (b:Bool):Option Bool :=
  if d.1=2 then
    if e.1=1 then
      if f.1=0 then
        bp (F21 N g.1 [2,11,14]) fun i =>
        if i=true then
          bp (F21 N h.1 [30,35,58]) fun j =>
          F13j3 a b j
        else
          F13j3 a b false
      else
        F13j3 a b false
    else
      F13j3 a b false
  else
    F13j3 a b false
def F13j1 (N:Nat) (h:(Int × Int × Int)) (i:(Int × Int × Int)) (k:(Int × Int)) (j:(Int × Int × Int)) (l:(Bool × Int)) (a:(Int × Int)) (b:(Int × Int)) (d:(Int × Int)) (e:(List Int × Int)) (f:(List Int × Int)) (g:Bool):Option Bool :=
  if l.1=true then
    if (decide (h.1=50) && decide (h.2.1=75))=true then
      if (decide (i.1=15) && decide (i.2.1=35))=true then
        if k.1=2 then
          if (decide (j.1=58) && decide (j.2.1=100000))=true then
            F13j2 N a b d e f g false
          else
            F13j2 N a b d e f g false
        else
          F13j2 N a b d e f g false
      else
        F13j2 N a b d e f g false
    else
      F13j2 N a b d e f g false
  else
    if (decide (h.1=50) && decide (h.2.1=75))=true then
      if (decide (i.1=15) && decide (i.2.1=35))=true then
        if k.1=2 then
          if (decide (j.1=58) && decide (j.2.1=100000))=true then
            F13j2 N a b d e f g true
          else
            F13j2 N a b d e f g false
        else
          F13j2 N a b d e f g false
      else
        F13j2 N a b d e f g false
    else
      F13j2 N a b d e f g false
def F13 (N:Nat):Option Bool :=
  bp (F60) fun a =>
  bp (F36 a.1 a.2.1 a.2.2.1 a.2.2.2.1 a.2.2.2.2.1 a.2.2.2.2.2 30 2) fun b =>
  bp (F38 a.1 a.2.1 a.2.2.1 a.2.2.2.1 a.2.2.2.2.1 a.2.2.2.2.2 3 5) fun d =>
  bp (F45 a.1 a.2.1 a.2.2.1 a.2.2.2.1 a.2.2.2.2.1 a.2.2.2.2.2 58 4) fun e =>
  bp (F47 a.1 a.2.1 a.2.2.1 a.2.2.2.1 a.2.2.2.2.1 a.2.2.2.2.2 5) fun f =>
  bp (F49 a.1 a.2.1 a.2.2.1 a.2.2.2.1 a.2.2.2.2.1 a.2.2.2.2.2 61 6) fun g =>
  bp (F51 a.1 a.2.1 a.2.2.1 a.2.2.2.1 a.2.2.2.2.1 a.2.2.2.2.2 61 5) fun h =>
  bp (F51 a.1 a.2.1 a.2.2.1 a.2.2.2.1 a.2.2.2.2.1 a.2.2.2.2.2 105 6) fun i =>
  bp (F51 a.1 a.2.1 a.2.2.1 a.2.2.2.1 a.2.2.2.2.1 a.2.2.2.2.2 106 6) fun j =>
  bp (F32 a.1 a.2.1 a.2.2.1 a.2.2.2.1 a.2.2.2.2.1 a.2.2.2.2.2 9) fun k =>
  bp (F55 N a.1 a.2.1 a.2.2.1 a.2.2.2.1 a.2.2.2.2.1 a.2.2.2.2.2 11 2) fun l =>
  if b.2.2=0 then
    if d.2.2=0 then
      if e.2=0 then
        if f.2.2=0 then
          if g.2=0 then
            if h.2=0 then
              if i.2=0 then
                if j.2=0 then
                  if k.2=0 then
                    if l.2=0 then
                      F13j1 N b d e f g h i j k l true
                    else
                      F13j1 N b d e f g h i j k l false
                  else
                    F13j1 N b d e f g h i j k l false
                else
                  F13j1 N b d e f g h i j k l false
              else
                F13j1 N b d e f g h i j k l false
            else
              F13j1 N b d e f g h i j k l false
          else
            F13j1 N b d e f g h i j k l false
        else
          F13j1 N b d e f g h i j k l false
      else
        F13j1 N b d e f g h i j k l false
    else
      F13j1 N b d e f g h i j k l false
  else
    F13j1 N b d e f g h i j k l false
end Go.K
