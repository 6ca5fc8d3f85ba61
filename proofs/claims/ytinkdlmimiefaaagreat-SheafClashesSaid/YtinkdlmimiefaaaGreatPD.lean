/- The program's functions as pure definitions, as tools/lift.py writes them. No condition. -/
import Derived.Test.YtinkdlmimiefaaaGreatPKK2
namespace Go.K
open Go.RowKit
set_option linter.unusedVariables false
def F79 (a:Rg):Option Bool :=
  if 0≤a.lo then
    if a.lo≤a.hi then
      if a.hi≤10000 then
        some true
      else
        some false
    else
      some false
  else
    some false
def F80 (a:Int) (b:Int) (d:Int):Option Bool :=
  if b≤a then
    if a≤d then
      some true
    else
      some false
  else
    some false
def F83 (a:Int) (b:Int):Option Bool :=
  bindO (F80 a 1 99999) fun d =>
  if d=true then
    bindO (F80 b 0 99999) fun e =>
    some e
  else
    some false
def F140 (a:Int):Option Bool :=
  bindO (F80 a 0 4166) fun y7 =>
  some y7
def F84 (a:Int) (b:Int):Option Bool :=
  bindO (F140 a) fun d =>
  if d=true then
    if b=0 then
      some true
    else
      ckO (a+1) <|
      bindO (F80 b (a+1) 4166) fun e =>
      some e
  else
    some false
def F25 (a:Ld):Option Int :=
  bindO (F83 a.src a.hr) fun b =>
  if b=true then
    bindO (F79 (⟨a.lo,a.hi⟩:Rg)) fun d =>
    if d=true then
      bindO (F84 a.kn a.un) fun e =>
      if e=true then
        some 0
      else
        some 10
    else
      some 10
  else
    some 10
def F27 (a:Ld):Option Int :=
  bindO (F83 a.src a.hr) fun b =>
  if b=true then
    bindO (F79 (⟨a.lo,a.hi⟩:Rg)) fun d =>
    if d=true then
      bindO (F84 a.kn a.un) fun e =>
      if e=true then
        some 0
      else
        some 11
    else
      some 11
  else
    some 11
def F29 (a:Sp):Option Int :=
  bindO (F83 a.src a.fr) fun b =>
  if b=true then
    bindO (F80 a.kd 1 2) fun d =>
    if d=true then
      bindO (F80 a.to a.fr 99999) fun e =>
      if e=true then
        bindO (F84 a.kn a.un) fun f =>
        if f=true then
          some 0
        else
          some 12
      else
        some 12
    else
      some 12
  else
    some 12
def F59b1 (b:List Int) (d:Int) (rec1:Int→Option Bool) (a:Int):Option Bool :=
  if a < (b.length:Int) then
    gdO (0≤a) <|
    bindO (b[(a).toNat]?) fun e =>
    if e=d then
      some true
    else
      ckO (a+1) <|
      rec1 (a+1)
  else
    some false
def F59l1 (a:List Int) (b:Int):Nat→Int→Option Bool
  | 0=>fun _=>none
  | m+1=>F59b1 a b (F59l1 a b m)
def F59 (N:Nat) (a:List Int) (b:Int):Option Bool :=
  F59l1 a b N 0
def F64b3 (d:List Sp) (rec3:List Int→Int→Option (List Int)) (b:List Int) (a:Int):Option (List Int) :=
  if a < (d.length:Int) then
    gdO (0≤a) <|
    bindO (d[(a).toNat]?) fun e =>
    gdO (b.length+1≤1000000000) <|
    ckO (a+1) <|
    rec3 (b++[e.src]) (a+1)
  else
    some b
def F64l3 (a:List Sp):Nat→List Int→Int→Option (List Int)
  | 0=>fun _ _=>none
  | m+1=>F64b3 a (F64l3 a m)
def F64j2 (a:List Sp) (N:Nat) (b:List Int):Option (List Int) :=
  F64l3 a N b 0
def F64b4 (d:List Ld) (e:List Sp) (N:Nat) (rec4:List Int→Int→Option (List Int)) (b:List Int) (a:Int):Option (List Int) :=
  if a < (d.length:Int) then
    gdO (0≤a) <|
    bindO (d[(a).toNat]?) fun f =>
    gdO (b.length+1≤1000000000) <|
    ckO (a+1) <|
    rec4 (b++[f.src]) (a+1)
  else
    F64j2 e N b
def F64l4 (a:List Ld) (b:List Sp) (N:Nat):Nat→List Int→Int→Option (List Int)
  | 0=>fun _ _=>none
  | m+1=>F64b4 a b N (F64l4 a b N m)
def F64j1 (a:List Ld) (b:List Sp) (N:Nat) (d:List Int):Option (List Int) :=
  F64l4 a b N N d 0
def F64b5 (d:List Ld) (e:List Ld) (f:List Sp) (N:Nat) (rec5:List Int→Int→Option (List Int)) (b:List Int) (a:Int):Option (List Int) :=
  if a < (d.length:Int) then
    gdO (0≤a) <|
    bindO (d[(a).toNat]?) fun g =>
    gdO (b.length+1≤1000000000) <|
    ckO (a+1) <|
    rec5 (b++[g.src]) (a+1)
  else
    F64j1 e f N b
def F64l5 (a:List Ld) (b:List Ld) (d:List Sp) (N:Nat):Nat→List Int→Int→Option (List Int)
  | 0=>fun _ _=>none
  | m+1=>F64b5 a b d N (F64l5 a b d N m)
def F64 (N:Nat) (e:Int) (f:Int) (a:List Ld) (b:List Ld) (d:List Sp) (g:Int):Option (List Int) :=
  F64l5 a b d N N [] 0
def F23b4 (N:Nat) (b:List Int) (rec4:Int→Option Int) (a:Int):Option Int :=
  if a < (b.length:Int) then
    gdO (0 < b.length) <|
    gdO (0≤a) <|
    gdO ((a).toNat≤b.length) <|
    bindO (b[(a).toNat]?) fun d =>
    bindO (F59 N (b.take ((a).toNat)) d) fun e =>
    if e=true then
      some 13
    else
      ckO (a+1) <|
      rec4 (a+1)
  else
    some 0
def F23l4 (N:Nat) (a:List Int):Nat→Int→Option Int
  | 0=>fun _=>none
  | m+1=>F23b4 N a (F23l4 N a m)
def F23j3 (a:Int) (b:Int) (d:List Ld) (e:List Ld) (f:List Sp) (g:Int) (N:Nat):Option Int :=
  bindO (F64 N a b d e f g) fun h =>
  F23l4 N h N 0
def F23j6 (rec5:Int→Option Int) (a:Int):Option Int :=
  ckO (a+1) <|
  rec5 (a+1)
def F23b5 (e:Int) (f:Int) (g:List Ld) (h:List Ld) (b:List Sp) (i:Int) (N:Nat) (rec5:Int→Option Int) (a:Int):Option Int :=
  if a < (b.length:Int) then
    gdO (0≤a) <|
    bindO (b[(a).toNat]?) fun d =>
    bindO (F29 d) fun j =>
    if j=0 then
      if 0 < a then
        ckO (a - 1) <|
        gdO (0≤(a - 1)) <|
        bindO (b[(a - 1).toNat]?) fun k =>
        if d.src≤k.src then
          some 13
        else
          F23j6 rec5 a
      else
        F23j6 rec5 a
    else
      some 13
  else
    F23j3 e f g h b i N
def F23l5 (a:Int) (b:Int) (d:List Ld) (e:List Ld) (f:List Sp) (g:Int) (N:Nat):Nat→Int→Option Int
  | 0=>fun _=>none
  | m+1=>F23b5 a b d e f g N (F23l5 a b d e f g N m)
def F23j2 (a:Int) (b:Int) (d:List Ld) (e:List Ld) (f:List Sp) (g:Int) (N:Nat):Option Int :=
  F23l5 a b d e f g N N 0
def F23j8 (rec7:Int→Option Int) (a:Int):Option Int :=
  ckO (a+1) <|
  rec7 (a+1)
def F23b7 (e:Int) (f:Int) (g:List Ld) (b:List Ld) (h:List Sp) (i:Int) (N:Nat) (rec7:Int→Option Int) (a:Int):Option Int :=
  if a < (b.length:Int) then
    gdO (0≤a) <|
    bindO (b[(a).toNat]?) fun d =>
    bindO (F27 d) fun j =>
    if j=0 then
      if 0 < a then
        ckO (a - 1) <|
        gdO (0≤(a - 1)) <|
        bindO (b[(a - 1).toNat]?) fun k =>
        if d.src≤k.src then
          some 13
        else
          F23j8 rec7 a
      else
        F23j8 rec7 a
    else
      some 13
  else
    F23j2 e f g b h i N
def F23l7 (a:Int) (b:Int) (d:List Ld) (e:List Ld) (f:List Sp) (g:Int) (N:Nat):Nat→Int→Option Int
  | 0=>fun _=>none
  | m+1=>F23b7 a b d e f g N (F23l7 a b d e f g N m)
def F23j1 (a:Int) (b:Int) (d:List Ld) (e:List Ld) (f:List Sp) (g:Int) (N:Nat):Option Int :=
  F23l7 a b d e f g N N 0
def F23j10 (rec9:Int→Option Int) (a:Int):Option Int :=
  ckO (a+1) <|
  rec9 (a+1)
def F23b9 (e:Int) (f:Int) (b:List Ld) (g:List Ld) (h:List Sp) (i:Int) (N:Nat) (rec9:Int→Option Int) (a:Int):Option Int :=
  if a < (b.length:Int) then
    gdO (0≤a) <|
    bindO (b[(a).toNat]?) fun d =>
    bindO (F25 d) fun j =>
    if j=0 then
      if 0 < a then
        ckO (a - 1) <|
        gdO (0≤(a - 1)) <|
        bindO (b[(a - 1).toNat]?) fun k =>
        if d.src≤k.src then
          some 13
        else
          F23j10 rec9 a
      else
        F23j10 rec9 a
    else
      some 13
  else
    F23j1 e f b g h i N
def F23l9 (a:Int) (b:Int) (d:List Ld) (e:List Ld) (f:List Sp) (g:Int) (N:Nat):Nat→Int→Option Int
  | 0=>fun _=>none
  | m+1=>F23b9 a b d e f g N (F23l9 a b d e f g N m)
def F23 (N:Nat) (a:Int) (b:Int) (d:List Ld) (e:List Ld) (f:List Sp) (g:Int):Option Int :=
  bindO (F79 (⟨a,b⟩:Rg)) fun h =>
  if h=true then
    bindO (F80 g 0 60) fun i =>
    if i=true then
      if 60 < (d.length:Int) then
        some 13
      else
        if 60 < (e.length:Int) then
          some 13
        else
          if 60 < (f.length:Int) then
            some 13
          else
            F23l9 a b d e f g N N 0
    else
      some 13
  else
    some 13
def F88 (N:Nat) (a:Int) (b:Int) (d:List Ld) (e:List Ld) (f:List Sp) (g:Int) (h:Int) (i:Int):Option Int :=
  bindO (F23 N a b d e f g) fun j =>
  if j=0 then
    bindO (F80 h 0 99999) fun k =>
    if k=true then
      bindO (F140 i) fun l =>
      if l=true then
        some 0
      else
        some 6
    else
      some 7
  else
    some 13
def F100b1 (b:List Ld) (d:Int) (rec1:Int→Option Int) (a:Int):Option Int :=
  if a < (b.length:Int) then
    gdO (0≤a) <|
    bindO (b[(a).toNat]?) fun e =>
    if e.hr≤d then
      ckO (a+1) <|
      rec1 (a+1)
    else
      some a
  else
    some a
def F100l1 (a:List Ld) (b:Int):Nat→Int→Option Int
  | 0=>fun _=>none
  | m+1=>F100b1 a b (F100l1 a b m)
def F100 (N:Nat) (a:List Ld) (d:List Rg) (b:Int):Option Int :=
  F100l1 a b N 0
def F147 (d:Int) (a:Int) (b:Int):Option Bool :=
  if d≤b then
    if a=0 then
      some true
    else
      if b < a then
        some true
      else
        some false
  else
    some false
def F104j2 (rec1:List Ld→Int→Option (List Ld)) (a:Int) (b:List Ld):Option (List Ld) :=
  ckO (a+1) <|
  rec1 b (a+1)
def F104j3 (rec1:List Ld→Int→Option (List Ld)) (d:List Ld) (e:Int) (a:Ld) (b:Int):Option (List Ld) :=
  gdO (0≤b) <|
  gdO ((b).toNat≤d.length) <|
  gdO (0+((d.take ((b).toNat)).length)≤1000000000) <|
  gdO (((d.take ((b).toNat)).length)+1≤1000000000) <|
  gdO ((((d.take ((b).toNat))++[(⟨a.src,a.hr,a.lo,a.hi,a.kn,a.un⟩:Ld)]).length)+((d.drop ((b).toNat)).length)≤1000000000) <|
  F104j2 rec1 e (((d.take ((b).toNat))++[(⟨a.src,a.hr,a.lo,a.hi,a.kn,a.un⟩:Ld)])++(d.drop ((b).toNat)))
def F104j5 (rec1:List Ld→Int→Option (List Ld)) (a:List Ld) (b:Int) (d:Ld) (e:Int):Option (List Ld) :=
  F104j3 rec1 a b d e
def F104b4 (rec1:List Ld→Int→Option (List Ld)) (b:List Ld) (e:Int) (d:Ld) (rec4:Int→Option (List Ld)) (a:Int):Option (List Ld) :=
  if a < (b.length:Int) then
    gdO (0≤a) <|
    bindO (b[(a).toNat]?) fun f =>
    if f.hr≤d.hr then
      ckO (a+1) <|
      rec4 (a+1)
    else
      F104j5 rec1 b e d a
  else
    F104j5 rec1 b e d a
def F104l4 (rec1:List Ld→Int→Option (List Ld)) (a:List Ld) (b:Int) (d:Ld):Nat→Int→Option (List Ld)
  | 0=>fun _=>none
  | m+1=>F104b4 rec1 a b d (F104l4 rec1 a b d m)
def F104b1 (e:List Ld) (f:Int) (N:Nat) (rec1:List Ld→Int→Option (List Ld)) (b:List Ld) (a:Int):Option (List Ld) :=
  if a < (e.length:Int) then
    gdO (0≤a) <|
    bindO (e[(a).toNat]?) fun d =>
    bindO (F147 d.kn d.un f) fun g =>
    if g=true then
      F104l4 rec1 b a d N 0
    else
      F104j2 rec1 a b
  else
    some b
def F104l1 (a:List Ld) (b:Int) (N:Nat):Nat→List Ld→Int→Option (List Ld)
  | 0=>fun _ _=>none
  | m+1=>F104b1 a b N (F104l1 a b N m)
def F104 (N:Nat) (d:Int) (e:Int) (a:List Ld) (f:List Ld) (g:List Sp) (h:Int) (b:Int):Option (List Ld) :=
  F104l1 a b N N [] 0
def F105 (a:Rg) (b:Rg):Option (Int × Int) :=
  some (if b.lo > a.lo then b.lo else a.lo,if b.hi < a.hi then b.hi else a.hi)
def F109j3 (rec2:List Rg→Int→Option (List Ld × List Rg)) (a:Int) (b:List Rg):Option (List Ld × List Rg) :=
  ckO (a+1) <|
  rec2 b (a+1)
def F109b2 (f:List Ld) (i:Int) (N:Nat) (g:List Ld) (rec2:List Rg→Int→Option (List Ld × List Rg)) (a:List Rg) (b:Int):Option (List Ld × List Rg) :=
  if b < (f.length:Int) then
    gdO (0≤b) <|
    bindO (f[(b).toNat]?) fun d =>
    bindO (F147 d.kn d.un i) fun j =>
    if j=true then
      bindO (F100 N g a d.hr) fun e =>
      gdO (0≤e) <|
      bindO (a[(e).toNat]?) fun k =>
      bindO (F105 k (⟨d.lo,d.hi⟩:Rg)) fun h =>
      F109j3 rec2 b ((a).set ((e).toNat) (⟨h.1,h.2⟩:Rg))
    else
      F109j3 rec2 b a
  else
    some (g,a)
def F109l2 (a:List Ld) (b:Int) (N:Nat) (d:List Ld):Nat→List Rg→Int→Option (List Ld × List Rg)
  | 0=>fun _ _=>none
  | m+1=>F109b2 a b N d (F109l2 a b N d m)
def F109j1 (a:List Ld) (b:Int) (N:Nat) (d:List Ld) (e:List Rg):Option (List Ld × List Rg) :=
  F109l2 a b N d N e 0
def F109b4 (e:List Ld) (f:Int) (N:Nat) (d:List Ld) (rec4:List Rg→Int→Option (List Ld × List Rg)) (a:List Rg) (b:Int):Option (List Ld × List Rg) :=
  if b < (d.length:Int) then
    gdO (a.length+1≤1000000000) <|
    ckO (b+1) <|
    rec4 (a++[(⟨0,10000⟩:Rg)]) (b+1)
  else
    F109j1 e f N d a
def F109l4 (a:List Ld) (b:Int) (N:Nat) (d:List Ld):Nat→List Rg→Int→Option (List Ld × List Rg)
  | 0=>fun _ _=>none
  | m+1=>F109b4 a b N d (F109l4 a b N d m)
def F109j7 (rec6:List Rg→Int→Option (List Ld × List Rg)) (a:Int) (b:List Rg):Option (List Ld × List Rg) :=
  ckO (a+1) <|
  rec6 b (a+1)
def F109j8 (rec6:List Rg→Int→Option (List Ld × List Rg)) (a:List Rg) (b:Int):Option (List Ld × List Rg) :=
  F109j7 rec6 b a
def F109b6 (f:List Ld) (i:Int) (j:List Int) (N:Nat) (g:List Ld) (rec6:List Rg→Int→Option (List Ld × List Rg)) (a:List Rg) (b:Int):Option (List Ld × List Rg) :=
  if b < (f.length:Int) then
    gdO (0≤b) <|
    bindO (f[(b).toNat]?) fun d =>
    bindO (F147 d.kn d.un i) fun k =>
    if k=true then
      bindO (F59 N j d.src) fun l =>
      if l=true then
        bindO (F100 N g a d.hr) fun e =>
        gdO (0≤e) <|
        bindO (a[(e).toNat]?) fun m =>
        bindO (F105 m (⟨d.lo,d.hi⟩:Rg)) fun h =>
        F109j7 rec6 b ((a).set ((e).toNat) (⟨h.1,h.2⟩:Rg))
      else
        F109j8 rec6 a b
    else
      F109j8 rec6 a b
  else
    some (g,a)
def F109l6 (a:List Ld) (b:Int) (d:List Int) (N:Nat) (e:List Ld):Nat→List Rg→Int→Option (List Ld × List Rg)
  | 0=>fun _ _=>none
  | m+1=>F109b6 a b d N e (F109l6 a b d N e m)
def F109j5 (a:List Ld) (b:Int) (d:List Int) (N:Nat) (e:List Ld) (f:List Rg):Option (List Ld × List Rg) :=
  F109l6 a b d N e N f 0
def F109j10 (rec9:List Ld→List Rg→Int→Option (List Ld × List Rg)) (a:List Rg) (b:Int) (d:List Ld):Option (List Ld × List Rg) :=
  gdO (a.length+1≤1000000000) <|
  ckO (b+1) <|
  rec9 d (a++[(⟨0,10000⟩:Rg)]) (b+1)
def F109b9 (g:List Ld) (h:Int) (f:List Int) (N:Nat) (rec9:List Ld→List Rg→Int→Option (List Ld × List Rg)) (b:List Ld) (e:List Rg) (a:Int):Option (List Ld × List Rg) :=
  if a < (b.length:Int) then
    gdO (0≤a) <|
    bindO (b[(a).toNat]?) fun d =>
    bindO (F59 N f d.src) fun i =>
    if i=true then
      F109j10 rec9 e a b
    else
      F109j10 rec9 e a ((b).set ((a).toNat) (⟨d.src,d.hr,0,10000,d.kn,d.un⟩:Ld))
  else
    F109j5 g h f N b e
def F109l9 (a:List Ld) (b:Int) (d:List Int) (N:Nat):Nat→List Ld→List Rg→Int→Option (List Ld × List Rg)
  | 0=>fun _ _ _=>none
  | m+1=>F109b9 a b d N (F109l9 a b d N m)
def F109 (N:Nat) (a:Int) (b:Int) (f:List Ld) (d:List Ld) (g:List Sp) (h:Int) (e:Int) (i:Bool) (j:List Int):Option (List Ld × List Rg) :=
  if i=true then
    bindO (F104 N a b f d g h e) fun k =>
    gdO (0+1≤1000000000) <|
    F109l4 d e N k N [(⟨a,b⟩:Rg)] 0
  else
    bindO (F104 N a b f d g h e) fun l =>
    gdO (0+1≤1000000000) <|
    F109l9 d e j N N l [(⟨a,b⟩:Rg)] 0
def F120b3 (b:List Rg) (rec3:Int→Option (List Rg × Bool)) (a:Int):Option (List Rg × Bool) :=
  if a < (b.length:Int) then
    gdO (0≤a) <|
    bindO (b[(a).toNat]?) fun d =>
    if d.hi < d.lo then
      some (b,false)
    else
      ckO (a+1) <|
      rec3 (a+1)
  else
    some (b,true)
def F120l3 (a:List Rg):Nat→Int→Option (List Rg × Bool)
  | 0=>fun _=>none
  | m+1=>F120b3 a (F120l3 a m)
def F120j2 (N:Nat) (a:List Rg):Option (List Rg × Bool) :=
  F120l3 a N 0
def F120b4 (g:List Ld) (N:Nat) (rec4:List Rg→Int→Option (List Rg × Bool)) (b:List Rg) (a:Int):Option (List Rg × Bool) :=
  if 0≤a then
    bindO (g[(a).toNat]?) fun d =>
    bindO (b[(a).toNat]?) fun h =>
    ckO (a+1) <|
    gdO (0≤(a+1)) <|
    bindO (b[(a+1).toNat]?) fun e =>
    ckO (e.lo+d.lo) <|
    ckO (e.hi+d.hi) <|
    bindO (F105 h (⟨e.lo+d.lo,e.hi+d.hi⟩:Rg)) fun f =>
    ckO (a - 1) <|
    rec4 ((b).set ((a).toNat) (⟨f.1,f.2⟩:Rg)) (a - 1)
  else
    F120j2 N b
def F120l4 (a:List Ld) (N:Nat):Nat→List Rg→Int→Option (List Rg × Bool)
  | 0=>fun _ _=>none
  | m+1=>F120b4 a N (F120l4 a N m)
def F120j1 (a:List Ld) (N:Nat) (b:List Rg):Option (List Rg × Bool) :=
  ckO ((a.length:Int) - 1) <|
  F120l4 a N N b ((a.length:Int) - 1)
def F120b5 (f:List Ld) (N:Nat) (rec5:List Rg→Int→Option (List Rg × Bool)) (b:List Rg) (a:Int):Option (List Rg × Bool) :=
  if a < (f.length:Int) then
    gdO (0≤a) <|
    bindO (f[(a).toNat]?) fun d =>
    ckO (a+1) <|
    gdO (0≤(a+1)) <|
    bindO (b[(a+1).toNat]?) fun h =>
    bindO (b[(a).toNat]?) fun e =>
    ckO (e.lo - d.hi) <|
    ckO (e.hi - d.lo) <|
    bindO (F105 h (⟨e.lo - d.hi,e.hi - d.lo⟩:Rg)) fun g =>
    rec5 ((b).set ((a+1).toNat) (⟨g.1,g.2⟩:Rg)) (a+1)
  else
    F120j1 f N b
def F120l5 (a:List Ld) (N:Nat):Nat→List Rg→Int→Option (List Rg × Bool)
  | 0=>fun _ _=>none
  | m+1=>F120b5 a N (F120l5 a N m)
def F120 (N:Nat) (b:List Ld) (a:List Rg):Option (List Rg × Bool) :=
  gdO (0+a.length≤1000000000) <|
  F120l5 b N N a 0
def F89 (N:Nat) (b:Int) (d:Int) (e:List Ld) (f:List Ld) (g:List Sp) (h:Int) (i:Int) (j:Bool) (k:List Int):Option Bool :=
  bindO (F109 N b d e f g h i j k) fun a =>
  bindO (F120 N a.1 a.2) fun l =>
  some l.2
def F31 (N:Nat) (a:Int) (b:Int) (d:List Ld) (e:List Ld) (f:List Sp) (g:Int) (h:Int):Option (Bool × Int) :=
  bindO (F88 N a b d e f g 0 h) fun i =>
  if i=0 then
    bindO (F89 N a b d e f g h true []) fun j =>
    some (j,0)
  else
    some (false,i)
def F71j1 (b:Int) (a:List Int) (d:Bool):Option (List Int) :=
  if d=true then
    some a
  else
    gdO (a.length+1≤1000000000) <|
    some (a++[b])
def F71j3 (rec2:List Int→Bool→Int→Option (List Int)) (a:Int) (b:List Int) (d:Bool):Option (List Int) :=
  ckO (a+1) <|
  rec2 b d (a+1)
def F71j4 (f:List Int) (g:Int) (rec2:List Int→Bool→Int→Option (List Int)) (a:Int) (b:List Int) (d:Bool):Option (List Int) :=
  gdO (0≤a) <|
  bindO (f[(a).toNat]?) fun e =>
  if e=g then
    F71j3 rec2 a b d
  else
    gdO (b.length+1≤1000000000) <|
    F71j3 rec2 a (b++[e]) d
def F71j5 (a:List Int) (b:Int) (rec2:List Int→Bool→Int→Option (List Int)) (d:List Int) (e:Int) (f:Bool):Option (List Int) :=
  F71j4 a b rec2 e d f
def F71b2 (d:List Int) (b:Int) (rec2:List Int→Bool→Int→Option (List Int)) (e:List Int) (f:Bool) (a:Int):Option (List Int) :=
  if a < (d.length:Int) then
    if f=true then
      gdO (0≤a) <|
      bindO (d[(a).toNat]?) fun g =>
      if b≤g then
        F71j5 d b rec2 e a true
      else
        F71j5 d b rec2 e a true
    else
      gdO (0≤a) <|
      bindO (d[(a).toNat]?) fun h =>
      if b≤h then
        gdO (e.length+1≤1000000000) <|
        F71j4 d b rec2 a (e++[b]) true
      else
        F71j5 d b rec2 e a false
  else
    F71j1 b e f
def F71l2 (a:List Int) (b:Int):Nat→List Int→Bool→Int→Option (List Int)
  | 0=>fun _ _ _=>none
  | m+1=>F71b2 a b (F71l2 a b m)
def F71 (N:Nat) (a:List Int) (b:Int):Option (List Int) :=
  F71l2 a b N [] false 0
def F94j3 (rec2:List Int→Int→Option (List Int)) (a:Int) (b:List Int):Option (List Int) :=
  ckO (a+1) <|
  rec2 b (a+1)
def F94b2 (e:List Ld) (f:Int) (N:Nat) (rec2:List Int→Int→Option (List Int)) (b:List Int) (a:Int):Option (List Int) :=
  if a < (e.length:Int) then
    gdO (0≤a) <|
    bindO (e[(a).toNat]?) fun d =>
    bindO (F147 d.kn d.un f) fun g =>
    if g=true then
      bindO (F71 N b d.src) fun h =>
      F94j3 rec2 a h
    else
      F94j3 rec2 a b
  else
    some b
def F94l2 (a:List Ld) (b:Int) (N:Nat):Nat→List Int→Int→Option (List Int)
  | 0=>fun _ _=>none
  | m+1=>F94b2 a b N (F94l2 a b N m)
def F94j1 (a:List Ld) (b:Int) (N:Nat) (d:List Int):Option (List Int) :=
  F94l2 a b N N d 0
def F94j5 (rec4:List Int→Int→Option (List Int)) (a:Int) (b:List Int):Option (List Int) :=
  ckO (a+1) <|
  rec4 b (a+1)
def F94b4 (e:List Ld) (g:List Ld) (f:Int) (N:Nat) (rec4:List Int→Int→Option (List Int)) (b:List Int) (a:Int):Option (List Int) :=
  if a < (e.length:Int) then
    gdO (0≤a) <|
    bindO (e[(a).toNat]?) fun d =>
    bindO (F147 d.kn d.un f) fun h =>
    if h=true then
      bindO (F71 N b d.src) fun i =>
      F94j5 rec4 a i
    else
      F94j5 rec4 a b
  else
    F94j1 g f N b
def F94l4 (a:List Ld) (b:List Ld) (d:Int) (N:Nat):Nat→List Int→Int→Option (List Int)
  | 0=>fun _ _=>none
  | m+1=>F94b4 a b d N (F94l4 a b d N m)
def F94 (N:Nat) (e:Int) (f:Int) (a:List Ld) (b:List Ld) (g:List Sp) (h:Int) (d:Int):Option (List Int) :=
  F94l4 a b d N N [] 0
def F95 (b:List Int) (a:Int):Option (List Int) :=
  gdO (0≤a) <|
  gdO (0≤(a).toNat∧(a).toNat≤b.length) <|
  gdO (0+(((b.drop 0).take ((a).toNat - 0)).length)≤1000000000) <|
  ckO (a+1) <|
  gdO (0≤(a+1)) <|
  gdO ((a+1).toNat≤b.length∧b.length≤b.length) <|
  gdO ((((b.drop 0).take ((a).toNat - 0)).length)+(((b.drop ((a+1).toNat)).take (b.length - ((a+1).toNat))).length)≤1000000000) <|
  some (((b.drop 0).take ((a).toNat - 0))++((b.drop ((a+1).toNat)).take (b.length - ((a+1).toNat))))
def F33j2 (rec1:List Int→Int→Option (List Int × Int)) (a:Int) (b:List Int):Option (List Int × Int) :=
  ckO (a - 1) <|
  rec1 b (a - 1)
def F33b1 (e:Int) (f:Int) (g:List Ld) (h:List Ld) (i:List Sp) (j:Int) (k:Int) (N:Nat) (rec1:List Int→Int→Option (List Int × Int)) (b:List Int) (a:Int):Option (List Int × Int) :=
  if 0≤a then
    bindO (F95 b a) fun d =>
    bindO (F89 N e f g h i j k false d) fun l =>
    if l=true then
      F33j2 rec1 a b
    else
      F33j2 rec1 a d
  else
    some (b,0)
def F33l1 (a:Int) (b:Int) (d:List Ld) (e:List Ld) (f:List Sp) (g:Int) (h:Int) (N:Nat):Nat→List Int→Int→Option (List Int × Int)
  | 0=>fun _ _=>none
  | m+1=>F33b1 a b d e f g h N (F33l1 a b d e f g h N m)
def F33 (N:Nat) (a:Int) (b:Int) (d:List Ld) (e:List Ld) (f:List Sp) (g:Int) (h:Int):Option (List Int × Int) :=
  bindO (F31 N a b d e f g h) fun i =>
  if i.2=0 then
    if i.1=true then
      some ([],15)
    else
      bindO (F94 N a b d e f g h) fun j =>
      ckO ((j.length:Int) - 1) <|
      F33l1 a b d e f g h N N j ((j.length:Int) - 1)
  else
    some ([],i.2)
def F35b2 (d:Int) (e:Int) (f:List Ld) (g:List Ld) (h:List Sp) (i:Int) (j:Int) (b:List Int) (N:Nat) (rec2:Int→Option Int) (a:Int):Option Int :=
  if a < (b.length:Int) then
    bindO (F95 b a) fun k =>
    bindO (F89 N d e f g h i j false k) fun l =>
    if l=true then
      ckO (a+1) <|
      rec2 (a+1)
    else
      some 15
  else
    some 0
def F35l2 (a:Int) (b:Int) (d:List Ld) (e:List Ld) (f:List Sp) (g:Int) (h:Int) (i:List Int) (N:Nat):Nat→Int→Option Int
  | 0=>fun _=>none
  | m+1=>F35b2 a b d e f g h i N (F35l2 a b d e f g h i N m)
def F35j1 (a:Int) (b:Int) (d:List Ld) (e:List Ld) (f:List Sp) (g:Int) (h:Int) (i:List Int) (N:Nat):Option Int :=
  bindO (F89 N a b d e f g h false i) fun j =>
  if j=true then
    some 15
  else
    F35l2 a b d e f g h i N N 0
def F35j4 (rec3:Int→Option Int) (a:Int):Option Int :=
  ckO (a+1) <|
  rec3 (a+1)
def F35b3 (e:Int) (f:Int) (g:List Ld) (h:List Ld) (i:List Sp) (j:Int) (k:Int) (b:List Int) (N:Nat) (l:List Int) (rec3:Int→Option Int) (a:Int):Option Int :=
  if a < (b.length:Int) then
    gdO (0≤a) <|
    bindO (b[(a).toNat]?) fun d =>
    bindO (F59 N l d) fun m =>
    if m=true then
      if 0 < a then
        ckO (a - 1) <|
        gdO (0≤(a - 1)) <|
        bindO (b[(a - 1).toNat]?) fun n =>
        if d≤n then
          some 15
        else
          F35j4 rec3 a
      else
        F35j4 rec3 a
    else
      some 15
  else
    F35j1 e f g h i j k b N
def F35l3 (a:Int) (b:Int) (d:List Ld) (e:List Ld) (f:List Sp) (g:Int) (h:Int) (i:List Int) (N:Nat) (j:List Int):Nat→Int→Option Int
  | 0=>fun _=>none
  | m+1=>F35b3 a b d e f g h i N j (F35l3 a b d e f g h i N j m)
def F35 (N:Nat) (a:Int) (b:Int) (d:List Ld) (e:List Ld) (f:List Sp) (g:Int) (h:Int) (j:List Int):Option Int :=
  bindO (F88 N a b d e f g 0 h) fun i =>
  if i=0 then
    bindO (F94 N a b d e f g h) fun k =>
    F35l3 a b d e f g h j N k N 0
  else
    some i
end Go.K
