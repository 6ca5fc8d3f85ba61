import Derived.Test.YtinkdlmimiefaaaGreatPKK2
namespace Go.K
open Go.RowKit
set_option linter.unusedVariables false
def F79 (a:Rg):Option Bool :=
  if 0≤a.lo then
    if a.lo≤a.hi then
      if a.hi≤10000 then
        some true
      else
        some false
    else
      some false
  else
    some false
def F80 (a:Int) (b:Int) (d:Int):Option Bool :=
  if b≤a then
    if a≤d then
      some true
    else
      some false
  else
    some false
def F83 (a:Int) (b:Int):Option Bool :=
  bp (F80 a 1 99999) fun d =>
  if d=true then
    bp (F80 b 0 99999) fun e =>
    some e
  else
    some false
def F140 (a:Int):Option Bool :=
  bp (F80 a 0 4166) fun y7 =>
  some y7
def F84 (a:Int) (b:Int):Option Bool :=
  bp (F140 a) fun d =>
  if d=true then
    if b=0 then
      some true
    else
      ckO (a+1) <|
      bp (F80 b (a+1) 4166) fun e =>
      some e
  else
    some false
def F25 (a:Ld):Option Int :=
  bp (F83 a.src a.hr) fun b =>
  if b=true then
    bp (F79 (⟨a.lo,a.hi⟩:Rg)) fun d =>
    if d=true then
      bp (F84 a.kn a.un) fun e =>
      if e=true then
        some 0
      else
        some 10
    else
      some 10
  else
    some 10
def F27 (a:Ld):Option Int :=
  bp (F83 a.src a.hr) fun b =>
  if b=true then
    bp (F79 (⟨a.lo,a.hi⟩:Rg)) fun d =>
    if d=true then
      bp (F84 a.kn a.un) fun e =>
      if e=true then
        some 0
      else
        some 11
    else
      some 11
  else
    some 11
def F29 (a:Sp):Option Int :=
  bp (F83 a.src a.fr) fun b =>
  if b=true then
    bp (F80 a.kd 1 2) fun d =>
    if d=true then
      bp (F80 a.to a.fr 99999) fun e =>
      if e=true then
        bp (F84 a.kn a.un) fun f =>
        if f=true then
          some 0
        else
          some 12
      else
        some 12
    else
      some 12
  else
    some 12
def F59b1 (b:List Int) (d:Int) (rec1:Int→Option Bool) (a:Int):Option Bool :=
  if a < (b.length:Int) then
    gdO (0≤a) <|
    bp (b[(a).toNat]?) fun e =>
    if e=d then
      some true
    else
      ckO (a+1) <|
      rec1 (a+1)
  else
    some false
def F59l1 (a:List Int) (b:Int):Nat→Int→Option Bool
  | 0=>fun _=>none
  | m+1=>F59b1 a b (F59l1 a b m)
def F59 (N:Nat) (a:List Int) (b:Int):Option Bool :=
  F59l1 a b N 0
def F64b3 (d:List Sp) (rec3:List Int→Int→Option (List Int)) (b:List Int) (a:Int):Option (List Int) :=
  if a < (d.length:Int) then
    gdO (0≤a) <|
    bp (d[(a).toNat]?) fun e =>
    gdO (b.length+1≤1000000000) <|
    ckO (a+1) <|
    rec3 (b++[e.src]) (a+1)
  else
    some b
def F64l3 (a:List Sp):Nat→List Int→Int→Option (List Int)
  | 0=>fun _ _=>none
  | m+1=>F64b3 a (F64l3 a m)
def F64j2 (a:List Sp) (N:Nat) (b:List Int):Option (List Int) :=
  F64l3 a N b 0
def F64b4 (d:List Ld) (e:List Sp) (N:Nat) (rec4:List Int→Int→Option (List Int)) (b:List Int) (a:Int):Option (List Int) :=
  if a < (d.length:Int) then
    gdO (0≤a) <|
    bp (d[(a).toNat]?) fun f =>
    gdO (b.length+1≤1000000000) <|
    ckO (a+1) <|
    rec4 (b++[f.src]) (a+1)
  else
    F64j2 e N b
def F64l4 (a:List Ld) (b:List Sp) (N:Nat):Nat→List Int→Int→Option (List Int)
  | 0=>fun _ _=>none
  | m+1=>F64b4 a b N (F64l4 a b N m)
def F64j1 (a:List Ld) (b:List Sp) (N:Nat) (d:List Int):Option (List Int) :=
  F64l4 a b N N d 0
def F64b5 (d:List Ld) (e:List Ld) (f:List Sp) (N:Nat) (rec5:List Int→Int→Option (List Int)) (b:List Int) (a:Int):Option (List Int) :=
  if a < (d.length:Int) then
    gdO (0≤a) <|
    bp (d[(a).toNat]?) fun g =>
    gdO (b.length+1≤1000000000) <|
    ckO (a+1) <|
    rec5 (b++[g.src]) (a+1)
  else
    F64j1 e f N b
def F64l5 (a:List Ld) (b:List Ld) (d:List Sp) (N:Nat):Nat→List Int→Int→Option (List Int)
  | 0=>fun _ _=>none
  | m+1=>F64b5 a b d N (F64l5 a b d N m)
def F64 (N:Nat) (e:Int) (f:Int) (a:List Ld) (b:List Ld) (d:List Sp) (g:Int):Option (List Int) :=
  F64l5 a b d N N [] 0
def F23b4 (N:Nat) (b:List Int) (rec4:Int→Option Int) (a:Int):Option Int :=
  if a < (b.length:Int) then
    gdO (0 < b.length) <|
    gdO (0≤a) <|
    gdO ((a).toNat≤b.length) <|
    bp (b[(a).toNat]?) fun d =>
    bp (F59 N (b.take ((a).toNat)) d) fun e =>
    if e=true then
      some 13
    else
      ckO (a+1) <|
      rec4 (a+1)
  else
    some 0
def F23l4 (N:Nat) (a:List Int):Nat→Int→Option Int
  | 0=>fun _=>none
  | m+1=>F23b4 N a (F23l4 N a m)
def F23j3 (a:Int) (b:Int) (d:List Ld) (e:List Ld) (f:List Sp) (g:Int) (N:Nat):Option Int :=
  bp (F64 N a b d e f g) fun h =>
  F23l4 N h N 0
def F23j6 (rec5:Int→Option Int) (a:Int):Option Int :=
  ckO (a+1) <|
  rec5 (a+1)
def F23b5 (e:Int) (f:Int) (g:List Ld) (h:List Ld) (b:List Sp) (i:Int) (N:Nat) (rec5:Int→Option Int) (a:Int):Option Int :=
  if a < (b.length:Int) then
    gdO (0≤a) <|
    bp (b[(a).toNat]?) fun d =>
    bp (F29 d) fun j =>
    if j=0 then
      if 0 < a then
        ckO (a - 1) <|
        gdO (0≤(a - 1)) <|
        bp (b[(a - 1).toNat]?) fun k =>
        if d.src≤k.src then
          some 13
        else
          F23j6 rec5 a
      else
        F23j6 rec5 a
    else
      some 13
  else
    F23j3 e f g h b i N
def F23l5 (a:Int) (b:Int) (d:List Ld) (e:List Ld) (f:List Sp) (g:Int) (N:Nat):Nat→Int→Option Int
  | 0=>fun _=>none
  | m+1=>F23b5 a b d e f g N (F23l5 a b d e f g N m)
def F23j2 (a:Int) (b:Int) (d:List Ld) (e:List Ld) (f:List Sp) (g:Int) (N:Nat):Option Int :=
  F23l5 a b d e f g N N 0
def F23j8 (rec7:Int→Option Int) (a:Int):Option Int :=
  ckO (a+1) <|
  rec7 (a+1)
def F23b7 (e:Int) (f:Int) (g:List Ld) (b:List Ld) (h:List Sp) (i:Int) (N:Nat) (rec7:Int→Option Int) (a:Int):Option Int :=
  if a < (b.length:Int) then
    gdO (0≤a) <|
    bp (b[(a).toNat]?) fun d =>
    bp (F27 d) fun j =>
    if j=0 then
      if 0 < a then
        ckO (a - 1) <|
        gdO (0≤(a - 1)) <|
        bp (b[(a - 1).toNat]?) fun k =>
        if d.src≤k.src then
          some 13
        else
          F23j8 rec7 a
      else
        F23j8 rec7 a
    else
      some 13
  else
    F23j2 e f g b h i N
def F23l7 (a:Int) (b:Int) (d:List Ld) (e:List Ld) (f:List Sp) (g:Int) (N:Nat):Nat→Int→Option Int
  | 0=>fun _=>none
  | m+1=>F23b7 a b d e f g N (F23l7 a b d e f g N m)
def F23j1 (a:Int) (b:Int) (d:List Ld) (e:List Ld) (f:List Sp) (g:Int) (N:Nat):Option Int :=
  F23l7 a b d e f g N N 0
def F23j10 (rec9:Int→Option Int) (a:Int):Option Int :=
  ckO (a+1) <|
  rec9 (a+1)
def F23b9 (e:Int) (f:Int) (b:List Ld) (g:List Ld) (h:List Sp) (i:Int) (N:Nat) (rec9:Int→Option Int) (a:Int):Option Int :=
  if a < (b.length:Int) then
    gdO (0≤a) <|
    bp (b[(a).toNat]?) fun d =>
    bp (F25 d) fun j =>
    if j=0 then
      if 0 < a then
        ckO (a - 1) <|
        gdO (0≤(a - 1)) <|
        bp (b[(a - 1).toNat]?) fun k =>
        if d.src≤k.src then
          some 13
        else
          F23j10 rec9 a
      else
        F23j10 rec9 a
    else
      some 13
  else
    F23j1 e f b g h i N
def F23l9 (a:Int) (b:Int) (d:List Ld) (e:List Ld) (f:List Sp) (g:Int) (N:Nat):Nat→Int→Option Int
  | 0=>fun _=>none
  | m+1=>F23b9 a b d e f g N (F23l9 a b d e f g N m)
def F23 (N:Nat) (a:Int) (b:Int) (d:List Ld) (e:List Ld) (f:List Sp) (g:Int):Option Int :=
  bp (F79 (⟨a,b⟩:Rg)) fun h =>
  if h=true then
    bp (F80 g 0 60) fun i =>
    if i=true then
      if 60 < (d.length:Int) then
        some 13
      else
        if 60 < (e.length:Int) then
          some 13
        else
          if 60 < (f.length:Int) then
            some 13
          else
            F23l9 a b d e f g N N 0
    else
      some 13
  else
    some 13
def F88 (N:Nat) (a:Int) (b:Int) (d:List Ld) (e:List Ld) (f:List Sp) (g:Int) (h:Int) (i:Int):Option Int :=
  bp (F23 N a b d e f g) fun j =>
  if j=0 then
    bp (F80 h 0 99999) fun k =>
    if k=true then
      bp (F140 i) fun l =>
      if l=true then
        some 0
      else
        some 6
    else
      some 7
  else
    some 13
def F100b1 (b:List Ld) (d:Int) (rec1:Int→Option Int) (a:Int):Option Int :=
  if a < (b.length:Int) then
    gdO (0≤a) <|
    bp (b[(a).toNat]?) fun e =>
    if e.hr≤d then
      ckO (a+1) <|
      rec1 (a+1)
    else
      some a
  else
    some a
def F100l1 (a:List Ld) (b:Int):Nat→Int→Option Int
  | 0=>fun _=>none
  | m+1=>F100b1 a b (F100l1 a b m)
def F100 (N:Nat) (a:List Ld) (d:List Rg) (b:Int):Option Int :=
  F100l1 a b N 0
def F147 (d:Int) (a:Int) (b:Int):Option Bool :=
  if d≤b then
    if a=0 then
      some true
    else
      if b < a then
        some true
      else
        some false
  else
    some false
def F104j2 (rec1:List Ld→Int→Option (List Ld)) (a:Int) (b:List Ld):Option (List Ld) :=
  ckO (a+1) <|
  rec1 b (a+1)
def F104j3 (rec1:List Ld→Int→Option (List Ld)) (d:List Ld) (e:Int) (a:Ld) (b:Int):Option (List Ld) :=
  gdO (0≤b) <|
  gdO ((b).toNat≤d.length) <|
  gdO (0+((d.take ((b).toNat)).length)≤1000000000) <|
  gdO (((d.take ((b).toNat)).length)+1≤1000000000) <|
  gdO ((((d.take ((b).toNat))++[(⟨a.src,a.hr,a.lo,a.hi,a.kn,a.un⟩:Ld)]).length)+((d.drop ((b).toNat)).length)≤1000000000) <|
  F104j2 rec1 e (((d.take ((b).toNat))++[(⟨a.src,a.hr,a.lo,a.hi,a.kn,a.un⟩:Ld)])++(d.drop ((b).toNat)))
def F104j5 (rec1:List Ld→Int→Option (List Ld)) (a:List Ld) (b:Int) (d:Ld) (e:Int):Option (List Ld) :=
  F104j3 rec1 a b d e
def F104b4 (rec1:List Ld→Int→Option (List Ld)) (b:List Ld) (e:Int) (d:Ld) (rec4:Int→Option (List Ld)) (a:Int):Option (List Ld) :=
  if a < (b.length:Int) then
    gdO (0≤a) <|
    bp (b[(a).toNat]?) fun f =>
    if f.hr≤d.hr then
      ckO (a+1) <|
      rec4 (a+1)
    else
      F104j5 rec1 b e d a
  else
    F104j5 rec1 b e d a
def F104l4 (rec1:List Ld→Int→Option (List Ld)) (a:List Ld) (b:Int) (d:Ld):Nat→Int→Option (List Ld)
  | 0=>fun _=>none
  | m+1=>F104b4 rec1 a b d (F104l4 rec1 a b d m)
def F104b1 (e:List Ld) (f:Int) (N:Nat) (rec1:List Ld→Int→Option (List Ld)) (b:List Ld) (a:Int):Option (List Ld) :=
  if a < (e.length:Int) then
    gdO (0≤a) <|
    bp (e[(a).toNat]?) fun d =>
    bp (F147 d.kn d.un f) fun g =>
    if g=true then
      F104l4 rec1 b a d N 0
    else
      F104j2 rec1 a b
  else
    some b
def F104l1 (a:List Ld) (b:Int) (N:Nat):Nat→List Ld→Int→Option (List Ld)
  | 0=>fun _ _=>none
  | m+1=>F104b1 a b N (F104l1 a b N m)
def F104 (N:Nat) (d:Int) (e:Int) (a:List Ld) (f:List Ld) (g:List Sp) (h:Int) (b:Int):Option (List Ld) :=
  F104l1 a b N N [] 0
def F105 (a:Rg) (b:Rg):Option (Int × Int) :=
  some (if b.lo > a.lo then b.lo else a.lo,if b.hi < a.hi then b.hi else a.hi)
def F109j3 (rec2:List Rg→Int→Option (List Ld × List Rg)) (a:Int) (b:List Rg):Option (List Ld × List Rg) :=
  ckO (a+1) <|
  rec2 b (a+1)
def F109b2 (f:List Ld) (i:Int) (N:Nat) (g:List Ld) (rec2:List Rg→Int→Option (List Ld × List Rg)) (a:List Rg) (b:Int):Option (List Ld × List Rg) :=
  if b < (f.length:Int) then
    gdO (0≤b) <|
    bp (f[(b).toNat]?) fun d =>
    bp (F147 d.kn d.un i) fun j =>
    if j=true then
      bp (F100 N g a d.hr) fun e =>
      gdO (0≤e) <|
      bp (a[(e).toNat]?) fun k =>
      bp (F105 k (⟨d.lo,d.hi⟩:Rg)) fun h =>
      F109j3 rec2 b ((a).set ((e).toNat) (⟨h.1,h.2⟩:Rg))
    else
      F109j3 rec2 b a
  else
    some (g,a)
def F109l2 (a:List Ld) (b:Int) (N:Nat) (d:List Ld):Nat→List Rg→Int→Option (List Ld × List Rg)
  | 0=>fun _ _=>none
  | m+1=>F109b2 a b N d (F109l2 a b N d m)
def F109j1 (a:List Ld) (b:Int) (N:Nat) (d:List Ld) (e:List Rg):Option (List Ld × List Rg) :=
  F109l2 a b N d N e 0
def F109b4 (e:List Ld) (f:Int) (N:Nat) (d:List Ld) (rec4:List Rg→Int→Option (List Ld × List Rg)) (a:List Rg) (b:Int):Option (List Ld × List Rg) :=
  if b < (d.length:Int) then
    gdO (a.length+1≤1000000000) <|
    ckO (b+1) <|
    rec4 (a++[(⟨0,10000⟩:Rg)]) (b+1)
  else
    F109j1 e f N d a
def F109l4 (a:List Ld) (b:Int) (N:Nat) (d:List Ld):Nat→List Rg→Int→Option (List Ld × List Rg)
  | 0=>fun _ _=>none
  | m+1=>F109b4 a b N d (F109l4 a b N d m)
def F109j7 (rec6:List Rg→Int→Option (List Ld × List Rg)) (a:Int) (b:List Rg):Option (List Ld × List Rg) :=
  ckO (a+1) <|
  rec6 b (a+1)
def F109j8 (rec6:List Rg→Int→Option (List Ld × List Rg)) (a:List Rg) (b:Int):Option (List Ld × List Rg) :=
  F109j7 rec6 b a
def F109b6 (f:List Ld) (i:Int) (j:List Int) (N:Nat) (g:List Ld) (rec6:List Rg→Int→Option (List Ld × List Rg)) (a:List Rg) (b:Int):Option (List Ld × List Rg) :=
  if b < (f.length:Int) then
    gdO (0≤b) <|
    bp (f[(b).toNat]?) fun d =>
    bp (F147 d.kn d.un i) fun k =>
    if k=true then
      bp (F59 N j d.src) fun l =>
      if l=true then
        bp (F100 N g a d.hr) fun e =>
        gdO (0≤e) <|
        bp (a[(e).toNat]?) fun m =>
        bp (F105 m (⟨d.lo,d.hi⟩:Rg)) fun h =>
        F109j7 rec6 b ((a).set ((e).toNat) (⟨h.1,h.2⟩:Rg))
      else
        F109j8 rec6 a b
    else
      F109j8 rec6 a b
  else
    some (g,a)
def F109l6 (a:List Ld) (b:Int) (d:List Int) (N:Nat) (e:List Ld):Nat→List Rg→Int→Option (List Ld × List Rg)
  | 0=>fun _ _=>none
  | m+1=>F109b6 a b d N e (F109l6 a b d N e m)
def F109j5 (a:List Ld) (b:Int) (d:List Int) (N:Nat) (e:List Ld) (f:List Rg):Option (List Ld × List Rg) :=
  F109l6 a b d N e N f 0
def F109j10 (rec9:List Ld→List Rg→Int→Option (List Ld × List Rg)) (a:List Rg) (b:Int) (d:List Ld):Option (List Ld × List Rg) :=
  gdO (a.length+1≤1000000000) <|
  ckO (b+1) <|
  rec9 d (a++[(⟨0,10000⟩:Rg)]) (b+1)
def F109b9 (g:List Ld) (h:Int) (f:List Int) (N:Nat) (rec9:List Ld→List Rg→Int→Option (List Ld × List Rg)) (b:List Ld) (e:List Rg) (a:Int):Option (List Ld × List Rg) :=
  if a < (b.length:Int) then
    gdO (0≤a) <|
    bp (b[(a).toNat]?) fun d =>
    bp (F59 N f d.src) fun i =>
    if i=true then
      F109j10 rec9 e a b
    else
      F109j10 rec9 e a ((b).set ((a).toNat) (⟨d.src,d.hr,0,10000,d.kn,d.un⟩:Ld))
  else
    F109j5 g h f N b e
def F109l9 (a:List Ld) (b:Int) (d:List Int) (N:Nat):Nat→List Ld→List Rg→Int→Option (List Ld × List Rg)
  | 0=>fun _ _ _=>none
  | m+1=>F109b9 a b d N (F109l9 a b d N m)
def F109 (N:Nat) (a:Int) (b:Int) (f:List Ld) (d:List Ld) (g:List Sp) (h:Int) (e:Int) (i:Bool) (j:List Int):Option (List Ld × List Rg) :=
  if i=true then
    bp (F104 N a b f d g h e) fun k =>
    gdO (0+1≤1000000000) <|
    F109l4 d e N k N [(⟨a,b⟩:Rg)] 0
  else
    bp (F104 N a b f d g h e) fun l =>
    gdO (0+1≤1000000000) <|
    F109l9 d e j N N l [(⟨a,b⟩:Rg)] 0
def F120b3 (b:List Rg) (rec3:Int→Option (List Rg × Bool)) (a:Int):Option (List Rg × Bool) :=
  if a < (b.length:Int) then
    gdO (0≤a) <|
    bp (b[(a).toNat]?) fun d =>
    if d.hi < d.lo then
      some (b,false)
    else
      ckO (a+1) <|
      rec3 (a+1)
  else
    some (b,true)
def F120l3 (a:List Rg):Nat→Int→Option (List Rg × Bool)
  | 0=>fun _=>none
  | m+1=>F120b3 a (F120l3 a m)
def F120j2 (N:Nat) (a:List Rg):Option (List Rg × Bool) :=
  F120l3 a N 0
def F120b4 (g:List Ld) (N:Nat) (rec4:List Rg→Int→Option (List Rg × Bool)) (b:List Rg) (a:Int):Option (List Rg × Bool) :=
  if 0≤a then
    bp (g[(a).toNat]?) fun d =>
    bp (b[(a).toNat]?) fun h =>
    ckO (a+1) <|
    gdO (0≤(a+1)) <|
    bp (b[(a+1).toNat]?) fun e =>
    ckO (e.lo+d.lo) <|
    ckO (e.hi+d.hi) <|
    bp (F105 h (⟨e.lo+d.lo,e.hi+d.hi⟩:Rg)) fun f =>
    ckO (a - 1) <|
    rec4 ((b).set ((a).toNat) (⟨f.1,f.2⟩:Rg)) (a - 1)
  else
    F120j2 N b
def F120l4 (a:List Ld) (N:Nat):Nat→List Rg→Int→Option (List Rg × Bool)
  | 0=>fun _ _=>none
  | m+1=>F120b4 a N (F120l4 a N m)
def F120j1 (a:List Ld) (N:Nat) (b:List Rg):Option (List Rg × Bool) :=
  ckO ((a.length:Int) - 1) <|
  F120l4 a N N b ((a.length:Int) - 1)
def F120b5 (f:List Ld) (N:Nat) (rec5:List Rg→Int→Option (List Rg × Bool)) (b:List Rg) (a:Int):Option (List Rg × Bool) :=
  if a < (f.length:Int) then
    gdO (0≤a) <|
    bp (f[(a).toNat]?) fun d =>
    ckO (a+1) <|
    gdO (0≤(a+1)) <|
    bp (b[(a+1).toNat]?) fun h =>
    bp (b[(a).toNat]?) fun e =>
    ckO (e.lo - d.hi) <|
    ckO (e.hi - d.lo) <|
    bp (F105 h (⟨e.lo - d.hi,e.hi - d.lo⟩:Rg)) fun g =>
    rec5 ((b).set ((a+1).toNat) (⟨g.1,g.2⟩:Rg)) (a+1)
  else
    F120j1 f N b
def F120l5 (a:List Ld) (N:Nat):Nat→List Rg→Int→Option (List Rg × Bool)
  | 0=>fun _ _=>none
  | m+1=>F120b5 a N (F120l5 a N m)
def F120 (N:Nat) (b:List Ld) (a:List Rg):Option (List Rg × Bool) :=
  gdO (0+a.length≤1000000000) <|
  F120l5 b N N a 0
def F71j1 (b:Int) (a:List Int) (d:Bool):Option (List Int) :=
  if d=true then
    some a
  else
    gdO (a.length+1≤1000000000) <|
    some (a++[b])
def F71j3 (rec2:List Int→Bool→Int→Option (List Int)) (a:Int) (b:List Int) (d:Bool):Option (List Int) :=
  ckO (a+1) <|
  rec2 b d (a+1)
def F71j4 (f:List Int) (g:Int) (rec2:List Int→Bool→Int→Option (List Int)) (a:Int) (b:List Int) (d:Bool):Option (List Int) :=
  gdO (0≤a) <|
  bp (f[(a).toNat]?) fun e =>
  if e=g then
    F71j3 rec2 a b d
  else
    gdO (b.length+1≤1000000000) <|
    F71j3 rec2 a (b++[e]) d
def F71j5 (a:List Int) (b:Int) (rec2:List Int→Bool→Int→Option (List Int)) (d:List Int) (e:Int) (f:Bool):Option (List Int) :=
  F71j4 a b rec2 e d f
def F71b2 (d:List Int) (b:Int) (rec2:List Int→Bool→Int→Option (List Int)) (e:List Int) (f:Bool) (a:Int):Option (List Int) :=
  if a < (d.length:Int) then
    if f=true then
      gdO (0≤a) <|
      bp (d[(a).toNat]?) fun g =>
      if b≤g then
        F71j5 d b rec2 e a true
      else
        F71j5 d b rec2 e a true
    else
      gdO (0≤a) <|
      bp (d[(a).toNat]?) fun h =>
      if b≤h then
        gdO (e.length+1≤1000000000) <|
        F71j4 d b rec2 a (e++[b]) true
      else
        F71j5 d b rec2 e a false
  else
    F71j1 b e f
def F71l2 (a:List Int) (b:Int):Nat→List Int→Bool→Int→Option (List Int)
  | 0=>fun _ _ _=>none
  | m+1=>F71b2 a b (F71l2 a b m)
def F71 (N:Nat) (a:List Int) (b:Int):Option (List Int) :=
  F71l2 a b N [] false 0
def F99 (N:Nat) (b:Int) (d:Int) (e:List Ld) (f:List Ld) (g:List Sp) (h:Int) (l:Int) (i:Int):Option (List Ld × List Rg × Int) :=
  bp (F88 N b d e f g h l i) fun j =>
  if j=0 then
    bp (F109 N b d e f g h i true []) fun a =>
    bp (F120 N a.1 a.2) fun k =>
    if k.2=true then
      some (a.1,k.1,0)
    else
      some ([],[],14)
  else
    some ([],[],j)
def F37 (N:Nat) (f:Int) (g:Int) (h:List Ld) (i:List Ld) (j:List Sp) (k:Int) (b:Int) (l:Int):Option (Int × Int × Int) :=
  bp (F99 N f g h i j k b l) fun a =>
  if a.2.2=0 then
    bp (F100 N a.1 a.2.1 b) fun d =>
    gdO (0≤d) <|
    bp (a.2.1[(d).toNat]?) fun e =>
    some (e.lo,e.hi,0)
  else
    some (0,0,a.2.2)
def F110j2 (rec1:List Int→Int→Option (List Int)) (a:Int) (b:List Int):Option (List Int) :=
  ckO (a+1) <|
  rec1 b (a+1)
def F110j3 (d:List Int) (rec1:List Int→Int→Option (List Int)) (a:List Int) (e:Int) (b:Int):Option (List Int) :=
  gdO (0≤b) <|
  bp (d[(b).toNat]?) fun f =>
  gdO (a.length+1≤1000000000) <|
  F110j2 rec1 e (a++[f])
def F110j5 (a:List Int) (rec1:List Int→Int→Option (List Int)) (b:List Int) (d:Int) (e:Int):Option (List Int) :=
  F110j3 a rec1 b d e
def F110j6 (rec4:Int→Int→Option (List Int)) (a:Int) (b:Int):Option (List Int) :=
  ckO (a+1) <|
  rec4 b (a+1)
def F110b4 (f:List Ld) (g:List Int) (i:Int) (rec1:List Int→Int→Option (List Int)) (j:List Ld) (h:List Int) (d:Int) (rec4:Int→Int→Option (List Int)) (a:Int) (b:Int):Option (List Int) :=
  if b < (f.length:Int) then
    gdO (0≤b) <|
    bp (f[(b).toNat]?) fun e =>
    gdO (0≤d) <|
    bp (j[(d).toNat]?) fun k =>
    if e.src < k.src then
      bp (F147 e.kn e.un i) fun l =>
      if l=true then
        ckO (a+1) <|
        F110j6 rec4 b (a+1)
      else
        F110j6 rec4 b a
    else
      F110j5 g rec1 h d a
  else
    F110j5 g rec1 h d a
def F110l4 (a:List Ld) (b:List Int) (d:Int) (rec1:List Int→Int→Option (List Int)) (e:List Ld) (f:List Int) (g:Int):Nat→Int→Int→Option (List Int)
  | 0=>fun _ _=>none
  | m+1=>F110b4 a b d rec1 e f g (F110l4 a b d rec1 e f g m)
def F110b1 (e:List Ld) (f:List Int) (g:Int) (N:Nat) (a:List Ld) (rec1:List Int→Int→Option (List Int)) (b:List Int) (d:Int):Option (List Int) :=
  if d < (a.length:Int) then
    F110l4 e f g rec1 a b d N 0 0
  else
    some b
def F110l1 (a:List Ld) (b:List Int) (d:Int) (N:Nat) (e:List Ld):Nat→List Int→Int→Option (List Int)
  | 0=>fun _ _=>none
  | m+1=>F110b1 a b d N e (F110l1 a b d N e m)
def F110 (N:Nat) (d:Int) (e:Int) (a:List Ld) (f:List Ld) (g:List Sp) (h:Int) (k:Int) (i:List Int) (b:Int):Option (List Int) :=
  bp (F104 N d e a f g h b) fun j =>
  F110l1 a i b N j N [] 0
def F43j2 (rec1:Int→Int→Option Int) (e:(List Ld × List Rg)) (a:Int) (b:Int):Option Int :=
  gdO (0≤a) <|
  bp (e.2[(a).toNat]?) fun d =>
  bp (F80 b d.lo d.hi) fun f =>
  if f=true then
    ckO (a+1) <|
    rec1 b (a+1)
  else
    some 16
def F43b1 (b:(List Ld × List Rg)) (f:List Int) (rec1:Int→Int→Option Int) (d:Int) (a:Int):Option Int :=
  if a≤(f.length:Int) then
    if 0 < a then
      ckO (a - 1) <|
      gdO (0≤(a - 1)) <|
      bp (f[(a - 1).toNat]?) fun e =>
      bp (b.1[(a - 1).toNat]?) fun g =>
      bp (F80 e g.lo g.hi) fun h =>
      if h=true then
        ckO (d - e) <|
        F43j2 rec1 b a (d - e)
      else
        some 16
    else
      F43j2 rec1 b a d
  else
    some 0
def F43l1 (a:(List Ld × List Rg)) (b:List Int):Nat→Int→Int→Option Int
  | 0=>fun _ _=>none
  | m+1=>F43b1 a b (F43l1 a b m)
def F43 (N:Nat) (a:Int) (b:Int) (d:List Ld) (e:List Ld) (f:List Sp) (g:Int) (h:Int) (i:Int) (j:List Int):Option Int :=
  bp (F88 N a b d e f g 0 h) fun k =>
  if k=0 then
    bp (F109 N a b d e f g h true []) fun l =>
    if (j.length:Int)=(l.1.length:Int) then
      bp (F110 N a b d e f g i j h) fun m =>
      F43l1 l m N i 0
    else
      some 16
  else
    some k
def F108b1 (e:Int) (N:Nat) (f:List Int) (g:List Ld) (rec1:Int→Int→Option Int) (b:Int) (a:Int):Option Int :=
  bp (F100 N g [] e) fun h =>
  if a < h then
    gdO (0≤a) <|
    bp (f[(a).toNat]?) fun d =>
    ckO (b - d) <|
    ckO (a+1) <|
    rec1 (b - d) (a+1)
  else
    some b
def F108l1 (a:Int) (N:Nat) (b:List Int) (d:List Ld):Nat→Int→Int→Option Int
  | 0=>fun _ _=>none
  | m+1=>F108b1 a N b d (F108l1 a N b d m)
def F108 (N:Nat) (a:Int) (b:Int) (d:List Ld) (e:List Ld) (f:List Sp) (g:Int) (h:Int) (j:List Int) (k:Int) (i:Int):Option Int :=
  bp (F110 N a b d e f g h j i) fun l =>
  bp (F104 N a b d e f g i) fun m =>
  F108l1 k N l m N h 0
def F41 (N:Nat) (a:Int) (b:Int) (d:List Ld) (e:List Ld) (f:List Sp) (g:Int) (i:Int) (j:List Int) (k:Int) (h:Int):Option (Int × Int) :=
  bp (F88 N a b d e f g k h) fun l =>
  if l=0 then
    bp (F43 N a b d e f g h i j) fun m =>
    if m=0 then
      bp (F108 N a b d e f g i j k h) fun n =>
      some (n,0)
    else
      some (0,16)
  else
    some (0,l)
def F46 (N:Nat) (b:Int) (d:Int) (e:List Ld) (f:List Ld) (g:List Sp) (h:Int) (i:Int) (j:Int):Option (Int × Int) :=
  bp (F37 N b d e f g h i j) fun a =>
  if a.2.2=0 then
    if a.2.1=0 then
      some (1,0)
    else
      if 0 < a.1 then
        some (0,0)
      else
        some (2,0)
  else
    some (0,a.2.2)
def F48j2 (rec1:Int→Int→Int→Option (Int × Int × Int)) (a:Int) (b:Int) (d:Int):Option (Int × Int × Int) :=
  ckO (a - 1) <|
  rec1 b d (a - 1)
def F48j4 (rec1:Int→Int→Int→Option (Int × Int × Int)) (d:Int) (a:Int) (e:Int) (f:Rg) (b:Int):Option (Int × Int × Int) :=
  if f.hi=0 then
    F48j2 rec1 a b e
  else
    F48j2 rec1 a b d
def F48j3 (N:Nat) (rec1:Int→Int→Int→Option (Int × Int × Int)) (b:(List Ld × List Rg × Int)) (h:Int) (e:Int) (f:Int) (a:Int):Option (Int × Int × Int) :=
  bp (F100 N b.1 b.2.1 a) fun g =>
  gdO (0≤g) <|
  bp (b.2.1[(g).toNat]?) fun d =>
  if d.lo=0 then
    F48j4 rec1 e f a d a
  else
    F48j4 rec1 e f a d h
def F48b1 (N:Nat) (b:(List Ld × List Rg × Int)) (rec1:Int→Int→Int→Option (Int × Int × Int)) (d:Int) (e:Int) (a:Int):Option (Int × Int × Int) :=
  if 0≤a then
    if 0 < a then
      ckO (a - 1) <|
      gdO (0≤(a - 1)) <|
      bp (b.1[(a - 1).toNat]?) fun f =>
      F48j3 N rec1 b d e a f.hr
    else
      F48j3 N rec1 b d e a 0
  else
    some (d,e,0)
def F48l1 (N:Nat) (a:(List Ld × List Rg × Int)):Nat→Int→Int→Int→Option (Int × Int × Int)
  | 0=>fun _ _ _=>none
  | m+1=>F48b1 N a (F48l1 N a m)
def F48 (N:Nat) (b:Int) (d:Int) (e:List Ld) (f:List Ld) (g:List Sp) (h:Int) (i:Int):Option (Int × Int × Int) :=
  bp (F99 N b d e f g h 0 i) fun a =>
  if a.2.2=0 then
    F48l1 N a N 100000 100000 (a.1.length:Int)
  else
    some (0,0,a.2.2)
def F117j2 (rec1:Int→Option Bool) (a:Int):Option Bool :=
  ckO (a+1) <|
  rec1 (a+1)
def F117b1 (d:List Sp) (e:Int) (f:Int) (rec1:Int→Option Bool) (a:Int):Option Bool :=
  if a < (d.length:Int) then
    gdO (0≤a) <|
    bp (d[(a).toNat]?) fun b =>
    bp (F147 b.kn b.un f) fun g =>
    if g=true then
      bp (F80 e b.fr b.to) fun h =>
      if h=true then
        some true
      else
        F117j2 rec1 a
    else
      F117j2 rec1 a
  else
    some false
def F117l1 (a:List Sp) (b:Int) (d:Int):Nat→Int→Option Bool
  | 0=>fun _=>none
  | m+1=>F117b1 a b d (F117l1 a b d m)
def F117 (N:Nat) (f:Int) (g:Int) (h:List Ld) (i:List Ld) (b:List Sp) (j:Int) (a:Int) (d:Int):Option Bool :=
  bp (F80 (a.tmod 24) 8 18) fun e =>
  if e=true then
    F117l1 b a d N 0
  else
    some true
def F50 (N:Nat) (a:Int) (b:Int) (d:List Ld) (e:List Ld) (f:List Sp) (g:Int) (h:Int) (i:Int):Option (Bool × Int) :=
  bp (F88 N a b d e f g h i) fun j =>
  if j=0 then
    bp (F117 N a b d e f g h i) fun k =>
    some (k,0)
  else
    some (false,j)
def F52j2 (N:Nat) (a:(List Ld × List Rg × Int)) (d:(List Ld × List Rg)) (b:Int) (e:Bool) (f:List Rg):Option (Int × Int) :=
  bp (F120 N d.1 f) fun g =>
  if g.2=true then
    if e=true then
      bp (a.2.1[(b).toNat]?) fun h =>
      if h.hi=0 then
        some (1,0)
      else
        some (2,0)
    else
      bp (a.2.1[(b).toNat]?) fun i =>
      if i.hi=0 then
        some (2,0)
      else
        some (2,0)
  else
    some (0,0)
def F52j1 (j:Int) (k:Int) (l:List Ld) (m:List Ld) (n:List Sp) (h:Int) (i:Int) (o:Int) (N:Nat) (b:(List Ld × List Rg × Int)) (p:Bool):Option (Int × Int) :=
  bp (F109 N j k l m n h o true []) fun d =>
  bp (F100 N b.1 b.2.1 i) fun a =>
  gdO (0≤a) <|
  bp (d.2[(a).toNat]?) fun q =>
  bp (F105 q (⟨0,0⟩:Rg)) fun e =>
  if p=true then
    F52j2 N b d a true ((d.2).set ((a).toNat) (⟨e.1,e.2⟩:Rg))
  else
    bp (F100 N b.1 b.2.1 (i - (24 * h))) fun f =>
    gdO (0≤f) <|
    bp (((d.2).set ((a).toNat) (⟨e.1,e.2⟩:Rg))[(f).toNat]?) fun r =>
    bp (F105 r (⟨1,10000⟩:Rg)) fun g =>
    bp (b.2.1[(f).toNat]?) fun s =>
    if 0 < s.lo then
      F52j2 N b d a true (((d.2).set ((a).toNat) (⟨e.1,e.2⟩:Rg)).set ((f).toNat) (⟨g.1,g.2⟩:Rg))
    else
      F52j2 N b d a false (((d.2).set ((a).toNat) (⟨e.1,e.2⟩:Rg)).set ((f).toNat) (⟨g.1,g.2⟩:Rg))
def F52 (N:Nat) (d:Int) (e:Int) (f:List Ld) (g:List Ld) (h:List Sp) (a:Int) (b:Int) (i:Int):Option (Int × Int) :=
  bp (F99 N d e f g h a b i) fun j =>
  if j.2.2=0 then
    bp (F117 N d e f g h a b i) fun k =>
    if k=true then
      some (0,0)
    else
      ckO (24 * a) <|
      ckO (b - (24 * a)) <|
      if a=0 then
        F52j1 d e f g h a b i N j true
      else
        if (b - (24 * a)) < 0 then
          F52j1 d e f g h a b i N j true
        else
          F52j1 d e f g h a b i N j false
  else
    some (0,j.2.2)
def F54j1 (b:Int) (d:Int) (e:List Ld) (f:List Ld) (g:List Sp) (h:Int) (i:Int) (j:Int) (N:Nat) (a:(Int × Int)) (k:Bool):Option (Bool × Int) :=
  if k=true then
    if a.1=0 then
      bp (F117 N b d e f g h i j) fun l =>
      some (!l,0)
    else
      some (false,0)
  else
    if a.1=0 then
      some (false,0)
    else
      some (false,0)
def F54 (N:Nat) (d:Int) (e:Int) (f:List Ld) (g:List Ld) (h:List Sp) (a:Int) (k:Int) (l:List Int) (b:Int) (i:Int):Option (Bool × Int) :=
  bp (F41 N d e f g h a k l b i) fun j =>
  if j.2=0 then
    ckO (24 * a) <|
    ckO (b - (24 * a)) <|
    if a=0 then
      F54j1 d e f g h a b i N j true
    else
      if (b - (24 * a)) < 0 then
        F54j1 d e f g h a b i N j true
      else
        bp (F108 N d e f g h a k l (b - (24 * a)) i) fun m =>
        if 0 < m then
          F54j1 d e f g h a b i N j true
        else
          F54j1 d e f g h a b i N j false
  else
    some (false,j.2)
def F65j3 (a:Int) (b:Int) (e:List Ld) (f:List Ld) (g:List Sp) (d:Int) (h:Int) (N:Nat) (i:List Ld) (j:List Ld) (k:List Sp):Option (Int × Int × List Ld × List Ld × List Sp × Int × Bool) :=
  bp (F64 N a b e f g d) fun l =>
  bp (F59 N l h) fun m =>
  some (a,b,i,j,k,d,m)
def F65j5 (rec4:List Sp→Int→Option (Int × Int × List Ld × List Ld × List Sp × Int × Bool)) (a:Int) (b:List Sp):Option (Int × Int × List Ld × List Ld × List Sp × Int × Bool) :=
  ckO (a+1) <|
  rec4 b (a+1)
def F65b4 (g:Int) (h:Int) (i:List Ld) (j:List Ld) (e:List Sp) (k:Int) (f:Int) (N:Nat) (l:List Ld) (m:List Ld) (rec4:List Sp→Int→Option (Int × Int × List Ld × List Ld × List Sp × Int × Bool)) (d:List Sp) (b:Int):Option (Int × Int × List Ld × List Ld × List Sp × Int × Bool) :=
  if b < (e.length:Int) then
    gdO (0≤b) <|
    bp (e[(b).toNat]?) fun a =>
    if a.src=f then
      F65j5 rec4 b d
    else
      gdO (d.length+1≤1000000000) <|
      F65j5 rec4 b (d++[(⟨a.src,a.kd,a.fr,a.to,a.kn,a.un⟩:Sp)])
  else
    F65j3 g h i j e k f N l m d
def F65l4 (a:Int) (b:Int) (d:List Ld) (e:List Ld) (f:List Sp) (g:Int) (h:Int) (N:Nat) (i:List Ld) (j:List Ld):Nat→List Sp→Int→Option (Int × Int × List Ld × List Ld × List Sp × Int × Bool)
  | 0=>fun _ _=>none
  | m+1=>F65b4 a b d e f g h N i j (F65l4 a b d e f g h N i j m)
def F65j2 (a:Int) (b:Int) (d:List Ld) (e:List Ld) (f:List Sp) (g:Int) (h:Int) (N:Nat) (i:List Ld) (j:List Ld):Option (Int × Int × List Ld × List Ld × List Sp × Int × Bool) :=
  F65l4 a b d e f g h N i j N [] 0
def F65j7 (rec6:List Ld→Int→Option (Int × Int × List Ld × List Ld × List Sp × Int × Bool)) (a:Int) (b:List Ld):Option (Int × Int × List Ld × List Ld × List Sp × Int × Bool) :=
  ckO (a+1) <|
  rec6 b (a+1)
def F65b6 (g:Int) (h:Int) (i:List Ld) (e:List Ld) (j:List Sp) (k:Int) (f:Int) (N:Nat) (l:List Ld) (rec6:List Ld→Int→Option (Int × Int × List Ld × List Ld × List Sp × Int × Bool)) (d:List Ld) (b:Int):Option (Int × Int × List Ld × List Ld × List Sp × Int × Bool) :=
  if b < (e.length:Int) then
    gdO (0≤b) <|
    bp (e[(b).toNat]?) fun a =>
    if a.src=f then
      F65j7 rec6 b d
    else
      gdO (d.length+1≤1000000000) <|
      F65j7 rec6 b (d++[(⟨a.src,a.hr,a.lo,a.hi,a.kn,a.un⟩:Ld)])
  else
    F65j2 g h i e j k f N l d
def F65l6 (a:Int) (b:Int) (d:List Ld) (e:List Ld) (f:List Sp) (g:Int) (h:Int) (N:Nat) (i:List Ld):Nat→List Ld→Int→Option (Int × Int × List Ld × List Ld × List Sp × Int × Bool)
  | 0=>fun _ _=>none
  | m+1=>F65b6 a b d e f g h N i (F65l6 a b d e f g h N i m)
def F65j1 (a:Int) (b:Int) (d:List Ld) (e:List Ld) (f:List Sp) (g:Int) (h:Int) (N:Nat) (i:List Ld):Option (Int × Int × List Ld × List Ld × List Sp × Int × Bool) :=
  F65l6 a b d e f g h N i N [] 0
def F65j9 (rec8:List Ld→Int→Option (Int × Int × List Ld × List Ld × List Sp × Int × Bool)) (a:Int) (b:List Ld):Option (Int × Int × List Ld × List Ld × List Sp × Int × Bool) :=
  ckO (a+1) <|
  rec8 b (a+1)
def F65b8 (g:Int) (h:Int) (e:List Ld) (i:List Ld) (j:List Sp) (k:Int) (f:Int) (N:Nat) (rec8:List Ld→Int→Option (Int × Int × List Ld × List Ld × List Sp × Int × Bool)) (d:List Ld) (b:Int):Option (Int × Int × List Ld × List Ld × List Sp × Int × Bool) :=
  if b < (e.length:Int) then
    gdO (0≤b) <|
    bp (e[(b).toNat]?) fun a =>
    if a.src=f then
      F65j9 rec8 b d
    else
      gdO (d.length+1≤1000000000) <|
      F65j9 rec8 b (d++[(⟨a.src,a.hr,a.lo,a.hi,a.kn,a.un⟩:Ld)])
  else
    F65j1 g h e i j k f N d
def F65l8 (a:Int) (b:Int) (d:List Ld) (e:List Ld) (f:List Sp) (g:Int) (h:Int) (N:Nat):Nat→List Ld→Int→Option (Int × Int × List Ld × List Ld × List Sp × Int × Bool)
  | 0=>fun _ _=>none
  | m+1=>F65b8 a b d e f g h N (F65l8 a b d e f g h N m)
def F65 (N:Nat) (a:Int) (b:Int) (d:List Ld) (e:List Ld) (f:List Sp) (g:Int) (h:Int):Option (Int × Int × List Ld × List Ld × List Sp × Int × Bool) :=
  F65l8 a b d e f g h N N [] 0
def F56j2 (rec1:List Int→Int→Option (List Int × Int)) (a:Int) (b:List Int):Option (List Int × Int) :=
  ckO (a+1) <|
  rec1 b (a+1)
def F56j3 (N:Nat) (rec1:List Int→Int→Option (List Int × Int)) (a:List Int) (b:Int) (d:Ld):Option (List Int × Int) :=
  bp (F71 N a d.hr) fun e =>
  F56j2 rec1 b e
def F56b1 (j:Int) (k:Int) (f:List Ld) (l:List Ld) (m:List Sp) (n:Int) (i:Int) (N:Nat) (a:(Int × Int × List Ld × List Ld × List Sp × Int × Bool)) (rec1:List Int→Int→Option (List Int × Int)) (d:List Int) (b:Int):Option (List Int × Int) :=
  if b < (f.length:Int) then
    gdO (0≤b) <|
    bp (f[(b).toNat]?) fun e =>
    bp (F37 N j k f l m n e.hr i) fun g =>
    bp (F37 N a.1 a.2.1 a.2.2.1 a.2.2.2.1 a.2.2.2.2.1 a.2.2.2.2.2.1 e.hr i) fun h =>
    if (decide (g.1=h.1) && decide (g.2.1=h.2.1))=true then
      if g.2.2=h.2.2 then
        F56j2 rec1 b d
      else
        F56j3 N rec1 d b e
    else
      F56j3 N rec1 d b e
  else
    some (d,0)
def F56l1 (a:Int) (b:Int) (d:List Ld) (e:List Ld) (f:List Sp) (g:Int) (h:Int) (N:Nat) (i:(Int × Int × List Ld × List Ld × List Sp × Int × Bool)):Nat→List Int→Int→Option (List Int × Int)
  | 0=>fun _ _=>none
  | m+1=>F56b1 a b d e f g h N i (F56l1 a b d e f g h N i m)
def F56 (N:Nat) (a:Int) (b:Int) (d:List Ld) (e:List Ld) (f:List Sp) (g:Int) (k:Int) (h:Int):Option (List Int × Int) :=
  bp (F88 N a b d e f g 0 h) fun i =>
  if i=0 then
    bp (F65 N a b d e f g k) fun j =>
    if j.2.2.2.2.2.2=true then
      F56l1 a b d e f g h N j N [] 0
    else
      some ([],3)
  else
    some ([],i)
end Go.K
