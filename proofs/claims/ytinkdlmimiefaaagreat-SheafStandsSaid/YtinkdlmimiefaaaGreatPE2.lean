import Derived.Test.YtinkdlmimiefaaaGreatPE
import Derived.Test.YtinkdlmimiefaaaGreatPEb
namespace Go.K
open Go.RowKit
set_option linter.unusedVariables false
def F42 (a:Int) (b:Int) (d:List Ld) (e:List Ld) (f:List Sp) (g:Int) (h:Int) (i:Int) (j:List Int):Option Int :=
  some (cartingI (⟨a,b,d,e,f,g⟩:Pl) h i j)
def F40 (a:Int) (b:Int) (d:List Ld) (e:List Ld) (f:List Sp) (g:Int) (h:Int) (i:List Int) (j:Int) (k:Int):Option (Int × Int) :=
  some (leftI (⟨a,b,d,e,f,g⟩:Pl) h i j k)
def F44 (a:Int) (b:Int) (d:List Ld) (e:List Ld) (f:List Sp) (g:Int) (h:Int) (i:Int) (j:Bool):Option (Int × List Int × Int) :=
  some (gn (⟨a,b,d,e,f,g⟩:Pl) h i j)
def F5j3 (rec2:Int→Option Bool) (a:Int):Option Bool :=
  ckO (a+1) <|
  rec2 (a+1)
def F5j5 (rec2:Int→Option Bool) (a:Int):Option Bool :=
  F5j3 rec2 a
def F5j4 (g:Int) (h:Int) (i:List Ld) (j:List Ld) (k:List Sp) (l:Int) (m:Int) (n:Int) (N:Nat) (rec2:Int→Option Bool) (b:(Int × Int × Int)) (a:Int) (e:Int) (f:List Int) (o:Int):Option Bool :=
  if o=b.2.2 then
    if b.2.2=0 then
      bp (F41 N g h i j k l e f m n) fun d =>
      if d.2=0 then
        if a=1 then
          if d.1=b.2.1 then
            if a=0 then
              if d.1=b.1 then
                F5j5 rec2 a
              else
                some false
            else
              F5j5 rec2 a
          else
            some false
        else
          if a=0 then
            if d.1=b.1 then
              F5j5 rec2 a
            else
              some false
          else
            F5j5 rec2 a
      else
        some false
    else
      if e=0 then
        if (f.length:Int)=0 then
          F5j3 rec2 a
        else
          some false
      else
        some false
  else
    some false
def F5b2 (a:Int) (b:Int) (d:List Ld) (e:List Ld) (f:List Sp) (g:Int) (h:Int) (i:Int) (N:Nat) (m:(Int × Int × Int)) (rec2:Int→Option Bool) (j:Int):Option Bool :=
  if j < 2 then
    if j=1 then
      bp (F44 a b d e f g h i true) fun k =>
      F5j4 a b d e f g h i N rec2 m j k.1 k.2.1 k.2.2
    else
      bp (F44 a b d e f g h i false) fun l =>
      F5j4 a b d e f g h i N rec2 m j l.1 l.2.1 l.2.2
  else
    some true
def F5l2 (a:Int) (b:Int) (d:List Ld) (e:List Ld) (f:List Sp) (g:Int) (h:Int) (i:Int) (N:Nat) (j:(Int × Int × Int)):Nat→Int→Option Bool
  | 0=>fun _=>none
  | m+1=>F5b2 a b d e f g h i N j (F5l2 a b d e f g h i N j m)
def F5j1 (a:Int) (b:Int) (d:List Ld) (e:List Ld) (f:List Sp) (g:Int) (j:Int) (k:List Int) (i:Int) (p:Int) (h:Int) (N:Nat) (s:Bool):Option Bool :=
  bp (F36 a b d e f g i h) fun m =>
  bp (F37 N a b d e f g i h) fun l =>
  bp (F38 a b d e f g p h) fun n =>
  bp (F39 N a b d e f g p h) fun o =>
  bp (F40 a b d e f g j k i h) fun q =>
  bp (F41 N a b d e f g j k i h) fun r =>
  if s=true then
    if (decide (m.1=l.1) && decide (m.2.1=l.2.1))=true then
      if m.2.2=l.2.2 then
        if (decide (n.1=o.1) && decide (n.2.1=o.2.1))=true then
          if n.2.2=o.2.2 then
            if q.1=r.1 then
              if q.2=r.2 then
                bp (F42 a b d e f g h j k) fun t =>
                bp (F43 N a b d e f g h j k) fun u =>
                if t=u then
                  F5l2 a b d e f g i h N l N 0
                else
                  some false
              else
                some false
            else
              some false
          else
            some false
        else
          some false
      else
        some false
    else
      some false
  else
    some false
def F5 (N:Nat) (a:Int) (b:Int) (d:List Ld) (e:List Ld) (f:List Sp) (g:Int) (h:Int) (i:List Int) (j:Int) (k:Int) (l:Int):Option Bool :=
  bp (F13 N) fun m =>
  if m=true then
    F5j1 a b d e f g h i j k l N true
  else
    F5j1 a b d e f g h i j k l N false
end Go.K
