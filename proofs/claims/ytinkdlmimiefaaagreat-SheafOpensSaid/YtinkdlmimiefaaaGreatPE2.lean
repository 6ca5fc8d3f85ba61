import Derived.Test.YtinkdlmimiefaaaGreatPE
import Derived.Test.YtinkdlmimiefaaaGreatPEb
namespace Go.K
open Go.RowKit
set_option linter.unusedVariables false
def F53 (a:Int) (b:Int) (d:List Ld) (e:List Ld) (f:List Sp) (g:Int) (h:Int) (i:List Int) (j:Int) (k:Int):Option (Bool × Int) :=
  some (trulyI (⟨a,b,d,e,f,g⟩:Pl) h i j k)
def F6j2 (m:Bool) (d:(Int × Int)) (e:(Int × Int)) (a:(Int × Int × Int)) (b:(Int × Int × Int)) (f:(Bool × Int)) (g:(Bool × Int)) (h:(Int × Int)) (i:(Int × Int)) (j:(Bool × Int)) (k:(Bool × Int)) (n:(List Int × Int)) (o:(List Int × Int)) (l:Bool):Option Bool :=
  if m=true then
    if l=true then
      if d.1=e.1 then
        if d.2=e.2 then
          if (decide (a.1=b.1) && decide (a.2.1=b.2.1))=true then
            if a.2.2=b.2.2 then
              if f.1=g.1 then
                if f.2=g.2 then
                  if h.1=i.1 then
                    if h.2=i.2 then
                      if j.1=k.1 then
                        if j.2=k.2 then
                          if n.2=o.2 then
                            some true
                          else
                            some false
                        else
                          some false
                      else
                        some false
                    else
                      some false
                  else
                    some false
                else
                  some false
              else
                some false
            else
              some false
          else
            some false
        else
          some false
      else
        some false
    else
      if d.1=e.1 then
        if d.2=e.2 then
          if (decide (a.1=b.1) && decide (a.2.1=b.2.1))=true then
            if a.2.2=b.2.2 then
              if f.1=g.1 then
                if f.2=g.2 then
                  if h.1=i.1 then
                    if h.2=i.2 then
                      if j.1=k.1 then
                        if j.2=k.2 then
                          some false
                        else
                          some false
                      else
                        some false
                    else
                      some false
                  else
                    some false
                else
                  some false
              else
                some false
            else
              some false
          else
            some false
        else
          some false
      else
        some false
  else
    if l=true then
      some false
    else
      some false
def F6j1 (a:Int) (b:Int) (d:List Ld) (e:List Ld) (f:List Sp) (g:Int) (l:Int) (m:List Int) (i:Int) (n:Int) (h:Int) (N:Nat) (o:Bool):Option Bool :=
  bp (F45 a b d e f g i h) fun p =>
  bp (F46 N a b d e f g i h) fun q =>
  bp (F47 a b d e f g h) fun r =>
  bp (F48 N a b d e f g h) fun s =>
  bp (F49 a b d e f g i h) fun t =>
  bp (F50 N a b d e f g i h) fun u =>
  bp (F51 a b d e f g i h) fun v =>
  bp (F52 N a b d e f g i h) fun x =>
  bp (F53 a b d e f g l m i h) fun y =>
  bp (F54 N a b d e f g l m i h) fun z =>
  bp (F55 N a b d e f g n h) fun j =>
  bp (F56 N a b d e f g n h) fun k =>
  bp (F21 N j.1 k.1) fun A =>
  if A=true then
    F6j2 o p q r s t u v x y z j k true
  else
    F6j2 o p q r s t u v x y z j k false
def F6 (N:Nat) (a:Int) (b:Int) (d:List Ld) (e:List Ld) (f:List Sp) (g:Int) (h:Int) (i:List Int) (j:Int) (k:Int) (l:Int):Option Bool :=
  bp (F13 N) fun m =>
  if m=true then
    F6j1 a b d e f g h i j k l N true
  else
    F6j1 a b d e f g h i j k l N false
end Go.K
