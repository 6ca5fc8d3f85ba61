/- Kh, Ki, Kj, Kk, Kl, Lf, Lg, Lh. -/
import Derived.Test.YtkmnjiejlgoglaaEKK1
import Derived.Laws.StructEq
import Derived.Laws.MakeOwn
set_option linter.unusedVariables false
set_option linter.unusedSimpArgs false
section
namespace Go.K
open Go.RowKit

section join
variable {B:List Nat} {w0 w w':World} {L N:List (Option Nat × Obj)}
theorem Inv.join (h:Inv B w0 w L) (hN:Inv [] w w' N):Inv B w0 w' (N++L):=by
  have hb:=hN.below
  have old:∀ (i b:Nat) (o:Obj),(N++L)[i]?=some (some b,o)→(i < N.length∧N[i]?=some (some b,o))∨(N.length≤i∧L[i - N.length]?=some (some b,o)):=by
    intro i b o hi
    rcases Nat.lt_or_ge i N.length with hlt | hge
    · exact .inl ⟨hlt,by rwa [List.getElem?_append_left hlt] at hi⟩
    exact .inr ⟨hge,by rwa [List.getElem?_append_right hge] at hi⟩
  have new:∀ (i b:Nat) (o:Obj),N[i]?=some (some b,o)→w.heap.size≤b:=fun i b o hi=>by
    rcases (hN.has i b o hi).2 with h1 | h1
    · exact h1
    cases h1
  refine ⟨h.but.thenBelow hb,fun i b o hi=>?_,fun i j b c o p hi hj hij=>?_⟩
  · rcases old i b o hi with ⟨_,h1⟩ | ⟨_,h1⟩
    · exact ⟨(hN.has i b o h1).1,.inl (Nat.le_trans h.but.size (new i b o h1))⟩
    exact ⟨(hb.block b (h.lt h1)).trans (h.has _ b o h1).1,(h.has _ b o h1).2⟩
  rcases old i b o hi with ⟨_,h1⟩ | ⟨_,h1⟩ <;> rcases old j c p hj with ⟨_,h2⟩ | ⟨_,h2⟩
  · exact hN.sep i j b c o p h1 h2 hij
  · have:=new i b o h1; have:=h.lt h2; omega
  · have:=new j c p h2; have:=h.lt h1; omega
  exact h.sep _ _ b c o p h1 h2 (by omega)
theorem Inv.nil_of (h:Below w.heap.size w w'):Inv [] w w' []:=⟨.of_below h,fun i b o h=>(by simp at h),fun i j b c o p h=>(by simp at h)⟩
theorem Inv.nils (h:Inv B w0 w L) (i:Nat) (o:Obj) (hi:L[i]?=some (none,o)) (o':Obj):Inv B w0 w (L.set i (none,o')) :=
  h.turn hi rfl rfl .rfl (Nat.le_refl _) (fun _ _ _=>rfl) (fun b hb=>by cases hb)
end join

structure Pl where
  lo:Int
  hi:Int
  loads:List Ld
  stands:List Ld
  spells:List Sp
  geese:Int

structure PlotIn (w:World) (p:Pl) (A1:Option Addr) (n1:Nat) (A2:Option Addr) (n2:Nat) (A3:Option Addr) (n3:Nat):Prop where
  c1:bi w A1 (al eLd p.loads)
  m1:n1=p.loads.length
  c2:bi w A2 (al eLd p.stands)
  m2:n2=p.stands.length
  c3:bi w A3 (al eSp p.spells)
  m3:n3=p.spells.length
  b1:n1≤9223372036854775807
  b2:n2≤9223372036854775807
  b3:n3≤9223372036854775807
theorem PlotIn.inv0 {w0 w:World} {L:List (Option Nat × Obj)} {p:Pl} {A1 A2 A3:Option Addr} {n1 n2 n3:Nat} (h:PlotIn w0 p A1 n1 A2 n2 A3 n3) (hI:Inv [] w0 w L):PlotIn w p A1 n1 A2 n2 A3 n3 :=
  ⟨h.c1.inv0 hI,h.m1,h.c2.inv0 hI,h.m2,h.c3.inv0 hI,h.m3,h.b1,h.b2,h.b3⟩
section app
variable {P:Program} {ρ:Env} {B:List Nat} {w w0:World} {L:List (Option Nat × Obj)} {R:Value→World→Prop} {d:Option Nat} {ty:TypeId} {pos:String} {af:Array Edge} {gd:Option (Nat × Bool)}
theorem s_app (hI:Inv B w0 w L) {t e:TypeId} {z:Value} {k bytes:Nat} (ht:P.underlying t=some (.slice e)) (hinfo:(P.info? e).map (fun i=>(i.zero,i.size,i.bytes))=some (some z,k,bytes)) (hzs:z.cells.size=k) (hk0:Nat.blt 0 k=true)
    {x y:Operand} (ix:Nat) {g:Option Nat} {n c:Nat} {cl xs:List Value} (hx:ev ρ x=slv g n c) (hL:L[ix]?=some (g,blk cl e)) (hr:Row k g n c cl xs)
    {A:Option Addr} {m c2:Nat} (news:List Value) (hy:ev ρ y=.slice A m c2) (hl:news.length=m * k) (hc:bi w A news) (h1:∀ u∈news,u.oneCell'=true) (hmax:n+m≤9223372036854775807) (hbytes:(n+m) * bytes≤140737488355328)
    (kk:∀ g' c' cl' w',Inv B w0 w' (L.set ix (g',blk cl' e))→Row k g' (n+m) c' cl' (xs++news)→R (slv g' (n+m) c') w') :
    cw P ⟨d,.call ⟨.builtin .append,#[x,y],#[t,t]⟩,ty,pos,af,gd⟩ ρ w R:=by
  cases hq:P.info? e with
  | none=>rw [hq] at hinfo; cases hinfo
  | some i =>
    rw [hq] at hinfo
    simp only [Option.map_some,Option.some.injEq,Prod.mk.injEq] at hinfo
    exact s_append hI ht hq hinfo.1 hinfo.2.1 hinfo.2.2 hzs (by simpa [Nat.blt_eq] using hk0) ix hx hL hr hy hl hc h1 (by simpa [maxLen] using hmax) hbytes kk
end app
section rows
variable {α:Type} {enc:α→List Value} {k:Nat} {g:Option Nat} {n c:Nat} {cl:List Value}
theorem Row.snoc {X:List α} {vs:List Value} (h:Row k g n c cl (al enc X++vs)) (y:α) (he:enc y=vs):Row k g n c cl (al enc (X++[y])):=by
  rw [gc,flat_one,he]; exact h
theorem Row.more {X Y:List α} (h:Row k g n c cl (al enc X++al enc Y)):Row k g n c cl (al enc (X++Y)):=by rw [gc]; exact h
theorem Row.to {X Y:List α} (h:Row k g n c cl (al enc X)) (e:X=Y) {m:Nat} (hm:n=m):Row k g m c cl (al enc Y):=by subst e; subst hm; exact h
theorem flat_cell (h:∀ x,∀ u∈enc x,u.oneCell'=true) (l:List α):∀ u∈al enc l,u.oneCell'=true:=by
  intro u hu
  simp only [al,List.mem_flatMap] at hu
  obtain ⟨x,_,hx⟩:=hu
  exact h x u hx
end rows
end Go.K
end
section
namespace Go.K
open Go.RowKit

def CellsB (B:List Nat) (w:World) (A:Option Addr) (xs:List Value):Prop:=0 < xs.length→∃ b off,A=some ⟨b,off,none⟩∧b < w.heap.size∧b ∉ B∧∀ j u,xs[j]?=some u→w.cell? ⟨b,off+j,none⟩=some u
theorem CellsB.cells {B:List Nat} {w:World} {A:Option Addr} {xs:List Value} (h:CellsB B w A xs):bi w A xs:=fun hx=>by
  obtain ⟨b,off,h1,h2,_,h4⟩:=h hx
  exact ⟨b,off,h1,h2,h4⟩
theorem CellsB.inv {B:List Nat} {w0 w:World} {L:List (Option Nat × Obj)} {A:Option Addr} {xs:List Value} (h:CellsB B w0 A xs) (hI:Inv B w0 w L):CellsB B w A xs:=fun hx=>by
  obtain ⟨b,off,hA,hlt,hB,hc⟩:=h hx
  refine ⟨b,off,hA,Nat.lt_of_lt_of_le hlt hI.but.size,hB,fun j u hj=>?_⟩
  have:=hI.but.block b hlt hB
  rw [← hc j u hj]
  simp [World.cell?,this]

section lent
variable {B:List Nat} {w0 w w':World} {L N:List (Option Nat × Obj)}
theorem Inv.back (h:Inv B w0 w L) (i:Nat) {g:Option Nat} {o:Obj} (hi:L[i]?=some (g,o)) (hN:Inv g.toList w w' N):Inv B w0 w' (N++L.set i (none,o)):=by
  have keep:∀ k,k < w.heap.size→g≠some k→w'.heap[k]?=w.heap[k]?:=fun k hk hg=>hN.but.block k hk (fun h=>hg (Option.mem_toList.1 h))
  have inL:∀ (j b:Nat) (p:Obj),(L.set i (none,o))[j]?=some (some b,p)→j≠i∧L[j]?=some (some b,p):=by
    intro j b p hj
    rw [List.getElem?_set] at hj
    by_cases e:i=j
    · subst e
      split at hj
      · split at hj
        · cases hj
        cases hj
      contradiction
    rw [if_neg e] at hj; exact ⟨fun h=>e h.symm,hj⟩
  have neg:∀ (j b:Nat) (p:Obj),j≠i→L[j]?=some (some b,p)→g≠some b:=fun j b p hji hj hg=>by
    subst hg
    exact h.sep i j b b o p hi hj (Ne.symm hji) rfl
  have old:∀ (j b:Nat) (p:Obj),(N++L.set i (none,o))[j]?=some (some b,p)→(j < N.length∧N[j]?=some (some b,p))∨(N.length≤j∧(L.set i (none,o))[j - N.length]?=some (some b,p)):=by
    intro j b p hj
    rcases Nat.lt_or_ge j N.length with hlt | hge
    · exact .inl ⟨hlt,by rwa [List.getElem?_append_left hlt] at hj⟩
    exact .inr ⟨hge,by rwa [List.getElem?_append_right hge] at hj⟩
  refine ⟨⟨hN.but.os.trans h.but.os,hN.but.tape.trans h.but.tape,hN.but.output.trans h.but.output,Nat.le_trans h.but.size hN.but.size,fun k hk hB=>?_⟩,fun j b p hj=>?_,fun j k b c p q hj hk hjk=>?_⟩
  · rw [keep k (Nat.lt_of_lt_of_le hk h.but.size) ?_,h.but.block k hk hB]
    intro hg
    subst hg
    rcases (h.has i k o hi).2 with h1 | h1
    · omega
    exact hB h1
  · rcases old j b p hj with ⟨_,h1⟩ | ⟨_,h1⟩
    · refine ⟨(hN.has j b p h1).1,?_⟩
      rcases (hN.has j b p h1).2 with h2 | h2
      · exact .inl (Nat.le_trans h.but.size h2)
      have h2:g=some b:=Option.mem_toList.1 h2
      subst h2; exact (h.has i b o hi).2
    obtain ⟨hji,h2⟩:=inL _ b p h1
    exact ⟨(keep b (h.lt h2) (neg _ b p hji h2)).trans (h.has _ b p h2).1,(h.has _ b p h2).2⟩
  rcases old j b p hj with ⟨_,h1⟩ | ⟨_,h1⟩ <;> rcases old k c q hk with ⟨_,h2⟩ | ⟨_,h2⟩
  · exact hN.sep j k b c p q h1 h2 hjk
  · obtain ⟨hji,h3⟩:=inL _ c q h2
    rcases (hN.has j b p h1).2 with h4 | h4
    · have:=h.lt h3; omega
    have h4:g=some b:=Option.mem_toList.1 h4
    intro he; subst he; exact neg _ _ q hji h3 h4
  · obtain ⟨hji,h3⟩:=inL _ b p h1
    rcases (hN.has k c q h2).2 with h4 | h4
    · have:=h.lt h3; omega
    have h4:g=some c:=Option.mem_toList.1 h4
    intro he; subst he; exact neg _ _ p hji h3 h4
  exact h.sep _ _ b c p q (inL _ b p h1).2 (inL _ c q h2).2 (by omega)
end lent

section elems
variable {α:Type} {enc:α→List Value} {k:Nat}
theorem CellsB.at_ {B:List Nat} {w0:World} {A:Option Addr} {l:List α} (hC:CellsB B w0 A (al enc l)) (hk:∀ x,(enc x).length=k) (hk0:0 < k) {i:Nat} {x:α} (hx:l[i]?=some x) :
    ∃ b off,A=some ⟨b,off,none⟩∧b < w0.heap.size∧b ∉ B∧∀ j v,(enc x)[j]?=some v→w0.cell? ⟨b,off+i * k+j,none⟩=some v:=by
  obtain ⟨b,off,hA,hb,he⟩:=hC.cells.at_ hk hk0 hx
  have hlt:=lt_of_get hx
  obtain ⟨b',off',hA',_,hB,_⟩:=hC (by rw [dt hk]; exact Nat.mul_pos (by omega) hk0)
  rw [hA] at hA'
  injection hA' with hA'
  injection hA' with hA' _ _
  subst hA'
  exact ⟨b,off,hA,hb,hB,he⟩
theorem Row.zero_ (k b:Nat):Row k (some b) 0 0 [] []:=⟨by simp,by simp,by simp,by simp,by simp,fun h=>by cases h⟩
end elems
def Gives (k:Nat) (E:TypeId) (g:Option Nat) (n:Nat) (xs:List Value) (w0:World) (v:Value) (w:World):Prop :=
  ∃ (g':Option Nat) (c':Nat) (cl':List Value),v=slv g' n c'∧Inv g.toList w0 w [(g',blk cl' E)]∧Row k g' n c' cl' xs
end Go.K
end
section
namespace Go.K
open Go.RowKit

section rows
variable {α:Type} {enc:α→List Value} {k:Nat} {g:Option Nat} {n c:Nat} {cl:List Value}
theorem put_mid (a b c' vs:List Value) (h:vs.length=b.length):le (a++b++c') a.length vs=a++vs++c':=by
  rw [List.append_assoc,put_append a (b++c') a.length vs (Nat.le_refl _),Nat.sub_self,put_left vs b c' 0 (by omega),put_all vs b h,List.append_assoc]
theorem flat_set (hk:∀ x,(enc x).length=k) (M:List α) (i:Nat) (y:α) (hi:i < M.length):le (al enc M) (i * k) (enc y)=al enc (M.set i y):=by
  have h1:M=M.take i++[M[i]]++M.drop (i+1):=by simp
  have h2:M.set i y=M.take i++[y]++M.drop (i+1):=by
    rw [List.set_eq_take_append_cons_drop,if_pos hi]; simp
  have hl:(al enc (M.take i)).length=i * k:=by rw [dt hk,List.length_take,Nat.min_eq_left (by omega)]
  rw [h2,gc,gc,flat_one]
  conv=>lhs; arg 1; rw [h1,gc,gc,flat_one]
  rw [← hl]
  exact put_mid _ _ _ _ (by rw [hk,hk])
theorem Row.put {M:List α} (hr:Row k g n c cl (al enc M)) (hk:∀ x,(enc x).length=k) (hk0:0 < k) (i:Nat) (y:α) (hi:i < n):Row k g n c (le cl (i * k) (enc y)) (al enc (M.set i y)):=by
  have hn:=hr.n_eq hk hk0
  have hle:n * k≤cl.length:=by rw [hr.size]; exact Nat.mul_le_mul_right _ hr.cap
  have hik:i * k+k≤n * k:=by
    have:=Nat.mul_le_mul_right k (show i+1≤n from hi)
    rwa [Nat.add_mul,Nat.one_mul] at this
  refine ⟨by rw [dt hk,List.length_set,hn],hr.cap,hr.capmax,by rw [put_len,hr.size],?_,hr.nil⟩
  rw [← flat_set hk M i y (by omega),← hr.head]
  have hsplit:cl=cl.take (n * k)++cl.drop (n * k):=(List.take_append_drop _ _).symm
  conv=>lhs; arg 2; rw [hsplit,put_left _ _ _ _ (by rw [List.length_take,Nat.min_eq_left hle,hk]; exact hik)]
  rw [List.take_left' (by rw [put_len,List.length_take,Nat.min_eq_left hle])]
theorem Row.cut {M:List α} (hr:Row k g n c cl (al enc M)) (hk:∀ x,(enc x).length=k) (hk0:0 < k) (i:Nat) (hi:i≤n):Row k g i c cl (al enc (M.take i)):=by
  have hn:=hr.n_eq hk hk0
  refine ⟨by rw [dt hk,List.length_take,Nat.min_eq_left (by omega)],Nat.le_trans hi hr.cap,hr.capmax,hr.size,?_,hr.nil⟩
  rw [← flat_take hk,← hr.head,List.take_take,Nat.min_eq_left (Nat.mul_le_mul_right _ hi)]
theorem Row.same {M:List Value} {cl':List Value} (hr:Row k g n c cl M) (hl:cl'.length=cl.length) (h:cl'.take (n * k)=cl.take (n * k)):Row k g n c cl' M :=
  ⟨hr.len,hr.cap,hr.capmax,hl.trans hr.size,h.trans hr.head,hr.nil⟩
theorem Row.room {M:List α} (hr:Row k g n c cl (al enc M)) {i:Nat} (hi:i < n):i * k+k≤cl.length:=by
  have:=Nat.mul_le_mul_right k (show i+1≤c from Nat.le_trans hi hr.cap)
  rw [Nat.add_mul,Nat.one_mul] at this
  rw [hr.size]; exact this
end rows

theorem Row.atS {α:Type} {enc:α→List Value} {k b n c:Nat} {cl:List Value} {l:List α} (hr:Row k (some b) n c cl (al enc l)) (hk:∀ x,(enc x).length=k) (hk0:0 < k) {i:Nat} {x:α} (hx:l[i]?=some x):∀ j v,(enc x)[j]?=some v→cl[i * k+j]?=some v:=by
  obtain ⟨_,_,h⟩:=hr.at_ hk hk0 hx
  exact h
theorem bi.nil_of {w:World} {xs:List Value} (h:bi w none xs):xs=[]:=by
  rcases Nat.eq_zero_or_pos xs.length with h0 | h0
  · exact List.eq_nil_of_length_eq_zero h0
  obtain ⟨b,off,hA,_⟩:=h h0
  cases hA
theorem flat_nil_of {α:Type} {enc:α→List Value} {k:Nat} (hk:∀ x,(enc x).length=k) (hk0:0 < k) {l:List α} (h:al enc l=[]):l=[]:=by
  cases l with
  | nil=>rfl
  | cons x l =>
    have:=dt hk (x :: l)
    rw [h] at this
    simp only [List.length_nil,List.length_cons,Nat.add_mul] at this
    omega

def GivesIn (k:Nat) (E:TypeId) (g:Option Nat) (c n:Nat) (xs:List Value) (w0:World) (v:Value) (w:World):Prop :=
  ∃ (cl':List Value),v=slv g n c∧Inv g.toList w0 w [(g,blk cl' E)]∧Row k g n c cl' xs
def TurnsIn (k:Nat) (E:TypeId) (g:Option Nat) (c n:Nat) (xs:List Value) (w0:World) (v:Value) (w:World):Prop :=
  ∃ (cl':List Value),v=.tuple #[]∧Inv g.toList w0 w [(g,blk cl' E)]∧Row k g n c cl' xs

section steps
variable {P:Program} {ρ:Env} {B:List Nat} {w w0:World} {L:List (Option Nat × Obj)} {R:Value→World→Prop} {d:Option Nat} {ty:TypeId} {pos:String} {af:Array Edge} {gd:Option (Nat × Bool)}
theorem s_sliceHi {T E:TypeId} {x y:Operand} {A:Option Addr} {n c k:Nat} (h:Nat) (hT:P.underlying T=some (.slice E)) (hS:∀ w,(Go.sizeOf E).run P w=.ok k w) (hx:ev ρ x=.slice A n c) (hy:ev ρ y=.int .i64 (h:Int)) (hc:h≤c)
    (kk:R (.slice A h c) w):cw P ⟨d,.slice T x none (some y) none,ty,pos,af,gd⟩ ρ w R :=
  s_slice (l:=0) (h:=h) hT hS hx (.inr ⟨rfl,rfl⟩) (.inl (by simp [hy])) (Nat.zero_le _) hc (by rw [sub_zero]; exact kk)
theorem s_sliceLo {T E:TypeId} {x y:Operand} {A:Option Addr} {n c k:Nat} (l:Nat) (hT:P.underlying T=some (.slice E)) (hS:∀ w,(Go.sizeOf E).run P w=.ok k w) (hx:ev ρ x=.slice A n c) (hy:ev ρ y=.int .i64 (l:Int)) (hl:l≤n) (hc:n≤c)
    (kk:R (.slice (sub A c l k) (n - l) (c - l)) w):cw P ⟨d,.slice T x (some y) none none,ty,pos,af,gd⟩ ρ w R :=
  s_slice (l:=l) (h:=n) hT hS hx (.inl (by simp [hy])) (.inr ⟨rfl,rfl⟩) hl hc kk

theorem s_clearTail (hI:Inv B w0 w L) {T E:TypeId} {x:Operand} {z:Value} (ix:Nat) {b n c l k:Nat} {cl:List Value} (hT:P.underlying T=some (.slice E)) (hz:∀ w,(zeroValue E).run P w=.ok z w) (hzk:z.cells.size=k) (hz1':z.cells.toList.all Value.oneCell'=true)
    (hx:ev ρ x=.slice (sub (some ⟨b,0,none⟩) c l k) (n - l) (c - l)) (hL:L[ix]?=some (some b,blk cl E)) (hl:l≤n) (hn:n≤c) (hc:cl.length=c * k)
    (kk:∀ cl' w',Inv B w0 w' (L.set ix (some b,blk cl' E))→cl'.length=cl.length→cl'.take (l * k)=cl.take (l * k)→R (.tuple #[]) w') :
    cw P ⟨d,.call ⟨.builtin .clear,#[x],#[T]⟩,ty,pos,af,gd⟩ ρ w R:=by
  have hz1:∀ u∈z.cells.toList,u.oneCell'=true:=fun u hu=>List.all_eq_true.1 hz1' u hu
  have hz':∀ (m:Nat),∀ u∈(Builtin.zeroCells z.cells m).toList,u.oneCell'=true:=by
    intro m u hu
    simp only [Builtin.zeroCells,Array.toList_map,Array.toList_range,List.mem_map,List.mem_range] at hu
    obtain ⟨i,hi,rfl⟩:=hu
    have hpos:0 < z.cells.size:=by
      rcases Nat.eq_zero_or_pos z.cells.size with h0 | h0
      · rw [h0] at hi; omega
      exact h0
    have hlt:i % z.cells.size < z.cells.size:=Nat.mod_lt _ hpos
    rw [getElem!_pos z.cells _ hlt]
    exact hz1 _ (by simp)
  by_cases h0:n - l=0
  · have h:(execOp (ev ρ) ⟨d,.call ⟨.builtin .clear,#[x],#[T]⟩,ty,pos,af,gd⟩).run P w=.ok (.value (.tuple #[])) w:=by
      have h2:∀ A c',(Builtin.clear_ #[T] ty #[.slice A 0 c']).run P w=.ok (.tuple #[]) w:=fun A c'=>by
        cases A <;> simp [Builtin.clear_,run_underlying hT]
      simp [execOp,resolve,invoke,builtin,hx,h0,h2]
    unfold cw; rw [h]
    have hset:L.set ix (some b,blk cl E)=L:=by
      apply List.ext_getElem?
      intro j
      rw [List.getElem?_set]
      split
      · rename_i hj; subst hj
        split
        · exact hL.symm
        rename_i hge; rw [List.getElem?_eq_none (by omega)]
      rfl
    exact kk cl w (by rw [hset]; exact hI) rfl rfl
  have hne:¬ c=l:=by omega
  have hlk:l * k+(n - l) * k≤cl.length:=by
    rw [hc,← Nat.add_mul]; exact Nat.mul_le_mul_right _ (by omega)
  obtain ⟨w',hrun,e1,e2,e3,e4,e5,e6⟩:=lm (P:=P) (Builtin.zeroCells z.cells (n - l)).toList (l * k) 0 w cl (hI.has ix b _ hL).1 (by rw [zero_len,hzk]; omega) (hz' _)
  have h:(execOp (ev ρ) ⟨d,.call ⟨.builtin .clear,#[x],#[T]⟩,ty,pos,af,gd⟩).run P w=.ok (.value (.tuple #[])) w':=by
    obtain ⟨m,hm⟩:∃ m,n - l=m+1:=⟨n - l - 1,by omega⟩
    have hs:sub (some ⟨b,0,none⟩) c l k=some ⟨b,l * k,none⟩:=by unfold sub; rw [if_neg hne]; simp [jl]
    rw [hm] at hrun hx
    rw [hs] at hx
    have h2:(Builtin.clear_ #[T] ty #[.slice (some ⟨b,l * k,none⟩) (m+1) (c - l)]).run P w=.ok (.tuple #[]) w':=by
      simp [Builtin.clear_,run_underlying hT,hz,hrun]
    simp [execOp,resolve,invoke,builtin,hx,h2]
  unfold cw; rw [h]
  refine kk _ w' (hI.turn hL e1 e2 e3 (by omega) (fun k hk hg=>e5 k fun he=>hg (by rw [he])) (fun b' hb'=>by injection hb' with hb'; subst hb'; simpa using e6)) (put_len _ _ _) ?_
  have hsplit:cl=cl.take (l * k)++cl.drop (l * k):=(List.take_append_drop _ _).symm
  have hlen:(cl.take (l * k)).length=l * k:=by rw [List.length_take,Nat.min_eq_left (by omega)]
  conv=>lhs; arg 2; rw [hsplit,put_append _ _ _ _ (by rw [hlen]; exact Nat.le_refl _)]
  rw [List.take_left' hlen]
end steps
end Go.K
end
section
namespace Go.K
open Go.RowKit

structure En where
  key:Int
  val:Value
  born:Nat
def toE (e:En):MapEntry:=⟨.int .i64 e.key,e.val,e.born⟩
abbrev fp (es:List En) (clk:Nat):Obj:=.map (es.map toE).toArray clk
def el:List En→Int→Option Value
  | [],_=>none
  | e :: es,k=>if k=e.key then some e.val else el es k
def mfind:List En→Int→Nat→Option (Nat × Value)
  | [],_,_=>none
  | e :: es,k,i=>if k=e.key then some (i,e.val) else mfind es k (i+1)
structure MOk (es:List En) (clk:Nat):Prop where
  keys:(es.map En.key).Nodup
  borns:(es.map En.born).Nodup
  lt:∀ e∈es,e.born < clk

theorem findNow_eq (K:IntKind) (k:Int):∀ (es:List En) (i:Nat),Instr.findNow (.int K) (.int .i64 k) (es.map toE) i=some (mfind es k i)
  | [],i=>rfl
  | e :: es,i=>by
    simp only [List.map_cons,Instr.findNow,toE,Instr.sameNow,if_true,mfind]
    by_cases h:k=e.key
    · simp [h]
    have:(k == e.key)=false:=by simp [h]
    simp only [this,h,if_false]
    exact findNow_eq K k es (i+1)
theorem mfind_get:∀ (es:List En) (k:Int) (i:Nat),(mfind es k i).map (·.2)=el es k
  | [],_,_=>rfl
  | e :: es,k,i=>by
    simp only [mfind,el]
    split
    · rfl
    exact mfind_get es k (i+1)
theorem mfind_at:∀ (es:List En) (k:Int) (i n:Nat) (v:Value),mfind es k i=some (n,v)→i≤n∧∃ e,es[n - i]?=some e∧e.key=k
  | [],_,_,_,_,h=>by cases h
  | e :: es,k,i,n,v,h=>by
    simp only [mfind] at h
    split at h
    · rename_i hk
      simp only [Option.some.injEq,Prod.mk.injEq] at h
      obtain ⟨rfl,_⟩:=h
      exact ⟨Nat.le_refl _,e,by simp,hk.symm⟩
    obtain ⟨h1,e',h2,h3⟩:=mfind_at es k (i+1) n v h
    refine ⟨by omega,e',?_,h3⟩
    rw [show n - i=(n - (i+1))+1 by omega,List.getElem?_cons_succ]; exact h2
theorem mget_none:∀ (es:List En) (k:Int),el es k=none→∀ e∈es,e.key≠k
  | [],_,_,e,he=>by cases he
  | a :: es,k,h,e,he=>by
    simp only [el] at h
    split at h
    · cases h
    rename_i hk
    rcases List.mem_cons.1 he with rfl | he
    · exact fun h=>hk h.symm
    exact mget_none es k h e he
theorem mget_append:∀ (es:List En) (x:En) (k:Int),el (es++[x]) k=match el es k with
    | some v=>some v
    | none=>if k=x.key then some x.val else none
  | [],x,k=>by simp only [List.nil_append,el]
  | e :: es,x,k=>by
    simp only [List.cons_append,el]
    split
    · rfl
    exact mget_append es x k
theorem mget_set:∀ (es:List En) (n:Nat) (e:En) (v:Value) (b:Nat),(es.map En.key).Nodup→es[n]?=some e→∀ k,el (es.set n ⟨e.key,v,b⟩) k=if k=e.key then some v else el es k
  | [],_,_,_,_,_,h,_=>by simp at h
  | a :: es,0,e,v,b,_,h,k=>by
    simp only [List.getElem?_cons_zero,Option.some.injEq] at h
    subst h
    simp only [List.set_cons_zero,el]
    split <;> rfl
  | a :: es,n+1,e,v,b,hn,h,k=>by
    simp only [List.getElem?_cons_succ] at h
    simp only [List.map_cons,List.nodup_cons] at hn
    simp only [List.set_cons_succ,el]
    have hne:a.key≠e.key:=fun he=>hn.1 (he ▸ List.mem_map.2 ⟨e,List.mem_of_getElem? h,rfl⟩)
    rw [mget_set es n e v b hn.2 h k]
    by_cases h1:k=a.key
    · subst h1; simp [hne]
    simp [h1]

section steps
variable {P:Program} {ρ:Env} {B:List Nat} {w w0:World} {L:List (Option Nat × Obj)} {R:Value→World→Prop} {d:Option Nat} {ty:TypeId} {pos:String} {af:Array Edge} {gd:Option (Nat × Bool)}

theorem run_checkKey (K:TypeId) (k:Int) (kd:IntKind) (hK:P.underlying K=some (.int kd)) (em:Bool) (w:World):(Instr.checkKey em 10000 K (.int .i64 k)).run P w=.ok () w:=by
  have:Instr.checkKey em (9999+1) K (.int .i64 k)=Instr.checkKey em 10000 K (.int .i64 k):=rfl
  rw [← this]
  unfold Instr.checkKey
  rw [Sem.run_bind,run_underlying hK]
  rfl
theorem run_findKey {K:TypeId} {kd:IntKind} (hK:P.underlying K=some (.int kd)) (es:List En) (k:Int) (w:World):(Instr.findKey K (.int .i64 k) (es.map toE)).run P w=.ok (mfind es k 0) w:=by
  unfold Instr.findKey
  rw [Sem.run_bind,run_underlying hK,Result.andThen_ok,findNow_eq]
  rfl

theorem s_makeMap (hI:Inv B w0 w L) {T:TypeId} (k:∀ b w',Inv B w0 w' ((some b,fp [] 0) :: L)→R (.map (some b)) w'):cw P ⟨d,.makeMap T none,ty,pos,af,gd⟩ ρ w R:=by
  have h:(execOp (ev ρ) ⟨d,.makeMap T none,ty,pos,af,gd⟩).run P w=.ok (.value (.map (some w.heap.size))) (w.alloc (fp [] 0)):=by
    have:execOp (ev ρ) ⟨d,.makeMap T none,ty,pos,af,gd⟩=(do pure (.value (← Instr.makeMap T none))):=rfl
    rw [this,Sem.run_bind]
    rfl
  unfold cw; rw [h]; exact k _ _ (hI.alloc _)

theorem run_lookup {T K E b:TypeId} {kd:IntKind} {z:Value} {es:List En} {clk:Nat} (hT:P.underlying T=some (.map K E)) (hK:P.underlying K=some (.int kd)) (hz:∀ w,(zeroValue E).run P w=.ok z w) (k:Int) (hb:w.heap[b]?=some (fp es clk)) :
    (Instr.lookup T (.map (some b)) (.int .i64 k) false).run P w=.ok ((el es k).getD z) w:=by
  unfold Instr.lookup
  have hg:(getObj b).run P w=.ok (fp es clk) w:=by simp only [getObj,Sem.run,hb]
  have hf:=run_findKey (P:=P) hK es k w
  have hm:=mfind_get es k 0
  simp only [Sem.run_bind,run_underlying hT,Result.andThen_ok,hg,Sem.run_pure,run_checkKey K k kd hK,List.toList_toArray]
  rw [hf]
  cases hq:mfind es k 0 with
  | none=>rw [hq] at hm; simp at hm; simp [hz,← hm]
  | some p=>rw [hq] at hm; simp at hm; simp [← hm]

theorem s_lookup (hI:Inv B w0 w L) {T K E:TypeId} {kd:IntKind} {z:Value} {x y:Operand} {b:Nat} {k:Int} {es:List En} {clk:Nat} (v:Value) (hT:P.underlying T=some (.map K E)) (hK:P.underlying K=some (.int kd)) (hz:∀ w,(zeroValue E).run P w=.ok z w) (i:Nat)
    (hx:ev ρ x=.map (some b)) (hy:ev ρ y=.int .i64 k) (hL:L[i]?=some (some b,fp es clk)) (hv:(el es k).getD z=v) (kk:R v w):cw P ⟨d,.lookup T x y false,ty,pos,af,gd⟩ ρ w R:=by
  subst hv
  refine kl _ ?_ kk
  have:execOp (ev ρ) ⟨d,.lookup T x y false,ty,pos,af,gd⟩=(do pure (.value (← Instr.lookup T (ev ρ x) (ev ρ y) false))):=rfl
  rw [this,hx,hy,Sem.run_bind,run_lookup hT hK hz k (hI.has i b _ hL).1]
  rfl

theorem s_mapUpdate (hI:Inv B w0 w L) {T K E:TypeId} {kd:IntKind} {m x y:Operand} {b:Nat} {k:Int} {v:Value} {es:List En} {clk:Nat} (hT:P.underlying T=some (.map K E)) (hK:P.underlying K=some (.int kd)) (i:Nat)
    (hm:ev ρ m=.map (some b)) (hx:ev ρ x=.int .i64 k) (hy:ev ρ y=v) (hL:L[i]?=some (some b,fp es clk)) (ho:MOk es clk)
    (kk:∀ es' clk' w',Inv B w0 w' (L.set i (some b,fp es' clk'))→MOk es' clk'→(∀ j,el es' j=if j=k then some v else el es j)→R undef w'):cw P ⟨d,.mapUpdate T m x y,ty,pos,af,gd⟩ ρ w R:=by
  have hb:=(hI.has i b _ hL).1
  have hg:(getObj b).run P w=.ok (fp es clk) w:=by simp only [getObj,Sem.run,hb]
  have hf:=run_findKey (P:=P) hK es k w
  have hlt:=hI.lt hL
  have hset:∀ es' clk',(setObj b (fp es' clk')).run P w=.ok () { w with heap:=w.heap.setIfInBounds b (fp es' clk') }:=fun es' clk'=>by simp only [setObj,Sem.run,hb]
  have fin:∀ es' clk',MOk es' clk'→(∀ j,el es' j=if j=k then some v else el es j)→(Instr.mapUpdate T (.map (some b)) (.int .i64 k) v).run P w=(setObj b (fp es' clk')).run P w→cw P ⟨d,.mapUpdate T m x y,ty,pos,af,gd⟩ ρ w R:=by
    intro es' clk' h1 h2 h3
    have h:(execOp (ev ρ) ⟨d,.mapUpdate T m x y,ty,pos,af,gd⟩).run P w=.ok .skip { w with heap:=w.heap.setIfInBounds b (fp es' clk') }:=by
      have:execOp (ev ρ) ⟨d,.mapUpdate T m x y,ty,pos,af,gd⟩=(do Instr.mapUpdate T (ev ρ m) (ev ρ x) (ev ρ y); pure .skip):=rfl
      rw [this,hm,hx,hy,Sem.run_bind,h3,hset]
      rfl
    unfold cw; rw [h]
    refine kk es' clk' _ (hI.turn hL rfl rfl ⟨rfl,DLe.of (Nat.le_refl _)⟩ (by simp) (fun q hq hne=>?_) (fun b' hb'=>?_)) h1 h2
    · have:b≠q:=fun e=>hne (by rw [e])
      simp [Array.getElem?_setIfInBounds,this]
    injection hb' with hb'
    subst hb'
    simp [Array.getElem?_setIfInBounds,hlt]
  have hup:(Instr.mapUpdate T (.map (some b)) (.int .i64 k) v).run P w=(match mfind es k 0 with
      | some (n,_)=>(setObj b (.map ((es.map toE).toArray.modify n fun e=>{ e with key:=.int .i64 k,val:=v }) clk)).run P w
      | none=>(setObj b (.map ((es.map toE).toArray.push { key:=.int .i64 k,val:=v,born:=clk }) (clk+1))).run P w):=by
    unfold Instr.mapUpdate
    simp only [Sem.run_bind,run_underlying hT,Result.andThen_ok,hg,run_checkKey K k kd hK,List.toList_toArray]
    rw [hf]
    cases hq:mfind es k 0 with
    | none=>rfl
    | some p =>
      obtain ⟨n,u⟩:=p
      obtain ⟨_,e,h2,h3⟩:=mfind_at es k 0 n u hq
      rw [Nat.sub_zero] at h2
      have hkey:(((es.map toE).toArray[n]?).map (·.key)).getD (.int .i64 k)=.int .i64 k:=by
        simp [h2,toE,h3]
      have hst:(Instr.keyThatStays (.int .i64 k) (.int .i64 k)).run P w=.ok (.int .i64 k) w:=by
        unfold Instr.keyThatStays
        have:Instr.sameBits 10000 (.int .i64 k) (.int .i64 k)=true:=by
          show (IntKind.i64 == IntKind.i64 && k == k)=true
          simp
        rw [this]; rfl
      simp only [Result.andThen_ok,hkey]
      rw [Sem.run_bind,hst]
      rfl
  cases hq:mfind es k 0 with
  | none =>
    have hnone:el es k=none:=by rw [← mfind_get es k 0,hq]; rfl
    refine fin (es++[⟨k,v,clk⟩]) (clk+1) ⟨?_,?_,?_⟩ ?_ ?_
    · rw [List.map_append,List.nodup_append]
      refine ⟨ho.keys,by simp,fun a ha b hb=>?_⟩
      simp only [List.map_cons,List.map_nil,List.mem_singleton] at hb
      rw [hb]
      obtain ⟨e,he,rfl⟩:=List.mem_map.1 ha
      exact mget_none es k hnone e he
    · rw [List.map_append,List.nodup_append]
      refine ⟨ho.borns,by simp,fun a ha b hb=>?_⟩
      simp only [List.map_cons,List.map_nil,List.mem_singleton] at hb
      rw [hb]
      obtain ⟨e,he,rfl⟩:=List.mem_map.1 ha
      exact Nat.ne_of_lt (ho.lt e he)
    · intro e he
      rcases List.mem_append.1 he with he | he
      · exact Nat.lt_succ_of_lt (ho.lt e he)
      simp only [List.mem_singleton] at he; subst he; exact Nat.lt_succ_self _
    · intro j
      rw [mget_append]
      by_cases hj:j=k
      · subst hj; rw [hnone]
      simp only [hj,if_false]; cases el es j <;> rfl
    rw [hup,hq]
    show (setObj b (.map ((es.map toE).toArray.push _) (clk+1))).run P w=_
    congr 2
    simp [fp,toE]
  | some p =>
    obtain ⟨n,u⟩:=p
    obtain ⟨_,e,h2,h3⟩:=mfind_at es k 0 n u hq
    rw [Nat.sub_zero] at h2
    have hn:n < es.length:=lt_of_get h2
    have hen:es[n]=e:=by rw [List.getElem?_eq_getElem hn] at h2; injection h2
    refine fin (es.set n ⟨e.key,v,e.born⟩) clk ⟨?_,?_,?_⟩ ?_ ?_
    · rw [List.map_set]
      have:(es.map En.key).set n e.key=es.map En.key:=by
        apply List.ext_getElem?
        intro j
        rw [List.getElem?_set]
        split
        · rename_i hj; subst hj
          split
          · simp [h2]
          rename_i hge; simp at hge; omega
        rfl
      rw [this]; exact ho.keys
    · rw [List.map_set]
      have:(es.map En.born).set n e.born=es.map En.born:=by
        apply List.ext_getElem?
        intro j
        rw [List.getElem?_set]
        split
        · rename_i hj; subst hj
          split
          · simp [h2]
          rename_i hge; simp at hge; omega
        rfl
      rw [this]; exact ho.borns
    · intro x hx
      rcases List.mem_or_eq_of_mem_set hx with hx | rfl
      · exact ho.lt x hx
      exact ho.lt e (mem_of_get h2)
    · intro j
      rw [mget_set es n e v e.born ho.keys h2 j,h3]
    rw [hup,hq]
    show (setObj b (.map ((es.map toE).toArray.modify n _) clk)).run P w=_
    congr 2
    simp only [fp]
    congr 1
    apply Array.ext'
    simp only [Array.toList_modify]
    apply List.ext_getElem?
    intro j
    rw [List.getElem?_modify,List.map_set,List.getElem?_set]
    by_cases hj:n=j
    · subst hj
      simp [toE,h3,hn,hen]
    simp [hj]
end steps
end Go.K
end
section
namespace Go.K
open Go.RowKit

structure Rec where
  fn:FuncId
  tmps:Array Value
  params:Array Tmp
  assign:Code
  body:Code
  defers:Nat
def Rec.at (r:Rec) (st:LoopState) (pe:Option Code):Obj:=.loop { state:=st,pending:=pe,fn:=r.fn,tmps:=r.tmps,params:=r.params,assign:=r.assign,body:=r.body,defers:=r.defers }
abbrev mark (D:Nat):Deferred:={ target:=.collected D,args := #[] }
abbrev yfn (l:Nat):Value:=.func (.yield l) #[] #[]
structure Rec.Of (rc:Rec) (n:Nat) (ρ:Env):Prop where
  size:rc.tmps.size=n
  at_:∀ t,rc.tmps.getD t undef=ρ t
def setP (ρ:Env):List (Nat × Value)→Env
  | []=>ρ
  | (t,v) :: l=>setP (upd ρ t v) l

section cut
variable {P:Program} {r:Option Nat} {ds:List Deferred} {n:Nat} {Q:List Deferred→Exit→Env→World→Prop} {ρ:Env} {w:World}
def cutE (M:Env→World→Prop) (ds:List Deferred) (Q:List Deferred→Exit→Env→World→Prop):List Deferred→Exit→Env→World→Prop
  | ds',.normal=>fun ρ w=>ds'=ds∧M ρ w
  | ds',e=>Q ds' e
end cut

section rf
variable {P:Program} {B:List Nat} {w0 w:World} {L:List (Option Nat × Obj)} {ρ:Env}

theorem Inv.putO {l:Nat} {o:Obj} (hI:Inv B w0 w ((some l,o) :: L)) (o':Obj):Inv B w0 (w.putObj l o') ((some l,o') :: L) :=
  hI.turn (i:=0) (g:=some l) (o:=o) (o':=o') rfl rfl rfl ⟨rfl,DLe.of (Nat.le_refl _)⟩ (by rw [World.putObj_size]; exact Nat.le_refl _) (fun k _ hk=>World.putObj_heap_other fun e=>hk (by rw [e])) (fun b hb=>by
    injection hb with hb
    subst hb
    exact World.putObj_heap_same (hI.lt (i:=0) rfl))

theorem wp_rangeFunc {ds:List Deferred} {n:Nat} {g:Operand} {ps:Array Tmp} {assign body:Code} {Q:List Deferred→Exit→Env→World→Prop} (hI:Inv B w0 w L) {fnv:Fn} {first cap:Array Value} (hg:ev ρ g=.func fnv first cap)
    (gf:FuncId) (args:Value→List Value) (hinv:∀ l W,(invoke (.fn fnv cap) (first ++ #[yfn l])).run P W=.ok (.enter gf (args (yfn l)).toArray) W)
    (h:∀ (rc:Rec) (l:Nat) (W:World),rc.params=ps→rc.assign=assign→rc.body=body→rc.Of n ρ→Inv B w0 W ((some l,rc.at .ready none) :: (some rc.defers,.deferred (some [])) :: L) →
      cc P gf (args (yfn l)) W (fun _ W'=>∃ L',(Inv B w0 W' ((some l,rc.at .ready none) :: L')∧∀ W'',Inv B w0 W'' ((some l,rc.at .exhausted none) :: L')→Q (mark rc.defers :: ds) .normal ρ W'')
        ∨ ∃ c,Inv B w0 W' ((some l,rc.at .done (some c)) :: L')∧∀ W'',Inv B w0 W'' ((some l,rc.at .exhausted (some c)) :: L')→WP none (mark rc.defers :: ds) P n c Q ρ W'')) :
    WP none ds P n (.rangeFunc g ps assign body) Q ρ w:=by
  refine ⟨fun a hs=>wpIn_rangeFunc fun fn _=>?_⟩
  obtain ⟨rc,hrc⟩:∃ rc:Rec,rc={ fn,tmps:=a.tmps,params:=ps,assign,body,defers:=w.heap.size }:=⟨_,rfl⟩
  obtain ⟨W1,hW1⟩:∃ W1,W1=(w.alloc (.deferred (some []))).alloc (rc.at .ready none):=⟨_,rfl⟩
  have hI1:Inv B w0 W1 ((some (w.heap.size+1),rc.at .ready none) :: (some w.heap.size,.deferred (some [])) :: L):=by
    have:=(hI.alloc (.deferred (some []))).alloc (rc.at .ready none)
    rwa [World.size_alloc,← hW1] at this
  have hD:rc.defers=w.heap.size:=by rw [hrc]
  have hc:=h rc (w.heap.size+1) W1 (by rw [hrc]) (by rw [hrc]) (by rw [hrc]) ⟨by rw [hrc]; exact hs.size,by rw [hrc]; exact hs.at_⟩ (by rw [hD]; exact hI1)
  refine ⟨w.heap.size+1,[mark w.heap.size],W1,{ target:=.fn fnv cap,args:=first ++ #[yfn (w.heap.size+1)] },W1,gf,(args (yfn (w.heap.size+1))).toArray,W1,?_,?_,fun _ _=>trivial,hinv _ _,fun h=>(by simp [fen,Fence.wide] at h),?_⟩
  · rw [hW1,hrc]; exact run_enterLoop_outer _ _ _ _ _
  · rw [hs.eval]
    simp only [resolve,hg]
    simp [Deferred.ofValue,ev,go_sem]
  refine callsIn_wide.2 (Calls.mono hc ?_)
  · rintro e W' ⟨v,rfl,L',h⟩
    have hsat:Sat (mark rc.defers :: ds) n ρ { a with defers:=[mark w.heap.size]++a.defers }:=⟨hs.size,by rw [hD,hs.defers]; rfl,hs.at_⟩
    rcases h with ⟨hI',hk⟩ | ⟨c,hI',hk⟩
    · have hl:=(hI'.has 0 _ _ rfl).1
      exact ⟨_,_,run_endLoop hl (by simp),_,ρ,hsat,hk _ (hI'.putO _)⟩
    have hl:=(hI'.has 0 _ _ rfl).1
    exact ⟨_,_,run_endLoop hl (by simp),(hk _ (hI'.putO _)).go _ hsat⟩

def roundE (B:List Nat) (w0:World) (l:Nat) (rc:Rec) (R:Value→World→Prop):List Deferred→Exit→Env→World→Prop
  | _,.normal,_,W=>∃ L3,Inv B w0 W ((some l,rc.at .busy none) :: L3)∧∀ W4,Inv B w0 W4 ((some l,rc.at .ready none) :: L3)→R (.bool true) W4
  | _,.ret,_,W=>∃ L3,Inv B w0 W ((some l,rc.at .busy none) :: L3)∧∀ W4,Inv B w0 W4 ((some l,rc.at .done (some .ret)) :: L3)→R (.bool false) W4
  | _,.exit id,_,W=>∃ L3,Inv B w0 W ((some l,rc.at .busy none) :: L3)∧∀ W4,Inv B w0 W4 ((some l,rc.at .done (some (.exit id))) :: L3)→R (.bool false) W4
  | _,_,_,_=>False
def assignE (B:List Nat) (w0:World) (l:Nat) (rc:Rec) (P:Program) (n:Nat) (R:Value→World→Prop):List Deferred→Exit→Env→World→Prop
  | ds,.normal,ρ,W=>ds=[]∧∃ L1,Inv B w0 W ((some l,rc.at .ready none) :: L1)∧∀ W2,Inv B w0 W2 ((some l,rc.at .busy none) :: L1)→WP (some l) [] P n rc.body (roundE B w0 l rc R) ρ W2
  | _,_,_,_=>False

theorem sat_setP {n:Nat}:∀ (l:List (Nat × Value)) {ρ:Env} {tmps:Array Value},(∀ x∈l,x.1 < n)→Sat [] n ρ { tmps:=tmps,defers:=[] }→Sat [] n (setP ρ l) { tmps:=l.foldl (fun t x=>t.setIfInBounds x.1 x.2) tmps,defers:=[] }
  | [],_,_,_,h=>h
  | (t,v) :: l,ρ,tmps,hl,h=>by
    have:=h.put (d:=some t) (by simpa [dstOk,Nat.blt_eq] using hl (t,v) (by simp)) v
    exact sat_setP l (fun x hx=>hl x (by simp [hx])) this

theorem callV_yield {n l:Nat} {rc:Rec} {args:List Value} {R:Value→World→Prop} (hI:Inv B w0 w ((some l,rc.at .ready none) :: L)) (ho:rc.Of n ρ) (ps:List Nat) (hps:rc.params=ps.toArray) (hl:args.length=ps.length) (hlt:∀ t∈ps,t < n)
    (h:WP (some l) [] P n rc.assign (assignE B w0 l rc P n R) (setP ρ (ps.zip args)) w):CallV P (yfn l) args w R:=by
  have hb:=(hI.has 0 _ _ rfl).1
  unfold CallV
  have e:((do let d ← Deferred.ofValue (yfn l) args.toArray; invoke d.target d.args:Sem Next)).run P w=.ok (.round l rc.fn ((rc.params.zip args.toArray).foldl (fun tmps (t,a)=>tmps.setIfInBounds t a) rc.tmps) rc.assign rc.body) w:=by
    have:=run_yield (P:=P) (args := #[]++args.toArray) hb (by simp [hps,hl])
    simpa [Deferred.ofValue,invoke,go_sem] using this
  rw [e]
  have ht:((rc.params.zip args.toArray).foldl (fun tmps (t,a)=>tmps.setIfInBounds t a) rc.tmps)=(ps.zip args).foldl (fun t x=>t.setIfInBounds x.1 x.2) rc.tmps:=by
    rw [hps]; simp
  rw [ht]
  have hsat:=sat_setP (ps.zip args) (ρ:=ρ) (tmps:=rc.tmps) (n:=n) (fun x hx=>hlt _ (List.of_mem_zip hx).1) ⟨ho.size,rfl,ho.at_⟩
  refine roundIn_of_wpIn (F:=Fence.wide) trivial (wpIn_mono (h.go _ hsat) ?_)
  rintro e a1 w1 ⟨ds1,ρ1,hs1,hq⟩
  cases e with
  | normal =>
    obtain ⟨rfl,L1,hI1,hk⟩:=hq
    refine ⟨_,run_beginRound (hI1.has 0 _ _ rfl).1 rfl,wpIn_mono ((hk _ (hI1.putO _)).go _ hs1) ?_⟩
    rintro e a2 w2 ⟨ds2,ρ2,hs2,hq2⟩
    cases e with
    | normal=>obtain ⟨L3,hI3,hk3⟩:=hq2; exact ⟨_,_,run_endRound none (hI3.has 0 _ _ rfl).1,_,rfl,hk3 _ (hI3.putO _)⟩
    | ret=>obtain ⟨L3,hI3,hk3⟩:=hq2; exact ⟨_,_,run_endRound (some .ret) (hI3.has 0 _ _ rfl).1,_,rfl,hk3 _ (hI3.putO _)⟩
    | exit id=>obtain ⟨L3,hI3,hk3⟩:=hq2; exact ⟨_,_,run_endRound (some (.exit id)) (hI3.has 0 _ _ rfl).1,_,rfl,hk3 _ (hI3.putO _)⟩
    | _=>exact hq2.elim
  | _=>exact hq.elim

theorem LeaveE.mark {fn:Func} {R:Value→World→Prop} {ds:List Deferred} {D:Nat} (hI:Inv B w0 w ((some D,.deferred (some [])) :: L)) (h:∀ w',Inv B w0 w' L→LeaveE P fn R ds ρ w'):LeaveE P fn R (K.mark D :: ds) ρ w :=
  ⟨D,_,rfl,run_takeDeferred (hI.has 0 _ _ rfl).1,h _ (hI.putO _).tail⟩
end rf
end Go.K
end
section
namespace Go.K
open Go.RowKit
abbrev InR (n:Int):Prop:=-9223372036854775808≤n∧n≤9223372036854775807
@[inline] def bp {α β:Type} (o:Option α) (k:α→Option β):Option β:=o.bind k
@[inline] def gdO {β:Type} (p:Prop) [Decidable p] (k:Option β):Option β:=if p then k else none
@[inline] def ckO {β:Type} (n:Int) (k:Option β):Option β:=if InR n then k else none
section elim
variable {α β:Type} {r:β} {G:Prop}
theorem bt {o:Option α} {K:α→Option β} (h:bp o K=some r) (k:∀ x,o=some x→K x=some r→G):G:=by
  cases o with
  | none=>cases (show (none:Option β)=some r from h)
  | some x=>exact k x rfl h
theorem gdE {p:Prop} [Decidable p] {K:Option β} (h:gdO p K=some r) (k:p→K=some r→G):G:=by
  unfold gdO at h
  by_cases hp:p
  · rw [if_pos hp] at h; exact k hp h
  rw [if_neg hp] at h; cases h
theorem ckE {n:Int} {K:Option β} (h:ckO n K=some r) (k:InR n→K=some r→G):G:=gdE h k
theorem ifE {p:Prop} [Decidable p] {a b:Option β} (h:(if p then a else b)=some r) (k1:p→a=some r→G) (k2:¬ p→b=some r→G):G:=by
  by_cases hp:p
  · rw [if_pos hp] at h; exact k1 hp h
  rw [if_neg hp] at h; exact k2 hp h
theorem ifN {p:Prop} [Decidable p] {a b:Option β} (h:(if p then a else b)=some r) (k2:¬ p→b=some r→G) (k1:p→a=some r→G):G:=ifE h k1 k2
theorem fa {l:List α} {m n:Nat} {x:α} (h:l[m]?=some x) (hn:n=l.length):m < n:=by
  rw [hn]
  rcases Nat.lt_or_ge m l.length with h1 | h1
  · exact h1
  rw [List.getElem?_eq_none h1] at h; cases h
end elim
theorem bi.nil0 {w:World} {A:Option Addr}:bi w A []:=fun h=>absurd h (by simp)
theorem Row.big {k:Nat} {g:Option Nat} {n c:Nat} {cl xs:List Value} (h:Row k g n c cl xs):n≤9223372036854775807:=Nat.le_trans h.cap (by have:=h.capmax; unfold maxLen at this; omega)
section cut
variable {P:Program} {r:Option Nat} {ds:List Deferred} {n:Nat} {Q:List Deferred→Exit→Env→World→Prop} {ρ:Env} {w:World}
def cutOE (M:Env→World→Prop) (ds:List Deferred) (y:List Deferred→Env→World→Prop) (Q:List Deferred→Exit→Env→World→Prop):List Deferred→Exit→Env→World→Prop
  | ds',.normal=>fun ρ w=>(ds'=ds∧M ρ w)∨y ds' ρ w
  | ds',e=>Q ds' e
theorem dn {x y:Code} (M:Env→World→Prop) (h:WP r ds P n x (cutOE M ds (fun ds' ρ w=>WP r ds' P n y Q ρ w) Q) ρ w) (k:∀ ρ w,M ρ w→WP r ds P n y Q ρ w):WP r ds P n (.seq x y) Q ρ w :=
  ab (h.mono fun ds' e ρ w h=>by
    cases e with
    | normal =>
      rcases h with ⟨rfl,hm⟩ | h
      · exact k _ _ hm
      exact h
    | _=>exact h)
end cut
theorem Row.lit {α:Type} {enc:α→List Value} {k b:Nat} {cl:List Value} (hk:∀ x,(enc x).length=k) {l:List α} (h:cl=al enc l) (hn:l.length≤1000):Row k (some b) l.length l.length cl (al enc l):=by
  subst h
  exact ⟨dt hk l,Nat.le_refl _,by unfold maxLen; omega,dt hk l,List.take_of_length_le (by rw [dt hk]; exact Nat.le_refl _),fun h=>by cases h⟩
theorem MOk.nil:MOk [] 0:=⟨List.nodup_nil,List.nodup_nil,fun e he=>by cases he⟩
theorem slv_n {g:Option Nat} {n m c:Nat} (h:n=m):slv g n c=slv g m c:=by rw [h]
theorem kr {α:Type} {l m:List α} {a b:Nat} (h:a=l.length) (h2:b=m.length):a+b=(l++m).length:=by rw [List.length_append,h,h2]
theorem app_len0 {α:Type} {m:List α} {b:Nat} (h2:b=m.length):0+b=m.length:=by rw [h2,Nat.zero_add]
theorem km {α:Type} {l:List α} {n i:Nat} {x:α} (h:n=l.length):n=(l.set i x).length:=by rw [List.length_set,h]
theorem fa_nil {α:Type} {q:α→Prop}:∀ d∈([]:List α),q d:=fun _ h=>by cases h
theorem fa_cons {α:Type} {q:α→Prop} {x:α} {l:List α} (h:q x) (hl:∀ d∈l,q d):∀ d∈x :: l,q d:=fun d hd=>by
  rcases List.mem_cons.1 hd with rfl | hd
  · exact h
  exact hl d hd
theorem am {n m c:Nat} (h:n=m) (h2:n≤c):m≤c:=h ▸ h2
section maps
variable {α:Type} {f:α→Value}
def noM:Int→Option α:=fun _=>none
def updM (M:Int→Option α) (k:Int) (v:α):Int→Option α:=fun j=>if j=k then some v else M j
theorem noM_ok:∀ j,el [] j=((noM:Int→Option α) j).map f:=fun _=>rfl
theorem updM_ok {M:Int→Option α} {es es':List En} {k:Int} {v:α} (h:∀ j,el es j=(M j).map f) (hg:∀ j,el es' j=if j=k then some (f v) else el es j):∀ j,el es' j=(updM M k v j).map f:=fun j=>by
  rw [hg j,updM]
  by_cases hj:j=k
  · rw [if_pos hj,if_pos hj]; rfl
  rw [if_neg hj,if_neg hj]; exact h j
theorem getM_ok {M:Int→Option α} {es:List En} {z:α} (h:∀ j,el es j=(M j).map f) (k:Int):(el es k).getD (f z)=f ((M k).getD z):=by
  rw [h k]; cases M k <;> rfl
theorem isM_ok {M:Int→Option α} {es:List En} (h:∀ j,el es j=(M j).map f) (k:Int):(el es k).isSome=(M k).isSome:=by
  rw [h k]; cases M k <;> rfl
end maps
section sums
variable {α β γ δ ε:Type}
def bindS (o:Option (α ⊕ β)) (k1:α→Option ε) (k2:β→Option ε):Option ε:=o.bind fun y=>match y with | .inl a=>k1 a | .inr b=>k2 b
def bindS3 (o:Option (α ⊕ β ⊕ γ)) (k1:α→Option ε) (k2:β→Option ε) (k3:γ→Option ε):Option ε:=o.bind fun y=>match y with | .inl a=>k1 a | .inr (.inl b)=>k2 b | .inr (.inr c)=>k3 c
def bindS4 (o:Option (α ⊕ β ⊕ γ ⊕ δ)) (k1:α→Option ε) (k2:β→Option ε) (k3:γ→Option ε) (k4:δ→Option ε):Option ε:=o.bind fun y=>match y with | .inl a=>k1 a | .inr (.inl b)=>k2 b | .inr (.inr (.inl c))=>k3 c | .inr (.inr (.inr d))=>k4 d
variable {r:ε} {G:Prop}
theorem bindSE {o:Option (α ⊕ β)} {k1:α→Option ε} {k2:β→Option ε} (h:bindS o k1 k2=some r) (g1:∀ a,o=some (.inl a)→k1 a=some r→G) (g2:∀ b,o=some (.inr b)→k2 b=some r→G):G:=by
  rcases o with _ | a | b
  · cases h
  · exact g1 a rfl h
  exact g2 b rfl h
theorem bindS3E {o:Option (α ⊕ β ⊕ γ)} {k1:α→Option ε} {k2:β→Option ε} {k3:γ→Option ε} (h:bindS3 o k1 k2 k3=some r) (g1:∀ a,o=some (.inl a)→k1 a=some r→G) (g2:∀ b,o=some (.inr (.inl b))→k2 b=some r→G) (g3:∀ b,o=some (.inr (.inr b))→k3 b=some r→G):G:=by
  rcases o with _ | a | b | c
  · cases h
  · exact g1 a rfl h
  · exact g2 b rfl h
  exact g3 c rfl h
end sums
section cuts
variable {α:Type} {enc:α→List Value} {l:List α} {lo hi c k:Nat} {w:World} {A:Option Addr}
theorem cutA (hk:∀ x,(enc x).length=k) (h:bi w A (al enc l)) (hh:lo≤hi∧hi≤l.length) (hc:l.length≤c) :
    ∃ A',bi w A' (al enc ((l.drop lo).take (hi - lo)))∧∀ {P:Program} {ρ:Env} {R:Value→World→Prop} {w:World} {d:Option Nat} {ty:TypeId} {pos:String} {af:Array Edge} {gd:Option (Nat × Bool)} {T E:TypeId} {x:Operand} {a b:Option Operand},
      P.underlying T=some (.slice E)→(∀ w,(Go.sizeOf E).run P w=.ok k w)→ev ρ x=.slice A l.length c→(a.map (ev ρ)=some (.int .i64 (lo:Int))∨a=none∧lo=0)→(b.map (ev ρ)=some (.int .i64 (hi:Int))∨b=none∧hi=l.length) →
      R (.slice A' ((l.drop lo).take (hi - lo)).length (c - lo)) w→cw P ⟨d,.slice T x a b none,ty,pos,af,gd⟩ ρ w R:=by
  have e:((al enc l).drop (lo * k)).take ((hi - lo) * k)=al enc ((l.drop lo).take (hi - lo)):=by
    rw [flat_drop hk l lo]
    exact (flat_take hk (l.drop lo) (hi - lo))
  refine ⟨K.sub A c lo k,?_,fun hT hS hx ha hb kk=>?_⟩
  · rw [← e]
    refine bi.sub h ?_ ?_
    · rw [dt hk,← Nat.add_mul]; exact Nat.mul_le_mul_right _ (by omega)
    exact Nat.mul_le_mul_right _ (by omega)
  have hl:((l.drop lo).take (hi - lo)).length=hi - lo:=by rw [List.length_take,List.length_drop]; omega
  rw [hl] at kk
  exact s_slice hT hS hx ha hb hh.1 (by omega) kk
theorem cut_cap (h:lo≤hi∧hi≤l.length) (hK:l.length≤c):((l.drop lo).take (hi - lo)).length≤c - lo:=by rw [List.length_take,List.length_drop]; omega
theorem cut_big (h:lo≤hi∧hi≤l.length) (hM:l.length≤c):((l.drop lo).take (hi - lo)).length≤c:=by rw [List.length_take,List.length_drop]; omega
end cuts
section steps
variable {P:Program} {ρ:Env} {B:List Nat} {w w0:World} {L:List (Option Nat × Obj)} {R:Value→World→Prop} {d:Option Nat} {ty:TypeId} {pos:String} {af:Array Edge} {gd:Option (Nat × Bool)}
theorem s_callI {o:Oper} (f:FuncId) (args:List Value) (h:(execOp (ev ρ) o).run P w=.ok (.enter f args.toArray) w) (hc:cc P f args w R):cw P o ρ w R:=co f args h hc fun _ _ h=>h
theorem s_callVI {x:Operand} {as:Array Operand} {ats:Array TypeId} (args:List Value) {fv:Value} (hf:ev ρ x=fv) (ha:as.map (ev ρ)=args.toArray) (hc:CallV P fv args w R):cw P ⟨d,.call ⟨.value x,as,ats⟩,ty,pos,af,gd⟩ ρ w R:=s_callV args hf ha hc fun _ _ h=>h
theorem Inv.at0 (hI:Inv [] w0 w L) {b:Nat} {o:Obj} (h:w0.heap[b]?=some o):w.heap[b]?=some o:=by
  have hlt:b < w0.heap.size:=by
    rcases Nat.lt_or_ge b w0.heap.size with h1 | h1
    · exact h1
    rw [Array.getElem?_eq_none h1] at h; cases h
  rw [hI.below.block b hlt]; exact h
theorem s_rem {T Ty:TypeId} {x y:Operand} {a b:Int} (ha:ev ρ x=.int .i64 a) (hb:ev ρ y=.int .i64 b) (h:0 < b) (k:R (.int .i64 (a.tmod b)) w) :
    cw P ⟨d,.binOp .rem T x y Ty,ty,pos,af,gd⟩ ρ w R:=by
  refine kl (.int .i64 (a.tmod b)) ?_ k
  have:execOp (ev ρ) ⟨d,.binOp .rem T x y Ty,ty,pos,af,gd⟩=(do pure (.value (← (do eqGuard .rem T x y (ev ρ x) (ev ρ y); binOp .rem T (ev ρ x) (ev ρ y))))):=rfl
  rw [this,ha,hb]
  have e:binOp .rem T (.int .i64 a) (.int .i64 b)=Go.Op.intDiv .rem .i64 a b:=rfl
  have hb0:¬ b=0:=by omega
  rw [e]
  unfold Go.Op.intDiv
  rw [if_neg hb0]
  rfl
theorem s_quo {T Ty:TypeId} {x y:Operand} {a b:Int} (ha:ev ρ x=.int .i64 a) (hb:ev ρ y=.int .i64 b) (h:0 < b) (h1:-9223372036854775808≤a∧a≤9223372036854775807) (k:R (.int .i64 (a.tdiv b)) w) :
    cw P ⟨d,.binOp .quo T x y Ty,ty,pos,af,gd⟩ ρ w R:=by
  refine kl (.int .i64 (a.tdiv b)) ?_ k
  have:execOp (ev ρ) ⟨d,.binOp .quo T x y Ty,ty,pos,af,gd⟩=(do pure (.value (← (do eqGuard .quo T x y (ev ρ x) (ev ρ y); binOp .quo T (ev ρ x) (ev ρ y))))):=rfl
  rw [this,ha,hb]
  have e:binOp .quo T (.int .i64 a) (.int .i64 b)=Go.Op.intDiv .quo .i64 a b:=rfl
  have hb0:¬ b=0:=by omega
  have h2:-9223372036854775808≤a.tdiv b∧a.tdiv b≤9223372036854775807:=by
    have h3:=Int.natAbs_tdiv_le_natAbs a b
    rcases Int.lt_or_le a 0 with h4 | h4
    · have h5:0≤(-a).tdiv b:=Int.tdiv_nonneg (by omega) (by omega)
      rw [Int.neg_tdiv] at h5
      omega
    have h5:0≤a.tdiv b:=Int.tdiv_nonneg h4 (by omega)
    omega
  rw [e]
  unfold Go.Op.intDiv
  rw [if_neg hb0]
  conv=>rhs; rw [← wrap_in h2.1 h2.2]
  rfl
theorem s_lookupB (hI:Inv B w0 w L) {T K E:TypeId} {kd:IntKind} {z:Value} {x y:Operand} {b:Nat} {k:Int} {es:List En} {clk:Nat} (v:Value) (hT:P.underlying T=some (.map K E)) (hK:P.underlying K=some (.int kd)) (hz:∀ w,(zeroValue E).run P w=.ok z w)
    (hb:w0.heap[b]?=some (fp es clk)) (hB:b ∉ B) (hx:ev ρ x=.map (some b)) (hy:ev ρ y=.int .i64 k) (hv:(el es k).getD z=v) (kk:R v w):cw P ⟨d,.lookup T x y false,ty,pos,af,gd⟩ ρ w R:=by
  have hb':w.heap[b]?=some (fp es clk):=(hI.but.block b (by rcases Nat.lt_or_ge b w0.heap.size with h1 | h1; exact h1; rw [Array.getElem?_eq_none h1] at hb; cases hb) hB).trans hb
  subst hv
  refine kl _ ?_ kk
  have:execOp (ev ρ) ⟨d,.lookup T x y false,ty,pos,af,gd⟩=(do pure (.value (← Instr.lookup T (ev ρ x) (ev ρ y) false))):=rfl
  rw [this,hx,hy,Sem.run_bind,run_lookup hT hK hz k hb']
  rfl
theorem run_lookupOk {T K E b:TypeId} {kd:IntKind} {z:Value} {es:List En} {clk:Nat} (hT:P.underlying T=some (.map K E)) (hK:P.underlying K=some (.int kd)) (hz:∀ w,(zeroValue E).run P w=.ok z w) (k:Int) (hb:w.heap[b]?=some (fp es clk)) :
    (Instr.lookup T (.map (some b)) (.int .i64 k) true).run P w=.ok (.tuple #[(el es k).getD z,.bool (el es k).isSome]) w:=by
  unfold Instr.lookup
  have hg:(getObj b).run P w=.ok (fp es clk) w:=by simp only [getObj,Sem.run,hb]
  have hf:=run_findKey (P:=P) hK es k w
  have hm:=mfind_get es k 0
  simp only [Sem.run_bind,run_underlying hT,Result.andThen_ok,hg,Sem.run_pure,run_checkKey K k kd hK,List.toList_toArray]
  rw [hf]
  cases hq:mfind es k 0 with
  | none=>rw [hq] at hm; simp at hm; simp [hz,← hm]
  | some p=>rw [hq] at hm; simp at hm; simp [← hm]
theorem s_lookupOk (hI:Inv B w0 w L) {T K E:TypeId} {kd:IntKind} {z:Value} {x y:Operand} {b:Nat} {k:Int} {es:List En} {clk:Nat} {v:Value} {t:Bool} (hT:P.underlying T=some (.map K E)) (hK:P.underlying K=some (.int kd)) (hz:∀ w,(zeroValue E).run P w=.ok z w) (i:Nat)
    (hx:ev ρ x=.map (some b)) (hy:ev ρ y=.int .i64 k) (hL:L[i]?=some (some b,fp es clk)) (hv:(el es k).getD z=v) (ht:(el es k).isSome=t) (kk:R (.tuple #[v,.bool t]) w):cw P ⟨d,.lookup T x y true,ty,pos,af,gd⟩ ρ w R:=by
  subst hv; subst ht
  refine kl _ ?_ kk
  have:execOp (ev ρ) ⟨d,.lookup T x y true,ty,pos,af,gd⟩=(do pure (.value (← Instr.lookup T (ev ρ x) (ev ρ y) true))):=rfl
  rw [this,hx,hy,Sem.run_bind,run_lookupOk hT hK hz k (hI.has i b _ hL).1]
  rfl
end steps
section made
theorem made_flat {α:Type} {enc:α→List Value} {k:Nat} (hk:∀ x,(enc x).length=k) (hk0:0 < k) (z0:α) (n:Nat):(madeCells (enc z0).toArray (n * k)).toList=al enc (List.replicate n z0):=by
  apply List.ext_getElem?
  intro q
  rcases Nat.lt_or_ge q (n * k) with hq | hq
  · have hd:q / k < n:=Nat.div_lt_of_lt_mul (by rw [Nat.mul_comm]; exact hq)
    have hm:q % k < k:=Nat.mod_lt _ hk0
    have e:q=q / k * k+q % k:=by have:=Nat.div_add_mod q k; rw [Nat.mul_comm] at this; omega
    have h1:=flat_get hk (List.replicate n z0) (q / k) (q % k) z0 (by rw [List.getElem?_replicate,if_pos hd]) hm
    rw [← e] at h1
    rw [h1]
    have h2:(enc z0)[q % k]?=some ((enc z0)[q % k]'(by rw [hk]; exact hm)):=List.getElem?_eq_getElem _
    rw [h2]
    have h3:q % k < (enc z0).length:=by rw [hk]; exact hm
    simp [madeCells,hk,hq,hm,h3]
  rw [List.getElem?_eq_none (by simp [madeCells]; exact hq),List.getElem?_eq_none (by rw [dt hk,List.length_replicate]; exact hq)]
variable {P:Program} {ρ:Env} {B:List Nat} {w w0:World} {L:List (Option Nat × Obj)} {R:Value→World→Prop} {d:Option Nat} {ty:TypeId} {pos:String} {af:Array Edge} {gd:Option (Nat × Bool)}
theorem s_makeRow (hI:Inv B w0 w L) {T E:TypeId} {z:Value} {k bytes:Nat} {α:Type} {enc:α→List Value} (hk:∀ x,(enc x).length=k) (hk0:0 < k) (z0:α) (ht:P.underlying T=some (.slice E)) (hinfo:(P.info? E).map (fun i=>(i.zero,i.size,i.bytes))=some (some z,k,bytes)) (hz:z.cells=(enc z0).toArray)
    {x y:Operand} (n:Nat) (hx:ev ρ x=.int .i64 (n:Int)) (hy:ev ρ y=.int .i64 (n:Int)) (hn:n≤1000000) (hb:bytes≤1000)
    (kk:∀ b cl w',Inv B w0 w' ((some b,blk cl E) :: L)→Row k (some b) n n cl (al enc (List.replicate n z0))→R (slv (some b) n n) w'):cw P ⟨d,.makeSlice T x y,ty,pos,af,gd⟩ ρ w R:=by
  cases hq:P.info? E with
  | none=>rw [hq] at hinfo; cases hinfo
  | some i =>
    rw [hq] at hinfo
    simp only [Option.map_some,Option.some.injEq,Prod.mk.injEq] at hinfo
    obtain ⟨h1,h2,h3⟩:=hinfo
    have hbb:bytes * n≤1000 * 1000000:=Nat.mul_le_mul hb hn
    have hr:=run_make (P:=P) w T E i z ht hq h1 .i64 .i64 (n:Int) (n:Int) (by omega) (by omega) (by
      have:((bytes * n:Nat):Int)≤281474976710656:=by omega
      rw [h3]; rwa [Int.natCast_mul] at this) (by omega)
    rw [Int.toNat_natCast,h2,hz] at hr
    have hm:=made_flat hk hk0 z0 n
    have h:(execOp (ev ρ) ⟨d,.makeSlice T x y,ty,pos,af,gd⟩).run P w=.ok (.value (slv (some w.heap.size) n n)) (w.alloc (blk (al enc (List.replicate n z0)) E)):=by
      have e:execOp (ev ρ) ⟨d,.makeSlice T x y,ty,pos,af,gd⟩=(do pure (.value (← Instr.makeSlice T (ev ρ x) (ev ρ y)))):=rfl
      rw [e,hx,hy,Sem.run_bind,hr,← hm]
      rfl
    exact fu hI _ E (fun b=>slv (some b) n n) h fun b w' hI'=>kk b _ w' hI' ⟨by rw [dt hk,List.length_replicate],Nat.le_refl _,by unfold maxLen; omega,by rw [dt hk,List.length_replicate],List.take_of_length_le (by rw [dt hk,List.length_replicate]; exact Nat.le_refl _),fun h=>by cases h⟩
end made
theorem s_slice3 {P:Program} {ρ:Env} {w:World} {R:Value→World→Prop} {d:Option Nat} {ty:TypeId} {pos:String} {af:Array Edge} {gd:Option (Nat × Bool)} {T E:TypeId} {x a b m:Operand} {A:Option Addr} {n c l h q k:Nat} (hT:P.underlying T=some (.slice E)) (hS:∀ w,(Go.sizeOf E).run P w=.ok k w) (hx:ev ρ x=.slice A n c)
    (ha:ev ρ a=.int .i64 (l:Int)) (hb:ev ρ b=.int .i64 (h:Int)) (hm:ev ρ m=.int .i64 (q:Int)) (hle:l≤h∧h≤q∧q≤c)
    (kk:R (.slice (if q=l then A else A.map (·.add (l * k))) (h - l) (q - l)) w):cw P ⟨d,.slice T x (some a) (some b) (some m),ty,pos,af,gd⟩ ρ w R:=by
  refine kl _ ?_ kk
  have:execOp (ev ρ) ⟨d,.slice T x (some a) (some b) (some m),ty,pos,af,gd⟩=(do pure (.value (← Instr.sliceAt T (ev ρ x) (some (ev ρ a)) (some (ev ρ b)) (some (ev ρ m))))):=rfl
  rw [this,hx,ha,hb,hm]
  have h1:(0:Int)≤(q:Int)∧(q:Int)≤(c:Int):=by omega
  have h2:(0:Int)≤(h:Int)∧(h:Int)≤(q:Int):=by omega
  have h3:(0:Int)≤(l:Int)∧(l:Int)≤(h:Int):=by omega
  have hs:(Instr.sliceBounds true n c (some (.int .i64 (l:Int))) (some (.int .i64 (h:Int))) (some (.int .i64 (q:Int)))).run P w=.ok (l,h,q) w:=by
    simp [Instr.sliceBounds,h1,h2,h3,Instr.sliceBound,asIntOf,hle.1,hle.2.1,hle.2.2]
  simp [Instr.sliceAt,run_underlying hT,Instr.slice,hs,hS]
theorem s_appRoom {P:Program} {ρ:Env} {B:List Nat} {w w0:World} {L:List (Option Nat × Obj)} {R:Value→World→Prop} {d:Option Nat} {ty:TypeId} {pos:String} {af:Array Edge} {gd:Option (Nat × Bool)} (hI:Inv B w0 w L) {t e:TypeId} {z:Value} {k bytes:Nat} (ht:P.underlying t=some (.slice e)) (hinfo:(P.info? e).map (fun i=>(i.zero,i.size,i.bytes))=some (some z,k,bytes))
    {x y:Operand} (ix:Nat) {b n c:Nat} {cl xs:List Value} (hx:ev ρ x=slv (some b) n c) (hL:L[ix]?=some (some b,blk cl e)) (hr:Row k (some b) n c cl xs)
    {A:Option Addr} {m c2:Nat} (news:List Value) (hy:ev ρ y=.slice A m c2) (hl:news.length=m * k) (hc:bi w A news) (h1:∀ u∈news,u.oneCell'=true) (hroom:n+m≤c)
    (kk:∀ cl' w',Inv B w0 w' (L.set ix (some b,blk cl' e))→Row k (some b) (n+m) c cl' (xs++news)→R (slv (some b) (n+m) c) w') :
    cw P ⟨d,.call ⟨.builtin .append,#[x,y],#[t,t]⟩,ty,pos,af,gd⟩ ρ w R:=by
  cases hq:P.info? e with
  | none=>rw [hq] at hinfo; cases hinfo
  | some i =>
    rw [hq] at hinfo
    simp only [Option.map_some,Option.some.injEq,Prod.mk.injEq] at hinfo
    obtain ⟨hz,hk,hby⟩:=hinfo
    subst hk
    have hlen:(xs++news).length=(n+m) * i.size:=by rw [List.length_append,hr.len,hl,Nat.add_mul]
    have hb:=(hI.has ix b _ hL).1
    have hs:n * i.size+news.length≤cl.length:=by rw [hl,hr.size,← Nat.add_mul]; exact Nat.mul_le_mul_right _ hroom
    obtain ⟨w',hrun,e1,e2,e3,e4,e5,e6⟩:=lm (P:=P) news (n * i.size) 0 w cl hb (by simpa using hs) h1
    have hf:=run_first (P:=P) (c:=c2) hc hl w rfl
    have happ:(Builtin.append_ #[t,t] ty #[slv (some b) n c,.slice A m c2]).run P w=.ok (slv (some b) (n+m) c) w':=by
      simp [Builtin.append_,run_underlying ht,sizeOf,typeInfo,hq,Builtin.lenOf,hf,hroom,jl,hrun]
    have h:(execOp (ev ρ) ⟨d,.call ⟨.builtin .append,#[x,y],#[t,t]⟩,ty,pos,af,gd⟩).run P w=.ok (.value (slv (some b) (n+m) c)) w':=by
      simp [execOp,resolve,invoke,builtin,hx,hy,happ]
    unfold cw; rw [h]
    exact kk _ w' (hI.turn hL e1 e2 e3 (by omega) (fun k hk hg=>e5 k fun he=>hg (by rw [he])) (fun b' hb'=>by injection hb' with hb'; subst hb'; simpa using e6))
      ⟨hlen,hroom,hr.capmax,by rw [put_len,hr.size],by rw [Nat.add_mul,← hl,put_take cl news (n * i.size) hs,hr.head],fun h=>by cases h⟩
theorem s_appRoomN {P:Program} {ρ:Env} {B:List Nat} {w w0:World} {L:List (Option Nat × Obj)} {R:Value→World→Prop} {d:Option Nat} {ty:TypeId} {pos:String} {af:Array Edge} {gd:Option (Nat × Bool)} (hI:Inv B w0 w L) {t e:TypeId} {z:Value} {k bytes:Nat} (ht:P.underlying t=some (.slice e)) (hinfo:(P.info? e).map (fun i=>(i.zero,i.size,i.bytes))=some (some z,k,bytes))
    {x y:Operand} (ix:Nat) {b n c:Nat} {cl xs:List Value} (hx:ev ρ x=slv (some b) n c) (hL:L[ix]?=some (some b,blk cl e)) (hr:Row k (some b) n c cl xs)
    {A:Option Addr} {m c2:Nat} (news:List Value) (hy:ev ρ y=.slice A m c2) (hl:news.length=m * k) (hc:bi w A news) (h1:∀ u∈news,u.oneCell'=true) {n2:Nat} (hn:n+m=n2) (hroom:n2≤c)
    (kk:∀ cl' w',Inv B w0 w' (L.set ix (some b,blk cl' e))→Row k (some b) n2 c cl' (xs++news)→R (slv (some b) n2 c) w') :
    cw P ⟨d,.call ⟨.builtin .append,#[x,y],#[t,t]⟩,ty,pos,af,gd⟩ ρ w R:=by
  subst hn
  exact s_appRoom hI ht hinfo ix hx hL hr news hy hl hc h1 hroom kk
theorem len_ge {n m i:Nat} (h:n=m) (h2:i≤m):i≤n:=h ▸ h2
theorem take_len2 {α:Type} {l:List α} {i:Nat} (h:i≤l.length):i=(l.take i).length:=by rw [List.length_take]; omega
theorem drop_len2 {α:Type} {l:List α} {i n:Nat} (hn:n=l.length) (h:i≤l.length):n - i=(l.drop i).length:=by rw [List.length_drop,hn]
theorem s_sliceHiN {P:Program} {ρ:Env} {w:World} {R:Value→World→Prop} {d:Option Nat} {ty:TypeId} {pos:String} {af:Array Edge} {gd:Option (Nat × Bool)} {T E:TypeId} {x y:Operand} {A:Option Addr} {n c k h n2:Nat} (hT:P.underlying T=some (.slice E)) (hS:∀ w,(Go.sizeOf E).run P w=.ok k w) (hx:ev ρ x=.slice A n c) (hy:ev ρ y=.int .i64 (h:Int)) (hn:h=n2) (hc:h≤c)
    (kk:R (.slice A n2 c) w):cw P ⟨d,.slice T x none (some y) none,ty,pos,af,gd⟩ ρ w R:=by
  subst hn; exact s_sliceHi h hT hS hx hy hc kk
theorem s_sliceLoN {P:Program} {ρ:Env} {w:World} {R:Value→World→Prop} {d:Option Nat} {ty:TypeId} {pos:String} {af:Array Edge} {gd:Option (Nat × Bool)} {T E:TypeId} {x y:Operand} {A:Option Addr} {n c k l n2:Nat} (hT:P.underlying T=some (.slice E)) (hS:∀ w,(Go.sizeOf E).run P w=.ok k w) (hx:ev ρ x=.slice A n c) (hy:ev ρ y=.int .i64 (l:Int)) (hl:l≤n) (hn:n - l=n2) (hc:n≤c)
    (kk:R (.slice (K.sub A c l k) n2 (c - l)) w):cw P ⟨d,.slice T x (some y) none none,ty,pos,af,gd⟩ ρ w R:=by
  subst hn; exact s_sliceLo l hT hS hx hy hl hc kk
theorem bi.fromRow {α:Type} {enc:α→List Value} {k:Nat} (hk:∀ x,(enc x).length=k) {w:World} {A:Option Addr} {l:List α} (h:bi w A (al enc l)) {m c n:Nat} (hm:m≤l.length) (hc:n≤c) (hn:n=l.length):bi w (K.sub A c m k) (al enc (l.drop m)):=by
  have hl:=dt hk l
  have:=bi.sub (len:=(al enc (l.drop m)).length) (l:=m) (k:=k) (c:=c) h (by rw [dt hk,hl,List.length_drop,← Nat.add_mul]; exact Nat.mul_le_mul_right _ (by omega)) (by rw [dt hk,List.length_drop]; exact Nat.mul_le_mul_right _ (by omega))
  rw [flat_drop hk l m,List.take_length] at this
  exact this
section bools
variable {P:Program} {ρ:Env} {w:World} {R:Value→World→Prop} {d:Option Nat} {ty:TypeId} {pos:String} {af:Array Edge} {gd:Option (Nat × Bool)}
theorem run_eqB {T:TypeId} (hT:P.underlying T=some .bool) (a b:Bool) (w:World):(Op.equalIn 10000 T (.bool a) (.bool b)).run P w=.ok (a == b) w:=by
  have:Op.equalIn (9999+1) T (.bool a) (.bool b)=Op.equalIn 10000 T (.bool a) (.bool b):=rfl
  rw [← this]
  unfold Op.equalIn
  rw [Sem.run_bind,run_underlying hT]
  rfl
theorem s_neqB {T Ty:TypeId} {x y:Operand} {a b:Bool} (hT:P.underlying T=some .bool) (ha:ev ρ x=.bool a) (hb:ev ρ y=.bool b) (k1:¬ a=b→R (.bool true) w) (k2:a=b→R (.bool false) w):cw P ⟨d,.binOp .neq T x y Ty,ty,pos,af,gd⟩ ρ w R:=by
  have h:(execOp (ev ρ) ⟨d,.binOp .neq T x y Ty,ty,pos,af,gd⟩).run P w=.ok (.value (.bool (!(a == b)))) w:=by
    have e:execOp (ev ρ) ⟨d,.binOp .neq T x y Ty,ty,pos,af,gd⟩=(do pure (.value (← (do eqGuard .neq T x y (ev ρ x) (ev ρ y); binOp .neq T (ev ρ x) (ev ρ y))))):=rfl
    have e2:binOp .neq T (.bool a) (.bool b)=(do pure (.bool (!(← Op.equalIn 10000 T (.bool a) (.bool b))))):=rfl
    have e3:eqGuard .neq T x y (.bool a) (.bool b)=pure ():=rfl
    rw [e,ha,hb,e2,e3]
    simp only [Sem.run_bind,Sem.run_pure,Result.andThen_ok,run_eqB hT]
  refine kl _ h ?_
  cases a <;> cases b <;> first | exact k2 rfl | exact k1 (by decide)
end bools
theorem s_appMakeNil {P:Program} {ρ:Env} {B:List Nat} {w w0:World} {L:List (Option Nat × Obj)} {R:Value→World→Prop} {d:Option Nat} {ty:TypeId} {pos:String} {af:Array Edge} {gd:Option (Nat × Bool)} (hI:Inv B w0 w L) {t e yT:TypeId} {z:Value} {k bytes:Nat} (ht:P.underlying t=some (.slice e)) (hy:P.underlying yT=some (.int .i64)) (hinfo:(P.info? e).map (fun i=>(i.zero,i.size,i.bytes))=some (some z,k,bytes)) (hzs:z.cells.size=k) (hk0:Nat.blt 0 k=true)
    {x y:Operand} {n:Int} (hx:ev ρ x=.slice none 0 0) (hv:ev ρ y=.int .i64 n) (h0:0 < n) {M:Nat} (hn:n≤(M:Int)) (hb:M * bytes≤140737488355328) (hM:M≤140737488355328)
    (kk:∀ b c cl w',Inv B w0 w' ((some b,blk cl e) :: L)→Row k (some b) 0 c cl []→R (slv (some b) n.toNat c) w') :
    cw P ⟨d,.call ⟨.builtin .append,#[x,y],#[t,yT]⟩,ty,pos,af,gd⟩ ρ w R:=by
  cases hq:P.info? e with
  | none=>rw [hq] at hinfo; cases hinfo
  | some i =>
    rw [hq] at hinfo
    simp only [Option.map_some,Option.some.injEq,Prod.mk.injEq] at hinfo
    obtain ⟨hz,hk,hby⟩:=hinfo
    subst hk; subst hby
    obtain ⟨m,rfl⟩:∃ m:Nat,n=(m:Int):=⟨n.toNat,(Int.toNat_of_nonneg (by omega)).symm⟩
    rw [Int.toNat_natCast] at kk
    have hmM:m≤M:=by omega
    have hbb:m * i.bytes≤140737488355328:=Nat.le_trans (Nat.mul_le_mul_right _ hmM) hb
    have hge:=grownCap_ge w m 0 e
    have hcm:grownCap w m 0 e≤maxLen:=grownCap_le_maxLen w m 0 e (by unfold maxLen; omega)
    have hfit:=growslice_fits (need:=m) (old:=0) (bytes:=i.bytes) (by omega) (by omega)
    have hwr:IntKind.i64.wrap (m:Int)=(m:Int):=wrap_in (by omega) (by omega)
    have hlt:¬ ((m:Int) < 0):=by omega
    have hbi:¬ (281474976710656 < (m:Int) * (i.bytes:Int)):=by
      have:((m * i.bytes:Nat):Int)≤140737488355328:=by omega
      rw [Int.natCast_mul] at this
      omega
    have hm0:¬ (m=0):=by omega
    have hms:¬ (m * i.size=0):=by
      have:0 < i.size:=by simpa [Nat.blt_eq] using hk0
      have:=Nat.mul_pos (show 0 < m by omega) this
      omega
    have h48:¬ (281474976710656 < Builtin.nextslicecap m 0 * i.bytes):=by omega
    have h63:¬ ((9223372036854775807:Int) < (m:Int)):=by omega
    obtain ⟨cl,hcl⟩:∃ cl,cl=(Builtin.zeroCells z.cells m).toList++(Builtin.zeroCells z.cells (grownCap w m 0 e - m)).toList:=⟨_,rfl⟩
    have hrun:(Builtin.append_ #[t,yT] ty #[.slice none 0 0,.int .i64 (m:Int)]).run P w=.ok (slv (some w.heap.size) m (grownCap w m 0 e)) (w.drew.alloc (.cells cl.toArray e)):=by
      simp [Builtin.append_,run_underlying ht,run_underlying hy,asInt,asIntOf,sizeOf,typeInfo,zeroValue,hq,hz,hwr,hlt,hbi,hm0,hms,h48,h63,Question.forced,newRow,grownCap,Builtin.firstCells]
      congr 2
      apply Array.ext'
      simp [hcl,grownCap]
    have h:(execOp (ev ρ) ⟨d,.call ⟨.builtin .append,#[x,y],#[t,yT]⟩,ty,pos,af,gd⟩).run P w=.ok (.value (slv (some w.heap.size) m (grownCap w m 0 e))) (w.drew.alloc (blk cl e)):=by
      simp [execOp,resolve,invoke,builtin,hx,hv,hrun]
    unfold cw; rw [h]
    have hI2:=hI.drew.alloc (blk cl e)
    refine kk w.heap.size _ cl _ ?_ ⟨by simp,Nat.zero_le _,hcm,?_,by simp,fun h=>by cases h⟩
    · have e1:w.drew.heap.size=w.heap.size:=rfl
      rw [e1] at hI2
      exact hI2
    rw [hcl,List.length_append,zero_len,zero_len,hzs,← Nat.add_mul]; congr 1; omega
theorem s_makeRowN {P:Program} {ρ:Env} {B:List Nat} {w w0:World} {L:List (Option Nat × Obj)} {R:Value→World→Prop} {d:Option Nat} {ty:TypeId} {pos:String} {af:Array Edge} {gd:Option (Nat × Bool)} (hI:Inv B w0 w L) {T E:TypeId} {z:Value} {k bytes:Nat} {α:Type} {enc:α→List Value} (hk:∀ x,(enc x).length=k) (hk0:0 < k) (z0:α) (ht:P.underlying T=some (.slice E)) (hinfo:(P.info? E).map (fun i=>(i.zero,i.size,i.bytes))=some (some z,k,bytes)) (hz:z.cells=(enc z0).toArray)
    {x y:Operand} (n:Nat) (hx:ev ρ x=.int .i64 (n:Int)) (hy:ev ρ y=.int .i64 (n:Int)) (hn:n≤1000000) (hb:bytes≤1000)
    (kk:∀ b cl w',Inv B w0 w' ((some b,blk cl E) :: L)→Row k (some b) (List.replicate n z0).length n cl (al enc (List.replicate n z0))→R (slv (some b) (List.replicate n z0).length n) w'):cw P ⟨d,.makeSlice T x y,ty,pos,af,gd⟩ ρ w R :=
  s_makeRow hI hk hk0 z0 ht hinfo hz n hx hy hn hb fun b cl w' hI' hr=>by
    have:=kk b cl w' hI'
    rw [List.length_replicate] at this
    exact this hr
theorem ks {P:Program} {ρ:Env} {B:List Nat} {w w0:World} {L:List (Option Nat × Obj)} {R:Value→World→Prop} {d:Option Nat} {ty:TypeId} {pos:String} {af:Array Edge} {gd:Option (Nat × Bool)} (hI:Inv B w0 w L) {t e:TypeId} {z:Value} {k bytes:Nat} (ht:P.underlying t=some (.slice e)) (hinfo:(P.info? e).map (fun i=>(i.zero,i.size,i.bytes))=some (some z,k,bytes)) (hzs:z.cells.size=k) (hk0:Nat.blt 0 k=true)
    {x y:Operand} (ix:Nat) {g:Option Nat} {n c:Nat} {cl xs:List Value} (hx:ev ρ x=slv g n c) (hL:L[ix]?=some (g,blk cl e)) (hr:Row k g n c cl xs)
    {A:Option Addr} {m c2:Nat} (news:List Value) (hy:ev ρ y=.slice A m c2) (hl:news.length=m * k) (hc:bi w A news) (h1:∀ u∈news,u.oneCell'=true) (hmax:n+m≤9223372036854775807) (hbytes:(n+m) * bytes≤140737488355328) {n2:Nat} (hn:n+m=n2)
    (kk:∀ g' c' cl' w',Inv B w0 w' (L.set ix (g',blk cl' e))→Row k g' n2 c' cl' (xs++news)→R (slv g' n2 c') w') :
    cw P ⟨d,.call ⟨.builtin .append,#[x,y],#[t,t]⟩,ty,pos,af,gd⟩ ρ w R:=by
  subst hn
  exact s_app hI ht hinfo hzs hk0 ix hx hL hr news hy hl hc h1 hmax hbytes kk
theorem s_neqA {P:Program} {ρ:Env} {w:World} {R:Value→World→Prop} {d:Option Nat} {ty:TypeId} {pos:String} {af:Array Edge} {gd:Option (Nat × Bool)} {T Ty:TypeId} {x y:Operand} {xs ys:Array Value} {b:Bool} (ha:ev ρ x=.agg xs) (hb:ev ρ y=.agg ys)
    (hm:P.eqGuardType P.depth T=false) (he:∀ w,(Op.equalIn 10000 T (.agg xs) (.agg ys)).run P w=.ok b w) (k1:¬ b=true→R (.bool true) w) (k2:b=true→R (.bool false) w):cw P ⟨d,.binOp .neq T x y Ty,ty,pos,af,gd⟩ ρ w R:=by
  have h:(execOp (ev ρ) ⟨d,.binOp .neq T x y Ty,ty,pos,af,gd⟩).run P w=.ok (.value (.bool (!b))) w:=by
    have e:execOp (ev ρ) ⟨d,.binOp .neq T x y Ty,ty,pos,af,gd⟩=(do pure (.value (← (do eqGuard .neq T x y (ev ρ x) (ev ρ y); binOp .neq T (ev ρ x) (ev ρ y))))):=rfl
    have e2:binOp .neq T (.agg xs) (.agg ys)=(do pure (.bool (!(← Op.equalIn 10000 T (.agg xs) (.agg ys))))):=rfl
    have e3:eqGuard .neq T x y (.agg xs) (.agg ys)=(do
      if !(← program).eqGuardType (← program).depth T then return
      if ← Op.eqGuardIn Op.maxDepth T (.agg xs) (.agg ys) then unsupported (.noEntry "binop/eql: two nil values of an interface type with methods, in a part of a struct or an array")):=rfl
    have e4:(eqGuard .neq T x y (.agg xs) (.agg ys)).run P w=.ok () w:=by rw [e3]; simp [go_sem,hm]
    rw [e,ha,hb,e2]
    simp only [Sem.run_bind,Sem.run_pure,Result.andThen_ok,he,e4]
  refine kl _ h ?_
  cases b with
  | true=>exact k2 rfl
  | false=>exact k1 (by decide)
theorem kz {P:Program} {ρ:Env} {w:World} {R:Value→World→Prop} {d:Option Nat} {ty:TypeId} {pos:String} {af:Array Edge} {gd:Option (Nat × Bool)} {T Ty:TypeId} {x y:Operand} {xs ys:Array Value} {b:Bool} (ha:ev ρ x=.agg xs) (hb:ev ρ y=.agg ys)
    (hm:P.eqGuardType P.depth T=false) (he:∀ w,(Op.equalIn 10000 T (.agg xs) (.agg ys)).run P w=.ok b w) (k1:b=true→R (.bool true) w) (k2:¬ b=true→R (.bool false) w):cw P ⟨d,.binOp .eql T x y Ty,ty,pos,af,gd⟩ ρ w R:=by
  refine kl (.bool b) ?_ ?_
  · have:execOp (ev ρ) ⟨d,.binOp .eql T x y Ty,ty,pos,af,gd⟩=(do pure (.value (← (do eqGuard .eql T x y (ev ρ x) (ev ρ y); binOp .eql T (ev ρ x) (ev ρ y))))):=rfl
    rw [this,ha,hb]
    simp only [Sem.run_bind,run_eqGuard_agg _ _ _ _ _ _ _ hm,run_eql_struct,he,Result.andThen_ok,Sem.run_pure]
  cases b with
  | true=>exact k1 rfl
  | false=>exact k2 (by simp)
end Go.K
end
section
namespace Go.K
open Go.RowKit
def andI (a b:Int):Int:=((a.toNat &&& b.toNat:Nat):Int)
def orI (a b:Int):Int:=((a.toNat ||| b.toNat:Nat):Int)
def andNotI (a b:Int):Int:=((a.toNat &&& (18446744073709551615 - b.toNat):Nat):Int)
section putf
variable {α:Type} {enc:α→List Value} {k:Nat}
end putf
section ops
variable {P:Program} {ρ:Env} {B:List Nat} {w w0:World} {L:List (Option Nat × Obj)} {R:Value→World→Prop} {d:Option Nat} {ty:TypeId} {pos:String} {af:Array Edge} {gd:Option (Nat × Bool)}
end ops
end Go.K
end
section
namespace Go.K
open Go.RowKit
section many
variable {B Bs:List Nat} {w0 w w':World} {L L0 L' N:List (Option Nat × Obj)}
theorem CellsB.nil0 {B:List Nat} {w:World} {A:Option Addr}:CellsB B w A []:=fun h=>absurd h (by simp)
end many
def eBool (b:Bool):List Value:=[.bool b]
theorem s_not {P:Program} {ρ:Env} {w:World} {R:Value→World→Prop} {d:Option Nat} {ty:TypeId} {pos:String} {af:Array Edge} {gd:Option (Nat × Bool)} {T:TypeId} {x:Operand} {a:Bool} (hx:ev ρ x=.bool a) (k:R (.bool (!a)) w):cw P ⟨d,.unOp .not T x,ty,pos,af,gd⟩ ρ w R:=by
  refine kl (.bool (!a)) ?_ k
  have:execOp (ev ρ) ⟨d,.unOp .not T x,ty,pos,af,gd⟩=(do pure (.value (← Op.unary .not (ev ρ x)))):=rfl
  rw [this,hx]; rfl
section scope
def noGotoE (Q:List Deferred→Exit→Env→World→Prop):List Deferred→Exit→Env→World→Prop
  | _,.goto _,_,_=>False
  | ds,e,ρ,w=>Q ds e ρ w
variable {P:Program} {r:Option Nat} {ds:List Deferred} {n:Nat} {Q:List Deferred→Exit→Env→World→Prop} {ρ:Env} {w:World}
end scope
section steps
variable {P:Program} {ρ:Env} {w:World} {R:Value→World→Prop} {d:Option Nat} {ty:TypeId} {pos:String} {af:Array Edge} {gd:Option (Nat × Bool)}
end steps

section sort
def insI (x:Int):List Int→List Int
  | []=>[x]
  | y :: l=>if x≤y then x :: y :: l else y :: insI x l
def sortI:List Int→List Int
  | []=>[]
  | x :: l=>insI x (sortI l)
theorem insI_perm (x:Int):∀ l,(insI x l).Perm (x :: l)
  | []=>.refl _
  | y :: l=>by
    unfold insI
    split
    · exact .refl _
    exact ((insI_perm x l).cons y).trans (.swap x y l)
theorem sortI_perm:∀ l,(sortI l).Perm l
  | []=>.refl _
  | x :: l=>(insI_perm x (sortI l)).trans ((sortI_perm l).cons x)
theorem sortI_len (l:List Int):(sortI l).length=l.length:=(sortI_perm l).length_eq
end sort
end Go.K
end
