import Derived.Test.YtinkdlmimiefaaaGreatPWc
import Derived.Test.YtinkdlmimiefaaaGreatPKt
import Derived.Test.YtinkdlmimiefaaaGreatPE
import Derived.Tactics2
namespace Go.K
open Go.Proofs.Tryz
open Go.Proofs Go.RowKit
set_option linter.unusedVariables false
set_option linter.unusedSimpArgs false
set_option maxRecDepth 100000
attribute [local irreducible] Seq cw cx fl opX
theorem L85 (w0:World) (e:Int) (f:Int) (g:Option Addr) (i:Nat) (a:List Ld) (j:Option Addr) (k:Nat) (b:List Ld) (l:Option Addr) (m:Nat) (d:List Sp) (n:Int) (o:Int) (p:bi w0 g (al eLd a)) (q:a.length≤9223372036854775807) (y:a.length≤i) (s:bi w0 j (al eLd b)) (t:b.length≤9223372036854775807) (z:b.length≤k) (u:bi w0 l (al eSp d)) (x:d.length≤9223372036854775807) (A:d.length≤m) (r:Int) (hF:F85 e f a b d n o=some r):bn Tryz.prog 85 [.agg (ql6 e f g a i j b k l d m n).toArray,.int .i64 o] w0 fun v w=>v=.int .i64 r∧Below w0.heap.size w0 w:=by
  replace hF:=Option.some.inj hF; subst hF
  exact bn.mono (checkDay_c w0 (⟨e,f,a,b,d,n⟩:Pl) g _ i j _ k l _ m ⟨p,rfl,s,rfl,u,rfl,q,t,x⟩ o) (fun v w h=>h)

theorem L97 (w0:World) (e:Int) (f:Int) (g:Option Addr) (i:Nat) (a:List Ld) (j:Option Addr) (k:Nat) (b:List Ld) (l:Option Addr) (m:Nat) (d:List Sp) (n:Int) (o:Int) (p:Int) (q:bi w0 g (al eLd a)) (s:a.length≤9223372036854775807) (z:a.length≤i) (t:bi w0 j (al eLd b)) (u:b.length≤9223372036854775807) (A:b.length≤k) (x:bi w0 l (al eSp d)) (y:d.length≤9223372036854775807) (B:d.length≤m) (r:Int) (hF:F97 e f a b d n o p=some r):bn Tryz.prog 97 [.agg (ql6 e f g a i j b k l d m n).toArray,.int .i64 o,.int .i64 p] w0 fun v w=>v=.int .i64 r∧Below w0.heap.size w0 w:=by
  replace hF:=Option.some.inj hF; subst hF
  exact bn.mono (checkHour_c w0 (⟨e,f,a,b,d,n⟩:Pl) g _ i j _ k l _ m ⟨q,rfl,t,rfl,x,rfl,s,u,y⟩ o p) (fun v w h=>h)

theorem L86 (w0:World) (f:Int) (g:Int) (i:Option Addr) (j:Nat) (a:List Ld) (k:Option Addr) (l:Nat) (b:List Ld) (m:Option Addr) (n:Nat) (d:List Sp) (o:Int) (p:Int) (t:bi w0 i (al eLd a)) (u:a.length≤9223372036854775807) (B:a.length≤j) (x:bi w0 k (al eLd b)) (y:b.length≤9223372036854775807) (C:b.length≤l) (z:bi w0 m (al eSp d)) (A:d.length≤9223372036854775807) (D:d.length≤n) (r:(Int × Int × List Ld × List Ld × List Sp × Int × List Ld)) (hF:F86 f g a b d o p=some r):bn Tryz.prog 86 [.agg (ql6 f g i a j k b l m d n o).toArray,.int .i64 p] w0 fun v w=>∃ (z0:Option Nat) (z1:Nat) (z2:List Value) (z3:Option Nat) (z4:Nat) (z5:List Value) (z6:Option Nat) (z7:Nat) (z8:List Value) (z9:Option Nat) (q:Nat) (s:List Value),v=.agg #[.int .i64 r.1,.int .i64 r.2.1,slv z0 r.2.2.1.length z1,slv z3 r.2.2.2.1.length z4,slv z6 r.2.2.2.2.1.length z7,.int .i64 r.2.2.2.2.2.1,slv z9 r.2.2.2.2.2.2.length q]∧Inv [] w0 w [(z0,blk z2 30),(z3,blk z5 31),(z6,blk z8 33),(z9,blk s 30)]∧Row 6 z0 r.2.2.1.length z1 z2 (al eLd r.2.2.1)∧Row 6 z3 r.2.2.2.1.length z4 z5 (al eLd r.2.2.2.1)∧Row 6 z6 r.2.2.2.2.1.length z7 z8 (al eSp r.2.2.2.2.1)∧Row 6 z9 r.2.2.2.2.2.2.length q s (al eLd r.2.2.2.2.2.2):=by
  refine gdE hF (fun hg hF=>?_)
  replace hF:=Option.some.inj hF; subst hF
  exact bn.mono (sceneOf_c w0 (⟨f,g,a,b,d,o⟩:Pl) i _ j k _ l m _ n ⟨t,rfl,x,rfl,z,rfl,u,y,A⟩ ⟨hg.1,hg.2.1,hg.2.2⟩ p) (fun v w h=>(by obtain ⟨g1,c1,cl1,g2,c2,cl2,g3,c3,cl3,g4,c4,cl4,e,h⟩:=h; exact ⟨g1,c1,cl1,g2,c2,cl2,g3,c3,cl3,g4,c4,cl4,e,h⟩))

theorem L87 (w0:World) (f:Int) (g:Int) (i:Option Addr) (j:Nat) (a:List Ld) (k:Option Addr) (l:Nat) (b:List Ld) (m:Option Addr) (n:Nat) (d:List Sp) (o:Int) (p:Option Addr) (q:Nat) (e:List Ld) (s:bi w0 i (al eLd a)) (z:a.length≤9223372036854775807) (A:a.length≤j) (t:bi w0 k (al eLd b)) (B:b.length≤9223372036854775807) (C:b.length≤l) (u:bi w0 m (al eSp d)) (D:d.length≤9223372036854775807) (E:d.length≤n) (x:bi w0 p (al eLd e)) (F:e.length≤9223372036854775807) (y:e.length≤q) (r:Bool) (hF:F87 f g a b d o e=some r):bn Tryz.prog 87 [.agg (ql7 f g i a j k b l m d n o p e q).toArray] w0 fun v w=>v=.bool r∧Below w0.heap.size w0 w:=by
  refine gdE hF (fun hg hF=>?_)
  replace hF:=Option.some.inj hF; subst hF
  exact bn.mono (sound_c w0 (⟨f,g,a,b,d,o⟩:Pl) i _ j k _ l m _ n e p _ q (sc_in (scB_len hg) s t u x y) (scB_ok hg)) (fun v w h=>h)

theorem L98 (w0:World) (f:Int) (g:Int) (i:Option Addr) (j:Nat) (a:List Ld) (k:Option Addr) (l:Nat) (b:List Ld) (m:Option Addr) (n:Nat) (d:List Sp) (o:Int) (p:Option Addr) (q:Nat) (e:List Ld) (s:Int) (t:bi w0 i (al eLd a)) (A:a.length≤9223372036854775807) (B:a.length≤j) (u:bi w0 k (al eLd b)) (C:b.length≤9223372036854775807) (D:b.length≤l) (x:bi w0 m (al eSp d)) (E:d.length≤9223372036854775807) (F:d.length≤n) (y:bi w0 p (al eLd e)) (G:e.length≤9223372036854775807) (z:e.length≤q) (r:(Int × Int × Bool)) (hF:F98 f g a b d o e s=some r):bn Tryz.prog 98 [.agg (ql7 f g i a j k b l m d n o p e q).toArray,.int .i64 s] w0 fun v w=>v=.tuple #[.agg #[.int .i64 r.1,.int .i64 r.2.1],.bool r.2.2]∧Below w0.heap.size w0 w:=by
  refine gdE hF (fun hg hF=>?_)
  replace hF:=Option.some.inj hF; subst hF
  exact bn.mono (stoodAt_c w0 (⟨f,g,a,b,d,o⟩:Pl) i _ j k _ l m _ n e p _ q (sc_in (scB_len hg) t u x y z) (scB_ok hg) s) (fun v w h=>h)

theorem L102 (w0:World) (i:Int) (j:Int) (k:Option Addr) (l:Nat) (a:List Ld) (m:Option Addr) (n:Nat) (b:List Ld) (o:Option Addr) (p:Nat) (d:List Sp) (q:Int) (s:Option Addr) (t:Nat) (f:List Ld) (u:bi w0 k (al eLd a)) (B:a.length≤9223372036854775807) (C:a.length≤l) (x:bi w0 m (al eLd b)) (D:b.length≤9223372036854775807) (E:b.length≤n) (y:bi w0 o (al eSp d)) (F:d.length≤9223372036854775807) (G:d.length≤p) (z:bi w0 s (al eLd f)) (H:f.length≤9223372036854775807) (A:f.length≤t) (r:(List Rg × Bool)) (hF:F102 i j a b d q f=some r):bn Tryz.prog 102 [.agg (ql7 i j k a l m b n o d p q s f t).toArray] w0 fun v w=>∃ (z0:Option Nat) (z1:Nat) (z2:List Value),v=.tuple #[slv z0 r.1.length z1,.bool r.2]∧Inv [] w0 w [(z0,blk z2 23)]∧Row 2 z0 r.1.length z1 z2 (al eRg r.1):=by
  refine gdE hF (fun hg hF=>?_)
  replace hF:=Option.some.inj hF; subst hF
  exact bn.mono (stood_c w0 (⟨i,j,a,b,d,q⟩:Pl) k _ l m _ n o _ p f s _ t (sc_in (scB_len hg) u x y z A) (scB_ok hg)) (fun v w h=>(by obtain ⟨v1,e,g,c,cl,h1,h2,h3⟩:=h; exact ⟨g,c,cl,by rw [e,h1],h2,h3⟩))

theorem L116 (w0:World) (f:Int) (g:Int) (i:Option Addr) (j:Nat) (a:List Ld) (k:Option Addr) (l:Nat) (b:List Ld) (m:Option Addr) (n:Nat) (d:List Sp) (o:Int) (p:Option Addr) (q:Nat) (e:List Ld) (s:Int) (t:bi w0 i (al eLd a)) (A:a.length≤9223372036854775807) (B:a.length≤j) (u:bi w0 k (al eLd b)) (C:b.length≤9223372036854775807) (D:b.length≤l) (x:bi w0 m (al eSp d)) (E:d.length≤9223372036854775807) (F:d.length≤n) (y:bi w0 p (al eLd e)) (G:e.length≤9223372036854775807) (z:e.length≤q) (r:Bool) (hF:F116 f g a b d o e s=some r):bn Tryz.prog 116 [.agg (ql7 f g i a j k b l m d n o p e q).toArray,.int .i64 s] w0 fun v w=>v=.bool r∧Below w0.heap.size w0 w:=by
  refine gdE hF (fun hg hF=>?_)
  replace hF:=Option.some.inj hF; subst hF
  exact bn.mono (shut_c w0 (⟨f,g,a,b,d,o⟩:Pl) i _ j k _ l m _ n e p _ q (sc_in hg.1 t u x y z) s hg.2) (fun v w h=>h)

theorem L119 (w0:World) (f:Int) (g:Int) (i:Option Addr) (j:Nat) (a:List Ld) (k:Option Addr) (l:Nat) (b:List Ld) (m:Option Addr) (n:Nat) (d:List Sp) (o:Int) (p:Option Addr) (q:Nat) (e:List Ld) (s:Int) (t:bi w0 i (al eLd a)) (A:a.length≤9223372036854775807) (B:a.length≤j) (u:bi w0 k (al eLd b)) (C:b.length≤9223372036854775807) (D:b.length≤l) (x:bi w0 m (al eSp d)) (E:d.length≤9223372036854775807) (F:d.length≤n) (y:bi w0 p (al eLd e)) (G:e.length≤9223372036854775807) (z:e.length≤q) (r:(Int × Bool)) (hF:F119 f g a b d o e s=some r):bn Tryz.prog 119 [.agg (ql7 f g i a j k b l m d n o p e q).toArray,.int .i64 s] w0 fun v w=>v=.tuple #[.int .i64 r.1,.bool r.2]∧Below w0.heap.size w0 w:=by
  refine gdE hF (fun hg hF=>?_)
  replace hF:=Option.some.inj hF; subst hF
  exact bn.mono (geese_c w0 (⟨f,g,a,b,d,o⟩:Pl) i _ j k _ l m _ n e p _ q (sc_in hg.1 t u x y z) s hg.2.1 hg.2.2) (fun v w h=>h)

theorem L101 (w0:World) (f:Int) (g:Int) (i:Option Addr) (j:Nat) (a:List Ld) (k:Option Addr) (l:Nat) (b:List Ld) (m:Option Addr) (n:Nat) (d:List Sp) (o:Int) (p:Option Addr) (q:Nat) (e:List Ld) (s:Int) (t:bi w0 i (al eLd a)) (A:a.length≤9223372036854775807) (B:a.length≤j) (u:bi w0 k (al eLd b)) (C:b.length≤9223372036854775807) (D:b.length≤l) (x:bi w0 m (al eSp d)) (E:d.length≤9223372036854775807) (F:d.length≤n) (y:bi w0 p (al eLd e)) (G:e.length≤9223372036854775807) (z:e.length≤q) (r:(Int × Bool)) (hF:F101 f g a b d o e s=some r):bn Tryz.prog 101 [.agg (ql7 f g i a j k b l m d n o p e q).toArray,.int .i64 s] w0 fun v w=>v=.tuple #[.int .i64 r.1,.bool r.2]∧Below w0.heap.size w0 w:=by
  refine gdE hF (fun hg hF=>?_)
  replace hF:=Option.some.inj hF; subst hF
  exact bn.mono (place_c w0 (⟨f,g,a,b,d,o⟩:Pl) i _ j k _ l m _ n e p _ q (sc_in hg t u x y z) s) (fun v w h=>h)

theorem L118 (w0:World) (j:Int) (k:Int) (l:Option Addr) (m:Nat) (a:List Ld) (u:Option Addr) (x:Nat) (b:List Ld) (n:Option Addr) (o:Nat) (d:List Sp) (p:Int) (q:Option Addr) (s:Nat) (f:List Ld) (t:Int) (i:Rg) (y:bi w0 l (al eLd a)) (D:a.length≤9223372036854775807) (E:a.length≤m) (z:bi w0 u (al eLd b)) (F:b.length≤9223372036854775807) (G:b.length≤x) (A:bi w0 n (al eSp d)) (H:d.length≤9223372036854775807) (I:d.length≤o) (B:bi w0 q (al eLd f)) (J:f.length≤9223372036854775807) (C:f.length≤s) (r:(Int × Int × List Ld × Int)) (hF:F118 j k a b d p f t i=some r):bn Tryz.prog 118 [.agg (ql7 j k l a m u b x n d o p q f s).toArray,.int .i64 t,.agg #[.int .i64 i.lo,.int .i64 i.hi]] w0 fun v w=>∃ (z0:Option Nat) (z1:Nat) (z2:List Value),v=.agg #[.int .i64 r.1,.int .i64 r.2.1,.slice l a.length m,slv z0 r.2.2.1.length z1,.slice n d.length o,.int .i64 r.2.2.2,.slice q f.length s]∧Inv [] w0 w [(z0,blk z2 31)]∧Row 6 z0 r.2.2.1.length z1 z2 (al eLd r.2.2.1):=by
  refine gdE hF (fun hg hF=>?_)
  replace hF:=Option.some.inj hF; subst hF
  exact bn.mono (with_c w0 (⟨j,k,a,b,d,p⟩:Pl) l _ m u _ x n _ o f q _ s (sc_in hg y z A B C) t i.lo i.hi) (fun v w h=>(by obtain ⟨v1,e,g,c,cl,h1,h2,h3⟩:=h; have hn:b.length+1=(kj (⟨j,k,a,b,d,p⟩:Pl) t i.lo i.hi).stands.length:=(by simp [kj]); exact ⟨g,c,cl,by rw [e,h1.trans (slv_n hn)],h2,h3.to rfl hn⟩))

theorem L32 (w0:World) (f:Int) (i:Int) (j:Option Addr) (k:Nat) (a:List Ld) (l:Option Addr) (m:Nat) (b:List Ld) (n:Option Addr) (o:Nat) (d:List Sp) (p:Int) (q:Int) (s:bi w0 j (al eLd a)) (t:a.length≤9223372036854775807) (A:a.length≤k) (u:bi w0 l (al eLd b)) (x:b.length≤9223372036854775807) (B:b.length≤m) (y:bi w0 n (al eSp d)) (z:d.length≤9223372036854775807) (C:d.length≤o) (r:(List Int × Int)) (hF:F32 f i a b d p q=some r):bn Tryz.prog 32 [.agg (ql6 f i j a k l b m n d o p).toArray,.int .i64 q] w0 fun v w=>∃ (z0:Option Nat) (z1:Nat) (z2:List Value),v=.tuple #[slv z0 r.1.length z1,.int .i64 r.2]∧Inv [] w0 w [(z0,blk z2 3)]∧Row 1 z0 r.1.length z1 z2 (al dv r.1):=by
  replace hF:=Option.some.inj hF; subst hF
  exact bn.mono (Clash_c w0 (⟨f,i,a,b,d,p⟩:Pl) j _ k l _ m n _ o ⟨s,rfl,u,rfl,y,rfl,t,x,z⟩ q) (fun v w h=>(by rw [clash_eq] at h; obtain ⟨v1,e,g,c,cl,h1,h2,h3⟩:=h; exact ⟨g,c,cl,by rw [e,h1],h2,h3⟩))

theorem L47 (w0:World) (e:Int) (f:Int) (g:Option Addr) (i:Nat) (a:List Ld) (j:Option Addr) (k:Nat) (b:List Ld) (l:Option Addr) (m:Nat) (d:List Sp) (n:Int) (o:Int) (p:bi w0 g (al eLd a)) (q:a.length≤9223372036854775807) (y:a.length≤i) (s:bi w0 j (al eLd b)) (t:b.length≤9223372036854775807) (z:b.length≤k) (u:bi w0 l (al eSp d)) (x:d.length≤9223372036854775807) (A:d.length≤m) (r:(Int × Int × Int)) (hF:F47 e f a b d n o=some r):bn Tryz.prog 47 [.agg (ql6 e f g a i j b k l d m n).toArray,.int .i64 o] w0 fun v w=>v=.tuple #[.agg #[.int .i64 r.1,.int .i64 r.2.1],.int .i64 r.2.2]∧Below w0.heap.size w0 w:=by
  replace hF:=Option.some.inj hF; subst hF
  exact bn.mono (First_c w0 (⟨e,f,a,b,d,n⟩:Pl) g _ i j _ k l _ m ⟨p,rfl,s,rfl,u,rfl,q,t,x⟩ o) (fun v w h=>h)

theorem L16 (w0:World) (f:Int) (g:Int) (i:Option Addr) (j:Nat) (a:List Ld) (k:Option Addr) (l:Nat) (b:List Ld) (m:Option Addr) (n:Nat) (d:List Sp) (o:Int) (p:Int) (q:bi w0 i (al eLd a)) (s:a.length≤9223372036854775807) (z:a.length≤j) (t:bi w0 k (al eLd b)) (u:b.length≤9223372036854775807) (A:b.length≤l) (x:bi w0 m (al eSp d)) (y:d.length≤9223372036854775807) (B:d.length≤n) (r:(Int × Int × List Ld × List Ld × List Sp × Int × Int)) (hF:F16 f g a b d o p=some r):bn Tryz.prog 16 [.agg (ql6 f g i a j k b l m d n o).toArray,.int .i64 p] w0 fun v w=>∃ (z0:Option Nat) (z1:Nat) (z2:List Value) (z3:Option Nat) (z4:Nat) (z5:List Value) (z6:Option Nat) (z7:Nat) (z8:List Value),v=.tuple #[.agg #[.int .i64 r.1,.int .i64 r.2.1,slv z0 r.2.2.1.length z1,slv z3 r.2.2.2.1.length z4,slv z6 r.2.2.2.2.1.length z7,.int .i64 r.2.2.2.2.2.1],.int .i64 r.2.2.2.2.2.2]∧Inv [] w0 w [(z0,blk z2 30),(z3,blk z5 31),(z6,blk z8 33)]∧Row 6 z0 r.2.2.1.length z1 z2 (al eLd r.2.2.1)∧Row 6 z3 r.2.2.2.1.length z4 z5 (al eLd r.2.2.2.1)∧Row 6 z6 r.2.2.2.2.1.length z7 z8 (al eSp r.2.2.2.2.1):=by
  replace hF:=Option.some.inj hF; subst hF
  exact bn.mono (Without_c w0 (⟨f,g,a,b,d,o⟩:Pl) i _ j k _ l m _ n ⟨q,rfl,t,rfl,x,rfl,s,u,y⟩ p) (fun v w h=>(by obtain ⟨v1,e,g1,c1,cl1,g2,c2,cl2,g3,c3,cl3,e2,h⟩:=h; exact ⟨g1,c1,cl1,g2,c2,cl2,g3,c3,cl3,by rw [e,e2]; rfl,h⟩))


theorem L21 (w0:World) (e:Option Addr) (f:Nat) (a:List Int) (g:Option Addr) (i:Nat) (d:List Int) (C:bi w0 e (al dv a)) (Q:a.length≤9223372036854775807) (R:a.length≤f) (D:bi w0 g (al dv d)) (S:d.length≤9223372036854775807) (T:d.length≤i) (N:Nat) (r:Bool) (hF:F21 N a d=some r):bn Tryz.prog 21 [.slice e a.length f,.slice g d.length i] w0 fun v w=>v=.bool r∧Below w0.heap.size w0 w:=by
 refine az (n:=31) func21 rfl ntmps21 rfl ?_
 have hI:=Inv.start w0
 unfold F21 at hF
 refine ab (rgn rfl (pu kf rfl (aa (dn (fun ρ w=>∃ (k:Bool),cd ρ [(0,.slice e a.length f),(1,.slice g d.length i),(5,.bool k)]∧Inv [] w0 w []∧F21j1 a d N k=some r) ?_ ?_))))
 ·
  refine rgn rfl (pu (.slice e a.length f) rfl (pu (iv ((a.length:Nat):Int)) (by kernel_rfl) (pu (.slice g d.length i) rfl (pu (iv ((d.length:Nat):Int)) (by kernel_rfl) (ifE hF (fun q hF=>?_) (fun q hF=>?_))))))
  ·
   refine ac (di rfl rfl (fun _=>?_) (fun h=>absurd q h))
   refine pu kg rfl (aa ?_)
   exact .inl ⟨rfl,⟨true,⟨rfl,rfl,rfl,trivial⟩,hI.pk [] rfl rfl,hF⟩⟩
  refine ac (di rfl rfl (fun h=>absurd h q) (fun _=>?_))
  refine pu kf rfl (aa ?_)
  exact .inl ⟨rfl,⟨false,⟨rfl,rfl,rfl,trivial⟩,hI.pk [] rfl rfl,hF⟩⟩
 intro ρ w hJ
 obtain ⟨k,hag,hI,hF⟩:=hJ
 obtain ⟨ρ,rfl⟩:=hag.form; clear hag
 unfold F21j1 at hF
 refine dn (fun ρ w=>∃ (l:Bool),cd ρ [(5,.bool l)]∧Inv [] w0 w []∧F21j2 l=some r) ?_ ?_
 ·
  refine ab (rgn rfl (pu (iv 0) rfl (aa (au ?_))))
  refine cb (fun m ρ w=>∃ (j:Bool) (b:Int) (mm:Nat),cd ρ [(0,.slice e a.length f),(1,.slice g d.length i),(5,.bool j),(6,iv b)]∧Inv [] w0 w []∧F21l3 a d mm j b=some r∧mm=m) (m:=N) ⟨k,0,N,⟨rfl,rfl,rfl,rfl,trivial⟩,hI.pk [] rfl rfl,hF,rfl⟩ ?_
  rintro m ρ w ⟨j,b,mm,hag,hI,hF,hm⟩
  subst hm; obtain ⟨ρ,rfl⟩:=hag.form; clear hag
  obtain _ | m3:=mm
  ·cases (show (none:Option Bool)=some r from hF)
  replace hF:F21b3 a d (F21l3 a d m3) j b=some r:=hF; unfold F21b3 at hF
  refine ab (dn (fun ρ w=>∃ (o:Bool),cd ρ [(0,.slice e a.length f),(1,.slice g d.length i),(5,.bool o),(6,iv b),(18,.bool false)]∧Inv [] w0 w []∧F21j4 o=some r) ?_ ?_)
  ·
   have hG:=hF; rcases Bool.eq_false_or_eq_true j with rfl | rfl
   ·
    have hF:=hG; clear hG
    refine ifE hF (fun _ hF=>?_) (fun h=>absurd rfl h)
    refine rgn rfl (pu (iv b) rfl (pu (.slice e a.length f) rfl (pu (iv ((a.length:Nat):Int)) (by kernel_rfl) (ifE hF (fun s hF=>?_) (fun s hF=>?_)))))
    ·
     refine ac (cm rfl rfl (fun _=>?_) (fun h=>absurd s h))
     refine pu kg rfl (puo kg ⟨rfl,rfl⟩ (pu kg rfl (aa (.inr ?_))))
     refine ah rfl (ak (dn (fun ρ w=>∃ (p:Bool),cd ρ [(0,.slice e a.length f),(1,.slice g d.length i),(5,.bool p),(6,iv b)]∧Inv [] w0 w []∧F21j5 (F21l3 a d m3) b p=some r) ?_ ?_))
     ·
      refine au ?_
      refine gm 10 hI (by kernel_rfl) ?_
      refine zp (.slice e a.length f) (fun _=>rfl) (zp (iv b) (fun _=>rfl) (gdE hF (fun x hF=>?_)))
      refine bt hF (fun y z hF=>?_)
      obtain ⟨E,F,G,H,I⟩:=C.at_ cy (by decide) z
      refine zc (.pointer (some ⟨E,F+(b).toNat * 1,none⟩)) (fun w hI=>cn (b).toNat underlying41 sizeOf3 rfl G rfl (Int.toNat_of_nonneg x).symm (fa z rfl) br) (zc (iv y) (fun w hI=>dj hI (iv y) isAgg3 rfl H (by simp) (I 0 _ rfl) br) (zp (.slice g d.length i) (fun _=>rfl) (zp (iv b) (fun _=>rfl) (bt hF (fun A B hF=>?_)))))
      obtain ⟨J,K,L,M,O⟩:=D.at_ cy (by decide) B
      refine zc (.pointer (some ⟨J,K+(b).toNat * 1,none⟩)) (fun w hI=>cn (b).toNat underlying41 sizeOf3 rfl L rfl (Int.toNat_of_nonneg x).symm (fa B rfl) br) (zc (iv A) (fun w hI=>dj hI (iv A) isAgg3 rfl M (by simp) (O 0 _ rfl) br) (ifE hF (fun t hF=>?_) (fun t hF=>?_)))
      ·
       refine zc kg (fun w hI=>di rfl rfl (fun _=>br) (fun h=>absurd t h)) (zp kg (fun _=>rfl) (zh (fun w hI=>?_)))
       refine aa ?_
       exact .inl ⟨rfl,⟨true,⟨rfl,rfl,rfl,rfl,trivial⟩,hI.pk [] rfl rfl,hF⟩⟩
      refine zc kf (fun w hI=>di rfl rfl (fun h=>absurd h t) (fun _=>br)) (zp kf (fun _=>rfl) (zh (fun w hI=>?_)))
      refine aa ?_
      exact .inl ⟨rfl,⟨false,⟨rfl,rfl,rfl,rfl,trivial⟩,hI.pk [] rfl rfl,hF⟩⟩
     intro ρ w hJ
     obtain ⟨p,hag,hI,hF⟩:=hJ
     obtain ⟨ρ,rfl⟩:=hag.form; clear hag
     unfold F21j5 at hF
     refine rgn rfl (pu (iv b) rfl (ckE hF (fun P hF=>?_)))
     refine ac (cj rfl rfl P ?_)
     refine pu (iv (b+1)) rfl (aa ?_)
     exact ⟨rfl,m3,Nat.lt_succ_self _,⟨p,b+1,m3,⟨rfl,rfl,rfl,rfl,trivial⟩,hI.pk [] rfl rfl,hF,rfl⟩⟩
    refine ac (cm rfl rfl (fun h=>absurd h s) (fun _=>?_))
    refine pu kf rfl (of_ rfl (pu kf rfl (aa ?_)))
    exact .inl ⟨rfl,⟨true,⟨rfl,rfl,rfl,rfl,rfl,trivial⟩,hI.pk [] rfl rfl,hF⟩⟩
   have hF:=hG; clear hG
   refine ifE hF (fun h=>absurd h (by decide)) (fun _ hF=>?_)
   refine rgn rfl (pu (iv b) rfl (pu (.slice e a.length f) rfl (pu (iv ((a.length:Nat):Int)) (by kernel_rfl) (ifE hF (fun u hF=>?_) (fun u hF=>?_)))))
   ·
    refine ac (cm rfl rfl (fun _=>?_) (fun h=>absurd u h))
    refine pu kg rfl (puo kf ⟨rfl,rfl⟩ (pu kf rfl (aa ?_)))
    exact .inl ⟨rfl,⟨false,⟨rfl,rfl,rfl,rfl,rfl,trivial⟩,hI.pk [] rfl rfl,hF⟩⟩
   refine ac (cm rfl rfl (fun h=>absurd h u) (fun _=>?_))
   refine pu kf rfl (of_ rfl (pu kf rfl (aa ?_)))
   exact .inl ⟨rfl,⟨false,⟨rfl,rfl,rfl,rfl,rfl,trivial⟩,hI.pk [] rfl rfl,hF⟩⟩
  intro ρ w hJ
  obtain ⟨o,hag,hI,hF⟩:=hJ
  obtain ⟨ρ,rfl⟩:=hag.form; clear hag
  unfold F21j4 at hF
  refine ai rfl (bw ?_)
  exact .inl ⟨rfl,⟨o,⟨rfl,trivial⟩,hI.pk [] rfl rfl,hF⟩⟩
 intro ρ w hJ
 obtain ⟨l,hag,hI,hF⟩:=hJ
 obtain ⟨ρ,rfl⟩:=hag.form; clear hag
 unfold F21j2 at hF
 refine ab ?_
 have hG:=hF; rcases Bool.eq_false_or_eq_true l with rfl | rfl
 ·
  have hF:=hG; clear hG
  refine ifE hF (fun _ hF=>?_) (fun h=>absurd rfl h)
  refine rgn rfl (pu kg rfl (pu kg rfl (aa (aj ?_))))
  replace hF:=Option.some.inj hF; subst hF
  exact ⟨.bool true,Ret.r1 rfl rfl,⟨rfl,hI.below⟩⟩
 have hF:=hG; clear hG
 refine ifE hF (fun h=>absurd h (by decide)) (fun _ hF=>?_)
 refine rgn rfl (pu kf rfl (pu kf rfl (aa (aj ?_))))
 replace hF:=Option.some.inj hF; subst hF
 exact ⟨.bool false,Ret.r1 rfl rfl,⟨rfl,hI.below⟩⟩


theorem L36 (w0:World) (i:Int) (j:Int) (k:Option Addr) (l:Nat) (e:List Ld) (m:Option Addr) (o:Nat) (f:List Ld) (p:Option Addr) (q:Nat) (g:List Sp) (s:Int) (t:Int) (u:Int) (E:bi w0 k (al eLd e)) (F:e.length≤9223372036854775807) (G:e.length≤l) (H:bi w0 m (al eLd f)) (I:f.length≤9223372036854775807) (J:f.length≤o) (K:bi w0 p (al eSp g)) (L:g.length≤9223372036854775807) (M:g.length≤q) (r:(Int × Int × Int)) (hF:F36 i j e f g s t u=some r):bn Tryz.prog 36 [.agg (ql6 i j k e l m f o p g q s).toArray,.int .i64 t,.int .i64 u] w0 fun v w=>v=.tuple #[.agg #[.int .i64 r.1,.int .i64 r.2.1],.int .i64 r.2.2]∧Below w0.heap.size w0 w:=by
 refine az (n:=31) func36 rfl ntmps36 rfl ?_
 have hI:=Inv.start w0
 unfold F36 at hF
 refine ab (rgn rfl (ac (ca hI (ql6 i j k e l m f o p g q s) rfl fun Y w hI=>ac (bh hI [iv 0,iv 0] zeroValue23 rfl fun Z w hI=>pu (iv 0) rfl (aa (ab (ab (rgn rfl (ac (ar hI 1 6 (ql6 i j k e l m f o p g q s) isAgg28 sizeOf28 rfl rfl rfl rfl ?_))))))))))
 refine pu (iv t) rfl (pu (iv u) rfl (bt hF (fun x V hF=>?_)))
 refine ac (bg hI 97 [.agg (ql6 i j k e l m f o p g q s).toArray,iv t,iv u] (iv x) (by kernel_rfl) (L97 _ i j k l e m o f p q g s t u (E.inv0 hI) F G (H.inv0 hI) I J (K.inv0 hI) L M _ V) fun w hI=>pu (iv x) rfl (aa (ab (rgn rfl (pu (iv x) rfl (ifE hF (fun y hF=>?_) (fun y hF=>?_)))))))
 ·
  refine ac (de rfl rfl (fun h=>absurd y h) (fun _=>?_))
  refine aa (ai rfl (ak (ab (rgn rfl (ac (ar hI 1 6 (ql6 i j k e l m f o p g q s) isAgg28 sizeOf28 rfl rfl rfl rfl ?_))))))
  refine pu (iv u) rfl (bt hF (fun d W hF=>?_))
  refine ac (co 86 [.agg (ql6 i j k e l m f o p g q s).toArray,iv u] (by kernel_rfl) (L86 _ i j k l e m o f p q g s u (E.inv0 hI) F G (H.inv0 hI) I J (K.inv0 hI) L M _ W) ?_)
  rintro v w ⟨N,O,a0,P,Q,a1,R,S,a2,T,U,a3,rfl,hN,z,A,B,C⟩
  have hI:=hI.join hN; clear hN
  refine pu (iv t) rfl (bt hF (fun a X hF=>?_))
  refine ac (bg hI 98 [.agg (qt7 d N O P Q R S T U).toArray,iv t] (.tuple #[.agg #[iv a.1,iv a.2.1],.bool a.2.2]) (by kernel_rfl) (L98 _ d.1 d.2.1 (N.map fun b=>⟨b,0,none⟩) O d.2.2.1 (P.map fun b=>⟨b,0,none⟩) Q d.2.2.2.1 (R.map fun b=>⟨b,0,none⟩) S d.2.2.2.2.1 d.2.2.2.2.2.1 (T.map fun b=>⟨b,0,none⟩) U d.2.2.2.2.2.2 t (hI.rowCells 0 rfl z) (am rfl z.big) (am rfl z.cap) (hI.rowCells 1 rfl A) (am rfl A.big) (am rfl A.cap) (hI.rowCells 2 rfl B) (am rfl B.big) (am rfl B.cap) (hI.rowCells 3 rfl C) (am rfl C.big) (am rfl C.cap) _ X) fun w hI=>pu (.tuple #[.agg #[iv a.1,iv a.2.1],.bool a.2.2]) rfl (pu (.agg #[iv a.1,iv a.2.1]) rfl (pu (.bool a.2.2) rfl (ac (bh hI [iv 0,iv 0] zeroValue23 rfl fun a4 w hI=>ac (aq hI 0 2 [iv a.1,iv a.2.1] sizeOf23 rfl rfl rfl rfl rfl (kh rfl) fun w hI=>pu (.bool a.2.2) rfl (aa (ab (ab (ifE hF (fun D hF=>?_) (fun D hF=>?_)))))))))))
  ·
   rw [D]
   refine rgn rfl (pu kg rfl (pu kf rfl (aa (ai rfl (ak (ab (rgn rfl (ac (ar hI 0 2 [iv a.1,iv a.2.1] isAgg23 sizeOf23 rfl rfl rfl rfl ?_)))))))))
   refine ac (aq hI 5 2 [iv a.1,iv a.2.1] sizeOf23 rfl rfl rfl rfl rfl (kh rfl) fun w hI=>pu (iv 0) rfl (aa (aj ?_)))
   replace hF:=Option.some.inj hF; subst hF
   exact ⟨.tuple #[.agg #[iv a.1,iv a.2.1],iv 0],Ret.ct rfl rfl (ce hI 5 2 [iv a.1,iv a.2.1] isAgg23 sizeOf23 rfl rfl rfl) rfl,⟨rfl,hI.below⟩⟩
  rw [(Bool.eq_false_iff.2 D)]
  refine rgn rfl (pu kf rfl (pu kg rfl (aa (ah rfl (ab (rgn rfl (pu (.agg #[iv 0,iv 0]) (by kernel_rfl) (ac (aq hI 5 2 [iv 0,iv 0] sizeOf23 rfl rfl rfl rfl rfl (kh rfl) fun w hI=>pu (iv 14) rfl (aa (aj ?_)))))))))))
  replace hF:=Option.some.inj hF; subst hF
  exact ⟨.tuple #[.agg #[iv 0,iv 0],iv 14],Ret.ct rfl rfl (ce hI 5 2 [iv 0,iv 0] isAgg23 sizeOf23 rfl rfl rfl) rfl,⟨rfl,hI.below⟩⟩
 refine ac (de rfl rfl (fun _=>?_) (fun h=>absurd h y))
 refine aa (ah rfl (ab (rgn rfl (pu (.agg #[iv 0,iv 0]) (by kernel_rfl) (pu (iv x) rfl (ac (aq hI 0 2 [iv 0,iv 0] sizeOf23 rfl rfl rfl rfl rfl (kh rfl) fun w hI=>pu (iv x) rfl (aa (aj ?_)))))))))
 replace hF:=Option.some.inj hF; subst hF
 exact ⟨.tuple #[.agg #[iv 0,iv 0],iv x],Ret.ct rfl rfl (ce hI 0 2 [iv 0,iv 0] isAgg23 sizeOf23 rfl rfl rfl) rfl,⟨rfl,hI.below⟩⟩


theorem L103 (w0:World) (a:Rg) (b:Rg) (r:(Int × Int)) (hF:F103 a b=some r):bn Tryz.prog 103 [.agg #[.int .i64 a.lo,.int .i64 a.hi],.agg #[.int .i64 b.lo,.int .i64 b.hi]] w0 fun v w=>v=.agg #[.int .i64 r.1,.int .i64 r.2]∧Below w0.heap.size w0 w:=by
 refine az (n:=16) func103 rfl ntmps103 rfl ?_
 have hI:=Inv.start w0
 unfold F103 at hF
 refine ab (rgn rfl (ac (ca hI [iv a.lo,iv a.hi] rfl fun b4 w hI=>ac (ca hI [iv b.lo,iv b.hi] rfl fun b5 w hI=>ac (bh hI [iv 0,iv 0] zeroValue23 rfl fun b6 w hI=>aa (ab (rgn rfl (pu (.pointer (some ⟨b4,0,none⟩)) rfl (ac (ag hI 2 (iv a.lo) isAgg3 rfl rfl rfl ?_))))))))))
 refine pu (.pointer (some ⟨b5,0,none⟩)) rfl (ac (ag hI 1 (iv b.lo) isAgg3 rfl rfl rfl ?_))
 refine pu (iv (if b.lo > a.lo then b.lo else a.lo)) (by kernel_rfl) (pu (.pointer (some ⟨b4,1,none⟩)) rfl (ac (ag hI 2 (iv a.hi) isAgg3 rfl rfl rfl ?_)))
 refine pu (.pointer (some ⟨b5,1,none⟩)) rfl (ac (ag hI 1 (iv b.hi) isAgg3 rfl rfl rfl ?_))
 refine pu (iv (if b.hi < a.hi then b.hi else a.hi)) (by kernel_rfl) (pu (.agg #[iv (if b.lo > a.lo then b.lo else a.lo),iv (if b.hi < a.hi then b.hi else a.hi)]) (by kernel_rfl) (ac (aq hI 0 2 [iv (if b.lo > a.lo then b.lo else a.lo),iv (if b.hi < a.hi then b.hi else a.hi)] sizeOf23 rfl rfl rfl rfl rfl (kh rfl) fun w hI=>aa (aj ?_))))
 replace hF:=Option.some.inj hF; subst hF
 exact ⟨.agg #[iv (if b.lo > a.lo then b.lo else a.lo),iv (if b.hi < a.hi then b.hi else a.hi)],Ret.c rfl rfl (ce hI 0 2 [iv (if b.lo > a.lo then b.lo else a.lo),iv (if b.hi < a.hi then b.hi else a.hi)] isAgg23 sizeOf23 rfl rfl rfl),⟨rfl,hI.below⟩⟩


theorem L38 (w0:World) (m:Int) (o:Int) (p:Option Addr) (q:Nat) (g:List Ld) (s:Option Addr) (t:Nat) (i:List Ld) (u:Option Addr) (x:Nat) (k:List Sp) (z:Int) (R:Int) (E:Int) (a0:bi w0 p (al eLd g)) (a1:g.length≤9223372036854775807) (a2:g.length≤q) (a3:bi w0 s (al eLd i)) (a4:i.length≤9223372036854775807) (a5:i.length≤t) (a6:bi w0 u (al eSp k)) (a7:k.length≤9223372036854775807) (a8:k.length≤x) (r:(Int × Int × Int)) (hF:F38 m o g i k z R E=some r):bn Tryz.prog 38 [.agg (ql6 m o p g q s i t u k x z).toArray,.int .i64 R,.int .i64 E] w0 fun v w=>v=.tuple #[.agg #[.int .i64 r.1,.int .i64 r.2.1],.int .i64 r.2.2]∧Below w0.heap.size w0 w:=by
 refine az (n:=71) func38 rfl ntmps38 rfl ?_
 have hI:=Inv.start w0
 unfold F38 at hF
 refine ab (rgn rfl (ac (ca hI (ql6 m o p g q s i t u k x z) rfl fun aI w hI=>ac (bh hI [iv 0,iv 0] zeroValue23 rfl fun a9 w hI=>pu (iv 0) rfl (aa (ab (ab (rgn rfl (ac (ar hI 1 6 (ql6 m o p g q s i t u k x z) isAgg28 sizeOf28 rfl rfl rfl rfl ?_))))))))))
 refine pu (iv E) rfl (bt hF (fun N aJ hF=>?_))
 refine ac (bg hI 85 [.agg (ql6 m o p g q s i t u k x z).toArray,iv E] (iv N) (by kernel_rfl) (L85 _ m o p q g s t i u x k z E (a0.inv0 hI) a1 a2 (a3.inv0 hI) a4 a5 (a6.inv0 hI) a7 a8 _ aJ) fun w hI=>pu (iv N) rfl (aa (ab (rgn rfl (pu (iv N) rfl (ifE hF (fun T hF=>?_) (fun T hF=>?_)))))))
 ·
  refine ac (de rfl rfl (fun h=>absurd T h) (fun _=>?_))
  refine aa (ai rfl (ak (ab (rgn rfl (ac (ar hI 1 6 (ql6 m o p g q s i t u k x z) isAgg28 sizeOf28 rfl rfl rfl rfl ?_))))))
  refine pu (iv E) rfl (bt hF (fun a aK hF=>?_))
  refine ac (co 86 [.agg (ql6 m o p g q s i t u k x z).toArray,iv E] (by kernel_rfl) (L86 _ m o p q g s t i u x k z E (a0.inv0 hI) a1 a2 (a3.inv0 hI) a4 a5 (a6.inv0 hI) a7 a8 _ aK) ?_)
  rintro v w ⟨B,F,aL,C,G,aM,D,H,aN,l,A,aO,rfl,hN,O,P,Q,L⟩
  have hI:=hI.join hN; clear hN
  refine ac (bh hI (qn7 0 0 none 0 0 none 0 0 none 0 0 0 none 0 0) zeroValue116 rfl fun U w hI=>ac (aq hI 0 7 (qt7 a B F C G D H l A) sizeOf116 rfl rfl rfl rfl rfl (kh rfl) fun w hI=>aa (ab (rgn rfl (ac (ar hI 0 7 (qt7 a B F C G D H l A) isAgg116 sizeOf116 rfl rfl rfl rfl ?_))))))
  refine pu (iv R) rfl (bt hF (fun f aP hF=>?_))
  refine ac (bg hI 101 [.agg (qt7 a B F C G D H l A).toArray,iv R] (.tuple #[iv f.1,.bool f.2]) (by kernel_rfl) (L101 _ a.1 a.2.1 (B.map fun b=>⟨b,0,none⟩) F a.2.2.1 (C.map fun b=>⟨b,0,none⟩) G a.2.2.2.1 (D.map fun b=>⟨b,0,none⟩) H a.2.2.2.2.1 a.2.2.2.2.2.1 (l.map fun b=>⟨b,0,none⟩) A a.2.2.2.2.2.2 R (hI.rowCells 1 rfl O) (am rfl O.big) (am rfl O.cap) (hI.rowCells 2 rfl P) (am rfl P.big) (am rfl P.cap) (hI.rowCells 3 rfl Q) (am rfl Q.big) (am rfl Q.cap) (hI.rowCells 4 rfl L) (am rfl L.big) (am rfl L.cap) _ aP) fun w hI=>pu (.tuple #[iv f.1,.bool f.2]) rfl (pu (iv f.1) rfl (pu (.bool f.2) rfl (pu (iv f.1) rfl (pu (.bool f.2) rfl (aa (ab (ab (ifE hF (fun V hF=>?_) (fun V hF=>?_))))))))))
  ·
   rw [V]
   refine rgn rfl (pu kg rfl (pu kf rfl (aa (ai rfl (ak (ab (rgn rfl (ac (ar hI 0 7 (qt7 a B F C G D H l A) isAgg116 sizeOf116 rfl rfl rfl rfl ?_)))))))))
   refine bt hF (fun I aQ hF=>?_)
   refine ac (co 102 [.agg (qt7 a B F C G D H l A).toArray] (by kernel_rfl) (L102 _ a.1 a.2.1 (B.map fun b=>⟨b,0,none⟩) F a.2.2.1 (C.map fun b=>⟨b,0,none⟩) G a.2.2.2.1 (D.map fun b=>⟨b,0,none⟩) H a.2.2.2.2.1 a.2.2.2.2.2.1 (l.map fun b=>⟨b,0,none⟩) A a.2.2.2.2.2.2 (hI.rowCells 1 rfl O) (am rfl O.big) (am rfl O.cap) (hI.rowCells 2 rfl P) (am rfl P.big) (am rfl P.cap) (hI.rowCells 3 rfl Q) (am rfl Q.big) (am rfl Q.cap) (hI.rowCells 4 rfl L) (am rfl L.big) (am rfl L.cap) _ aQ) ?_)
   rintro v w ⟨W,S,Y,rfl,hN,aA⟩
   have hI:=hI.join hN; clear hN
   refine pu (.tuple #[slv W I.1.length S,.bool I.2]) rfl (pu (slv W I.1.length S) rfl (pu (.bool I.2) rfl (pu (slv W I.1.length S) rfl (pu (.bool I.2) rfl (aa (ab (ab (ifE hF (fun Z hF=>?_) (fun Z hF=>?_)))))))))
   ·
    rw [Z]
    refine rgn rfl (pu kg rfl (pu kf rfl (aa (ai rfl (ak (ab (gdE hF (fun aB hF=>?_))))))))
    refine bt hF (fun d aC hF=>?_)
    refine ckE hF (fun aR hF=>?_)
    refine gdE hF (fun aS hF=>?_)
    refine bt hF (fun e aD hF=>?_)
    obtain ⟨M,rfl,aT⟩:=aA.at_ da (by decide) aC
    have aU:=aA.atS da (by decide) aD
    refine kx [tv (fun _=>(slv (some M) I.1.length S)),tv (fun _=>(iv f.1)),tr (fun _=>(.pointer (some ⟨M,((f.1).toNat) * 2,none⟩))) [],tr (fun _=>(.agg #[iv d.lo,iv d.hi])) [13],tv (fun _=>(slv (some M) I.1.length S)),tv (fun _=>(iv f.1)),tr (fun _=>(iv (f.1+1))) [],tr (fun _=>(.pointer (some ⟨M,((f.1+1).toNat) * 2,none⟩))) [],tr (fun _=>(.agg #[iv e.lo,iv e.hi])) [13],tal 9 [iv 0,iv 0] 23,tal 10 [iv 0,iv 0] 23,tst (fun y=>[(some (y 9).b,blk [iv d.lo,iv d.hi] 23)]) 9,tst (fun y=>[(some (y 10).b,blk [iv e.lo,iv e.hi] 23)]) 10] (fun y=>[(6,.pointer (some ⟨a9,0,none⟩)),(9,.pointer (some ⟨U,0,none⟩)),(10,iv f.1),(13,.pointer (some ⟨(y 9).b,0,none⟩)),(14,.pointer (some ⟨(y 10).b,0,none⟩))]) (fun y=>[(some (y 9).b,blk [iv d.lo,iv d.hi] 23),(some (y 10).b,blk [iv e.lo,iv e.hi] 23),(some M,blk Y 23),(some U,blk (qt7 a B F C G D H l A) 116),(B,blk aL 30),(C,blk aM 31),(D,blk aN 33),(l,blk aO 30),(some a9,blk [iv 0,iv 0] 23),(some aI,blk (ql6 m o p g q s i t u k x z) 28)]) hI (by kernel_rfl) (fun y=>⟨rfl,rfl⟩) (fun y=>?_) ?_
    ·
     refine tp rfl (fun _=>rfl) (tp rfl (fun _=>rfl) (tl0 rfl (fun X w hI=>be ((f.1).toNat) underlying130 sizeOf23 rfl rfl (Int.toNat_of_nonneg aB).symm (fa aC rfl) br) (tl1 [(some M,blk Y 23)] rfl rfl (fun X w hI=>cq hI 0 [iv d.lo,iv d.hi] isAgg23 sizeOf23 rfl rfl rfl aT br) (tp rfl (fun _=>rfl) (tp rfl (fun _=>rfl) (tl0 rfl (fun X w hI=>cj rfl rfl aR br) (tl0 rfl (fun X w hI=>be ((f.1+1).toNat) underlying130 sizeOf23 rfl rfl (Int.toNat_of_nonneg aS).symm (fa aD rfl) br) (tl1 [(some M,blk Y 23)] rfl rfl (fun X w hI=>cq hI 0 [iv e.lo,iv e.hi] isAgg23 sizeOf23 rfl rfl rfl aU br) (tA rfl zeroValue23 rfl ?_)))))))))
     refine tA rfl zeroValue23 rfl (tS [(some (y 9).b,blk [iv 0,iv 0] 23)] rfl ⟨rfl,rfl⟩ (fun X w hI=>aq hI 0 2 [iv d.lo,iv d.hi] sizeOf23 rfl rfl rfl rfl rfl (kh rfl) fun w hI=>⟨rfl,hI.castL rfl⟩) (tS [(some (y 10).b,blk [iv 0,iv 0] 23)] rfl ⟨rfl,rfl⟩ (fun X w hI=>aq hI 0 2 [iv e.lo,iv e.hi] sizeOf23 rfl rfl rfl rfl rfl (kh rfl) fun w hI=>⟨rfl,hI.castL rfl⟩) ?_))
     exact tn
    intro y hp ρ w hag hI
    clear hp
    generalize (y 9).b=aE at *
    generalize (y 10).b=aF at *
    obtain ⟨ρ,rfl⟩:=hag.form; clear hag
    refine ab (rgn rfl (pu (.pointer (some ⟨aE,0,none⟩)) rfl (ac (ag hI 0 (iv d.lo) isAgg3 rfl rfl rfl ?_))))
    refine pu (.pointer (some ⟨aF,1,none⟩)) rfl (ac (ag hI 1 (iv e.hi) isAgg3 rfl rfl rfl ?_))
    refine ckE hF (fun aV hF=>?_)
    refine ac (dm rfl rfl aV ?_)
    refine pu (.pointer (some ⟨aE,1,none⟩)) rfl (ac (ag hI 0 (iv d.hi) isAgg3 rfl rfl rfl ?_))
    refine pu (.pointer (some ⟨aF,0,none⟩)) rfl (ac (ag hI 1 (iv e.lo) isAgg3 rfl rfl rfl ?_))
    refine ckE hF (fun aW hF=>?_)
    refine ac (dm rfl rfl aW ?_)
    refine pu (.agg #[iv (d.lo - e.hi),iv (d.hi - e.lo)]) (by kernel_rfl) (ac (bh hI [iv 0,iv 0] zeroValue23 rfl fun aZ w hI=>ac (aq hI 0 2 [iv (d.lo - e.hi),iv (d.hi - e.lo)] sizeOf23 rfl rfl rfl rfl rfl (kh rfl) fun w hI=>aa (ab (gm 8 hI (by kernel_rfl) ?_)))))
    refine zp (.pointer (some ⟨U,6,none⟩)) (fun _=>rfl) (zc (slv l a.2.2.2.2.2.2.length A) (fun w hI=>ag hI 4 (slv l a.2.2.2.2.2.2.length A) isAgg24 rfl rfl rfl br) (zp (iv f.1) (fun _=>rfl) (bt hF (fun J aG hF=>?_))))
    obtain ⟨aH,rfl,aX⟩:=L.at_ bf (by decide) aG
    refine zc (.pointer (some ⟨aH,((f.1).toNat) * 6,none⟩)) (fun w hI=>be ((f.1).toNat) underlying24 sizeOf30 rfl rfl (Int.toNat_of_nonneg aB).symm (fa aG rfl) br) (zp (.pointer (some ⟨aH,((f.1).toNat) * 6+2,none⟩)) (fun _=>rfl) (zc (.agg #[iv J.lo,iv J.hi]) (fun w hI=>cq hI 8 [iv J.lo,iv J.hi] isAgg23 sizeOf23 rfl rfl rfl (fun j v h=>by have:=part_of aX 2 2 rfl j v h; rwa [← Nat.add_assoc] at this) br) (zc (.agg #[iv (d.lo - e.hi),iv (d.hi - e.lo)]) (fun w hI=>ar hI 0 2 [iv (d.lo - e.hi),iv (d.hi - e.lo)] isAgg23 sizeOf23 rfl rfl rfl rfl br) (bt hF (fun K aY hF=>?_)))))
    refine zc (.agg #[iv K.1,iv K.2]) (fun w hI=>co 103 [.agg #[iv J.lo,iv J.hi],.agg #[iv (d.lo - e.hi),iv (d.hi - e.lo)]] (by kernel_rfl) (L103 _ (⟨J.lo,J.hi⟩:Rg) (⟨d.lo - e.hi,d.hi - e.lo⟩:Rg) _ aY) (fun v' w' h=>h)) (zh (fun w hI=>?_))
    refine ac (aq hI 9 2 [iv K.1,iv K.2] sizeOf23 rfl rfl rfl rfl rfl (kh rfl) fun w hI=>pu (iv 0) rfl (aa (aj ?_)))
    replace hF:=Option.some.inj hF; subst hF
    exact ⟨.tuple #[.agg #[iv K.1,iv K.2],iv 0],Ret.ct rfl rfl (ce hI 9 2 [iv K.1,iv K.2] isAgg23 sizeOf23 rfl rfl rfl) rfl,⟨rfl,hI.below⟩⟩
   rw [(Bool.eq_false_iff.2 Z)]
   refine rgn rfl (pu kf rfl (pu kg rfl (aa (ah rfl (ab (rgn rfl (pu (.agg #[iv 0,iv 0]) (by kernel_rfl) (ac (aq hI 6 2 [iv 0,iv 0] sizeOf23 rfl rfl rfl rfl rfl (kh rfl) fun w hI=>pu (iv 14) rfl (aa (aj ?_)))))))))))
   replace hF:=Option.some.inj hF; subst hF
   exact ⟨.tuple #[.agg #[iv 0,iv 0],iv 14],Ret.ct rfl rfl (ce hI 6 2 [iv 0,iv 0] isAgg23 sizeOf23 rfl rfl rfl) rfl,⟨rfl,hI.below⟩⟩
  rw [(Bool.eq_false_iff.2 V)]
  refine rgn rfl (pu kf rfl (pu kg rfl (aa (ah rfl (ab (rgn rfl (pu (.agg #[iv 0,iv 0]) (by kernel_rfl) (ac (aq hI 5 2 [iv 0,iv 0] sizeOf23 rfl rfl rfl rfl rfl (kh rfl) fun w hI=>pu (iv 17) rfl (aa (aj ?_)))))))))))
  replace hF:=Option.some.inj hF; subst hF
  exact ⟨.tuple #[.agg #[iv 0,iv 0],iv 17],Ret.ct rfl rfl (ce hI 5 2 [iv 0,iv 0] isAgg23 sizeOf23 rfl rfl rfl) rfl,⟨rfl,hI.below⟩⟩
 refine ac (de rfl rfl (fun _=>?_) (fun h=>absurd h T))
 refine aa (ah rfl (ab (rgn rfl (pu (.agg #[iv 0,iv 0]) (by kernel_rfl) (pu (iv N) rfl (ac (aq hI 0 2 [iv 0,iv 0] sizeOf23 rfl rfl rfl rfl rfl (kh rfl) fun w hI=>pu (iv N) rfl (aa (aj ?_)))))))))
 replace hF:=Option.some.inj hF; subst hF
 exact ⟨.tuple #[.agg #[iv 0,iv 0],iv N],Ret.ct rfl rfl (ce hI 0 2 [iv 0,iv 0] isAgg23 sizeOf23 rfl rfl rfl) rfl,⟨rfl,hI.below⟩⟩


theorem L112 (w0:World) (a:Bool) (b:Bool) (r:Int) (hF:F112 a b=some r):bn Tryz.prog 112 [.bool a,.bool b] w0 fun v w=>v=.int .i64 r∧Below w0.heap.size w0 w:=by
 refine az (n:=9) func112 rfl ntmps112 rfl ?_
 have hI:=Inv.start w0
 unfold F112 at hF
 refine ab (rgn rfl (pu (iv 0) rfl (aa (ab (au ?_)))))
 refine ab ?_
 have hG:=hF; rcases Bool.eq_false_or_eq_true b with rfl | rfl
 ·
  have hF:=hG; clear hG
  refine ifE hF (fun _ hF=>?_) (fun h=>absurd rfl h)
  refine rgn rfl (pu kg rfl (pu kg rfl (aa (ah rfl (ab (rgn rfl (pu (iv 1) rfl (aa (aj ?_)))))))))
  replace hF:=Option.some.inj hF; subst hF
  exact ⟨iv 1,Ret.r1 rfl rfl,⟨rfl,hI.below⟩⟩
 have hF:=hG; clear hG
 refine ifE hF (fun h=>absurd h (by decide)) (fun _ hF=>?_)
 refine rgn rfl (pu kf rfl (pu kf rfl (aa (ai rfl (ab ?_)))))
 have hG:=hF; rcases Bool.eq_false_or_eq_true a with rfl | rfl
 ·
  have hF:=hG; clear hG
  refine ifE hF (fun _ hF=>?_) (fun h=>absurd rfl h)
  refine rgn rfl (pu kg rfl (pu kg rfl (aa (ah rfl (ab (rgn rfl (pu (iv 2) rfl (aa (aj ?_)))))))))
  replace hF:=Option.some.inj hF; subst hF
  exact ⟨iv 2,Ret.r1 rfl rfl,⟨rfl,hI.below⟩⟩
 have hF:=hG; clear hG
 refine ifE hF (fun h=>absurd h (by decide)) (fun _ hF=>?_)
 refine rgn rfl (pu kf rfl (pu kf rfl (aa (ai rfl (ak (ab (rgn rfl (pu (iv 0) rfl (aa ?_)))))))))
 refine aj ?_
 replace hF:=Option.some.inj hF; subst hF
 exact ⟨iv 0,Ret.r1 rfl rfl,⟨rfl,hI.below⟩⟩


theorem L45 (w0:World) (f:Int) (g:Int) (i:Option Addr) (j:Nat) (b:List Ld) (k:Option Addr) (l:Nat) (d:List Ld) (m:Option Addr) (o:Nat) (e:List Sp) (p:Int) (q:Int) (s:Int) (E:bi w0 i (al eLd b)) (F:b.length≤9223372036854775807) (G:b.length≤j) (H:bi w0 k (al eLd d)) (I:d.length≤9223372036854775807) (J:d.length≤l) (K:bi w0 m (al eSp e)) (L:e.length≤9223372036854775807) (M:e.length≤o) (r:(Int × Int)) (hF:F45 f g b d e p q s=some r):bn Tryz.prog 45 [.agg (ql6 f g i b j k d l m e o p).toArray,.int .i64 q,.int .i64 s] w0 fun v w=>v=.tuple #[.int .i64 r.1,.int .i64 r.2]∧Below w0.heap.size w0 w:=by
 refine az (n:=27) func45 rfl ntmps45 rfl ?_
 have hI:=Inv.start w0
 unfold F45 at hF
 refine ab (rgn rfl (ac (ca hI (ql6 f g i b j k d l m e o p) rfl fun S w hI=>pu (iv 0) rfl (pu (iv 0) rfl (aa (ab (rgn rfl (ac (ar hI 0 6 (ql6 f g i b j k d l m e o p) isAgg28 sizeOf28 rfl rfl rfl rfl ?_)))))))))
 refine pu (iv q) rfl (pu (iv s) rfl (bt hF (fun a N hF=>?_)))
 refine ac (bg hI 36 [.agg (ql6 f g i b j k d l m e o p).toArray,iv q,iv s] (.tuple #[.agg #[iv a.1,iv a.2.1],iv a.2.2]) (by kernel_rfl) (L36 _ f g i j b k l d m o e p q s (E.inv0 hI) F G (H.inv0 hI) I J (K.inv0 hI) L M _ N) fun w hI=>pu (.tuple #[.agg #[iv a.1,iv a.2.1],iv a.2.2]) rfl (pu (.agg #[iv a.1,iv a.2.1]) rfl (pu (iv a.2.2) rfl (ac (bh hI [iv 0,iv 0] zeroValue23 rfl fun t w hI=>ac (aq hI 0 2 [iv a.1,iv a.2.1] sizeOf23 rfl rfl rfl rfl rfl (kh rfl) fun w hI=>pu (iv a.2.2) rfl (aa (ab (ab (rgn rfl (pu (iv a.2.2) rfl (ifE hF (fun u hF=>?_) (fun u hF=>?_)))))))))))))
 ·
  refine ac (de rfl rfl (fun h=>absurd u h) (fun _=>?_))
  refine aa (ai rfl (ak (ab (rgn rfl (pu (.pointer (some ⟨t,0,none⟩)) rfl (ac (ag hI 0 (iv a.1) isAgg3 rfl rfl rfl ?_)))))))
  refine ifE hF (fun x hF=>?_) (fun x hF=>?_)
  ·
   refine ac (di rfl rfl (fun _=>?_) (fun h=>absurd x h))
   refine pu (.pointer (some ⟨t,1,none⟩)) rfl (ac (ag hI 0 (iv a.2.1) isAgg3 rfl rfl rfl ?_))
   refine ifE hF (fun y hF=>?_) (fun y hF=>?_)
   ·
    refine ac (di rfl rfl (fun _=>?_) (fun h=>absurd y h))
    refine bt hF (fun z O hF=>?_)
    refine ac (bg hI 112 [.bool true,.bool true] (iv z) (by kernel_rfl) (L112 _ true true _ O) fun w hI=>pu (iv z) rfl (pu (iv 0) rfl (aa (aj ?_))))
    replace hF:=Option.some.inj hF; subst hF
    exact ⟨.tuple #[iv z,iv 0],Ret.r2 rfl rfl rfl,⟨rfl,hI.below⟩⟩
   refine ac (di rfl rfl (fun h=>absurd h y) (fun _=>?_))
   refine bt hF (fun A P hF=>?_)
   refine ac (bg hI 112 [.bool true,.bool false] (iv A) (by kernel_rfl) (L112 _ true false _ P) fun w hI=>pu (iv A) rfl (pu (iv 0) rfl (aa (aj ?_))))
   replace hF:=Option.some.inj hF; subst hF
   exact ⟨.tuple #[iv A,iv 0],Ret.r2 rfl rfl rfl,⟨rfl,hI.below⟩⟩
  refine ac (di rfl rfl (fun h=>absurd h x) (fun _=>?_))
  refine pu (.pointer (some ⟨t,1,none⟩)) rfl (ac (ag hI 0 (iv a.2.1) isAgg3 rfl rfl rfl ?_))
  refine ifE hF (fun B hF=>?_) (fun B hF=>?_)
  ·
   refine ac (di rfl rfl (fun _=>?_) (fun h=>absurd B h))
   refine bt hF (fun C Q hF=>?_)
   refine ac (bg hI 112 [.bool false,.bool true] (iv C) (by kernel_rfl) (L112 _ false true _ Q) fun w hI=>pu (iv C) rfl (pu (iv 0) rfl (aa (aj ?_))))
   replace hF:=Option.some.inj hF; subst hF
   exact ⟨.tuple #[iv C,iv 0],Ret.r2 rfl rfl rfl,⟨rfl,hI.below⟩⟩
  refine ac (di rfl rfl (fun h=>absurd h B) (fun _=>?_))
  refine bt hF (fun D R hF=>?_)
  refine ac (bg hI 112 [.bool false,.bool false] (iv D) (by kernel_rfl) (L112 _ false false _ R) fun w hI=>pu (iv D) rfl (pu (iv 0) rfl (aa (aj ?_))))
  replace hF:=Option.some.inj hF; subst hF
  exact ⟨.tuple #[iv D,iv 0],Ret.r2 rfl rfl rfl,⟨rfl,hI.below⟩⟩
 refine ac (de rfl rfl (fun _=>?_) (fun h=>absurd h u))
 refine aa (ah rfl (ab (rgn rfl (pu (iv a.2.2) rfl (pu (iv 0) rfl (pu (iv a.2.2) rfl (aa (aj ?_))))))))
 replace hF:=Option.some.inj hF; subst hF
 exact ⟨.tuple #[iv 0,iv a.2.2],Ret.r2 rfl rfl rfl,⟨rfl,hI.below⟩⟩


theorem L49 (w0:World) (g:Int) (i:Int) (j:Option Addr) (k:Nat) (d:List Ld) (l:Option Addr) (m:Nat) (e:List Ld) (o:Option Addr) (p:Nat) (f:List Sp) (q:Int) (s:Int) (t:Int) (C:bi w0 j (al eLd d)) (D:d.length≤9223372036854775807) (E:d.length≤k) (F:bi w0 l (al eLd e)) (G:e.length≤9223372036854775807) (H:e.length≤m) (I:bi w0 o (al eSp f)) (J:f.length≤9223372036854775807) (K:f.length≤p) (r:(Bool × Int)) (hF:F49 g i d e f q s t=some r):bn Tryz.prog 49 [.agg (ql6 g i j d k l e m o f p q).toArray,.int .i64 s,.int .i64 t] w0 fun v w=>v=.tuple #[.bool r.1,.int .i64 r.2]∧Below w0.heap.size w0 w:=by
 refine az (n:=21) func49 rfl ntmps49 rfl ?_
 have hI:=Inv.start w0
 unfold F49 at hF
 refine ab (rgn rfl (ac (ca hI (ql6 g i j d k l e m o f p q) rfl fun W w hI=>pu kf rfl (pu (iv 0) rfl (aa (ab (ab (rgn rfl (ac (ar hI 0 6 (ql6 g i j d k l e m o f p q) isAgg28 sizeOf28 rfl rfl rfl rfl ?_))))))))))
 refine pu (iv s) rfl (pu (iv t) rfl (bt hF (fun u T hF=>?_)))
 refine ac (bg hI 97 [.agg (ql6 g i j d k l e m o f p q).toArray,iv s,iv t] (iv u) (by kernel_rfl) (L97 _ g i j k d l m e o p f q s t (C.inv0 hI) D E (F.inv0 hI) G H (I.inv0 hI) J K _ T) fun w hI=>pu (iv u) rfl (aa (ab (rgn rfl (pu (iv u) rfl (ifE hF (fun h8 hF=>?_) (fun h8 hF=>?_)))))))
 ·
  refine ac (de rfl rfl (fun h=>absurd h8 h) (fun _=>?_))
  refine aa (ai rfl (ak (ab (rgn rfl (ac (ar hI 0 6 (ql6 g i j d k l e m o f p q) isAgg28 sizeOf28 rfl rfl rfl rfl ?_))))))
  refine pu (iv t) rfl (bt hF (fun a U hF=>?_))
  refine ac (co 86 [.agg (ql6 g i j d k l e m o f p q).toArray,iv t] (by kernel_rfl) (L86 _ g i j k d l m e o p f q t (C.inv0 hI) D E (F.inv0 hI) G H (I.inv0 hI) J K _ U) ?_)
  rintro v w ⟨L,M,X,N,O,Y,P,Q,Z,R,S,a0,rfl,hN,x,y,z,A⟩
  have hI:=hI.join hN; clear hN
  refine pu (iv s) rfl (bt hF (fun B V hF=>?_))
  refine ac (bg hI 116 [.agg (qt7 a L M N O P Q R S).toArray,iv s] (.bool B) (by kernel_rfl) (L116 _ a.1 a.2.1 (L.map fun b=>⟨b,0,none⟩) M a.2.2.1 (N.map fun b=>⟨b,0,none⟩) O a.2.2.2.1 (P.map fun b=>⟨b,0,none⟩) Q a.2.2.2.2.1 a.2.2.2.2.2.1 (R.map fun b=>⟨b,0,none⟩) S a.2.2.2.2.2.2 s (hI.rowCells 0 rfl x) (am rfl x.big) (am rfl x.cap) (hI.rowCells 1 rfl y) (am rfl y.big) (am rfl y.cap) (hI.rowCells 2 rfl z) (am rfl z.big) (am rfl z.cap) (hI.rowCells 3 rfl A) (am rfl A.big) (am rfl A.cap) _ V) fun w hI=>pu (.bool B) rfl (pu (iv 0) rfl (aa (aj ?_))))
  replace hF:=Option.some.inj hF; subst hF
  exact ⟨.tuple #[.bool B,iv 0],Ret.r2 rfl rfl rfl,⟨rfl,hI.below⟩⟩
 refine ac (de rfl rfl (fun _=>?_) (fun h=>absurd h h8))
 refine aa (ah rfl (ab (rgn rfl (pu (iv u) rfl (pu kf rfl (pu (iv u) rfl (aa (aj ?_))))))))
 replace hF:=Option.some.inj hF; subst hF
 exact ⟨.tuple #[.bool false,iv u],Ret.r2 rfl rfl rfl,⟨rfl,hI.below⟩⟩


theorem L51 (w0:World) (J:Int) (K:Int) (L:Option Addr) (M:Nat) (C:List Ld) (N:Option Addr) (O:Nat) (D:List Ld) (P:Option Addr) (Q:Nat) (E:List Sp) (R:Int) (z:Int) (p2:Int) (b9:bi w0 L (al eLd C)) (bA:C.length≤9223372036854775807) (bB:C.length≤M) (bC:bi w0 N (al eLd D)) (bD:D.length≤9223372036854775807) (bE:D.length≤O) (bF:bi w0 P (al eSp E)) (bG:E.length≤9223372036854775807) (bH:E.length≤Q) (r:(Int × Int)) (hF:F51 J K C D E R z p2=some r):bn Tryz.prog 51 [.agg (ql6 J K L C M N D O P E Q R).toArray,.int .i64 z,.int .i64 p2] w0 fun v w=>v=.tuple #[.int .i64 r.1,.int .i64 r.2]∧Below w0.heap.size w0 w:=by
 refine az (n:=67) func51 rfl ntmps51 rfl ?_
 have hI:=Inv.start w0
 unfold F51 at hF
 refine ab (rgn rfl (ac (ca hI (ql6 J K L C M N D O P E Q R) rfl fun bI w hI=>pu (iv 0) rfl (pu (iv 0) rfl (aa (ab (ab (rgn rfl (ac (ar hI 0 6 (ql6 J K L C M N D O P E Q R) isAgg28 sizeOf28 rfl rfl rfl rfl ?_))))))))))
 refine pu (iv z) rfl (pu (iv p2) rfl (bt hF (fun aA bV hF=>?_)))
 refine ac (bg hI 97 [.agg (ql6 J K L C M N D O P E Q R).toArray,iv z,iv p2] (iv aA) (by kernel_rfl) (L97 _ J K L M C N O D P Q E R z p2 (b9.inv0 hI) bA bB (bC.inv0 hI) bD bE (bF.inv0 hI) bG bH _ bV) fun w hI=>pu (iv aA) rfl (aa (ab (rgn rfl (pu (iv aA) rfl (ifE hF (fun aO hF=>?_) (fun aO hF=>?_)))))))
 ·
  refine ac (de rfl rfl (fun h=>absurd aO h) (fun _=>?_))
  refine aa (ai rfl (ak (ab (rgn rfl (ac (ar hI 0 6 (ql6 J K L C M N D O P E Q R) isAgg28 sizeOf28 rfl rfl rfl rfl ?_))))))
  refine pu (iv p2) rfl (bt hF (fun a bW hF=>?_))
  refine ac (co 86 [.agg (ql6 J K L C M N D O P E Q R).toArray,iv p2] (by kernel_rfl) (L86 _ J K L M C N O D P Q E R p2 (b9.inv0 hI) bA bB (bC.inv0 hI) bD bE (bF.inv0 hI) bG bH _ bW) ?_)
  rintro v w ⟨d,i,F,o,u,S,e,j,G,f,l,H,rfl,hN,p,x,q,s⟩
  have hI:=hI.join hN; clear hN
  refine ac (bh hI (qn7 0 0 none 0 0 none 0 0 none 0 0 0 none 0 0) zeroValue116 rfl fun U w hI=>ac (aq hI 0 7 (qt7 a d i o u e j f l) sizeOf116 rfl rfl rfl rfl rfl (kh rfl) fun w hI=>aa (ab (ab (rgn rfl (ac (ar hI 0 7 (qt7 a d i o u e j f l) isAgg116 sizeOf116 rfl rfl rfl rfl ?_)))))))
  refine bt hF (fun c7 bJ hF=>?_)
  refine ifE hF (fun aP hF=>?_) (fun aP hF=>?_)
  ·
   refine ac (bg hI 87 [.agg (qt7 a d i o u e j f l).toArray] kg (by kernel_rfl) (bn.mono (L87 _ a.1 a.2.1 (d.map fun b=>⟨b,0,none⟩) i a.2.2.1 (o.map fun b=>⟨b,0,none⟩) u a.2.2.2.1 (e.map fun b=>⟨b,0,none⟩) j a.2.2.2.2.1 a.2.2.2.2.2.1 (f.map fun b=>⟨b,0,none⟩) l a.2.2.2.2.2.2 (hI.rowCells 1 rfl p) (am rfl p.big) (am rfl p.cap) (hI.rowCells 2 rfl x) (am rfl x.big) (am rfl x.cap) (hI.rowCells 3 rfl q) (am rfl q.big) (am rfl q.cap) (hI.rowCells 4 rfl s) (am rfl s.big) (am rfl s.cap) _ bJ) (fun v' w' h=>⟨h.1.trans (congrArg Value.bool aP),h.2⟩)) fun w hI=>pu kf rfl (aa (ai rfl (ak (ab (ab (rgn rfl (ac (ar hI 0 7 (qt7 a d i o u e j f l) isAgg116 sizeOf116 rfl rfl rfl rfl ?_)))))))))
   refine pu (iv z) rfl (bt hF (fun c8 bK hF=>?_))
   refine ifE hF (fun aQ hF=>?_) (fun aQ hF=>?_)
   ·
    refine ac (bg hI 116 [.agg (qt7 a d i o u e j f l).toArray,iv z] kg (by kernel_rfl) (bn.mono (L116 _ a.1 a.2.1 (d.map fun b=>⟨b,0,none⟩) i a.2.2.1 (o.map fun b=>⟨b,0,none⟩) u a.2.2.2.1 (e.map fun b=>⟨b,0,none⟩) j a.2.2.2.2.1 a.2.2.2.2.2.1 (f.map fun b=>⟨b,0,none⟩) l a.2.2.2.2.2.2 z (hI.rowCells 1 rfl p) (am rfl p.big) (am rfl p.cap) (hI.rowCells 2 rfl x) (am rfl x.big) (am rfl x.cap) (hI.rowCells 3 rfl q) (am rfl q.big) (am rfl q.cap) (hI.rowCells 4 rfl s) (am rfl s.big) (am rfl s.cap) _ bK) (fun v' w' h=>⟨h.1.trans (congrArg Value.bool aQ),h.2⟩)) fun w hI=>aa (ah rfl (ab (rgn rfl (pu (iv 0) rfl (pu (iv 0) rfl (aa (aj ?_))))))))
    replace hF:=Option.some.inj hF; subst hF
    exact ⟨.tuple #[iv 0,iv 0],Ret.r2 rfl rfl rfl,⟨rfl,hI.below⟩⟩
   refine ac (bg hI 116 [.agg (qt7 a d i o u e j f l).toArray,iv z] kf (by kernel_rfl) (bn.mono (L116 _ a.1 a.2.1 (d.map fun b=>⟨b,0,none⟩) i a.2.2.1 (o.map fun b=>⟨b,0,none⟩) u a.2.2.2.1 (e.map fun b=>⟨b,0,none⟩) j a.2.2.2.2.1 a.2.2.2.2.2.1 (f.map fun b=>⟨b,0,none⟩) l a.2.2.2.2.2.2 z (hI.rowCells 1 rfl p) (am rfl p.big) (am rfl p.cap) (hI.rowCells 2 rfl x) (am rfl x.big) (am rfl x.cap) (hI.rowCells 3 rfl q) (am rfl q.big) (am rfl q.cap) (hI.rowCells 4 rfl s) (am rfl s.big) (am rfl s.cap) _ bK) (fun v' w' h=>⟨h.1.trans (congrArg Value.bool (Bool.eq_false_iff.2 aQ)),h.2⟩)) fun w hI=>aa (ai rfl (ak (ab (rgn rfl (pu (.agg #[iv 0,iv 0]) (by kernel_rfl) (pu (.agg #[iv 1,iv 10000]) (by kernel_rfl) (ac (bh hI [iv 0,iv 0] zeroValue23 rfl fun a3 w hI=>ac (bh hI [iv 0,iv 0] zeroValue23 rfl fun a4 w hI=>ac (aq hI 1 2 [iv 0,iv 0] sizeOf23 rfl rfl rfl rfl rfl (kh rfl) fun w hI=>ac (aq hI 0 2 [iv 1,iv 10000] sizeOf23 rfl rfl rfl rfl rfl (kh rfl) fun w hI=>aa (dn (fun ρ w=>∃ (aF:Nat) (a5:Option Nat) (a6:Nat) (aH:List Value) (a7:Int) (a8:Int) (W:List Ld) (a9:Int) (aG:Bool),cd ρ [(1,iv z),(9,.pointer (some ⟨U,0,none⟩)),(10,.pointer (some ⟨a3,0,none⟩)),(11,.pointer (some ⟨a4,0,none⟩)),(12,.pointer (some ⟨aF,0,none⟩)),(13,.bool aG)]∧Inv [] w0 w [(some U,blk (qt7 a d i o u e j f l) 116),(d,blk F 30),(o,blk S 31),(e,blk G 33),(f,blk H 30),(some a3,blk [iv 0,iv 0] 23),(some a4,blk [iv 1,iv 10000] 23),(some aF,blk [iv a7,iv a8,slv d a.2.2.1.length i,slv a5 W.length a6,slv e a.2.2.2.2.1.length j,iv a9,slv f a.2.2.2.2.2.2.length l] 116),(a5,blk aH 31)]∧(Row 6 a5 (W.length) a6 aH (al eLd W))∧F51j1 z a a7 a8 W a9 aG=some r) ?_ ?_)))))))))))))
   ·
    refine bt hF (fun m bL hF=>?_)
    refine bt hF (fun t bM hF=>?_)
    refine bt hF (fun c9 bN hF=>?_)
    refine ifE hF (fun aR hF=>?_) (fun aR hF=>?_)
    ·
     refine kx [tr (fun _=>(.agg (qt7 a d i o u e j f l).toArray)) [14],tv (fun _=>(iv z)),tr (fun _=>(.agg #[iv 0,iv 0])) [13],⟨fun y=>(.agg #[iv m.1,iv m.2.1,slv d a.2.2.1.length i,slv ((y 3).g 0) m.2.2.1.length ((y 3).c 0),slv e a.2.2.2.2.1.length j,iv m.2.2.2,slv f a.2.2.2.2.2.2.length l]),fun y=>[(((y 3).g 0),blk ((y 3).cl 0) 31)],fun y=>(Row 6 ((y 3).g 0) m.2.2.1.length ((y 3).c 0) ((y 3).cl 0) (al eLd m.2.2.1)),[],[15,16,17,18]⟩,tr (fun _=>(.agg (qt7 a d i o u e j f l).toArray)) [14],tv (fun _=>(iv z)),tr (fun _=>(.agg #[iv 1,iv 10000])) [12],⟨fun y=>(.agg #[iv t.1,iv t.2.1,slv d a.2.2.1.length i,slv ((y 7).g 0) t.2.2.1.length ((y 7).c 0),slv e a.2.2.2.2.1.length j,iv t.2.2.2,slv f a.2.2.2.2.2.2.length l]),fun y=>[(((y 7).g 0),blk ((y 7).cl 0) 31)],fun y=>(Row 6 ((y 7).g 0) t.2.2.1.length ((y 7).c 0) ((y 7).cl 0) (al eLd t.2.2.1)),[],[15,16,17,18]⟩,tr (fun _=>kg) [7,15,17,18],tal 9 (qn7 0 0 none 0 0 none 0 0 none 0 0 0 none 0 0) 116,tst (fun y=>[(some (y 9).b,blk [iv m.1,iv m.2.1,slv d a.2.2.1.length i,slv ((y 3).g 0) m.2.2.1.length ((y 3).c 0),slv e a.2.2.2.2.1.length j,iv m.2.2.2,slv f a.2.2.2.2.2.2.length l] 116)]) 9,tv (fun _=>kg)] (fun y=>[(1,iv z),(9,.pointer (some ⟨U,0,none⟩)),(10,.pointer (some ⟨a3,0,none⟩)),(11,.pointer (some ⟨a4,0,none⟩)),(12,.pointer (some ⟨(y 9).b,0,none⟩)),(13,.bool true)]) (fun y=>[(((y 3).g 0),blk ((y 3).cl 0) 31),(((y 7).g 0),blk ((y 7).cl 0) 31),(some (y 9).b,blk [iv m.1,iv m.2.1,slv d a.2.2.1.length i,slv ((y 3).g 0) m.2.2.1.length ((y 3).c 0),slv e a.2.2.2.2.1.length j,iv m.2.2.2,slv f a.2.2.2.2.2.2.length l] 116),(some a4,blk [iv 1,iv 10000] 23),(some a3,blk [iv 0,iv 0] 23),(some U,blk (qt7 a d i o u e j f l) 116),(d,blk F 30),(o,blk S 31),(e,blk G 33),(f,blk H 30),(some bI,blk (ql6 J K L C M N D O P E Q R) 28)]) hI (by kernel_rfl) (fun y=>⟨rfl,rfl⟩) (fun y=>?_) ?_
     ·
      refine tl1 [(some U,blk (qt7 a d i o u e j f l) 116)] rfl rfl (fun X w hI=>ar hI 0 7 (qt7 a d i o u e j f l) isAgg116 sizeOf116 rfl rfl rfl rfl br) (tp rfl (fun _=>rfl) (tl1 [(some a3,blk [iv 0,iv 0] 23)] rfl rfl (fun X w hI=>ar hI 0 2 [iv 0,iv 0] isAgg23 sizeOf23 rfl rfl rfl rfl br) (tg (.agg #[iv m.1,iv m.2.1,slv d a.2.2.1.length i,slv ((y 3).g 0) m.2.2.1.length ((y 3).c 0),slv e a.2.2.2.2.1.length j,iv m.2.2.2,slv f a.2.2.2.2.2.2.length l]) [(d,blk F 30),(o,blk S 31),(e,blk G 33),(f,blk H 30)] [(d,blk F 30),(o,blk S 31),(e,blk G 33),(f,blk H 30)] rfl ⟨rfl,rfl,rfl⟩ ?_ ?_)))
      ·intro hp X w hI
       refine co 118 [.agg (qt7 a d i o u e j f l).toArray,iv z,.agg #[iv 0,iv 0]] (by kernel_rfl) (L118 _ a.1 a.2.1 (d.map fun b=>⟨b,0,none⟩) i a.2.2.1 (o.map fun b=>⟨b,0,none⟩) u a.2.2.2.1 (e.map fun b=>⟨b,0,none⟩) j a.2.2.2.2.1 a.2.2.2.2.2.1 (f.map fun b=>⟨b,0,none⟩) l a.2.2.2.2.2.2 z (⟨0,0⟩:Rg) (hI.rowCells 0 rfl p) (am rfl p.big) (am rfl p.cap) (hI.rowCells 1 rfl x) (am rfl x.big) (am rfl x.cap) (hI.rowCells 2 rfl q) (am rfl q.big) (am rfl q.cap) (hI.rowCells 3 rfl s) (am rfl s.big) (am rfl s.cap) _ bL) ?_
       rintro v w ⟨aS,aT,aU,rfl,hN,aV⟩
       have hI:=hI.join hN; clear hN
       exact ⟨wit 0 [aS] [aT] [aU] [],rfl,Eq.mp rfl aV,hI.castL rfl⟩
      refine tl1 [(some U,blk (qt7 a d i o u e j f l) 116)] rfl rfl (fun X w hI=>ar hI 0 7 (qt7 a d i o u e j f l) isAgg116 sizeOf116 rfl rfl rfl rfl br) (tp rfl (fun _=>rfl) (tl1 [(some a4,blk [iv 1,iv 10000] 23)] rfl rfl (fun X w hI=>ar hI 0 2 [iv 1,iv 10000] isAgg23 sizeOf23 rfl rfl rfl rfl br) (tg (.agg #[iv t.1,iv t.2.1,slv d a.2.2.1.length i,slv ((y 7).g 0) t.2.2.1.length ((y 7).c 0),slv e a.2.2.2.2.1.length j,iv t.2.2.2,slv f a.2.2.2.2.2.2.length l]) [(d,blk F 30),(o,blk S 31),(e,blk G 33),(f,blk H 30)] [(d,blk F 30),(o,blk S 31),(e,blk G 33),(f,blk H 30)] rfl ⟨rfl,rfl,rfl⟩ ?_ ?_)))
      ·intro hp X w hI
       refine co 118 [.agg (qt7 a d i o u e j f l).toArray,iv z,.agg #[iv 1,iv 10000]] (by kernel_rfl) (L118 _ a.1 a.2.1 (d.map fun b=>⟨b,0,none⟩) i a.2.2.1 (o.map fun b=>⟨b,0,none⟩) u a.2.2.2.1 (e.map fun b=>⟨b,0,none⟩) j a.2.2.2.2.1 a.2.2.2.2.2.1 (f.map fun b=>⟨b,0,none⟩) l a.2.2.2.2.2.2 z (⟨1,10000⟩:Rg) (hI.rowCells 0 rfl p) (am rfl p.big) (am rfl p.cap) (hI.rowCells 1 rfl x) (am rfl x.big) (am rfl x.cap) (hI.rowCells 2 rfl q) (am rfl q.big) (am rfl q.cap) (hI.rowCells 3 rfl s) (am rfl s.big) (am rfl s.cap) _ bM) ?_
       rintro v w ⟨bO,bP,bQ,rfl,hN,aB⟩
       have hI:=hI.join hN; clear hN
       exact ⟨wit 0 [bO] [bP] [bQ] [],rfl,Eq.mp rfl aB,hI.castL rfl⟩
      refine tl kg [(((y 7).g 0),blk ((y 7).cl 0) 31),(d,blk F 30),(e,blk G 33),(f,blk H 30)] rfl ⟨rfl,rfl⟩ ?_ ?_
      ·intro hp X w hI
       have aB:Row 6 ((y 7).g 0) t.2.2.1.length ((y 7).c 0) ((y 7).cl 0) (al eLd t.2.2.1):=pg hp (k:=7) ⟨rfl,rfl⟩
       exact co 87 [.agg #[iv t.1,iv t.2.1,slv d a.2.2.1.length i,slv ((y 7).g 0) t.2.2.1.length ((y 7).c 0),slv e a.2.2.2.2.1.length j,iv t.2.2.2,slv f a.2.2.2.2.2.2.length l]] (by kernel_rfl) (bn.mono (L87 _ t.1 t.2.1 (d.map fun b=>⟨b,0,none⟩) i a.2.2.1 (((y 7).g 0).map fun b=>⟨b,0,none⟩) ((y 7).c 0) t.2.2.1 (e.map fun b=>⟨b,0,none⟩) j a.2.2.2.2.1 t.2.2.2 (f.map fun b=>⟨b,0,none⟩) l a.2.2.2.2.2.2 (hI.rowCells 1 rfl p) (am rfl p.big) (am rfl p.cap) (hI.rowCells 0 rfl aB) (am rfl aB.big) (am rfl aB.cap) (hI.rowCells 2 rfl q) (am rfl q.big) (am rfl q.cap) (hI.rowCells 3 rfl s) (am rfl s.big) (am rfl s.cap) _ bN) (fun v' w' h=>⟨h.1.trans (congrArg Value.bool aR),h.2⟩)) (fun v' w' h=>h)
      refine tA rfl zeroValue116 rfl (tS [(some (y 9).b,blk (qn7 0 0 none 0 0 none 0 0 none 0 0 0 none 0 0) 116)] rfl ⟨rfl,rfl⟩ (fun X w hI=>aq hI 0 7 [iv m.1,iv m.2.1,slv d a.2.2.1.length i,slv ((y 3).g 0) m.2.2.1.length ((y 3).c 0),slv e a.2.2.2.2.1.length j,iv m.2.2.2,slv f a.2.2.2.2.2.2.length l] sizeOf116 rfl rfl rfl rfl rfl (kh rfl) fun w hI=>⟨rfl,hI.castL rfl⟩) (tp rfl (fun _=>rfl) ?_))
      exact tn
     intro y hp ρ w hag hI
     have aV:Row 6 ((y 3).g 0) m.2.2.1.length ((y 3).c 0) ((y 3).cl 0) (al eLd m.2.2.1):=pgl hp (k:=3) (by decide) rfl
     have aB:Row 6 ((y 7).g 0) t.2.2.1.length ((y 7).c 0) ((y 7).cl 0) (al eLd t.2.2.1):=pgl hp (k:=7) (by decide) rfl
     clear hp
     generalize (y 3).g 0=aS at *
     generalize (y 3).c 0=aT at *
     generalize (y 3).cl 0=aU at *
     generalize (y 7).g 0=bO at *
     generalize (y 7).c 0=bP at *
     generalize (y 7).cl 0=bQ at *
     generalize (y 9).b=bX at *
     obtain ⟨ρ,rfl⟩:=hag.form; clear hag
     exact .inl ⟨rfl,⟨bX,aS,aT,aU,m.1,m.2.1,m.2.2.1,m.2.2.2,true,⟨rfl,rfl,rfl,rfl,rfl,rfl,trivial⟩,hI.pk [5,6,7,8,9,4,3,2,0] rfl rfl,(aV.to rfl rfl),hF⟩⟩
    refine kx [tr (fun _=>(.agg (qt7 a d i o u e j f l).toArray)) [14],tv (fun _=>(iv z)),tr (fun _=>(.agg #[iv 0,iv 0])) [13],⟨fun y=>(.agg #[iv m.1,iv m.2.1,slv d a.2.2.1.length i,slv ((y 3).g 0) m.2.2.1.length ((y 3).c 0),slv e a.2.2.2.2.1.length j,iv m.2.2.2,slv f a.2.2.2.2.2.2.length l]),fun y=>[(((y 3).g 0),blk ((y 3).cl 0) 31)],fun y=>(Row 6 ((y 3).g 0) m.2.2.1.length ((y 3).c 0) ((y 3).cl 0) (al eLd m.2.2.1)),[],[15,16,17,18]⟩,tr (fun _=>(.agg (qt7 a d i o u e j f l).toArray)) [14],tv (fun _=>(iv z)),tr (fun _=>(.agg #[iv 1,iv 10000])) [12],⟨fun y=>(.agg #[iv t.1,iv t.2.1,slv d a.2.2.1.length i,slv ((y 7).g 0) t.2.2.1.length ((y 7).c 0),slv e a.2.2.2.2.1.length j,iv t.2.2.2,slv f a.2.2.2.2.2.2.length l]),fun y=>[(((y 7).g 0),blk ((y 7).cl 0) 31)],fun y=>(Row 6 ((y 7).g 0) t.2.2.1.length ((y 7).c 0) ((y 7).cl 0) (al eLd t.2.2.1)),[],[15,16,17,18]⟩,tr (fun _=>kf) [7,15,17,18],tal 9 (qn7 0 0 none 0 0 none 0 0 none 0 0 0 none 0 0) 116,tst (fun y=>[(some (y 9).b,blk [iv m.1,iv m.2.1,slv d a.2.2.1.length i,slv ((y 3).g 0) m.2.2.1.length ((y 3).c 0),slv e a.2.2.2.2.1.length j,iv m.2.2.2,slv f a.2.2.2.2.2.2.length l] 116)]) 9,tv (fun _=>kf)] (fun y=>[(1,iv z),(9,.pointer (some ⟨U,0,none⟩)),(10,.pointer (some ⟨a3,0,none⟩)),(11,.pointer (some ⟨a4,0,none⟩)),(12,.pointer (some ⟨(y 9).b,0,none⟩)),(13,.bool false)]) (fun y=>[(((y 3).g 0),blk ((y 3).cl 0) 31),(((y 7).g 0),blk ((y 7).cl 0) 31),(some (y 9).b,blk [iv m.1,iv m.2.1,slv d a.2.2.1.length i,slv ((y 3).g 0) m.2.2.1.length ((y 3).c 0),slv e a.2.2.2.2.1.length j,iv m.2.2.2,slv f a.2.2.2.2.2.2.length l] 116),(some a4,blk [iv 1,iv 10000] 23),(some a3,blk [iv 0,iv 0] 23),(some U,blk (qt7 a d i o u e j f l) 116),(d,blk F 30),(o,blk S 31),(e,blk G 33),(f,blk H 30),(some bI,blk (ql6 J K L C M N D O P E Q R) 28)]) hI (by kernel_rfl) (fun y=>⟨rfl,rfl⟩) (fun y=>?_) ?_
    ·
     refine tl1 [(some U,blk (qt7 a d i o u e j f l) 116)] rfl rfl (fun X w hI=>ar hI 0 7 (qt7 a d i o u e j f l) isAgg116 sizeOf116 rfl rfl rfl rfl br) (tp rfl (fun _=>rfl) (tl1 [(some a3,blk [iv 0,iv 0] 23)] rfl rfl (fun X w hI=>ar hI 0 2 [iv 0,iv 0] isAgg23 sizeOf23 rfl rfl rfl rfl br) (tg (.agg #[iv m.1,iv m.2.1,slv d a.2.2.1.length i,slv ((y 3).g 0) m.2.2.1.length ((y 3).c 0),slv e a.2.2.2.2.1.length j,iv m.2.2.2,slv f a.2.2.2.2.2.2.length l]) [(d,blk F 30),(o,blk S 31),(e,blk G 33),(f,blk H 30)] [(d,blk F 30),(o,blk S 31),(e,blk G 33),(f,blk H 30)] rfl ⟨rfl,rfl,rfl⟩ ?_ ?_)))
     ·intro hp X w hI
      refine co 118 [.agg (qt7 a d i o u e j f l).toArray,iv z,.agg #[iv 0,iv 0]] (by kernel_rfl) (L118 _ a.1 a.2.1 (d.map fun b=>⟨b,0,none⟩) i a.2.2.1 (o.map fun b=>⟨b,0,none⟩) u a.2.2.2.1 (e.map fun b=>⟨b,0,none⟩) j a.2.2.2.2.1 a.2.2.2.2.2.1 (f.map fun b=>⟨b,0,none⟩) l a.2.2.2.2.2.2 z (⟨0,0⟩:Rg) (hI.rowCells 0 rfl p) (am rfl p.big) (am rfl p.cap) (hI.rowCells 1 rfl x) (am rfl x.big) (am rfl x.cap) (hI.rowCells 2 rfl q) (am rfl q.big) (am rfl q.cap) (hI.rowCells 3 rfl s) (am rfl s.big) (am rfl s.cap) _ bL) ?_
      rintro v w ⟨aW,aX,aY,rfl,hN,aZ⟩
      have hI:=hI.join hN; clear hN
      exact ⟨wit 0 [aW] [aX] [aY] [],rfl,Eq.mp rfl aZ,hI.castL rfl⟩
     refine tl1 [(some U,blk (qt7 a d i o u e j f l) 116)] rfl rfl (fun X w hI=>ar hI 0 7 (qt7 a d i o u e j f l) isAgg116 sizeOf116 rfl rfl rfl rfl br) (tp rfl (fun _=>rfl) (tl1 [(some a4,blk [iv 1,iv 10000] 23)] rfl rfl (fun X w hI=>ar hI 0 2 [iv 1,iv 10000] isAgg23 sizeOf23 rfl rfl rfl rfl br) (tg (.agg #[iv t.1,iv t.2.1,slv d a.2.2.1.length i,slv ((y 7).g 0) t.2.2.1.length ((y 7).c 0),slv e a.2.2.2.2.1.length j,iv t.2.2.2,slv f a.2.2.2.2.2.2.length l]) [(d,blk F 30),(o,blk S 31),(e,blk G 33),(f,blk H 30)] [(d,blk F 30),(o,blk S 31),(e,blk G 33),(f,blk H 30)] rfl ⟨rfl,rfl,rfl⟩ ?_ ?_)))
     ·intro hp X w hI
      refine co 118 [.agg (qt7 a d i o u e j f l).toArray,iv z,.agg #[iv 1,iv 10000]] (by kernel_rfl) (L118 _ a.1 a.2.1 (d.map fun b=>⟨b,0,none⟩) i a.2.2.1 (o.map fun b=>⟨b,0,none⟩) u a.2.2.2.1 (e.map fun b=>⟨b,0,none⟩) j a.2.2.2.2.1 a.2.2.2.2.2.1 (f.map fun b=>⟨b,0,none⟩) l a.2.2.2.2.2.2 z (⟨1,10000⟩:Rg) (hI.rowCells 0 rfl p) (am rfl p.big) (am rfl p.cap) (hI.rowCells 1 rfl x) (am rfl x.big) (am rfl x.cap) (hI.rowCells 2 rfl q) (am rfl q.big) (am rfl q.cap) (hI.rowCells 3 rfl s) (am rfl s.big) (am rfl s.cap) _ bM) ?_
      rintro v w ⟨bR,bS,bT,rfl,hN,aC⟩
      have hI:=hI.join hN; clear hN
      exact ⟨wit 0 [bR] [bS] [bT] [],rfl,Eq.mp rfl aC,hI.castL rfl⟩
     refine tl kf [(((y 7).g 0),blk ((y 7).cl 0) 31),(d,blk F 30),(e,blk G 33),(f,blk H 30)] rfl ⟨rfl,rfl⟩ ?_ ?_
     ·intro hp X w hI
      have aC:Row 6 ((y 7).g 0) t.2.2.1.length ((y 7).c 0) ((y 7).cl 0) (al eLd t.2.2.1):=pg hp (k:=7) ⟨rfl,rfl⟩
      exact co 87 [.agg #[iv t.1,iv t.2.1,slv d a.2.2.1.length i,slv ((y 7).g 0) t.2.2.1.length ((y 7).c 0),slv e a.2.2.2.2.1.length j,iv t.2.2.2,slv f a.2.2.2.2.2.2.length l]] (by kernel_rfl) (bn.mono (L87 _ t.1 t.2.1 (d.map fun b=>⟨b,0,none⟩) i a.2.2.1 (((y 7).g 0).map fun b=>⟨b,0,none⟩) ((y 7).c 0) t.2.2.1 (e.map fun b=>⟨b,0,none⟩) j a.2.2.2.2.1 t.2.2.2 (f.map fun b=>⟨b,0,none⟩) l a.2.2.2.2.2.2 (hI.rowCells 1 rfl p) (am rfl p.big) (am rfl p.cap) (hI.rowCells 0 rfl aC) (am rfl aC.big) (am rfl aC.cap) (hI.rowCells 2 rfl q) (am rfl q.big) (am rfl q.cap) (hI.rowCells 3 rfl s) (am rfl s.big) (am rfl s.cap) _ bN) (fun v' w' h=>⟨h.1.trans (congrArg Value.bool (Bool.eq_false_iff.2 aR)),h.2⟩)) (fun v' w' h=>h)
     refine tA rfl zeroValue116 rfl (tS [(some (y 9).b,blk (qn7 0 0 none 0 0 none 0 0 none 0 0 0 none 0 0) 116)] rfl ⟨rfl,rfl⟩ (fun X w hI=>aq hI 0 7 [iv m.1,iv m.2.1,slv d a.2.2.1.length i,slv ((y 3).g 0) m.2.2.1.length ((y 3).c 0),slv e a.2.2.2.2.1.length j,iv m.2.2.2,slv f a.2.2.2.2.2.2.length l] sizeOf116 rfl rfl rfl rfl rfl (kh rfl) fun w hI=>⟨rfl,hI.castL rfl⟩) (tp rfl (fun _=>rfl) ?_))
     exact tn
    intro y hp ρ w hag hI
    have aZ:Row 6 ((y 3).g 0) m.2.2.1.length ((y 3).c 0) ((y 3).cl 0) (al eLd m.2.2.1):=pgl hp (k:=3) (by decide) rfl
    have aC:Row 6 ((y 7).g 0) t.2.2.1.length ((y 7).c 0) ((y 7).cl 0) (al eLd t.2.2.1):=pgl hp (k:=7) (by decide) rfl
    clear hp
    generalize (y 3).g 0=aW at *
    generalize (y 3).c 0=aX at *
    generalize (y 3).cl 0=aY at *
    generalize (y 7).g 0=bR at *
    generalize (y 7).c 0=bS at *
    generalize (y 7).cl 0=bT at *
    generalize (y 9).b=bY at *
    obtain ⟨ρ,rfl⟩:=hag.form; clear hag
    exact .inl ⟨rfl,⟨bY,aW,aX,aY,m.1,m.2.1,m.2.2.1,m.2.2.2,false,⟨rfl,rfl,rfl,rfl,rfl,rfl,trivial⟩,hI.pk [5,6,7,8,9,4,3,2,0] rfl rfl,(aZ.to rfl rfl),hF⟩⟩
   intro ρ w hJ
   obtain ⟨aF,a5,a6,aH,a7,a8,W,a9,aG,hag,hI,aI,hF⟩:=hJ
   obtain ⟨ρ,rfl⟩:=hag.form; clear hag
   unfold F51j1 at hF
   refine dn (fun ρ w=>∃ (V:Option Nat) (Y:Nat) (b0:List Value) (Z:Int) (a0:Int) (T:List Ld) (a1:Int) (aJ:Bool),cd ρ [(12,.pointer (some ⟨aF,0,none⟩)),(13,.bool aJ)]∧Inv [] w0 w [(some aF,blk [iv Z,iv a0,slv d a.2.2.1.length i,slv V T.length Y,slv e a.2.2.2.2.1.length j,iv a1,slv f a.2.2.2.2.2.2.length l] 116),(d,blk F 30),(V,blk b0 31),(e,blk G 33),(f,blk H 30)]∧(Row 6 V (T.length) Y b0 (al eLd T))∧F51j2 a Z a0 T a1 aJ=some r) ?_ ?_
   ·
    refine ab (rgn rfl (ac (ar hI 0 7 (qt7 a d i o u e j f l) isAgg116 sizeOf116 rfl rfl rfl rfl ?_)))
    refine pu (iv z) rfl (bt hF (fun I bZ hF=>?_))
    refine ac (bg hI 119 [.agg (qt7 a d i o u e j f l).toArray,iv z] (.tuple #[iv I.1,.bool I.2]) (by kernel_rfl) (L119 _ a.1 a.2.1 (d.map fun b=>⟨b,0,none⟩) i a.2.2.1 (o.map fun b=>⟨b,0,none⟩) u a.2.2.2.1 (e.map fun b=>⟨b,0,none⟩) j a.2.2.2.2.1 a.2.2.2.2.2.1 (f.map fun b=>⟨b,0,none⟩) l a.2.2.2.2.2.2 z (hI.rowCells 1 rfl p) (am rfl p.big) (am rfl p.cap) (hI.rowCells 2 rfl x) (am rfl x.big) (am rfl x.cap) (hI.rowCells 3 rfl q) (am rfl q.big) (am rfl q.cap) (hI.rowCells 4 rfl s) (am rfl s.big) (am rfl s.cap) _ bZ) fun w hI=>pu (.tuple #[iv I.1,.bool I.2]) rfl (pu (iv I.1) rfl (pu (.bool I.2) rfl (pu (iv I.1) rfl (pu (.bool I.2) rfl (aa (ab (ifE hF (fun b1 hF=>?_) (fun b1 hF=>?_)))))))))
    ·
     rw [b1]
     refine rgn rfl (pu kg rfl (aa (ah rfl (ab (rgn rfl (ac (ar hI 7 7 [iv a7,iv a8,slv d a.2.2.1.length i,slv a5 W.length a6,slv e a.2.2.2.2.1.length j,iv a9,slv f a.2.2.2.2.2.2.length l] isAgg116 sizeOf116 rfl rfl rfl rfl ?_)))))))
     refine pu (iv I.1) rfl (ac (ar hI 6 2 [iv 1,iv 10000] isAgg23 sizeOf23 rfl rfl rfl rfl ?_))
     refine bt hF (fun A c0 hF=>?_)
     refine ac (co 118 [.agg #[iv a7,iv a8,slv d a.2.2.1.length i,slv a5 W.length a6,slv e a.2.2.2.2.1.length j,iv a9,slv f a.2.2.2.2.2.2.length l],iv I.1,.agg #[iv 1,iv 10000]] (by kernel_rfl) (L118 _ a7 a8 (d.map fun b=>⟨b,0,none⟩) i a.2.2.1 (a5.map fun b=>⟨b,0,none⟩) a6 W (e.map fun b=>⟨b,0,none⟩) j a.2.2.2.2.1 a9 (f.map fun b=>⟨b,0,none⟩) l a.2.2.2.2.2.2 I.1 (⟨1,10000⟩:Rg) (hI.rowCells 1 rfl p) (am rfl p.big) (am rfl p.cap) (hI.rowCells 8 rfl aI) (am rfl aI.big) (am rfl aI.cap) (hI.rowCells 3 rfl q) (am rfl q.big) (am rfl q.cap) (hI.rowCells 4 rfl s) (am rfl s.big) (am rfl s.cap) _ c0) ?_)
     rintro v w ⟨aK,aL,b2,rfl,hN,b3⟩
     have hI:=hI.join hN; clear hN
     refine ac (aq hI 8 7 [iv A.1,iv A.2.1,slv d a.2.2.1.length i,slv aK A.2.2.1.length aL,slv e a.2.2.2.2.1.length j,iv A.2.2.2,slv f a.2.2.2.2.2.2.length l] sizeOf116 rfl rfl rfl rfl rfl (kh rfl) fun w hI=>aa ?_)
     have hG:=hF; rcases Bool.eq_false_or_eq_true aG with rfl | rfl
     ·
      have hF:=hG; clear hG
      refine ifE hF (fun _ hF=>?_) (fun h=>absurd rfl h)
      refine rgn rfl (pu kg rfl (pu kg rfl (sf 5 rfl (pu kg rfl (pu kg rfl (aa ?_))))))
      exact .inl ⟨rfl,⟨aK,aL,b2,A.1,A.2.1,A.2.2.1,A.2.2.2,true,⟨rfl,rfl,trivial⟩,hI.pk [8,2,0,4,5] rfl rfl,(b3.to rfl rfl),hF⟩⟩
     have hF:=hG; clear hG
     refine ifE hF (fun h=>absurd h (by decide)) (fun _ hF=>?_)
     refine rgn rfl (pu kf rfl (pu kf rfl (aw rfl (ar hI 1 7 (qt7 a d i o u e j f l) isAgg116 sizeOf116 rfl rfl rfl rfl ?_))))
     refine puo (iv I.1) ⟨rfl,rfl⟩ (aw rfl (ar hI 6 2 [iv 0,iv 0] isAgg23 sizeOf23 rfl rfl rfl rfl ?_))
     refine bt hF (fun B c1 hF=>?_)
     refine aw rfl (co 118 [.agg (qt7 a d i o u e j f l).toArray,iv I.1,.agg #[iv 0,iv 0]] (by kernel_rfl) (L118 _ a.1 a.2.1 (d.map fun b=>⟨b,0,none⟩) i a.2.2.1 (o.map fun b=>⟨b,0,none⟩) u a.2.2.2.1 (e.map fun b=>⟨b,0,none⟩) j a.2.2.2.2.1 a.2.2.2.2.2.1 (f.map fun b=>⟨b,0,none⟩) l a.2.2.2.2.2.2 I.1 (⟨0,0⟩:Rg) (hI.rowCells 2 rfl p) (am rfl p.big) (am rfl p.cap) (hI.rowCells 3 rfl x) (am rfl x.big) (am rfl x.cap) (hI.rowCells 4 rfl q) (am rfl q.big) (am rfl q.cap) (hI.rowCells 5 rfl s) (am rfl s.big) (am rfl s.cap) _ c1) ?_)
     rintro v w ⟨aM,aN,cA,rfl,hN,aD⟩
     have hI:=hI.join hN; clear hN
     refine bt hF (fun cB bU hF=>?_)
     refine ifE hF (fun b4 hF=>?_) (fun b4 hF=>?_)
     ·
      refine aw rfl (bg hI 87 [.agg #[iv B.1,iv B.2.1,slv d a.2.2.1.length i,slv aM B.2.2.1.length aN,slv e a.2.2.2.2.1.length j,iv B.2.2.2,slv f a.2.2.2.2.2.2.length l]] kg (by kernel_rfl) (bn.mono (L87 _ B.1 B.2.1 (d.map fun b=>⟨b,0,none⟩) i a.2.2.1 (aM.map fun b=>⟨b,0,none⟩) aN B.2.2.1 (e.map fun b=>⟨b,0,none⟩) j a.2.2.2.2.1 B.2.2.2 (f.map fun b=>⟨b,0,none⟩) l a.2.2.2.2.2.2 (hI.rowCells 3 rfl p) (am rfl p.big) (am rfl p.cap) (hI.rowCells 0 rfl aD) (am rfl aD.big) (am rfl aD.cap) (hI.rowCells 5 rfl q) (am rfl q.big) (am rfl q.cap) (hI.rowCells 6 rfl s) (am rfl s.big) (am rfl s.cap) _ bU) (fun v' w' h=>⟨h.1.trans (congrArg Value.bool b4),h.2⟩)) fun w hI=>pu kg rfl (pu kg rfl (aa ?_)))
      exact .inl ⟨rfl,⟨aK,aL,b2,A.1,A.2.1,A.2.2.1,A.2.2.2,true,⟨rfl,rfl,trivial⟩,hI.pk [9,3,1,5,6] rfl rfl,(b3.to rfl rfl),hF⟩⟩
     refine aw rfl (bg hI 87 [.agg #[iv B.1,iv B.2.1,slv d a.2.2.1.length i,slv aM B.2.2.1.length aN,slv e a.2.2.2.2.1.length j,iv B.2.2.2,slv f a.2.2.2.2.2.2.length l]] kf (by kernel_rfl) (bn.mono (L87 _ B.1 B.2.1 (d.map fun b=>⟨b,0,none⟩) i a.2.2.1 (aM.map fun b=>⟨b,0,none⟩) aN B.2.2.1 (e.map fun b=>⟨b,0,none⟩) j a.2.2.2.2.1 B.2.2.2 (f.map fun b=>⟨b,0,none⟩) l a.2.2.2.2.2.2 (hI.rowCells 3 rfl p) (am rfl p.big) (am rfl p.cap) (hI.rowCells 0 rfl aD) (am rfl aD.big) (am rfl aD.cap) (hI.rowCells 5 rfl q) (am rfl q.big) (am rfl q.cap) (hI.rowCells 6 rfl s) (am rfl s.big) (am rfl s.cap) _ bU) (fun v' w' h=>⟨h.1.trans (congrArg Value.bool (Bool.eq_false_iff.2 b4)),h.2⟩)) fun w hI=>pu kf rfl (pu kf rfl (aa ?_)))
     exact .inl ⟨rfl,⟨aK,aL,b2,A.1,A.2.1,A.2.2.1,A.2.2.2,false,⟨rfl,rfl,trivial⟩,hI.pk [9,3,1,5,6] rfl rfl,(b3.to rfl rfl),hF⟩⟩
    rw [(Bool.eq_false_iff.2 b1)]
    refine rgn rfl (pu kf rfl (aa (ai rfl (ak ?_))))
    exact .inl ⟨rfl,⟨a5,a6,aH,a7,a8,W,a9,aG,⟨rfl,rfl,trivial⟩,hI.pk [7,1,8,3,4] rfl rfl,(aI.to rfl rfl),hF⟩⟩
   intro ρ w hJ
   obtain ⟨V,Y,b0,Z,a0,T,a1,aJ,hag,hI,aE,hF⟩:=hJ
   obtain ⟨ρ,rfl⟩:=hag.form; clear hag
   unfold F51j2 at hF
   refine ab ?_
   have hG:=hF; rcases Bool.eq_false_or_eq_true aJ with rfl | rfl
   ·
    have hF:=hG; clear hG
    refine ifE hF (fun _ hF=>?_) (fun h=>absurd rfl h)
    refine rgn rfl (ac (ar hI 0 7 [iv Z,iv a0,slv d a.2.2.1.length i,slv V T.length Y,slv e a.2.2.2.2.1.length j,iv a1,slv f a.2.2.2.2.2.2.length l] isAgg116 sizeOf116 rfl rfl rfl rfl ?_))
    refine bt hF (fun b5 c2 hF=>?_)
    refine ac (bg hI 87 [.agg #[iv Z,iv a0,slv d a.2.2.1.length i,slv V T.length Y,slv e a.2.2.2.2.1.length j,iv a1,slv f a.2.2.2.2.2.2.length l]] (.bool b5) (by kernel_rfl) (L87 _ Z a0 (d.map fun b=>⟨b,0,none⟩) i a.2.2.1 (V.map fun b=>⟨b,0,none⟩) Y T (e.map fun b=>⟨b,0,none⟩) j a.2.2.2.2.1 a1 (f.map fun b=>⟨b,0,none⟩) l a.2.2.2.2.2.2 (hI.rowCells 1 rfl p) (am rfl p.big) (am rfl p.cap) (hI.rowCells 2 rfl aE) (am rfl aE.big) (am rfl aE.cap) (hI.rowCells 3 rfl q) (am rfl q.big) (am rfl q.cap) (hI.rowCells 4 rfl s) (am rfl s.big) (am rfl s.cap) _ c2) fun w hI=>pu kg rfl (pu kf rfl (bt hF (fun b6 c4 hF=>?_))))
    refine ac (bg hI 112 [.bool b5,.bool false] (iv b6) (by kernel_rfl) (L112 _ b5 false _ c4) fun w hI=>pu (iv b6) rfl (pu (iv 0) rfl (aa (aj ?_))))
    replace hF:=Option.some.inj hF; subst hF
    exact ⟨.tuple #[iv b6,iv 0],Ret.r2 rfl rfl rfl,⟨rfl,hI.below⟩⟩
   have hF:=hG; clear hG
   refine ifE hF (fun h=>absurd h (by decide)) (fun _ hF=>?_)
   refine rgn rfl (ac (ar hI 0 7 [iv Z,iv a0,slv d a.2.2.1.length i,slv V T.length Y,slv e a.2.2.2.2.1.length j,iv a1,slv f a.2.2.2.2.2.2.length l] isAgg116 sizeOf116 rfl rfl rfl rfl ?_))
   refine bt hF (fun b7 c5 hF=>?_)
   refine ac (bg hI 87 [.agg #[iv Z,iv a0,slv d a.2.2.1.length i,slv V T.length Y,slv e a.2.2.2.2.1.length j,iv a1,slv f a.2.2.2.2.2.2.length l]] (.bool b7) (by kernel_rfl) (L87 _ Z a0 (d.map fun b=>⟨b,0,none⟩) i a.2.2.1 (V.map fun b=>⟨b,0,none⟩) Y T (e.map fun b=>⟨b,0,none⟩) j a.2.2.2.2.1 a1 (f.map fun b=>⟨b,0,none⟩) l a.2.2.2.2.2.2 (hI.rowCells 1 rfl p) (am rfl p.big) (am rfl p.cap) (hI.rowCells 2 rfl aE) (am rfl aE.big) (am rfl aE.cap) (hI.rowCells 3 rfl q) (am rfl q.big) (am rfl q.cap) (hI.rowCells 4 rfl s) (am rfl s.big) (am rfl s.cap) _ c5) fun w hI=>pu kf rfl (pu kg rfl (bt hF (fun b8 c6 hF=>?_))))
   refine ac (bg hI 112 [.bool b7,.bool true] (iv b8) (by kernel_rfl) (L112 _ b7 true _ c6) fun w hI=>pu (iv b8) rfl (pu (iv 0) rfl (aa (aj ?_))))
   replace hF:=Option.some.inj hF; subst hF
   exact ⟨.tuple #[iv b8,iv 0],Ret.r2 rfl rfl rfl,⟨rfl,hI.below⟩⟩
  refine ac (bg hI 87 [.agg (qt7 a d i o u e j f l).toArray] kf (by kernel_rfl) (bn.mono (L87 _ a.1 a.2.1 (d.map fun b=>⟨b,0,none⟩) i a.2.2.1 (o.map fun b=>⟨b,0,none⟩) u a.2.2.2.1 (e.map fun b=>⟨b,0,none⟩) j a.2.2.2.2.1 a.2.2.2.2.2.1 (f.map fun b=>⟨b,0,none⟩) l a.2.2.2.2.2.2 (hI.rowCells 1 rfl p) (am rfl p.big) (am rfl p.cap) (hI.rowCells 2 rfl x) (am rfl x.big) (am rfl x.cap) (hI.rowCells 3 rfl q) (am rfl q.big) (am rfl q.cap) (hI.rowCells 4 rfl s) (am rfl s.big) (am rfl s.cap) _ bJ) (fun v' w' h=>⟨h.1.trans (congrArg Value.bool (Bool.eq_false_iff.2 aP)),h.2⟩)) fun w hI=>pu kg rfl (aa (ah rfl (ab (rgn rfl (pu (iv 0) rfl (pu (iv 14) rfl (aa (aj ?_)))))))))
  replace hF:=Option.some.inj hF; subst hF
  exact ⟨.tuple #[iv 0,iv 14],Ret.r2 rfl rfl rfl,⟨rfl,hI.below⟩⟩
 refine ac (de rfl rfl (fun _=>?_) (fun h=>absurd h aO))
 refine aa (ah rfl (ab (rgn rfl (pu (iv aA) rfl (pu (iv 0) rfl (pu (iv aA) rfl (aa (aj ?_))))))))
 replace hF:=Option.some.inj hF; subst hF
 exact ⟨.tuple #[iv 0,iv aA],Ret.r2 rfl rfl rfl,⟨rfl,hI.below⟩⟩


theorem L55 (w0:World) (A:Int) (B:Int) (p:Option Addr) (q:Nat) (i:List Ld) (C:Option Addr) (D:Nat) (s:List Ld) (E:Option Addr) (F:Nat) (t:List Sp) (G:Int) (p1:Int) (K:Int) (b0:bi w0 p (al eLd i)) (b4:i.length≤9223372036854775807) (b5:i.length≤q) (b6:bi w0 C (al eLd s)) (b7:s.length≤9223372036854775807) (b8:s.length≤D) (b9:bi w0 E (al eSp t)) (bA:t.length≤9223372036854775807) (bB:t.length≤F) (N:Nat) (r:(List Int × Int)) (hF:F55 N A B i s t G p1 K=some r):bn Tryz.prog 55 [.agg (ql6 A B p i q C s D E t F G).toArray,.int .i64 p1,.int .i64 K] w0 fun v w=>∃ (z0:Option Nat) (z1:Nat) (z2:List Value),v=.tuple #[slv z0 r.1.length z1,.int .i64 r.2]∧Inv [] w0 w [(z0,blk z2 3)]∧Row 1 z0 r.1.length z1 z2 (al dv r.1):=by
 refine az (n:=80) func55 rfl ntmps55 rfl ?_
 have hI:=Inv.start w0
 unfold F55 at hF
 refine ab (rgn rfl (ac (ca hI (ql6 A B p i q C s D E t F G) rfl fun b1 w hI=>pu (.slice none 0 0) rfl (pu (iv 0) rfl (aa (ab (ab (rgn rfl (ac (ar hI 0 6 (ql6 A B p i q C s D E t F G) isAgg28 sizeOf28 rfl rfl rfl rfl ?_))))))))))
 refine pu (iv K) rfl (bt hF (fun aC bW hF=>?_))
 refine ac (bg hI 85 [.agg (ql6 A B p i q C s D E t F G).toArray,iv K] (iv aC) (by kernel_rfl) (L85 _ A B p q i C D s E F t G K (b0.inv0 hI) b4 b5 (b6.inv0 hI) b7 b8 (b9.inv0 hI) bA bB _ bW) fun w hI=>pu (iv aC) rfl (aa (ab (rgn rfl (pu (iv aC) rfl (ifE hF (fun bC hF=>?_) (fun bC hF=>?_)))))))
 ·
  refine ac (de rfl rfl (fun h=>absurd bC h) (fun _=>?_))
  refine aa (ai rfl (ak (ab (rgn rfl (ac (ar hI 0 6 (ql6 A B p i q C s D E t F G) isAgg28 sizeOf28 rfl rfl rfl rfl ?_))))))
  refine pu (iv p1) rfl (bt hF (fun e bX hF=>?_))
  refine ac (co 16 [.agg (ql6 A B p i q C s D E t F G).toArray,iv p1] (by kernel_rfl) (L16 _ A B p q i C D s E F t G p1 (b0.inv0 hI) b4 b5 (b6.inv0 hI) b7 b8 (b9.inv0 hI) bA bB _ bX) ?_)
  rintro v w ⟨H,Z,bD,I,a0,bE,J,a1,bF,rfl,hN,bG,bH,bI⟩
  have hI:=hI.join hN; clear hN
  refine pu (.tuple #[.agg (qt6 e H Z I a0 J a1).toArray,iv e.2.2.2.2.2.2]) rfl (pu (.agg (qt6 e H Z I a0 J a1).toArray) rfl (pu (iv e.2.2.2.2.2.2) rfl (ac (bh hI (qn6 0 0 none 0 0 none 0 0 none 0 0 0) zeroValue28 rfl fun bS w hI=>ac (aq hI 0 6 (qt6 e H Z I a0 J a1) sizeOf28 rfl rfl rfl rfl rfl (kh rfl) fun w hI=>pu (iv e.2.2.2.2.2.2) rfl (aa (ab (ab (rgn rfl (pu (iv e.2.2.2.2.2.2) rfl (ifE hF (fun bJ hF=>?_) (fun bJ hF=>?_))))))))))))
  ·
   refine ac (de rfl rfl (fun h=>absurd bJ h) (fun _=>?_))
   refine aa (ai rfl (ak (ab (bt hF (fun a bY hF=>?_)))))
   refine bt hF (fun d bZ hF=>?_)
   refine kx [tr (fun _=>(.agg (ql6 A B p i q C s D E t F G).toArray)) [14],tv (fun _=>(iv K)),⟨fun y=>(.agg (qt7 a ((y 2).g 0) ((y 2).c 0) ((y 2).g 1) ((y 2).c 1) ((y 2).g 2) ((y 2).c 2) ((y 2).g 3) ((y 2).c 3)).toArray),fun y=>[(((y 2).g 0),blk ((y 2).cl 0) 30),(((y 2).g 1),blk ((y 2).cl 1) 31),(((y 2).g 2),blk ((y 2).cl 2) 33),(((y 2).g 3),blk ((y 2).cl 3) 30)],fun y=>(Row 6 ((y 2).g 0) a.2.2.1.length ((y 2).c 0) ((y 2).cl 0) (al eLd a.2.2.1))∧(Row 6 ((y 2).g 1) a.2.2.2.1.length ((y 2).c 1) ((y 2).cl 1) (al eLd a.2.2.2.1))∧(Row 6 ((y 2).g 2) a.2.2.2.2.1.length ((y 2).c 2) ((y 2).cl 2) (al eSp a.2.2.2.2.1))∧(Row 6 ((y 2).g 3) a.2.2.2.2.2.2.length ((y 2).c 3) ((y 2).cl 3) (al eLd a.2.2.2.2.2.2)),[],[]⟩,tr (fun _=>(.agg (qt6 e H Z I a0 J a1).toArray)) [10],tv (fun _=>(iv K)),⟨fun y=>(.agg (qt7 d ((y 5).g 0) ((y 5).c 0) ((y 5).g 1) ((y 5).c 1) ((y 5).g 2) ((y 5).c 2) ((y 5).g 3) ((y 5).c 3)).toArray),fun y=>[(((y 5).g 0),blk ((y 5).cl 0) 30),(((y 5).g 1),blk ((y 5).cl 1) 31),(((y 5).g 2),blk ((y 5).cl 2) 33),(((y 5).g 3),blk ((y 5).cl 3) 30)],fun y=>(Row 6 ((y 5).g 0) d.2.2.1.length ((y 5).c 0) ((y 5).cl 0) (al eLd d.2.2.1))∧(Row 6 ((y 5).g 1) d.2.2.2.1.length ((y 5).c 1) ((y 5).cl 1) (al eLd d.2.2.2.1))∧(Row 6 ((y 5).g 2) d.2.2.2.2.1.length ((y 5).c 2) ((y 5).cl 2) (al eSp d.2.2.2.2.1))∧(Row 6 ((y 5).g 3) d.2.2.2.2.2.2.length ((y 5).c 3) ((y 5).cl 3) (al eLd d.2.2.2.2.2.2)),[],[11,12,13]⟩,tal 6 (qn7 0 0 none 0 0 none 0 0 none 0 0 0 none 0 0) 116,tal 7 (qn7 0 0 none 0 0 none 0 0 none 0 0 0 none 0 0) 116,tst (fun y=>[(some (y 6).b,blk (qt7 a ((y 2).g 0) ((y 2).c 0) ((y 2).g 1) ((y 2).c 1) ((y 2).g 2) ((y 2).c 2) ((y 2).g 3) ((y 2).c 3)) 116)]) 6,tst (fun y=>[(some (y 7).b,blk (qt7 d ((y 5).g 0) ((y 5).c 0) ((y 5).g 1) ((y 5).c 1) ((y 5).g 2) ((y 5).c 2) ((y 5).g 3) ((y 5).c 3)) 116)]) 7] (fun y=>[(3,.pointer (some ⟨b1,0,none⟩)),(11,.pointer (some ⟨(y 6).b,0,none⟩)),(12,.pointer (some ⟨(y 7).b,0,none⟩))]) (fun y=>[(((y 2).g 0),blk ((y 2).cl 0) 30),(((y 2).g 1),blk ((y 2).cl 1) 31),(((y 2).g 2),blk ((y 2).cl 2) 33),(((y 2).g 3),blk ((y 2).cl 3) 30),(((y 5).g 0),blk ((y 5).cl 0) 30),(((y 5).g 1),blk ((y 5).cl 1) 31),(((y 5).g 2),blk ((y 5).cl 2) 33),(((y 5).g 3),blk ((y 5).cl 3) 30),(some (y 6).b,blk (qt7 a ((y 2).g 0) ((y 2).c 0) ((y 2).g 1) ((y 2).c 1) ((y 2).g 2) ((y 2).c 2) ((y 2).g 3) ((y 2).c 3)) 116),(some (y 7).b,blk (qt7 d ((y 5).g 0) ((y 5).c 0) ((y 5).g 1) ((y 5).c 1) ((y 5).g 2) ((y 5).c 2) ((y 5).g 3) ((y 5).c 3)) 116),(some bS,blk (qt6 e H Z I a0 J a1) 28),(H,blk bD 30),(I,blk bE 31),(J,blk bF 33),(some b1,blk (ql6 A B p i q C s D E t F G) 28)]) hI (by kernel_rfl) (fun y=>⟨rfl,rfl⟩) (fun y=>?_) ?_
   ·
    refine tl1 [(some b1,blk (ql6 A B p i q C s D E t F G) 28)] rfl rfl (fun X w hI=>ar hI 0 6 (ql6 A B p i q C s D E t F G) isAgg28 sizeOf28 rfl rfl rfl rfl br) (tp rfl (fun _=>rfl) (tg (.agg (qt7 a ((y 2).g 0) ((y 2).c 0) ((y 2).g 1) ((y 2).c 1) ((y 2).g 2) ((y 2).c 2) ((y 2).g 3) ((y 2).c 3)).toArray) [] [] rfl ⟨rfl,rfl,rfl⟩ ?_ ?_))
    ·intro hp X w hI
     refine co 86 [.agg (ql6 A B p i q C s D E t F G).toArray,iv K] (by kernel_rfl) (L86 _ A B p q i C D s E F t G K (b0.inv0 hI) b4 b5 (b6.inv0 hI) b7 b8 (b9.inv0 hI) bA bB _ bY) ?_
     rintro v w ⟨L,a3,aI,M,a4,aJ,O,a5,aK,P,a6,aL,rfl,hN,aM,aN,aO,aP⟩
     have hI:=hI.join hN; clear hN
     exact ⟨wit 0 [L,M,O,P] [a3,a4,a5,a6] [aI,aJ,aK,aL] [],rfl,Eq.mp rfl (And.intro aM (And.intro aN (And.intro aO aP))),hI.castL rfl⟩
    refine tl1 [(some bS,blk (qt6 e H Z I a0 J a1) 28)] rfl rfl (fun X w hI=>ar hI 0 6 (qt6 e H Z I a0 J a1) isAgg28 sizeOf28 rfl rfl rfl rfl br) (tp rfl (fun _=>rfl) (tg (.agg (qt7 d ((y 5).g 0) ((y 5).c 0) ((y 5).g 1) ((y 5).c 1) ((y 5).g 2) ((y 5).c 2) ((y 5).g 3) ((y 5).c 3)).toArray) [(H,blk bD 30),(I,blk bE 31),(J,blk bF 33)] [(H,blk bD 30),(I,blk bE 31),(J,blk bF 33)] rfl ⟨rfl,rfl,rfl⟩ ?_ ?_))
    ·intro hp X w hI
     refine co 86 [.agg (qt6 e H Z I a0 J a1).toArray,iv K] (by kernel_rfl) (L86 _ e.1 e.2.1 (H.map fun b=>⟨b,0,none⟩) Z e.2.2.1 (I.map fun b=>⟨b,0,none⟩) a0 e.2.2.2.1 (J.map fun b=>⟨b,0,none⟩) a1 e.2.2.2.2.1 e.2.2.2.2.2.1 K (hI.rowCells 0 rfl bG) (am rfl bG.big) (am rfl bG.cap) (hI.rowCells 1 rfl bH) (am rfl bH.big) (am rfl bH.cap) (hI.rowCells 2 rfl bI) (am rfl bI.big) (am rfl bI.cap) _ bZ) ?_
     rintro v w ⟨Q,a7,aQ,R,a8,aR,S,a9,aS,T,aA,aT,rfl,hN,aU,aV,aW,aX⟩
     have hI:=hI.join hN; clear hN
     exact ⟨wit 0 [Q,R,S,T] [a7,a8,a9,aA] [aQ,aR,aS,aT] [],rfl,Eq.mp rfl (And.intro aU (And.intro aV (And.intro aW aX))),hI.castL rfl⟩
    refine tA rfl zeroValue116 rfl (tA rfl zeroValue116 rfl (tS [(some (y 6).b,blk (qn7 0 0 none 0 0 none 0 0 none 0 0 0 none 0 0) 116)] rfl ⟨rfl,rfl⟩ (fun X w hI=>aq hI 0 7 (qt7 a ((y 2).g 0) ((y 2).c 0) ((y 2).g 1) ((y 2).c 1) ((y 2).g 2) ((y 2).c 2) ((y 2).g 3) ((y 2).c 3)) sizeOf116 rfl rfl rfl rfl rfl (kh rfl) fun w hI=>⟨rfl,hI.castL rfl⟩) (tS [(some (y 7).b,blk (qn7 0 0 none 0 0 none 0 0 none 0 0 0 none 0 0) 116)] rfl ⟨rfl,rfl⟩ (fun X w hI=>aq hI 0 7 (qt7 d ((y 5).g 0) ((y 5).c 0) ((y 5).g 1) ((y 5).c 1) ((y 5).g 2) ((y 5).c 2) ((y 5).g 3) ((y 5).c 3)) sizeOf116 rfl rfl rfl rfl rfl (kh rfl) fun w hI=>⟨rfl,hI.castL rfl⟩) ?_)))
    exact tn
   intro y hp ρ w hag hI
   obtain ⟨aM,aN,aO,aP⟩:(Row 6 ((y 2).g 0) a.2.2.1.length ((y 2).c 0) ((y 2).cl 0) (al eLd a.2.2.1))∧(Row 6 ((y 2).g 1) a.2.2.2.1.length ((y 2).c 1) ((y 2).cl 1) (al eLd a.2.2.2.1))∧(Row 6 ((y 2).g 2) a.2.2.2.2.1.length ((y 2).c 2) ((y 2).cl 2) (al eSp a.2.2.2.2.1))∧(Row 6 ((y 2).g 3) a.2.2.2.2.2.2.length ((y 2).c 3) ((y 2).cl 3) (al eLd a.2.2.2.2.2.2)):=pgl hp (k:=2) (by decide) rfl
   obtain ⟨aU,aV,aW,aX⟩:(Row 6 ((y 5).g 0) d.2.2.1.length ((y 5).c 0) ((y 5).cl 0) (al eLd d.2.2.1))∧(Row 6 ((y 5).g 1) d.2.2.2.1.length ((y 5).c 1) ((y 5).cl 1) (al eLd d.2.2.2.1))∧(Row 6 ((y 5).g 2) d.2.2.2.2.1.length ((y 5).c 2) ((y 5).cl 2) (al eSp d.2.2.2.2.1))∧(Row 6 ((y 5).g 3) d.2.2.2.2.2.2.length ((y 5).c 3) ((y 5).cl 3) (al eLd d.2.2.2.2.2.2)):=pgl hp (k:=5) (by decide) rfl
   clear hp
   generalize (y 2).g 0=L at *
   generalize (y 2).c 0=a3 at *
   generalize (y 2).cl 0=aI at *
   generalize (y 2).g 1=M at *
   generalize (y 2).c 1=a4 at *
   generalize (y 2).cl 1=aJ at *
   generalize (y 2).g 2=O at *
   generalize (y 2).c 2=a5 at *
   generalize (y 2).cl 2=aK at *
   generalize (y 2).g 3=P at *
   generalize (y 2).c 3=a6 at *
   generalize (y 2).cl 3=aL at *
   generalize (y 5).g 0=Q at *
   generalize (y 5).c 0=a7 at *
   generalize (y 5).cl 0=aQ at *
   generalize (y 5).g 1=R at *
   generalize (y 5).c 1=a8 at *
   generalize (y 5).cl 1=aR at *
   generalize (y 5).g 2=S at *
   generalize (y 5).c 2=a9 at *
   generalize (y 5).cl 2=aS at *
   generalize (y 5).g 3=T at *
   generalize (y 5).c 3=aA at *
   generalize (y 5).cl 3=aT at *
   generalize (y 6).b=aD at *
   generalize (y 7).b=aE at *
   obtain ⟨ρ,rfl⟩:=hag.form; clear hag
   refine ab (rgn rfl (pu (.slice none 0 0) rfl (aa (dn (fun ρ w=>∃ (U:Option Nat) (Y:Nat) (bK:List Value) (V:List Int),cd ρ [(13,slv U V.length Y)]∧Inv [] w0 w [(U,blk bK 3)]∧(Row 1 U (V.length) Y bK (al dv V))∧F55j1 V=some r) ?_ ?_))))
   ·
    refine ab (rgn rfl (pu (.pointer (some ⟨b1,2,none⟩)) rfl (ac (ag hI 14 (.slice p i.length q) isAgg24 rfl rfl rfl ?_))))
    refine pu (iv ((i.length:Nat):Int)) (by kernel_rfl) (pu (iv 0) rfl (aa (au ?_)))
    have hI:=hI.nilRow 3
    refine cb (fun m ρ w=>∃ (a2:Option Nat) (aB:Nat) (aF:List Value) (x:List Int) (W:Int) (mm:Nat),cd ρ [(11,.pointer (some ⟨aD,0,none⟩)),(12,.pointer (some ⟨aE,0,none⟩)),(13,slv a2 x.length aB),(42,.slice p i.length q),(43,iv (i.length:Int)),(44,iv W)]∧Inv [] w0 w [(some aD,blk (qt7 a L a3 M a4 O a5 P a6) 116),(L,blk aI 30),(M,blk aJ 31),(O,blk aK 33),(P,blk aL 30),(some aE,blk (qt7 d Q a7 R a8 S a9 T aA) 116),(Q,blk aQ 30),(R,blk aR 31),(S,blk aS 33),(T,blk aT 30),(a2,blk aF 3)]∧(Row 1 a2 (x.length) aB aF (al dv x))∧F55l2 i a d mm x W=some r∧mm=m) (m:=N) ⟨none,0,[],[],0,N,⟨rfl,rfl,rfl,rfl,rfl,rfl,trivial⟩,hI.pk [9,1,2,3,4,10,5,6,7,8,0] rfl rfl,(Row.nil_ 1),hF,rfl⟩ ?_
    rintro m ρ w ⟨a2,aB,aF,x,W,mm,hag,hI,bL,hF,hm⟩
    subst hm; obtain ⟨ρ,rfl⟩:=hag.form; clear hag
    obtain _ | m2:=mm
    ·cases (show (none:Option (List Int × Int))=some r from hF)
    replace hF:F55b2 i a d (F55l2 i a d m2) x W=some r:=hF; unfold F55b2 at hF
    refine ab (rgn rfl (ifE hF (fun bM hF=>?_) (fun bM hF=>?_)))
    ·
     refine ac (cm rfl rfl (fun _=>?_) (fun h=>absurd bM h))
     refine aa (ab (ah rfl (ak (dn (fun ρ w=>∃ (aY:Option Nat) (b2:Nat) (b3:List Value) (aG:List Int),cd ρ [(11,.pointer (some ⟨aD,0,none⟩)),(12,.pointer (some ⟨aE,0,none⟩)),(13,slv aY aG.length b2),(42,.slice p i.length q),(43,iv (i.length:Int)),(44,iv W)]∧Inv [] w0 w [(some aD,blk (qt7 a L a3 M a4 O a5 P a6) 116),(L,blk aI 30),(M,blk aJ 31),(O,blk aK 33),(P,blk aL 30),(some aE,blk (qt7 d Q a7 R a8 S a9 T aA) 116),(Q,blk aQ 30),(R,blk aR 31),(S,blk aS 33),(T,blk aT 30),(aY,blk b3 3)]∧(Row 1 aY (aG.length) b2 b3 (al dv aG))∧F55j3 (F55l2 i a d m2) W aG=some r) ?_ ?_))))
     ·
      refine au ?_
      refine ab (rgn rfl (gdE hF (fun c0 hF=>?_)))
      refine bt hF (fun f bT hF=>?_)
      obtain ⟨cD,cE,c1,c2,c4⟩:=b0.at_ bf (by decide) bT
      refine ac (cn (W).toNat underlying24 sizeOf30 rfl c1 rfl (Int.toNat_of_nonneg c0).symm (fa bT rfl) ?_)
      refine ac (ef hI (eLd f) isAgg30 sizeOf30 rfl rfl c2 (by simp) c4 ?_)
      refine ac (bh hI [iv 0,iv 0,iv 0,iv 0,iv 0,iv 0] zeroValue30 rfl fun aZ w hI=>ac (aq hI 0 6 (eLd f) sizeOf30 rfl rfl rfl rfl rfl (kh rfl) fun w hI=>aa (ab (rgn rfl (ac (ar hI 1 7 (qt7 a L a3 M a4 O a5 P a6) isAgg116 sizeOf116 rfl rfl rfl rfl ?_))))))
      refine pu (.pointer (some ⟨aZ,1,none⟩)) rfl (ac (ag hI 0 (iv f.hr) isAgg3 rfl rfl rfl ?_))
      refine bt hF (fun l c5 hF=>?_)
      refine ac (bg hI 98 [.agg (qt7 a L a3 M a4 O a5 P a6).toArray,iv f.hr] (.tuple #[.agg #[iv l.1,iv l.2.1],.bool l.2.2]) (by kernel_rfl) (L98 _ a.1 a.2.1 (L.map fun b=>⟨b,0,none⟩) a3 a.2.2.1 (M.map fun b=>⟨b,0,none⟩) a4 a.2.2.2.1 (O.map fun b=>⟨b,0,none⟩) a5 a.2.2.2.2.1 a.2.2.2.2.2.1 (P.map fun b=>⟨b,0,none⟩) a6 a.2.2.2.2.2.2 f.hr (hI.rowCells 2 rfl aM) (am rfl aM.big) (am rfl aM.cap) (hI.rowCells 3 rfl aN) (am rfl aN.big) (am rfl aN.cap) (hI.rowCells 4 rfl aO) (am rfl aO.big) (am rfl aO.cap) (hI.rowCells 5 rfl aP) (am rfl aP.big) (am rfl aP.cap) _ c5) fun w hI=>pu (.tuple #[.agg #[iv l.1,iv l.2.1],.bool l.2.2]) rfl (pu (.agg #[iv l.1,iv l.2.1]) rfl (pu (.bool l.2.2) rfl (ac (bh hI [iv 0,iv 0] zeroValue23 rfl fun cF w hI=>ac (aq hI 0 2 [iv l.1,iv l.2.1] sizeOf23 rfl rfl rfl rfl rfl (kh rfl) fun w hI=>pu (.bool l.2.2) rfl (aa (ab (rgn rfl (ac (ar hI 7 7 (qt7 d Q a7 R a8 S a9 T aA) isAgg116 sizeOf116 rfl rfl rfl rfl ?_)))))))))))
      refine pu (.pointer (some ⟨aZ,1,none⟩)) rfl (ac (ag hI 1 (iv f.hr) isAgg3 rfl rfl rfl ?_))
      refine bt hF (fun o c6 hF=>?_)
      refine ac (bg hI 98 [.agg (qt7 d Q a7 R a8 S a9 T aA).toArray,iv f.hr] (.tuple #[.agg #[iv o.1,iv o.2.1],.bool o.2.2]) (by kernel_rfl) (L98 _ d.1 d.2.1 (Q.map fun b=>⟨b,0,none⟩) a7 d.2.2.1 (R.map fun b=>⟨b,0,none⟩) a8 d.2.2.2.1 (S.map fun b=>⟨b,0,none⟩) a9 d.2.2.2.2.1 d.2.2.2.2.2.1 (T.map fun b=>⟨b,0,none⟩) aA d.2.2.2.2.2.2 f.hr (hI.rowCells 8 rfl aU) (am rfl aU.big) (am rfl aU.cap) (hI.rowCells 9 rfl aV) (am rfl aV.big) (am rfl aV.cap) (hI.rowCells 10 rfl aW) (am rfl aW.big) (am rfl aW.cap) (hI.rowCells 11 rfl aX) (am rfl aX.big) (am rfl aX.cap) _ c6) fun w hI=>pu (.tuple #[.agg #[iv o.1,iv o.2.1],.bool o.2.2]) rfl (pu (.agg #[iv o.1,iv o.2.1]) rfl (pu (.bool o.2.2) rfl (ac (bh hI [iv 0,iv 0] zeroValue23 rfl fun cG w hI=>ac (aq hI 0 2 [iv o.1,iv o.2.1] sizeOf23 rfl rfl rfl rfl rfl (kh rfl) fun w hI=>pu (.bool o.2.2) rfl (aa (dn (fun ρ w=>cd ρ [(11,.pointer (some ⟨aD,0,none⟩)),(12,.pointer (some ⟨aE,0,none⟩)),(13,slv a2 x.length aB),(15,.pointer (some ⟨aZ,0,none⟩)),(42,.slice p i.length q),(43,iv (i.length:Int)),(44,iv W),(69,.bool true)]∧Inv [] w0 w [(some aD,blk (qt7 a L a3 M a4 O a5 P a6) 116),(L,blk aI 30),(M,blk aJ 31),(O,blk aK 33),(P,blk aL 30),(some aE,blk (qt7 d Q a7 R a8 S a9 T aA) 116),(Q,blk aQ 30),(R,blk aR 31),(S,blk aS 33),(T,blk aT 30),(a2,blk aF 3),(some aZ,blk (eLd f) 30)]∧F55j4 (F55l2 i a d m2) x W f=some r) ?_ ?_))))))))
      ·
       refine rgn rfl (ac (ar hI 1 2 [iv l.1,iv l.2.1] isAgg23 sizeOf23 rfl rfl rfl rfl ?_))
       refine ac (ar hI 0 2 [iv o.1,iv o.2.1] isAgg23 sizeOf23 rfl rfl rfl rfl ?_)
       refine ifE hF (fun bN hF=>?_) (fun bN hF=>?_)
       ·
        refine ac (s_neqA (b:=decide (l.1=o.1) && decide (l.2.1=o.2.1)) rfl rfl (by kernel_rfl) (fun w=>eq23 _ l.1 l.2.1 o.1 o.2.1 w) (fun h=>absurd bN h) (fun _=>?_))
        refine pu kf rfl (puo (.bool l.2.2) ⟨rfl,rfl⟩ (puo (.bool o.2.2) ⟨rfl,rfl⟩ (ifE hF (fun bO hF=>?_) (fun bO hF=>?_))))
        ·
         refine aw rfl (s_neqB underlying4 rfl rfl (fun h=>absurd bO h) (fun _=>?_))
         refine pu kf rfl (aa (.inr ?_))
         refine ai rfl (ak ?_)
         exact .inl ⟨rfl,⟨a2,aB,aF,x,⟨rfl,rfl,rfl,rfl,rfl,rfl,trivial⟩,hI.pk [3,4,5,6,7,8,9,10,11,12,13] rfl rfl,(bL.to rfl rfl),hF⟩⟩
        refine aw rfl (s_neqB underlying4 rfl rfl (fun _=>?_) (fun h=>absurd h bO))
        refine pu kg rfl (aa ?_)
        exact .inl ⟨rfl,⟨⟨rfl,rfl,rfl,rfl,rfl,rfl,rfl,rfl,trivial⟩,hI.pk [3,4,5,6,7,8,9,10,11,12,13,2] rfl rfl,hF⟩⟩
       refine ac (s_neqA (b:=decide (l.1=o.1) && decide (l.2.1=o.2.1)) rfl rfl (by kernel_rfl) (fun w=>eq23 _ l.1 l.2.1 o.1 o.2.1 w) (fun _=>?_) (fun h=>absurd h bN))
       refine pu kg rfl (sf 3 rfl (pu kg rfl (aa ?_)))
       exact .inl ⟨rfl,⟨⟨rfl,rfl,rfl,rfl,rfl,rfl,rfl,rfl,trivial⟩,hI.pk [3,4,5,6,7,8,9,10,11,12,13,2] rfl rfl,hF⟩⟩
      intro ρ w hJ
      obtain ⟨hag,hI,hF⟩:=hJ
      obtain ⟨ρ,rfl⟩:=hag.form; clear hag
      unfold F55j4 at hF
      refine ah rfl (rgn rfl (pu (slv a2 x.length aB) rfl (pu (.pointer (some ⟨aZ,1,none⟩)) rfl (ac (ag hI 11 (iv f.hr) isAgg3 rfl rfl rfl ?_)))))
      refine ac (fu hI [iv f.hr] 3 (fun b=>slv (some b) 1 1) (by kernel_rfl) fun cH w hI=>gdE hF (fun cI hF=>?_))
      refine ac (ks hI underlying41 (z:=iv 0) (k:=1) (bytes:=8) rfl rfl rfl 11 rfl rfl bL [iv f.hr] rfl rfl (hI.cells 0 (off:=0) rfl (fun j u h=>by rw [Nat.zero_add]; exact h)) (by simp [Value.oneCell']) (by omega) (by omega) (n2:=(x++[f.hr]).length) (kr rfl rfl) ?_)
      intro bP bQ bU w hI bR
      have bR:Row 1 bP ((x++[f.hr]).length) bQ bU (al dv (x++[f.hr])):=bR.snoc _ rfl
      refine pu (slv bP ((x++[f.hr]).length) bQ) rfl (aa ?_)
      exact .inl ⟨rfl,⟨bP,bQ,bU,x++[f.hr],⟨rfl,rfl,rfl,rfl,rfl,rfl,trivial⟩,hI.pk [1,2,3,4,5,6,7,8,9,10,11] rfl rfl,(bR.to rfl rfl),hF⟩⟩
     intro ρ w hJ
     obtain ⟨aY,b2,b3,aG,hag,hI,c7,hF⟩:=hJ
     obtain ⟨ρ,rfl⟩:=hag.form; clear hag
     unfold F55j3 at hF
     refine rgn rfl (ckE hF (fun c8 hF=>?_))
     refine ac (cj rfl rfl c8 ?_)
     refine pu (iv (W+1)) rfl (aa ?_)
     exact ⟨rfl,m2,Nat.lt_succ_self _,⟨aY,b2,b3,aG,W+1,m2,⟨rfl,rfl,rfl,rfl,rfl,rfl,trivial⟩,hI.pk [0,1,2,3,4,5,6,7,8,9,10] rfl rfl,(c7.to rfl rfl),hF,rfl⟩⟩
    refine ac (cm rfl rfl (fun h=>absurd h bM) (fun _=>?_))
    refine aa (ab (ai rfl (bw ?_)))
    exact .inl ⟨rfl,⟨a2,aB,aF,x,⟨rfl,trivial⟩,hI.pk [10] rfl rfl,(bL.to rfl rfl),hF⟩⟩
   intro ρ w hJ
   obtain ⟨U,Y,bK,V,hag,hI,c9,hF⟩:=hJ
   obtain ⟨ρ,rfl⟩:=hag.form; clear hag
   unfold F55j1 at hF
   refine ab (rgn rfl (pu (slv U V.length Y) rfl (gdE hF (fun bV hF=>?_))))
   refine ac (co 69 [slv U V.length Y] (by kernel_rfl) (sort_c hI 0 rfl c9 bV) ?_)
   rintro v w ⟨rfl,cJ,hI,cA⟩
   refine aa (ab (rgn rfl (pu (slv U V.length Y) rfl (ac (co 70 [slv U V.length Y] (by kernel_rfl) (compact_c hI 0 rfl cA bV) ?_)))))
   rintro v w ⟨rfl,cB,hI,cC⟩
   refine pu (slv U ((ea (sortI V)).length) Y) rfl (pu (iv 0) rfl (aa (aj ?_)))
   replace hF:=Option.some.inj hF; subst hF
   exact ⟨.tuple #[slv U ((ea (sortI V)).length) Y,iv 0],Ret.r2 rfl rfl rfl,⟨U,Y,cB,rfl,hI.pk [0] rfl rfl,cC.to rfl rfl⟩⟩
  refine ac (de rfl rfl (fun _=>?_) (fun h=>absurd h bJ))
  refine aa (ah rfl (ab (rgn rfl (pu (iv e.2.2.2.2.2.2) rfl (pu (.slice none 0 0) rfl (pu (iv e.2.2.2.2.2.2) rfl (aa (aj ?_))))))))
  have hI:=hI.nilRow 3
  replace hF:=Option.some.inj hF; subst hF
  exact ⟨.tuple #[.slice none 0 0,iv e.2.2.2.2.2.2],Ret.r2 rfl rfl rfl,⟨none,0,[],rfl,hI.pk [0] rfl rfl,Row.nil_ 1⟩⟩
 refine ac (de rfl rfl (fun _=>?_) (fun h=>absurd h bC))
 refine aa (ah rfl (ab (rgn rfl (pu (iv aC) rfl (pu (.slice none 0 0) rfl (pu (iv aC) rfl (aa (aj ?_))))))))
 have hI:=hI.nilRow 3
 replace hF:=Option.some.inj hF; subst hF
 exact ⟨.tuple #[.slice none 0 0,iv aC],Ret.r2 rfl rfl rfl,⟨none,0,[],rfl,hI.pk [0] rfl rfl,Row.nil_ 1⟩⟩


theorem L60 (w0:World) (r:(Int × Int × List Ld × List Ld × List Sp × Int)) (hF:F60=some r):bn Tryz.prog 60 [] w0 fun v w=>∃ (z0:Option Nat) (z1:Nat) (z2:List Value) (z3:Option Nat) (z4:Nat) (z5:List Value) (z6:Option Nat) (z7:Nat) (z8:List Value),v=.agg #[.int .i64 r.1,.int .i64 r.2.1,slv z0 r.2.2.1.length z1,slv z3 r.2.2.2.1.length z4,slv z6 r.2.2.2.2.1.length z7,.int .i64 r.2.2.2.2.2]∧Inv [] w0 w [(z0,blk z2 30),(z3,blk z5 31),(z6,blk z8 33)]∧Row 6 z0 r.2.2.1.length z1 z2 (al eLd r.2.2.1)∧Row 6 z3 r.2.2.2.1.length z4 z5 (al eLd r.2.2.2.1)∧Row 6 z6 r.2.2.2.2.1.length z7 z8 (al eSp r.2.2.2.2.1):=by
 refine az (n:=21) func60 rfl ntmps60 rfl ?_
 have hI:=Inv.start w0
 unfold F60 at hF
 refine ab (rgn rfl (ac (bh hI (qn6 0 0 none 0 0 none 0 0 none 0 0 0) zeroValue28 rfl fun b8 w hI=>aa (ab (rgn rfl (pu (.agg #[iv 100,iv 120]) (by kernel_rfl) (pu (.agg #[iv 40,iv 50]) (by kernel_rfl) (pu (.agg #[iv 1,iv 30,iv 40,iv 50,iv 0,iv 0]) (by kernel_rfl) (pu (.agg #[iv 30,iv 40]) (by kernel_rfl) (pu (.agg #[iv 2,iv 35,iv 30,iv 40,iv 0,iv 0]) (by kernel_rfl) (pu (.agg #[iv 10,iv 60]) (by kernel_rfl) (pu (.agg #[iv 3,iv 58,iv 10,iv 60,iv 4,iv 0]) (by kernel_rfl) ?_))))))))))))
 refine ac (fu hI [iv 1,iv 30,iv 40,iv 50,iv 0,iv 0,iv 2,iv 35,iv 30,iv 40,iv 0,iv 0,iv 3,iv 58,iv 10,iv 60,iv 4,iv 0] 30 (fun b=>slv (some b) 3 3) (by kernel_rfl) fun b9 w hI=>pu (.agg #[iv 20,iv 35]) (by kernel_rfl) (pu (.agg #[iv 11,iv 35,iv 20,iv 35,iv 2,iv 0]) (by kernel_rfl) (pu (.agg #[iv 0,iv 5]) (by kernel_rfl) (pu (.agg #[iv 12,iv 58,iv 0,iv 5,iv 5,iv 0]) (by kernel_rfl) (pu (.agg #[iv 13,iv 58,iv 0,iv 0,iv 6,iv 0]) (by kernel_rfl) (pu (.agg #[iv 80,iv 90]) (by kernel_rfl) (pu (.agg #[iv 14,iv 30,iv 80,iv 90,iv 9,iv 0]) (by kernel_rfl) (ac (fu hI [iv 11,iv 35,iv 20,iv 35,iv 2,iv 0,iv 12,iv 58,iv 0,iv 5,iv 5,iv 0,iv 13,iv 58,iv 0,iv 0,iv 6,iv 0,iv 14,iv 30,iv 80,iv 90,iv 9,iv 0] 31 (fun b=>slv (some b) 4 4) (by kernel_rfl) fun a w hI=>pu (.agg #[iv 21,iv 1,iv 58,iv 60,iv 4,iv 0]) (by kernel_rfl) (pu (.agg #[iv 22,iv 2,iv 64,iv 70,iv 5,iv 0]) (by kernel_rfl) (ac (fu hI [iv 21,iv 1,iv 58,iv 60,iv 4,iv 0,iv 22,iv 2,iv 64,iv 70,iv 5,iv 0] 33 (fun b=>slv (some b) 2 2) (by kernel_rfl) fun d w hI=>pu (.agg (qn6 100 120 (some ⟨b9,0,none⟩) 3 3 (some ⟨a,0,none⟩) 4 4 (some ⟨d,0,none⟩) 2 2 2).toArray) (by kernel_rfl) (ac (aq hI 3 6 (qn6 100 120 (some ⟨b9,0,none⟩) 3 3 (some ⟨a,0,none⟩) 4 4 (some ⟨d,0,none⟩) 2 2 2) sizeOf28 rfl rfl rfl rfl rfl (kh rfl) fun w hI=>aa (aj ?_)))))))))))))))
 have e:Row 6 (some b9) 3 3 [iv 1,iv 30,iv 40,iv 50,iv 0,iv 0,iv 2,iv 35,iv 30,iv 40,iv 0,iv 0,iv 3,iv 58,iv 10,iv 60,iv 4,iv 0] (al eLd [(⟨1,30,40,50,0,0⟩:Ld),(⟨2,35,30,40,0,0⟩:Ld),(⟨3,58,10,60,4,0⟩:Ld)]):=Row.lit bf (l:=[(⟨1,30,40,50,0,0⟩:Ld),(⟨2,35,30,40,0,0⟩:Ld),(⟨3,58,10,60,4,0⟩:Ld)]) rfl (kh rfl)
 have f:Row 6 (some a) 4 4 [iv 11,iv 35,iv 20,iv 35,iv 2,iv 0,iv 12,iv 58,iv 0,iv 5,iv 5,iv 0,iv 13,iv 58,iv 0,iv 0,iv 6,iv 0,iv 14,iv 30,iv 80,iv 90,iv 9,iv 0] (al eLd [(⟨11,35,20,35,2,0⟩:Ld),(⟨12,58,0,5,5,0⟩:Ld),(⟨13,58,0,0,6,0⟩:Ld),(⟨14,30,80,90,9,0⟩:Ld)]):=Row.lit bf (l:=[(⟨11,35,20,35,2,0⟩:Ld),(⟨12,58,0,5,5,0⟩:Ld),(⟨13,58,0,0,6,0⟩:Ld),(⟨14,30,80,90,9,0⟩:Ld)]) rfl (kh rfl)
 have g:Row 6 (some d) 2 2 [iv 21,iv 1,iv 58,iv 60,iv 4,iv 0,iv 22,iv 2,iv 64,iv 70,iv 5,iv 0] (al eSp [(⟨21,1,58,60,4,0⟩:Sp),(⟨22,2,64,70,5,0⟩:Sp)]):=Row.lit gb (l:=[(⟨21,1,58,60,4,0⟩:Sp),(⟨22,2,64,70,5,0⟩:Sp)]) rfl (kh rfl)
 replace hF:=Option.some.inj hF; subst hF
 exact ⟨.agg #[iv 100,iv 120,slv (some b9) 3 3,slv (some a) 4 4,slv (some d) 2 2,iv 2],Ret.c rfl rfl (ce hI 3 6 [iv 100,iv 120,slv (some b9) 3 3,slv (some a) 4 4,slv (some d) 2 2,iv 2] isAgg28 sizeOf28 rfl rfl rfl),⟨some b9,3,[iv 1,iv 30,iv 40,iv 50,iv 0,iv 0,iv 2,iv 35,iv 30,iv 40,iv 0,iv 0,iv 3,iv 58,iv 10,iv 60,iv 4,iv 0],some a,4,[iv 11,iv 35,iv 20,iv 35,iv 2,iv 0,iv 12,iv 58,iv 0,iv 5,iv 5,iv 0,iv 13,iv 58,iv 0,iv 0,iv 6,iv 0,iv 14,iv 30,iv 80,iv 90,iv 9,iv 0],some d,2,[iv 21,iv 1,iv 58,iv 60,iv 4,iv 0,iv 22,iv 2,iv 64,iv 70,iv 5,iv 0],(by first | (simp only [List.length_set,ib] <;> rfl) | rfl),hI.pk [2,1,0] rfl rfl,e.to rfl rfl,f.to rfl rfl,g.to rfl rfl⟩⟩


theorem L13 (w0:World) (N:Nat) (r:Bool) (hF:F13 N=some r):bn Tryz.prog 13 [] w0 fun v w=>v=.bool r∧Below w0.heap.size w0 w:=by
 refine az (n:=162) func13 rfl ntmps13 rfl ?_
 have hI:=Inv.start w0
 unfold F13 at hF
 refine ab (rgn rfl (pu kf rfl (aa (ab (rgn rfl (bt hF (fun a aJ hF=>?_)))))))
 refine ac (co 60 [] (by kernel_rfl) (L60 _ _ aJ) ?_)
 rintro v w ⟨g,i,aV,k,l,aW,m,o,aX,rfl,hN,p,q,s⟩
 have hI:=hI.join hN; clear hN
 refine ac (bh hI (qn6 0 0 none 0 0 none 0 0 none 0 0 0) zeroValue28 rfl fun aY w hI=>ac (aq hI 0 6 [iv a.1,iv a.2.1,slv g a.2.2.1.length i,slv k a.2.2.2.1.length l,slv m a.2.2.2.2.1.length o,iv a.2.2.2.2.2] sizeOf28 rfl rfl rfl rfl rfl (kh rfl) fun w hI=>aa (ab (rgn rfl (ac (ar hI 0 6 [iv a.1,iv a.2.1,slv g a.2.2.1.length i,slv k a.2.2.2.1.length l,slv m a.2.2.2.2.1.length o,iv a.2.2.2.2.2] isAgg28 sizeOf28 rfl rfl rfl rfl ?_))))))
 refine bt hF (fun d aK hF=>?_)
 refine ac (bg hI 36 [.agg #[iv a.1,iv a.2.1,slv g a.2.2.1.length i,slv k a.2.2.2.1.length l,slv m a.2.2.2.2.1.length o,iv a.2.2.2.2.2],iv 30,iv 2] (.tuple #[.agg #[iv d.1,iv d.2.1],iv d.2.2]) (by kernel_rfl) (L36 _ a.1 a.2.1 (g.map fun b=>⟨b,0,none⟩) i a.2.2.1 (k.map fun b=>⟨b,0,none⟩) l a.2.2.2.1 (m.map fun b=>⟨b,0,none⟩) o a.2.2.2.2.1 a.2.2.2.2.2 30 2 (hI.rowCells 1 rfl p) (am rfl p.big) (am rfl p.cap) (hI.rowCells 2 rfl q) (am rfl q.big) (am rfl q.cap) (hI.rowCells 3 rfl s) (am rfl s.big) (am rfl s.cap) _ aK) fun w hI=>pu (.tuple #[.agg #[iv d.1,iv d.2.1],iv d.2.2]) rfl (pu (.agg #[iv d.1,iv d.2.1]) rfl (pu (iv d.2.2) rfl (ac (bh hI [iv 0,iv 0] zeroValue23 rfl fun aC w hI=>ac (aq hI 0 2 [iv d.1,iv d.2.1] sizeOf23 rfl rfl rfl rfl rfl (kh rfl) fun w hI=>pu (iv d.2.2) rfl (aa (ab (rgn rfl (ac (ar hI 1 6 [iv a.1,iv a.2.1,slv g a.2.2.1.length i,slv k a.2.2.2.1.length l,slv m a.2.2.2.2.1.length o,iv a.2.2.2.2.2] isAgg28 sizeOf28 rfl rfl rfl rfl ?_)))))))))))
 refine bt hF (fun e aL hF=>?_)
 refine ac (bg hI 38 [.agg #[iv a.1,iv a.2.1,slv g a.2.2.1.length i,slv k a.2.2.2.1.length l,slv m a.2.2.2.2.1.length o,iv a.2.2.2.2.2],iv 3,iv 5] (.tuple #[.agg #[iv e.1,iv e.2.1],iv e.2.2]) (by kernel_rfl) (L38 _ a.1 a.2.1 (g.map fun b=>⟨b,0,none⟩) i a.2.2.1 (k.map fun b=>⟨b,0,none⟩) l a.2.2.2.1 (m.map fun b=>⟨b,0,none⟩) o a.2.2.2.2.1 a.2.2.2.2.2 3 5 (hI.rowCells 2 rfl p) (am rfl p.big) (am rfl p.cap) (hI.rowCells 3 rfl q) (am rfl q.big) (am rfl q.cap) (hI.rowCells 4 rfl s) (am rfl s.big) (am rfl s.cap) _ aL) fun w hI=>pu (.tuple #[.agg #[iv e.1,iv e.2.1],iv e.2.2]) rfl (pu (.agg #[iv e.1,iv e.2.1]) rfl (pu (iv e.2.2) rfl (ac (bh hI [iv 0,iv 0] zeroValue23 rfl fun aD w hI=>ac (aq hI 0 2 [iv e.1,iv e.2.1] sizeOf23 rfl rfl rfl rfl rfl (kh rfl) fun w hI=>pu (iv e.2.2) rfl (aa (ab (rgn rfl (ac (ar hI 2 6 [iv a.1,iv a.2.1,slv g a.2.2.1.length i,slv k a.2.2.2.1.length l,slv m a.2.2.2.2.1.length o,iv a.2.2.2.2.2] isAgg28 sizeOf28 rfl rfl rfl rfl ?_)))))))))))
 refine bt hF (fun B aM hF=>?_)
 refine ac (bg hI 45 [.agg #[iv a.1,iv a.2.1,slv g a.2.2.1.length i,slv k a.2.2.2.1.length l,slv m a.2.2.2.2.1.length o,iv a.2.2.2.2.2],iv 58,iv 4] (.tuple #[iv B.1,iv B.2]) (by kernel_rfl) (L45 _ a.1 a.2.1 (g.map fun b=>⟨b,0,none⟩) i a.2.2.1 (k.map fun b=>⟨b,0,none⟩) l a.2.2.2.1 (m.map fun b=>⟨b,0,none⟩) o a.2.2.2.2.1 a.2.2.2.2.2 58 4 (hI.rowCells 3 rfl p) (am rfl p.big) (am rfl p.cap) (hI.rowCells 4 rfl q) (am rfl q.big) (am rfl q.cap) (hI.rowCells 5 rfl s) (am rfl s.big) (am rfl s.cap) _ aM) fun w hI=>pu (.tuple #[iv B.1,iv B.2]) rfl (pu (iv B.1) rfl (pu (iv B.2) rfl (pu (iv B.1) rfl (pu (iv B.2) rfl (aa (ab (rgn rfl (ac (ar hI 2 6 [iv a.1,iv a.2.1,slv g a.2.2.1.length i,slv k a.2.2.2.1.length l,slv m a.2.2.2.2.1.length o,iv a.2.2.2.2.2] isAgg28 sizeOf28 rfl rfl rfl rfl ?_))))))))))
 refine bt hF (fun f aN hF=>?_)
 refine ac (bg hI 47 [.agg #[iv a.1,iv a.2.1,slv g a.2.2.1.length i,slv k a.2.2.2.1.length l,slv m a.2.2.2.2.1.length o,iv a.2.2.2.2.2],iv 5] (.tuple #[.agg #[iv f.1,iv f.2.1],iv f.2.2]) (by kernel_rfl) (L47 _ a.1 a.2.1 (g.map fun b=>⟨b,0,none⟩) i a.2.2.1 (k.map fun b=>⟨b,0,none⟩) l a.2.2.2.1 (m.map fun b=>⟨b,0,none⟩) o a.2.2.2.2.1 a.2.2.2.2.2 5 (hI.rowCells 3 rfl p) (am rfl p.big) (am rfl p.cap) (hI.rowCells 4 rfl q) (am rfl q.big) (am rfl q.cap) (hI.rowCells 5 rfl s) (am rfl s.big) (am rfl s.cap) _ aN) fun w hI=>pu (.tuple #[.agg #[iv f.1,iv f.2.1],iv f.2.2]) rfl (pu (.agg #[iv f.1,iv f.2.1]) rfl (pu (iv f.2.2) rfl (ac (bh hI [iv 0,iv 0] zeroValue23 rfl fun aE w hI=>ac (aq hI 0 2 [iv f.1,iv f.2.1] sizeOf23 rfl rfl rfl rfl rfl (kh rfl) fun w hI=>pu (iv f.2.2) rfl (aa (ab (rgn rfl (ac (ar hI 3 6 [iv a.1,iv a.2.1,slv g a.2.2.1.length i,slv k a.2.2.2.1.length l,slv m a.2.2.2.2.1.length o,iv a.2.2.2.2.2] isAgg28 sizeOf28 rfl rfl rfl rfl ?_)))))))))))
 refine bt hF (fun D aO hF=>?_)
 refine ac (bg hI 49 [.agg #[iv a.1,iv a.2.1,slv g a.2.2.1.length i,slv k a.2.2.2.1.length l,slv m a.2.2.2.2.1.length o,iv a.2.2.2.2.2],iv 61,iv 6] (.tuple #[.bool D.1,iv D.2]) (by kernel_rfl) (L49 _ a.1 a.2.1 (g.map fun b=>⟨b,0,none⟩) i a.2.2.1 (k.map fun b=>⟨b,0,none⟩) l a.2.2.2.1 (m.map fun b=>⟨b,0,none⟩) o a.2.2.2.2.1 a.2.2.2.2.2 61 6 (hI.rowCells 4 rfl p) (am rfl p.big) (am rfl p.cap) (hI.rowCells 5 rfl q) (am rfl q.big) (am rfl q.cap) (hI.rowCells 6 rfl s) (am rfl s.big) (am rfl s.cap) _ aO) fun w hI=>pu (.tuple #[.bool D.1,iv D.2]) rfl (pu (.bool D.1) rfl (pu (iv D.2) rfl (pu (.bool D.1) rfl (pu (iv D.2) rfl (aa (ab (rgn rfl (ac (ar hI 3 6 [iv a.1,iv a.2.1,slv g a.2.2.1.length i,slv k a.2.2.2.1.length l,slv m a.2.2.2.2.1.length o,iv a.2.2.2.2.2] isAgg28 sizeOf28 rfl rfl rfl rfl ?_))))))))))
 refine bt hF (fun x aP hF=>?_)
 refine ac (bg hI 51 [.agg #[iv a.1,iv a.2.1,slv g a.2.2.1.length i,slv k a.2.2.2.1.length l,slv m a.2.2.2.2.1.length o,iv a.2.2.2.2.2],iv 61,iv 5] (.tuple #[iv x.1,iv x.2]) (by kernel_rfl) (L51 _ a.1 a.2.1 (g.map fun b=>⟨b,0,none⟩) i a.2.2.1 (k.map fun b=>⟨b,0,none⟩) l a.2.2.2.1 (m.map fun b=>⟨b,0,none⟩) o a.2.2.2.2.1 a.2.2.2.2.2 61 5 (hI.rowCells 4 rfl p) (am rfl p.big) (am rfl p.cap) (hI.rowCells 5 rfl q) (am rfl q.big) (am rfl q.cap) (hI.rowCells 6 rfl s) (am rfl s.big) (am rfl s.cap) _ aP) fun w hI=>pu (.tuple #[iv x.1,iv x.2]) rfl (pu (iv x.1) rfl (pu (iv x.2) rfl (pu (iv x.1) rfl (pu (iv x.2) rfl (aa (ab (rgn rfl (ac (ar hI 3 6 [iv a.1,iv a.2.1,slv g a.2.2.1.length i,slv k a.2.2.2.1.length l,slv m a.2.2.2.2.1.length o,iv a.2.2.2.2.2] isAgg28 sizeOf28 rfl rfl rfl rfl ?_))))))))))
 refine bt hF (fun y aQ hF=>?_)
 refine ac (bg hI 51 [.agg #[iv a.1,iv a.2.1,slv g a.2.2.1.length i,slv k a.2.2.2.1.length l,slv m a.2.2.2.2.1.length o,iv a.2.2.2.2.2],iv 105,iv 6] (.tuple #[iv y.1,iv y.2]) (by kernel_rfl) (L51 _ a.1 a.2.1 (g.map fun b=>⟨b,0,none⟩) i a.2.2.1 (k.map fun b=>⟨b,0,none⟩) l a.2.2.2.1 (m.map fun b=>⟨b,0,none⟩) o a.2.2.2.2.1 a.2.2.2.2.2 105 6 (hI.rowCells 4 rfl p) (am rfl p.big) (am rfl p.cap) (hI.rowCells 5 rfl q) (am rfl q.big) (am rfl q.cap) (hI.rowCells 6 rfl s) (am rfl s.big) (am rfl s.cap) _ aQ) fun w hI=>pu (.tuple #[iv y.1,iv y.2]) rfl (pu (iv y.1) rfl (pu (iv y.2) rfl (pu (iv y.1) rfl (pu (iv y.2) rfl (aa (ab (rgn rfl (ac (ar hI 3 6 [iv a.1,iv a.2.1,slv g a.2.2.1.length i,slv k a.2.2.2.1.length l,slv m a.2.2.2.2.1.length o,iv a.2.2.2.2.2] isAgg28 sizeOf28 rfl rfl rfl rfl ?_))))))))))
 refine bt hF (fun z aR hF=>?_)
 refine ac (bg hI 51 [.agg #[iv a.1,iv a.2.1,slv g a.2.2.1.length i,slv k a.2.2.2.1.length l,slv m a.2.2.2.2.1.length o,iv a.2.2.2.2.2],iv 106,iv 6] (.tuple #[iv z.1,iv z.2]) (by kernel_rfl) (L51 _ a.1 a.2.1 (g.map fun b=>⟨b,0,none⟩) i a.2.2.1 (k.map fun b=>⟨b,0,none⟩) l a.2.2.2.1 (m.map fun b=>⟨b,0,none⟩) o a.2.2.2.2.1 a.2.2.2.2.2 106 6 (hI.rowCells 4 rfl p) (am rfl p.big) (am rfl p.cap) (hI.rowCells 5 rfl q) (am rfl q.big) (am rfl q.cap) (hI.rowCells 6 rfl s) (am rfl s.big) (am rfl s.cap) _ aR) fun w hI=>pu (.tuple #[iv z.1,iv z.2]) rfl (pu (iv z.1) rfl (pu (iv z.2) rfl (pu (iv z.1) rfl (pu (iv z.2) rfl (aa (ab (rgn rfl (ac (ar hI 3 6 [iv a.1,iv a.2.1,slv g a.2.2.1.length i,slv k a.2.2.2.1.length l,slv m a.2.2.2.2.1.length o,iv a.2.2.2.2.2] isAgg28 sizeOf28 rfl rfl rfl rfl ?_))))))))))
 refine bt hF (fun t aS hF=>?_)
 refine ac (co 32 [.agg #[iv a.1,iv a.2.1,slv g a.2.2.1.length i,slv k a.2.2.2.1.length l,slv m a.2.2.2.2.1.length o,iv a.2.2.2.2.2],iv 9] (by kernel_rfl) (L32 _ a.1 a.2.1 (g.map fun b=>⟨b,0,none⟩) i a.2.2.1 (k.map fun b=>⟨b,0,none⟩) l a.2.2.2.1 (m.map fun b=>⟨b,0,none⟩) o a.2.2.2.2.1 a.2.2.2.2.2 9 (hI.rowCells 4 rfl p) (am rfl p.big) (am rfl p.cap) (hI.rowCells 5 rfl q) (am rfl q.big) (am rfl q.cap) (hI.rowCells 6 rfl s) (am rfl s.big) (am rfl s.cap) _ aS) ?_)
 rintro v w ⟨C,E,aF,rfl,hN,K⟩
 have hI:=hI.join hN; clear hN
 refine pu (.tuple #[slv C t.1.length E,iv t.2]) rfl (pu (slv C t.1.length E) rfl (pu (iv t.2) rfl (pu (slv C t.1.length E) rfl (pu (iv t.2) rfl (aa (ab (rgn rfl (ac (ar hI 4 6 [iv a.1,iv a.2.1,slv g a.2.2.1.length i,slv k a.2.2.2.1.length l,slv m a.2.2.2.2.1.length o,iv a.2.2.2.2.2] isAgg28 sizeOf28 rfl rfl rfl rfl ?_)))))))))
 refine bt hF (fun A aT hF=>?_)
 refine ac (co 55 [.agg #[iv a.1,iv a.2.1,slv g a.2.2.1.length i,slv k a.2.2.2.1.length l,slv m a.2.2.2.2.1.length o,iv a.2.2.2.2.2],iv 11,iv 2] (by kernel_rfl) (L55 _ a.1 a.2.1 (g.map fun b=>⟨b,0,none⟩) i a.2.2.1 (k.map fun b=>⟨b,0,none⟩) l a.2.2.2.1 (m.map fun b=>⟨b,0,none⟩) o a.2.2.2.2.1 a.2.2.2.2.2 11 2 (hI.rowCells 5 rfl p) (am rfl p.big) (am rfl p.cap) (hI.rowCells 6 rfl q) (am rfl q.big) (am rfl q.cap) (hI.rowCells 7 rfl s) (am rfl s.big) (am rfl s.cap) N _ aT) ?_)
 rintro v w ⟨F,G,aG,rfl,hN,O⟩
 have hI:=hI.join hN; clear hN
 refine pu (.tuple #[slv F A.1.length G,iv A.2]) rfl (pu (slv F A.1.length G) rfl (pu (iv A.2) rfl (pu (slv F A.1.length G) rfl (pu (iv A.2) rfl (aa (dn (fun ρ w=>∃ (H:Bool),cd ρ [(2,.pointer (some ⟨aC,0,none⟩)),(4,.pointer (some ⟨aD,0,none⟩)),(6,iv B.1),(8,.pointer (some ⟨aE,0,none⟩)),(10,.bool D.1),(12,iv x.1),(14,iv y.1),(16,iv z.1),(18,slv C t.1.length E),(20,slv F A.1.length G),(22,.bool H)]∧Inv [] w0 w [(some aC,blk [iv d.1,iv d.2.1] 23),(some aD,blk [iv e.1,iv e.2.1] 23),(some aE,blk [iv f.1,iv f.2.1] 23),(C,blk aF 3),(F,blk aG 3)]∧F13j1 N d e B f D x y z t A H=some r) ?_ ?_))))))
 ·
  refine rgn rfl (pu (iv d.2.2) rfl (ifE hF (fun P hF=>?_) (fun P hF=>?_)))
  ·
   refine ac (di rfl rfl (fun _=>?_) (fun h=>absurd P h))
   refine pu kg rfl (puo (iv e.2.2) ⟨rfl,rfl⟩ (ifE hF (fun Q hF=>?_) (fun Q hF=>?_)))
   ·
    refine aw rfl (di rfl rfl (fun _=>?_) (fun h=>absurd Q h))
    refine pu kg rfl (pu kg rfl (puo (iv B.2) ⟨rfl,rfl⟩ (ifE hF (fun R hF=>?_) (fun R hF=>?_))))
    ·
     refine aw rfl (di rfl rfl (fun _=>?_) (fun h=>absurd R h))
     refine pu kg rfl (pu kg rfl (puo (iv f.2.2) ⟨rfl,rfl⟩ (ifE hF (fun S hF=>?_) (fun S hF=>?_))))
     ·
      refine aw rfl (di rfl rfl (fun _=>?_) (fun h=>absurd S h))
      refine pu kg rfl (pu kg rfl (puo (iv D.2) ⟨rfl,rfl⟩ (ifE hF (fun T hF=>?_) (fun T hF=>?_))))
      ·
       refine aw rfl (di rfl rfl (fun _=>?_) (fun h=>absurd T h))
       refine pu kg rfl (pu kg rfl (puo (iv x.2) ⟨rfl,rfl⟩ (ifE hF (fun U hF=>?_) (fun U hF=>?_))))
       ·
        refine aw rfl (di rfl rfl (fun _=>?_) (fun h=>absurd U h))
        refine pu kg rfl (pu kg rfl (puo (iv y.2) ⟨rfl,rfl⟩ (ifE hF (fun V hF=>?_) (fun V hF=>?_))))
        ·
         refine aw rfl (di rfl rfl (fun _=>?_) (fun h=>absurd V h))
         refine pu kg rfl (pu kg rfl (puo (iv z.2) ⟨rfl,rfl⟩ (ifE hF (fun W hF=>?_) (fun W hF=>?_))))
         ·
          refine aw rfl (di rfl rfl (fun _=>?_) (fun h=>absurd W h))
          refine pu kg rfl (pu kg rfl (puo (iv t.2) ⟨rfl,rfl⟩ (ifE hF (fun X hF=>?_) (fun X hF=>?_))))
          ·
           refine aw rfl (di rfl rfl (fun _=>?_) (fun h=>absurd X h))
           refine pu kg rfl (pu kg rfl (puo (iv A.2) ⟨rfl,rfl⟩ (ifE hF (fun Y hF=>?_) (fun Y hF=>?_))))
           ·
            refine aw rfl (di rfl rfl (fun _=>?_) (fun h=>absurd Y h))
            refine pu kg rfl (pu kg rfl (aa ?_))
            exact .inl ⟨rfl,⟨true,⟨rfl,rfl,rfl,rfl,rfl,rfl,rfl,rfl,rfl,rfl,rfl,trivial⟩,hI.pk [4,3,2,1,0] rfl rfl,hF⟩⟩
           refine aw rfl (di rfl rfl (fun h=>absurd h Y) (fun _=>?_))
           refine pu kf rfl (pu kf rfl (aa ?_))
           exact .inl ⟨rfl,⟨false,⟨rfl,rfl,rfl,rfl,rfl,rfl,rfl,rfl,rfl,rfl,rfl,trivial⟩,hI.pk [4,3,2,1,0] rfl rfl,hF⟩⟩
          refine aw rfl (di rfl rfl (fun h=>absurd h X) (fun _=>?_))
          refine pu kf rfl (pu kf rfl (sf 2 rfl (pu kf rfl (pu kf rfl (aa ?_)))))
          exact .inl ⟨rfl,⟨false,⟨rfl,rfl,rfl,rfl,rfl,rfl,rfl,rfl,rfl,rfl,rfl,trivial⟩,hI.pk [4,3,2,1,0] rfl rfl,hF⟩⟩
         refine aw rfl (di rfl rfl (fun h=>absurd h W) (fun _=>?_))
         refine pu kf rfl (pu kf rfl (sf 2 rfl (pu kf rfl (pu kf rfl (sf 2 rfl (pu kf rfl (pu kf rfl (aa ?_))))))))
         exact .inl ⟨rfl,⟨false,⟨rfl,rfl,rfl,rfl,rfl,rfl,rfl,rfl,rfl,rfl,rfl,trivial⟩,hI.pk [4,3,2,1,0] rfl rfl,hF⟩⟩
        refine aw rfl (di rfl rfl (fun h=>absurd h V) (fun _=>?_))
        refine pu kf rfl (pu kf rfl (sf 2 rfl (pu kf rfl (pu kf rfl (sf 2 rfl (pu kf rfl (pu kf rfl (sf 2 rfl (pu kf rfl ?_)))))))))
        refine pu kf rfl (aa ?_)
        exact .inl ⟨rfl,⟨false,⟨rfl,rfl,rfl,rfl,rfl,rfl,rfl,rfl,rfl,rfl,rfl,trivial⟩,hI.pk [4,3,2,1,0] rfl rfl,hF⟩⟩
       refine aw rfl (di rfl rfl (fun h=>absurd h U) (fun _=>?_))
       refine pu kf rfl (pu kf rfl (sf 2 rfl (pu kf rfl (pu kf rfl (sf 2 rfl (pu kf rfl (pu kf rfl (sf 2 rfl (pu kf rfl ?_)))))))))
       refine pu kf rfl (sf 2 rfl (pu kf rfl (pu kf rfl (aa ?_))))
       exact .inl ⟨rfl,⟨false,⟨rfl,rfl,rfl,rfl,rfl,rfl,rfl,rfl,rfl,rfl,rfl,trivial⟩,hI.pk [4,3,2,1,0] rfl rfl,hF⟩⟩
      refine aw rfl (di rfl rfl (fun h=>absurd h T) (fun _=>?_))
      refine pu kf rfl (pu kf rfl (sf 2 rfl (pu kf rfl (pu kf rfl (sf 2 rfl (pu kf rfl (pu kf rfl (sf 2 rfl (pu kf rfl ?_)))))))))
      refine pu kf rfl (sf 2 rfl (pu kf rfl (pu kf rfl (sf 2 rfl (pu kf rfl (pu kf rfl (aa ?_)))))))
      exact .inl ⟨rfl,⟨false,⟨rfl,rfl,rfl,rfl,rfl,rfl,rfl,rfl,rfl,rfl,rfl,trivial⟩,hI.pk [4,3,2,1,0] rfl rfl,hF⟩⟩
     refine aw rfl (di rfl rfl (fun h=>absurd h S) (fun _=>?_))
     refine pu kf rfl (pu kf rfl (sf 2 rfl (pu kf rfl (pu kf rfl (sf 2 rfl (pu kf rfl (pu kf rfl (sf 2 rfl (pu kf rfl ?_)))))))))
     refine pu kf rfl (sf 2 rfl (pu kf rfl (pu kf rfl (sf 2 rfl (pu kf rfl (pu kf rfl (sf 2 rfl (pu kf rfl (pu kf rfl ?_)))))))))
     refine aa ?_
     exact .inl ⟨rfl,⟨false,⟨rfl,rfl,rfl,rfl,rfl,rfl,rfl,rfl,rfl,rfl,rfl,trivial⟩,hI.pk [4,3,2,1,0] rfl rfl,hF⟩⟩
    refine aw rfl (di rfl rfl (fun h=>absurd h R) (fun _=>?_))
    refine pu kf rfl (pu kf rfl (sf 2 rfl (pu kf rfl (pu kf rfl (sf 2 rfl (pu kf rfl (pu kf rfl (sf 2 rfl (pu kf rfl ?_)))))))))
    refine pu kf rfl (sf 2 rfl (pu kf rfl (pu kf rfl (sf 2 rfl (pu kf rfl (pu kf rfl (sf 2 rfl (pu kf rfl (pu kf rfl ?_)))))))))
    refine sf 2 rfl (pu kf rfl (pu kf rfl (aa ?_)))
    exact .inl ⟨rfl,⟨false,⟨rfl,rfl,rfl,rfl,rfl,rfl,rfl,rfl,rfl,rfl,rfl,trivial⟩,hI.pk [4,3,2,1,0] rfl rfl,hF⟩⟩
   refine aw rfl (di rfl rfl (fun h=>absurd h Q) (fun _=>?_))
   refine pu kf rfl (pu kf rfl (sf 2 rfl (pu kf rfl (pu kf rfl (sf 2 rfl (pu kf rfl (pu kf rfl (sf 2 rfl (pu kf rfl ?_)))))))))
   refine pu kf rfl (sf 2 rfl (pu kf rfl (pu kf rfl (sf 2 rfl (pu kf rfl (pu kf rfl (sf 2 rfl (pu kf rfl (pu kf rfl ?_)))))))))
   refine sf 2 rfl (pu kf rfl (pu kf rfl (sf 2 rfl (pu kf rfl (pu kf rfl (aa ?_))))))
   exact .inl ⟨rfl,⟨false,⟨rfl,rfl,rfl,rfl,rfl,rfl,rfl,rfl,rfl,rfl,rfl,trivial⟩,hI.pk [4,3,2,1,0] rfl rfl,hF⟩⟩
  refine ac (di rfl rfl (fun h=>absurd h P) (fun _=>?_))
  refine pu kf rfl (sf 2 rfl (pu kf rfl (pu kf rfl (sf 2 rfl (pu kf rfl (pu kf rfl (sf 2 rfl (pu kf rfl (pu kf rfl ?_)))))))))
  refine sf 2 rfl (pu kf rfl (pu kf rfl (sf 2 rfl (pu kf rfl (pu kf rfl (sf 2 rfl (pu kf rfl (pu kf rfl (of_ rfl ?_)))))))))
  refine of_ rfl (pu kf rfl (pu kf rfl (sf 2 rfl (pu kf rfl (pu kf rfl (sf 2 rfl (pu kf rfl (pu kf rfl (aa ?_)))))))))
  exact .inl ⟨rfl,⟨false,⟨rfl,rfl,rfl,rfl,rfl,rfl,rfl,rfl,rfl,rfl,rfl,trivial⟩,hI.pk [4,3,2,1,0] rfl rfl,hF⟩⟩
 intro ρ w hJ
 obtain ⟨H,hag,hI,hF⟩:=hJ
 obtain ⟨ρ,rfl⟩:=hag.form; clear hag
 unfold F13j1 at hF
 refine dn (fun ρ w=>∃ (I:Bool),cd ρ [(12,iv x.1),(14,iv y.1),(16,iv z.1),(18,slv C t.1.length E),(20,slv F A.1.length G),(22,.bool H),(23,.bool I)]∧Inv [] w0 w [(C,blk aF 3),(F,blk aG 3)]∧F13j2 N x y z t A H I=some r) ?_ ?_
 ·
  refine ifE hF (fun Z hF=>?_) (fun Z hF=>?_)
  ·
   rw [Z]
   refine rgn rfl (ac (ar hI 0 2 [iv d.1,iv d.2.1] isAgg23 sizeOf23 rfl rfl rfl rfl ?_))
   refine pu (.agg #[iv 50,iv 75]) (by kernel_rfl) (ifE hF (fun a0 hF=>?_) (fun a0 hF=>?_))
   ·
    refine ac (kz (b:=decide (d.1=50) && decide (d.2.1=75)) rfl rfl (by kernel_rfl) (fun w=>eq23 _ d.1 d.2.1 50 75 w) (fun _=>?_) (fun h=>absurd a0 h))
    refine pu kg rfl (aw rfl (ar hI 1 2 [iv e.1,iv e.2.1] isAgg23 sizeOf23 rfl rfl rfl rfl ?_))
    refine puo (.agg #[iv 15,iv 35]) ⟨rfl,(by kernel_rfl)⟩ (ifE hF (fun a1 hF=>?_) (fun a1 hF=>?_))
    ·
     refine aw rfl (kz (b:=decide (e.1=15) && decide (e.2.1=35)) rfl rfl (by kernel_rfl) (fun w=>eq23 _ e.1 e.2.1 15 35 w) (fun _=>?_) (fun h=>absurd a1 h))
     refine pu kg rfl (pu kg rfl (puo (iv B.1) ⟨rfl,rfl⟩ (ifE hF (fun a2 hF=>?_) (fun a2 hF=>?_))))
     ·
      refine aw rfl (di rfl rfl (fun _=>?_) (fun h=>absurd a2 h))
      refine pu kg rfl (pu kg rfl (aw rfl (ar hI 2 2 [iv f.1,iv f.2.1] isAgg23 sizeOf23 rfl rfl rfl rfl ?_)))
      refine puo (.agg #[iv 58,iv 100000]) ⟨rfl,(by kernel_rfl)⟩ (ifE hF (fun a3 hF=>?_) (fun a3 hF=>?_))
      ·
       refine aw rfl (kz (b:=decide (f.1=58) && decide (f.2.1=100000)) rfl rfl (by kernel_rfl) (fun w=>eq23 _ f.1 f.2.1 58 100000 w) (fun _=>?_) (fun h=>absurd a3 h))
       refine pu kg rfl (pu kg rfl (puo kg ⟨rfl,rfl⟩ (puo kf ⟨rfl,rfl⟩ (pu kf rfl (pu kf rfl (aa ?_))))))
       exact .inl ⟨rfl,⟨false,⟨rfl,rfl,rfl,rfl,rfl,rfl,rfl,trivial⟩,hI.pk [3,4] rfl rfl,hF⟩⟩
      refine aw rfl (kz (b:=decide (f.1=58) && decide (f.2.1=100000)) rfl rfl (by kernel_rfl) (fun w=>eq23 _ f.1 f.2.1 58 100000 w) (fun h=>absurd h a3) (fun _=>?_))
      refine pu kf rfl (pu kf rfl (sf 2 rfl (pu kf rfl (pu kf rfl (aa ?_)))))
      exact .inl ⟨rfl,⟨false,⟨rfl,rfl,rfl,rfl,rfl,rfl,rfl,trivial⟩,hI.pk [3,4] rfl rfl,hF⟩⟩
     refine aw rfl (di rfl rfl (fun h=>absurd h a2) (fun _=>?_))
     refine pu kf rfl (pu kf rfl (sf 3 rfl (pu kf rfl (pu kf rfl (sf 2 rfl (pu kf rfl (pu kf rfl (aa ?_))))))))
     exact .inl ⟨rfl,⟨false,⟨rfl,rfl,rfl,rfl,rfl,rfl,rfl,trivial⟩,hI.pk [3,4] rfl rfl,hF⟩⟩
    refine aw rfl (kz (b:=decide (e.1=15) && decide (e.2.1=35)) rfl rfl (by kernel_rfl) (fun w=>eq23 _ e.1 e.2.1 15 35 w) (fun h=>absurd h a1) (fun _=>?_))
    refine pu kf rfl (pu kf rfl (sf 2 rfl (pu kf rfl (pu kf rfl (sf 3 rfl (pu kf rfl (pu kf rfl (sf 2 rfl (pu kf rfl ?_)))))))))
    refine pu kf rfl (aa ?_)
    exact .inl ⟨rfl,⟨false,⟨rfl,rfl,rfl,rfl,rfl,rfl,rfl,trivial⟩,hI.pk [3,4] rfl rfl,hF⟩⟩
   refine ac (kz (b:=decide (d.1=50) && decide (d.2.1=75)) rfl rfl (by kernel_rfl) (fun w=>eq23 _ d.1 d.2.1 50 75 w) (fun h=>absurd h a0) (fun _=>?_))
   refine pu kf rfl (sf 3 rfl (pu kf rfl (pu kf rfl (sf 2 rfl (pu kf rfl (pu kf rfl (sf 3 rfl (pu kf rfl (pu kf rfl ?_)))))))))
   refine sf 2 rfl (pu kf rfl (pu kf rfl (aa ?_)))
   exact .inl ⟨rfl,⟨false,⟨rfl,rfl,rfl,rfl,rfl,rfl,rfl,trivial⟩,hI.pk [3,4] rfl rfl,hF⟩⟩
  rw [(Bool.eq_false_iff.2 Z)]
  refine rgn rfl (ac (ar hI 0 2 [iv d.1,iv d.2.1] isAgg23 sizeOf23 rfl rfl rfl rfl ?_))
  refine pu (.agg #[iv 50,iv 75]) (by kernel_rfl) (ifE hF (fun a4 hF=>?_) (fun a4 hF=>?_))
  ·
   refine ac (kz (b:=decide (d.1=50) && decide (d.2.1=75)) rfl rfl (by kernel_rfl) (fun w=>eq23 _ d.1 d.2.1 50 75 w) (fun _=>?_) (fun h=>absurd a4 h))
   refine pu kg rfl (aw rfl (ar hI 1 2 [iv e.1,iv e.2.1] isAgg23 sizeOf23 rfl rfl rfl rfl ?_))
   refine puo (.agg #[iv 15,iv 35]) ⟨rfl,(by kernel_rfl)⟩ (ifE hF (fun a5 hF=>?_) (fun a5 hF=>?_))
   ·
    refine aw rfl (kz (b:=decide (e.1=15) && decide (e.2.1=35)) rfl rfl (by kernel_rfl) (fun w=>eq23 _ e.1 e.2.1 15 35 w) (fun _=>?_) (fun h=>absurd a5 h))
    refine pu kg rfl (pu kg rfl (puo (iv B.1) ⟨rfl,rfl⟩ (ifE hF (fun a6 hF=>?_) (fun a6 hF=>?_))))
    ·
     refine aw rfl (di rfl rfl (fun _=>?_) (fun h=>absurd a6 h))
     refine pu kg rfl (pu kg rfl (aw rfl (ar hI 2 2 [iv f.1,iv f.2.1] isAgg23 sizeOf23 rfl rfl rfl rfl ?_)))
     refine puo (.agg #[iv 58,iv 100000]) ⟨rfl,(by kernel_rfl)⟩ (ifE hF (fun a7 hF=>?_) (fun a7 hF=>?_))
     ·
      refine aw rfl (kz (b:=decide (f.1=58) && decide (f.2.1=100000)) rfl rfl (by kernel_rfl) (fun w=>eq23 _ f.1 f.2.1 58 100000 w) (fun _=>?_) (fun h=>absurd a7 h))
      refine pu kg rfl (pu kg rfl (puo kf ⟨rfl,rfl⟩ (puo kg ⟨rfl,rfl⟩ (pu kg rfl (pu kg rfl (aa ?_))))))
      exact .inl ⟨rfl,⟨true,⟨rfl,rfl,rfl,rfl,rfl,rfl,rfl,trivial⟩,hI.pk [3,4] rfl rfl,hF⟩⟩
     refine aw rfl (kz (b:=decide (f.1=58) && decide (f.2.1=100000)) rfl rfl (by kernel_rfl) (fun w=>eq23 _ f.1 f.2.1 58 100000 w) (fun h=>absurd h a7) (fun _=>?_))
     refine pu kf rfl (pu kf rfl (sf 2 rfl (pu kf rfl (pu kf rfl (aa ?_)))))
     exact .inl ⟨rfl,⟨false,⟨rfl,rfl,rfl,rfl,rfl,rfl,rfl,trivial⟩,hI.pk [3,4] rfl rfl,hF⟩⟩
    refine aw rfl (di rfl rfl (fun h=>absurd h a6) (fun _=>?_))
    refine pu kf rfl (pu kf rfl (sf 3 rfl (pu kf rfl (pu kf rfl (sf 2 rfl (pu kf rfl (pu kf rfl (aa ?_))))))))
    exact .inl ⟨rfl,⟨false,⟨rfl,rfl,rfl,rfl,rfl,rfl,rfl,trivial⟩,hI.pk [3,4] rfl rfl,hF⟩⟩
   refine aw rfl (kz (b:=decide (e.1=15) && decide (e.2.1=35)) rfl rfl (by kernel_rfl) (fun w=>eq23 _ e.1 e.2.1 15 35 w) (fun h=>absurd h a5) (fun _=>?_))
   refine pu kf rfl (pu kf rfl (sf 2 rfl (pu kf rfl (pu kf rfl (sf 3 rfl (pu kf rfl (pu kf rfl (sf 2 rfl (pu kf rfl ?_)))))))))
   refine pu kf rfl (aa ?_)
   exact .inl ⟨rfl,⟨false,⟨rfl,rfl,rfl,rfl,rfl,rfl,rfl,trivial⟩,hI.pk [3,4] rfl rfl,hF⟩⟩
  refine ac (kz (b:=decide (d.1=50) && decide (d.2.1=75)) rfl rfl (by kernel_rfl) (fun w=>eq23 _ d.1 d.2.1 50 75 w) (fun h=>absurd h a4) (fun _=>?_))
  refine pu kf rfl (sf 3 rfl (pu kf rfl (pu kf rfl (sf 2 rfl (pu kf rfl (pu kf rfl (sf 3 rfl (pu kf rfl (pu kf rfl ?_)))))))))
  refine sf 2 rfl (pu kf rfl (pu kf rfl (aa ?_)))
  exact .inl ⟨rfl,⟨false,⟨rfl,rfl,rfl,rfl,rfl,rfl,rfl,trivial⟩,hI.pk [3,4] rfl rfl,hF⟩⟩
 intro ρ w hJ
 obtain ⟨I,hag,hI,hF⟩:=hJ
 obtain ⟨ρ,rfl⟩:=hag.form; clear hag
 unfold F13j2 at hF
 refine dn (fun ρ w=>∃ (J:Bool),cd ρ [(22,.bool H),(23,.bool I),(24,.bool J)]∧Inv [] w0 w []∧F13j3 H I J=some r) ?_ ?_
 ·
  refine rgn rfl (pu (iv x.1) rfl (ifE hF (fun a8 hF=>?_) (fun a8 hF=>?_)))
  ·
   refine ac (di rfl rfl (fun _=>?_) (fun h=>absurd a8 h))
   refine pu kg rfl (puo (iv y.1) ⟨rfl,rfl⟩ (ifE hF (fun a9 hF=>?_) (fun a9 hF=>?_)))
   ·
    refine aw rfl (di rfl rfl (fun _=>?_) (fun h=>absurd a9 h))
    refine pu kg rfl (pu kg rfl (puo (iv z.1) ⟨rfl,rfl⟩ (ifE hF (fun aA hF=>?_) (fun aA hF=>?_))))
    ·
     refine aw rfl (di rfl rfl (fun _=>?_) (fun h=>absurd aA h))
     refine pu kg rfl (pu kg rfl (puo (slv C t.1.length E) ⟨rfl,rfl⟩ (aw rfl (fu hI [iv 2,iv 11,iv 14] 3 (fun b=>slv (some b) 3 3) (by kernel_rfl) fun L w hI=>bt hF (fun aZ aH hF=>?_)))))
     refine ifE hF (fun aB hF=>?_) (fun aB hF=>?_)
     ·
      refine aw rfl (bg hI 21 [slv C t.1.length E,.slice (some ⟨L,0,none⟩) 3 3] kg (by kernel_rfl) (bn.mono (L21 _ (C.map fun b=>⟨b,0,none⟩) E t.1 (some ⟨L,0,none⟩) 3 [2,11,14] (hI.rowCells 1 rfl K) (am rfl K.big) (am rfl K.cap) (hI.cells 0 (off:=0) rfl (fun j u h=>by rw [Nat.zero_add]; exact h)) (kh rfl) (Nat.le_refl _) N _ aH) (fun v' w' h=>⟨h.1.trans (congrArg Value.bool aB),h.2⟩)) fun w hI=>pu kg rfl (pu kg rfl (puo (slv F A.1.length G) ⟨rfl,rfl⟩ (aw rfl (fu hI [iv 30,iv 35,iv 58] 3 (fun b=>slv (some b) 3 3) (by kernel_rfl) fun aI w hI=>bt hF (fun M aU hF=>?_))))))
      refine aw rfl (bg hI 21 [slv F A.1.length G,.slice (some ⟨aI,0,none⟩) 3 3] (.bool M) (by kernel_rfl) (L21 _ (F.map fun b=>⟨b,0,none⟩) G A.1 (some ⟨aI,0,none⟩) 3 [30,35,58] (hI.rowCells 3 rfl O) (am rfl O.big) (am rfl O.cap) (hI.cells 0 (off:=0) rfl (fun j u h=>by rw [Nat.zero_add]; exact h)) (kh rfl) (Nat.le_refl _) N _ aU) fun w hI=>pu (.bool M) rfl (pu (.bool M) rfl (aa ?_)))
      exact .inl ⟨rfl,⟨M,⟨rfl,rfl,rfl,trivial⟩,hI.pk [] rfl rfl,hF⟩⟩
     refine aw rfl (bg hI 21 [slv C t.1.length E,.slice (some ⟨L,0,none⟩) 3 3] kf (by kernel_rfl) (bn.mono (L21 _ (C.map fun b=>⟨b,0,none⟩) E t.1 (some ⟨L,0,none⟩) 3 [2,11,14] (hI.rowCells 1 rfl K) (am rfl K.big) (am rfl K.cap) (hI.cells 0 (off:=0) rfl (fun j u h=>by rw [Nat.zero_add]; exact h)) (kh rfl) (Nat.le_refl _) N _ aH) (fun v' w' h=>⟨h.1.trans (congrArg Value.bool (Bool.eq_false_iff.2 aB)),h.2⟩)) fun w hI=>pu kf rfl (pu kf rfl (sf 3 rfl (pu kf rfl (pu kf rfl (aa ?_))))))
     exact .inl ⟨rfl,⟨false,⟨rfl,rfl,rfl,trivial⟩,hI.pk [] rfl rfl,hF⟩⟩
    refine aw rfl (di rfl rfl (fun h=>absurd h aA) (fun _=>?_))
    refine pu kf rfl (pu kf rfl (sf 3 rfl (pu kf rfl (pu kf rfl (sf 3 rfl (pu kf rfl (pu kf rfl (aa ?_))))))))
    exact .inl ⟨rfl,⟨false,⟨rfl,rfl,rfl,trivial⟩,hI.pk [] rfl rfl,hF⟩⟩
   refine aw rfl (di rfl rfl (fun h=>absurd h a9) (fun _=>?_))
   refine pu kf rfl (pu kf rfl (sf 2 rfl (pu kf rfl (pu kf rfl (sf 3 rfl (pu kf rfl (pu kf rfl (sf 3 rfl (pu kf rfl ?_)))))))))
   refine pu kf rfl (aa ?_)
   exact .inl ⟨rfl,⟨false,⟨rfl,rfl,rfl,trivial⟩,hI.pk [] rfl rfl,hF⟩⟩
  refine ac (di rfl rfl (fun h=>absurd h a8) (fun _=>?_))
  refine pu kf rfl (sf 2 rfl (pu kf rfl (pu kf rfl (sf 2 rfl (pu kf rfl (pu kf rfl (sf 3 rfl (pu kf rfl (pu kf rfl ?_)))))))))
  refine sf 3 rfl (pu kf rfl (pu kf rfl (aa ?_)))
  exact .inl ⟨rfl,⟨false,⟨rfl,rfl,rfl,trivial⟩,hI.pk [] rfl rfl,hF⟩⟩
 intro ρ w hJ
 obtain ⟨J,hag,hI,hF⟩:=hJ
 obtain ⟨ρ,rfl⟩:=hag.form; clear hag
 unfold F13j3 at hF
 refine ab ?_
 have hG:=hF; rcases Bool.eq_false_or_eq_true H with rfl | rfl
 ·
  have hF:=hG; clear hG
  refine ifE hF (fun _ hF=>?_) (fun h=>absurd rfl h)
  have hG:=hF; rcases Bool.eq_false_or_eq_true I with rfl | rfl
  ·
   have hF:=hG; clear hG
   refine ifE hF (fun _ hF=>?_) (fun h=>absurd rfl h)
   refine rgn rfl (pu kg rfl (pu kg rfl (puo kg ⟨rfl,rfl⟩ (pu kg rfl (pu kg rfl (puo (.bool J) ⟨rfl,rfl⟩ (pu (.bool J) rfl (pu (.bool J) rfl (aa ?_)))))))))
   refine aj ?_
   replace hF:=Option.some.inj hF; subst hF
   exact ⟨.bool J,Ret.r1 rfl rfl,⟨rfl,hI.below⟩⟩
  have hF:=hG; clear hG
  refine ifE hF (fun h=>absurd h (by decide)) (fun _ hF=>?_)
  refine rgn rfl (pu kg rfl (pu kg rfl (puo kf ⟨rfl,rfl⟩ (pu kf rfl (pu kf rfl (of_ rfl (pu kf rfl (pu kf rfl (aa ?_)))))))))
  refine aj ?_
  replace hF:=Option.some.inj hF; subst hF
  exact ⟨.bool false,Ret.r1 rfl rfl,⟨rfl,hI.below⟩⟩
 have hF:=hG; clear hG
 refine ifE hF (fun h=>absurd h (by decide)) (fun _ hF=>?_)
 have hG:=hF; rcases Bool.eq_false_or_eq_true I with rfl | rfl
 ·
  have hF:=hG; clear hG
  refine ifE hF (fun _ hF=>?_) (fun h=>absurd rfl h)
  refine rgn rfl (pu kf rfl (pu kf rfl (of_ rfl (pu kf rfl (pu kf rfl (of_ rfl (pu kf rfl (pu kf rfl (aa ?_)))))))))
  refine aj ?_
  replace hF:=Option.some.inj hF; subst hF
  exact ⟨.bool false,Ret.r1 rfl rfl,⟨rfl,hI.below⟩⟩
 have hF:=hG; clear hG
 refine ifE hF (fun h=>absurd h (by decide)) (fun _ hF=>?_)
 refine rgn rfl (pu kf rfl (pu kf rfl (of_ rfl (pu kf rfl (pu kf rfl (of_ rfl (pu kf rfl (pu kf rfl (aa ?_)))))))))
 refine aj ?_
 replace hF:=Option.some.inj hF; subst hF
 exact ⟨.bool false,Ret.r1 rfl rfl,⟨rfl,hI.below⟩⟩


end Go.K
