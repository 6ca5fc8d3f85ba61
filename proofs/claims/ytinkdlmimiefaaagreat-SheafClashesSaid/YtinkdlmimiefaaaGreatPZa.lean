/- That the functions do what the pure definitions say: walks, as tools/lift.py writes them. No condition. -/
import Derived.Test.YtinkdlmimiefaaaGreatPWc
import Derived.Test.YtinkdlmimiefaaaGreatPKt
import Derived.Test.YtinkdlmimiefaaaGreatPE
import Derived.Tactics2
namespace Go.K
open Go.Proofs Go.RowKit
set_option linter.unusedVariables false
set_option linter.unusedSimpArgs false
set_option maxRecDepth 100000
attribute [local irreducible] Seq Step CallV AnyE opX
theorem L85 (w0:World) (e:Int) (f:Int) (g:Option Addr) (i:Nat) (a:List Ld) (j:Option Addr) (k:Nat) (b:List Ld) (l:Option Addr) (m:Nat) (d:List Sp) (n:Int) (o:Int) (p:Cells w0 g (flat eLd a)) (q:a.length≤9223372036854775807) (y:a.length≤i) (s:Cells w0 j (flat eLd b)) (t:b.length≤9223372036854775807) (z:b.length≤k) (u:Cells w0 l (flat eSp d)) (x:d.length≤9223372036854775807) (A:d.length≤m) (r:Int) (hF:F85 e f a b d n o=some r):Does Tryz.prog 85 [.agg #[.int .i64 e,.int .i64 f,.slice g a.length i,.slice j b.length k,.slice l d.length m,.int .i64 n],.int .i64 o] w0 fun v w=>v=.int .i64 r∧Below w0.heap.size w0 w:=by
  replace hF:=Option.some.inj hF; subst hF
  exact Does.mono (checkDay_c w0 (⟨e,f,a,b,d,n⟩:Pl) g _ i j _ k l _ m ⟨p,rfl,s,rfl,u,rfl,q,t,x⟩ o) (fun v w h=>h)

theorem L97 (w0:World) (e:Int) (f:Int) (g:Option Addr) (i:Nat) (a:List Ld) (j:Option Addr) (k:Nat) (b:List Ld) (l:Option Addr) (m:Nat) (d:List Sp) (n:Int) (o:Int) (p:Int) (q:Cells w0 g (flat eLd a)) (s:a.length≤9223372036854775807) (z:a.length≤i) (t:Cells w0 j (flat eLd b)) (u:b.length≤9223372036854775807) (A:b.length≤k) (x:Cells w0 l (flat eSp d)) (y:d.length≤9223372036854775807) (B:d.length≤m) (r:Int) (hF:F97 e f a b d n o p=some r):Does Tryz.prog 97 [.agg #[.int .i64 e,.int .i64 f,.slice g a.length i,.slice j b.length k,.slice l d.length m,.int .i64 n],.int .i64 o,.int .i64 p] w0 fun v w=>v=.int .i64 r∧Below w0.heap.size w0 w:=by
  replace hF:=Option.some.inj hF; subst hF
  exact Does.mono (checkHour_c w0 (⟨e,f,a,b,d,n⟩:Pl) g _ i j _ k l _ m ⟨q,rfl,t,rfl,x,rfl,s,u,y⟩ o p) (fun v w h=>h)

theorem L86 (w0:World) (f:Int) (g:Int) (i:Option Addr) (j:Nat) (a:List Ld) (k:Option Addr) (l:Nat) (b:List Ld) (m:Option Addr) (n:Nat) (d:List Sp) (o:Int) (p:Int) (t:Cells w0 i (flat eLd a)) (u:a.length≤9223372036854775807) (B:a.length≤j) (x:Cells w0 k (flat eLd b)) (y:b.length≤9223372036854775807) (C:b.length≤l) (z:Cells w0 m (flat eSp d)) (A:d.length≤9223372036854775807) (D:d.length≤n) (r:(Int × Int × List Ld × List Ld × List Sp × Int × List Ld)) (hF:F86 f g a b d o p=some r):Does Tryz.prog 86 [.agg #[.int .i64 f,.int .i64 g,.slice i a.length j,.slice k b.length l,.slice m d.length n,.int .i64 o],.int .i64 p] w0 fun v w=>∃ (z0:Option Nat) (z1:Nat) (z2:List Value) (z3:Option Nat) (z4:Nat) (z5:List Value) (z6:Option Nat) (z7:Nat) (z8:List Value) (z9:Option Nat) (q:Nat) (s:List Value),v=.agg #[.int .i64 r.1,.int .i64 r.2.1,slv z0 r.2.2.1.length z1,slv z3 r.2.2.2.1.length z4,slv z6 r.2.2.2.2.1.length z7,.int .i64 r.2.2.2.2.2.1,slv z9 r.2.2.2.2.2.2.length q]∧Inv [] w0 w [(z0,blk z2 30),(z3,blk z5 31),(z6,blk z8 33),(z9,blk s 30)]∧Row 6 z0 r.2.2.1.length z1 z2 (flat eLd r.2.2.1)∧Row 6 z3 r.2.2.2.1.length z4 z5 (flat eLd r.2.2.2.1)∧Row 6 z6 r.2.2.2.2.1.length z7 z8 (flat eSp r.2.2.2.2.1)∧Row 6 z9 r.2.2.2.2.2.2.length q s (flat eLd r.2.2.2.2.2.2):=by
  refine gdE hF (fun hg hF=>?_)
  replace hF:=Option.some.inj hF; subst hF
  exact Does.mono (sceneOf_c w0 (⟨f,g,a,b,d,o⟩:Pl) i _ j k _ l m _ n ⟨t,rfl,x,rfl,z,rfl,u,y,A⟩ ⟨hg.1,hg.2.1,hg.2.2⟩ p) (fun v w h=>(by obtain ⟨g1,c1,cl1,g2,c2,cl2,g3,c3,cl3,g4,c4,cl4,e,h⟩:=h; exact ⟨g1,c1,cl1,g2,c2,cl2,g3,c3,cl3,g4,c4,cl4,e,h⟩))

theorem L87 (w0:World) (f:Int) (g:Int) (i:Option Addr) (j:Nat) (a:List Ld) (k:Option Addr) (l:Nat) (b:List Ld) (m:Option Addr) (n:Nat) (d:List Sp) (o:Int) (p:Option Addr) (q:Nat) (e:List Ld) (s:Cells w0 i (flat eLd a)) (z:a.length≤9223372036854775807) (A:a.length≤j) (t:Cells w0 k (flat eLd b)) (B:b.length≤9223372036854775807) (C:b.length≤l) (u:Cells w0 m (flat eSp d)) (D:d.length≤9223372036854775807) (E:d.length≤n) (x:Cells w0 p (flat eLd e)) (F:e.length≤9223372036854775807) (y:e.length≤q) (r:Bool) (hF:F87 f g a b d o e=some r):Does Tryz.prog 87 [.agg #[.int .i64 f,.int .i64 g,.slice i a.length j,.slice k b.length l,.slice m d.length n,.int .i64 o,.slice p e.length q]] w0 fun v w=>v=.bool r∧Below w0.heap.size w0 w:=by
  refine gdE hF (fun hg hF=>?_)
  replace hF:=Option.some.inj hF; subst hF
  exact Does.mono (sound_c w0 (⟨f,g,a,b,d,o⟩:Pl) i _ j k _ l m _ n e p _ q (sc_in (scB_len hg) s t u x y) (scB_ok hg)) (fun v w h=>h)

theorem L98 (w0:World) (f:Int) (g:Int) (i:Option Addr) (j:Nat) (a:List Ld) (k:Option Addr) (l:Nat) (b:List Ld) (m:Option Addr) (n:Nat) (d:List Sp) (o:Int) (p:Option Addr) (q:Nat) (e:List Ld) (s:Int) (t:Cells w0 i (flat eLd a)) (A:a.length≤9223372036854775807) (B:a.length≤j) (u:Cells w0 k (flat eLd b)) (C:b.length≤9223372036854775807) (D:b.length≤l) (x:Cells w0 m (flat eSp d)) (E:d.length≤9223372036854775807) (F:d.length≤n) (y:Cells w0 p (flat eLd e)) (G:e.length≤9223372036854775807) (z:e.length≤q) (r:(Int × Int × Bool)) (hF:F98 f g a b d o e s=some r):Does Tryz.prog 98 [.agg #[.int .i64 f,.int .i64 g,.slice i a.length j,.slice k b.length l,.slice m d.length n,.int .i64 o,.slice p e.length q],.int .i64 s] w0 fun v w=>v=.tuple #[.agg #[.int .i64 r.1,.int .i64 r.2.1],.bool r.2.2]∧Below w0.heap.size w0 w:=by
  refine gdE hF (fun hg hF=>?_)
  replace hF:=Option.some.inj hF; subst hF
  exact Does.mono (stoodAt_c w0 (⟨f,g,a,b,d,o⟩:Pl) i _ j k _ l m _ n e p _ q (sc_in (scB_len hg) t u x y z) (scB_ok hg) s) (fun v w h=>h)

theorem L102 (w0:World) (i:Int) (j:Int) (k:Option Addr) (l:Nat) (a:List Ld) (m:Option Addr) (n:Nat) (b:List Ld) (o:Option Addr) (p:Nat) (d:List Sp) (q:Int) (s:Option Addr) (t:Nat) (f:List Ld) (u:Cells w0 k (flat eLd a)) (B:a.length≤9223372036854775807) (C:a.length≤l) (x:Cells w0 m (flat eLd b)) (D:b.length≤9223372036854775807) (E:b.length≤n) (y:Cells w0 o (flat eSp d)) (F:d.length≤9223372036854775807) (G:d.length≤p) (z:Cells w0 s (flat eLd f)) (H:f.length≤9223372036854775807) (A:f.length≤t) (r:(List Rg × Bool)) (hF:F102 i j a b d q f=some r):Does Tryz.prog 102 [.agg #[.int .i64 i,.int .i64 j,.slice k a.length l,.slice m b.length n,.slice o d.length p,.int .i64 q,.slice s f.length t]] w0 fun v w=>∃ (z0:Option Nat) (z1:Nat) (z2:List Value),v=.tuple #[slv z0 r.1.length z1,.bool r.2]∧Inv [] w0 w [(z0,blk z2 23)]∧Row 2 z0 r.1.length z1 z2 (flat eRg r.1):=by
  refine gdE hF (fun hg hF=>?_)
  replace hF:=Option.some.inj hF; subst hF
  exact Does.mono (stood_c w0 (⟨i,j,a,b,d,q⟩:Pl) k _ l m _ n o _ p f s _ t (sc_in (scB_len hg) u x y z A) (scB_ok hg)) (fun v w h=>(by obtain ⟨v1,e,g,c,cl,h1,h2,h3⟩:=h; exact ⟨g,c,cl,by rw [e,h1],h2,h3⟩))

theorem L116 (w0:World) (f:Int) (g:Int) (i:Option Addr) (j:Nat) (a:List Ld) (k:Option Addr) (l:Nat) (b:List Ld) (m:Option Addr) (n:Nat) (d:List Sp) (o:Int) (p:Option Addr) (q:Nat) (e:List Ld) (s:Int) (t:Cells w0 i (flat eLd a)) (A:a.length≤9223372036854775807) (B:a.length≤j) (u:Cells w0 k (flat eLd b)) (C:b.length≤9223372036854775807) (D:b.length≤l) (x:Cells w0 m (flat eSp d)) (E:d.length≤9223372036854775807) (F:d.length≤n) (y:Cells w0 p (flat eLd e)) (G:e.length≤9223372036854775807) (z:e.length≤q) (r:Bool) (hF:F116 f g a b d o e s=some r):Does Tryz.prog 116 [.agg #[.int .i64 f,.int .i64 g,.slice i a.length j,.slice k b.length l,.slice m d.length n,.int .i64 o,.slice p e.length q],.int .i64 s] w0 fun v w=>v=.bool r∧Below w0.heap.size w0 w:=by
  refine gdE hF (fun hg hF=>?_)
  replace hF:=Option.some.inj hF; subst hF
  exact Does.mono (shut_c w0 (⟨f,g,a,b,d,o⟩:Pl) i _ j k _ l m _ n e p _ q (sc_in hg.1 t u x y z) s hg.2) (fun v w h=>h)

theorem L119 (w0:World) (f:Int) (g:Int) (i:Option Addr) (j:Nat) (a:List Ld) (k:Option Addr) (l:Nat) (b:List Ld) (m:Option Addr) (n:Nat) (d:List Sp) (o:Int) (p:Option Addr) (q:Nat) (e:List Ld) (s:Int) (t:Cells w0 i (flat eLd a)) (A:a.length≤9223372036854775807) (B:a.length≤j) (u:Cells w0 k (flat eLd b)) (C:b.length≤9223372036854775807) (D:b.length≤l) (x:Cells w0 m (flat eSp d)) (E:d.length≤9223372036854775807) (F:d.length≤n) (y:Cells w0 p (flat eLd e)) (G:e.length≤9223372036854775807) (z:e.length≤q) (r:(Int × Bool)) (hF:F119 f g a b d o e s=some r):Does Tryz.prog 119 [.agg #[.int .i64 f,.int .i64 g,.slice i a.length j,.slice k b.length l,.slice m d.length n,.int .i64 o,.slice p e.length q],.int .i64 s] w0 fun v w=>v=.tuple #[.int .i64 r.1,.bool r.2]∧Below w0.heap.size w0 w:=by
  refine gdE hF (fun hg hF=>?_)
  replace hF:=Option.some.inj hF; subst hF
  exact Does.mono (geese_c w0 (⟨f,g,a,b,d,o⟩:Pl) i _ j k _ l m _ n e p _ q (sc_in hg.1 t u x y z) s hg.2.1 hg.2.2) (fun v w h=>h)

theorem L101 (w0:World) (f:Int) (g:Int) (i:Option Addr) (j:Nat) (a:List Ld) (k:Option Addr) (l:Nat) (b:List Ld) (m:Option Addr) (n:Nat) (d:List Sp) (o:Int) (p:Option Addr) (q:Nat) (e:List Ld) (s:Int) (t:Cells w0 i (flat eLd a)) (A:a.length≤9223372036854775807) (B:a.length≤j) (u:Cells w0 k (flat eLd b)) (C:b.length≤9223372036854775807) (D:b.length≤l) (x:Cells w0 m (flat eSp d)) (E:d.length≤9223372036854775807) (F:d.length≤n) (y:Cells w0 p (flat eLd e)) (G:e.length≤9223372036854775807) (z:e.length≤q) (r:(Int × Bool)) (hF:F101 f g a b d o e s=some r):Does Tryz.prog 101 [.agg #[.int .i64 f,.int .i64 g,.slice i a.length j,.slice k b.length l,.slice m d.length n,.int .i64 o,.slice p e.length q],.int .i64 s] w0 fun v w=>v=.tuple #[.int .i64 r.1,.bool r.2]∧Below w0.heap.size w0 w:=by
  refine gdE hF (fun hg hF=>?_)
  replace hF:=Option.some.inj hF; subst hF
  exact Does.mono (place_c w0 (⟨f,g,a,b,d,o⟩:Pl) i _ j k _ l m _ n e p _ q (sc_in hg t u x y z) s) (fun v w h=>h)

theorem L118 (w0:World) (j:Int) (k:Int) (l:Option Addr) (m:Nat) (a:List Ld) (u:Option Addr) (x:Nat) (b:List Ld) (n:Option Addr) (o:Nat) (d:List Sp) (p:Int) (q:Option Addr) (s:Nat) (f:List Ld) (t:Int) (i:Rg) (y:Cells w0 l (flat eLd a)) (D:a.length≤9223372036854775807) (E:a.length≤m) (z:Cells w0 u (flat eLd b)) (F:b.length≤9223372036854775807) (G:b.length≤x) (A:Cells w0 n (flat eSp d)) (H:d.length≤9223372036854775807) (I:d.length≤o) (B:Cells w0 q (flat eLd f)) (J:f.length≤9223372036854775807) (C:f.length≤s) (r:(Int × Int × List Ld × Int)) (hF:F118 j k a b d p f t i=some r):Does Tryz.prog 118 [.agg #[.int .i64 j,.int .i64 k,.slice l a.length m,.slice u b.length x,.slice n d.length o,.int .i64 p,.slice q f.length s],.int .i64 t,.agg #[.int .i64 i.lo,.int .i64 i.hi]] w0 fun v w=>∃ (z0:Option Nat) (z1:Nat) (z2:List Value),v=.agg #[.int .i64 r.1,.int .i64 r.2.1,.slice l a.length m,slv z0 r.2.2.1.length z1,.slice n d.length o,.int .i64 r.2.2.2,.slice q f.length s]∧Inv [] w0 w [(z0,blk z2 31)]∧Row 6 z0 r.2.2.1.length z1 z2 (flat eLd r.2.2.1):=by
  refine gdE hF (fun hg hF=>?_)
  replace hF:=Option.some.inj hF; subst hF
  exact Does.mono (with_c w0 (⟨j,k,a,b,d,p⟩:Pl) l _ m u _ x n _ o f q _ s (sc_in hg y z A B C) t i.lo i.hi) (fun v w h=>(by obtain ⟨v1,e,g,c,cl,h1,h2,h3⟩:=h; have hn:b.length+1=(withF (⟨j,k,a,b,d,p⟩:Pl) t i.lo i.hi).stands.length:=(by simp [withF]); exact ⟨g,c,cl,by rw [e,h1.trans (slv_n hn)],h2,h3.to rfl hn⟩))

theorem L32 (w0:World) (f:Int) (i:Int) (j:Option Addr) (k:Nat) (a:List Ld) (l:Option Addr) (m:Nat) (b:List Ld) (n:Option Addr) (o:Nat) (d:List Sp) (p:Int) (q:Int) (s:Cells w0 j (flat eLd a)) (t:a.length≤9223372036854775807) (A:a.length≤k) (u:Cells w0 l (flat eLd b)) (x:b.length≤9223372036854775807) (B:b.length≤m) (y:Cells w0 n (flat eSp d)) (z:d.length≤9223372036854775807) (C:d.length≤o) (r:(List Int × Int)) (hF:F32 f i a b d p q=some r):Does Tryz.prog 32 [.agg #[.int .i64 f,.int .i64 i,.slice j a.length k,.slice l b.length m,.slice n d.length o,.int .i64 p],.int .i64 q] w0 fun v w=>∃ (z0:Option Nat) (z1:Nat) (z2:List Value),v=.tuple #[slv z0 r.1.length z1,.int .i64 r.2]∧Inv [] w0 w [(z0,blk z2 3)]∧Row 1 z0 r.1.length z1 z2 (flat eInt r.1):=by
  replace hF:=Option.some.inj hF; subst hF
  exact Does.mono (Clash_c w0 (⟨f,i,a,b,d,p⟩:Pl) j _ k l _ m n _ o ⟨s,rfl,u,rfl,y,rfl,t,x,z⟩ q) (fun v w h=>(by rw [clash_eq] at h; obtain ⟨v1,e,g,c,cl,h1,h2,h3⟩:=h; exact ⟨g,c,cl,by rw [e,h1],h2,h3⟩))

theorem L34 (w0:World) (f:Int) (g:Int) (i:Option Addr) (j:Nat) (a:List Ld) (k:Option Addr) (l:Nat) (b:List Ld) (m:Option Addr) (n:Nat) (d:List Sp) (o:Int) (p:Int) (q:Option Addr) (s:Nat) (e:List Int) (t:Cells w0 i (flat eLd a)) (u:a.length≤9223372036854775807) (D:a.length≤j) (x:Cells w0 k (flat eLd b)) (y:b.length≤9223372036854775807) (E:b.length≤l) (z:Cells w0 m (flat eSp d)) (A:d.length≤9223372036854775807) (F:d.length≤n) (B:Cells w0 q (flat eInt e)) (C:e.length≤9223372036854775807) (G:e.length≤s) (r:Int) (hF:F34 f g a b d o p e=some r):Does Tryz.prog 34 [.agg #[.int .i64 f,.int .i64 g,.slice i a.length j,.slice k b.length l,.slice m d.length n,.int .i64 o],.int .i64 p,.slice q e.length s] w0 fun v w=>v=.int .i64 r∧Below w0.heap.size w0 w:=by
  replace hF:=Option.some.inj hF; subst hF
  exact Does.mono (CheckClash_c w0 (⟨f,g,a,b,d,o⟩:Pl) i _ j k _ l m _ n ⟨t,rfl,x,rfl,z,rfl,u,y,A⟩ p q _ s e B rfl C) (fun v w h=>h)

theorem L47 (w0:World) (e:Int) (f:Int) (g:Option Addr) (i:Nat) (a:List Ld) (j:Option Addr) (k:Nat) (b:List Ld) (l:Option Addr) (m:Nat) (d:List Sp) (n:Int) (o:Int) (p:Cells w0 g (flat eLd a)) (q:a.length≤9223372036854775807) (y:a.length≤i) (s:Cells w0 j (flat eLd b)) (t:b.length≤9223372036854775807) (z:b.length≤k) (u:Cells w0 l (flat eSp d)) (x:d.length≤9223372036854775807) (A:d.length≤m) (r:(Int × Int × Int)) (hF:F47 e f a b d n o=some r):Does Tryz.prog 47 [.agg #[.int .i64 e,.int .i64 f,.slice g a.length i,.slice j b.length k,.slice l d.length m,.int .i64 n],.int .i64 o] w0 fun v w=>v=.tuple #[.agg #[.int .i64 r.1,.int .i64 r.2.1],.int .i64 r.2.2]∧Below w0.heap.size w0 w:=by
  replace hF:=Option.some.inj hF; subst hF
  exact Does.mono (First_c w0 (⟨e,f,a,b,d,n⟩:Pl) g _ i j _ k l _ m ⟨p,rfl,s,rfl,u,rfl,q,t,x⟩ o) (fun v w h=>h)

theorem L16 (w0:World) (f:Int) (g:Int) (i:Option Addr) (j:Nat) (a:List Ld) (k:Option Addr) (l:Nat) (b:List Ld) (m:Option Addr) (n:Nat) (d:List Sp) (o:Int) (p:Int) (q:Cells w0 i (flat eLd a)) (s:a.length≤9223372036854775807) (z:a.length≤j) (t:Cells w0 k (flat eLd b)) (u:b.length≤9223372036854775807) (A:b.length≤l) (x:Cells w0 m (flat eSp d)) (y:d.length≤9223372036854775807) (B:d.length≤n) (r:(Int × Int × List Ld × List Ld × List Sp × Int × Int)) (hF:F16 f g a b d o p=some r):Does Tryz.prog 16 [.agg #[.int .i64 f,.int .i64 g,.slice i a.length j,.slice k b.length l,.slice m d.length n,.int .i64 o],.int .i64 p] w0 fun v w=>∃ (z0:Option Nat) (z1:Nat) (z2:List Value) (z3:Option Nat) (z4:Nat) (z5:List Value) (z6:Option Nat) (z7:Nat) (z8:List Value),v=.tuple #[.agg #[.int .i64 r.1,.int .i64 r.2.1,slv z0 r.2.2.1.length z1,slv z3 r.2.2.2.1.length z4,slv z6 r.2.2.2.2.1.length z7,.int .i64 r.2.2.2.2.2.1],.int .i64 r.2.2.2.2.2.2]∧Inv [] w0 w [(z0,blk z2 30),(z3,blk z5 31),(z6,blk z8 33)]∧Row 6 z0 r.2.2.1.length z1 z2 (flat eLd r.2.2.1)∧Row 6 z3 r.2.2.2.1.length z4 z5 (flat eLd r.2.2.2.1)∧Row 6 z6 r.2.2.2.2.1.length z7 z8 (flat eSp r.2.2.2.2.1):=by
  replace hF:=Option.some.inj hF; subst hF
  exact Does.mono (Without_c w0 (⟨f,g,a,b,d,o⟩:Pl) i _ j k _ l m _ n ⟨q,rfl,t,rfl,x,rfl,s,u,y⟩ p) (fun v w h=>(by obtain ⟨v1,e,g1,c1,cl1,g2,c2,cl2,g3,c3,cl3,e2,h⟩:=h; exact ⟨g1,c1,cl1,g2,c2,cl2,g3,c3,cl3,by rw [e,e2]; rfl,h⟩))


theorem L21 (w0:World) (e:Option Addr) (f:Nat) (a:List Int) (g:Option Addr) (i:Nat) (d:List Int) (C:Cells w0 e (flat eInt a)) (Q:a.length≤9223372036854775807) (R:a.length≤f) (D:Cells w0 g (flat eInt d)) (S:d.length≤9223372036854775807) (T:d.length≤i) (N:Nat) (r:Bool) (hF:F21 N a d=some r):Does Tryz.prog 21 [.slice e a.length f,.slice g d.length i] w0 fun v w=>v=.bool r∧Below w0.heap.size w0 w:=by
 refine calls_of (n:=31) Tryz.func21 rfl Tryz.ntmps21 rfl ?_
 have hI:=Inv.start w0
 unfold F21 at hF
 refine wp_seq (rgn rfl (pu (.bool false) rfl (seq_nil (wp_cutO (fun ρ w=>∃ (k:Bool),Agree ρ [(0,.slice e a.length f),(1,.slice g d.length i),(5,.bool k)]∧Inv [] w0 w []∧F21j1 a d N k=some r) ?_ ?_))))
 ·
  refine rgn rfl (pu (.slice e a.length f) rfl (pu (iv ((a.length:Nat):Int)) (by kernel_rfl) (pu (.slice g d.length i) rfl (pu (iv ((d.length:Nat):Int)) (by kernel_rfl) (ifE hF (fun q hF=>?_) (fun q hF=>?_))))))
  ·
   refine seq_c (s_eql rfl rfl (fun _=>?_) (fun h=>absurd q h))
   refine pu (.bool true) rfl (seq_nil ?_)
   exact .inl ⟨rfl,⟨true,⟨rfl,rfl,rfl,trivial⟩,hI.pickL [] (by decide) rfl,hF⟩⟩
  ·
   refine seq_c (s_eql rfl rfl (fun h=>absurd h q) (fun _=>?_))
   refine pu (.bool false) rfl (seq_nil ?_)
   exact .inl ⟨rfl,⟨false,⟨rfl,rfl,rfl,trivial⟩,hI.pickL [] (by decide) rfl,hF⟩⟩
 ·intro ρ w hJ
  obtain ⟨k,hag,hI,hF⟩:=hJ
  obtain ⟨ρ,rfl⟩:=hag.form; clear hag
  unfold F21j1 at hF
  refine wp_cutO (fun ρ w=>∃ (l:Bool),Agree ρ [(5,.bool l)]∧Inv [] w0 w []∧F21j2 l=some r) ?_ ?_
  ·
   refine wp_seq (rgn rfl (pu (iv 0) rfl (seq_nil (wp_block ?_))))
   refine wp_loop (fun m ρ w=>∃ (j:Bool) (b:Int) (mm:Nat),Agree ρ [(0,.slice e a.length f),(1,.slice g d.length i),(5,.bool j),(6,iv b)]∧Inv [] w0 w []∧F21l3 a d mm j b=some r∧mm=m) (m:=N) ⟨k,0,N,⟨rfl,rfl,rfl,rfl,trivial⟩,hI.pickL [] (by decide) rfl,hF,rfl⟩ ?_
   rintro m ρ w ⟨j,b,mm,hag,hI,hF,hm⟩
   subst hm; obtain ⟨ρ,rfl⟩:=hag.form; clear hag
   obtain _ | m3:=mm
   ·cases (show (none:Option Bool)=some r from hF)
   replace hF:F21b3 a d (F21l3 a d m3) j b=some r:=hF; unfold F21b3 at hF
   refine wp_seq (wp_cutO (fun ρ w=>∃ (o:Bool),Agree ρ [(0,.slice e a.length f),(1,.slice g d.length i),(5,.bool o),(6,iv b),(18,.bool false)]∧Inv [] w0 w []∧F21j4 o=some r) ?_ ?_)
   ·
    have hG:=hF; rcases Bool.eq_false_or_eq_true j with rfl | rfl
    ·
     have hF:=hG; clear hG
     refine ifE hF (fun _ hF=>?_) (fun h=>absurd rfl h)
     refine rgn rfl (pu (iv b) rfl (pu (.slice e a.length f) rfl (pu (iv ((a.length:Nat):Int)) (by kernel_rfl) (ifE hF (fun s hF=>?_) (fun s hF=>?_)))))
     ·
      refine seq_c (s_lss rfl rfl (fun _=>?_) (fun h=>absurd s h))
      refine pu (.bool true) rfl (puo (.bool true) ⟨rfl,rfl⟩ (pu (.bool true) rfl (seq_nil (.inr ?_))))
      refine wp_condT rfl (wp_skip (wp_cutO (fun ρ w=>∃ (p:Bool),Agree ρ [(0,.slice e a.length f),(1,.slice g d.length i),(5,.bool p),(6,iv b)]∧Inv [] w0 w []∧F21j5 (F21l3 a d m3) b p=some r) ?_ ?_))
      ·
       refine wp_block ?_
       refine wp_lit 10 hI (by kernel_rfl) ?_
       refine zp (.slice e a.length f) (fun _=>rfl) (zp (iv b) (fun _=>rfl) (gdE hF (fun x hF=>?_)))
       refine bindE hF (fun y z hF=>?_)
       obtain ⟨E,F,G,H,I⟩:=C.at_ eInt_len (by decide) z
       refine zc (.pointer (some ⟨E,F+(b).toNat * 1,none⟩)) (fun w hI=>s_indexA (b).toNat Tryz.underlying41 Tryz.sizeOf3 rfl G rfl (Int.toNat_of_nonneg x).symm (lt_n z rfl) br) (zc (iv y) (fun w hI=>s_loadB1 hI (iv y) Tryz.isAgg3 rfl H (by simp) (I 0 _ rfl) br) (zp (.slice g d.length i) (fun _=>rfl) (zp (iv b) (fun _=>rfl) (bindE hF (fun A B hF=>?_)))))
       obtain ⟨J,K,L,M,O⟩:=D.at_ eInt_len (by decide) B
       refine zc (.pointer (some ⟨J,K+(b).toNat * 1,none⟩)) (fun w hI=>s_indexA (b).toNat Tryz.underlying41 Tryz.sizeOf3 rfl L rfl (Int.toNat_of_nonneg x).symm (lt_n B rfl) br) (zc (iv A) (fun w hI=>s_loadB1 hI (iv A) Tryz.isAgg3 rfl M (by simp) (O 0 _ rfl) br) (ifE hF (fun t hF=>?_) (fun t hF=>?_)))
       ·
        refine zc (.bool true) (fun w hI=>s_eql rfl rfl (fun _=>br) (fun h=>absurd t h)) (zp (.bool true) (fun _=>rfl) (zh (fun w hI=>?_)))
        refine seq_nil ?_
        exact .inl ⟨rfl,⟨true,⟨rfl,rfl,rfl,rfl,trivial⟩,hI.pickL [] (by decide) rfl,hF⟩⟩
       ·
        refine zc (.bool false) (fun w hI=>s_eql rfl rfl (fun h=>absurd h t) (fun _=>br)) (zp (.bool false) (fun _=>rfl) (zh (fun w hI=>?_)))
        refine seq_nil ?_
        exact .inl ⟨rfl,⟨false,⟨rfl,rfl,rfl,rfl,trivial⟩,hI.pickL [] (by decide) rfl,hF⟩⟩
      ·intro ρ w hJ
       obtain ⟨p,hag,hI,hF⟩:=hJ
       obtain ⟨ρ,rfl⟩:=hag.form; clear hag
       unfold F21j5 at hF
       refine rgn rfl (pu (iv b) rfl (ckE hF (fun P hF=>?_)))
       refine seq_c (s_add rfl rfl P ?_)
       refine pu (iv (b+1)) rfl (seq_nil ?_)
       exact ⟨rfl,m3,Nat.lt_succ_self _,⟨p,b+1,m3,⟨rfl,rfl,rfl,rfl,trivial⟩,hI.pickL [] (by decide) rfl,hF,rfl⟩⟩
     ·
      refine seq_c (s_lss rfl rfl (fun h=>absurd h s) (fun _=>?_))
      refine pu (.bool false) rfl (of_ rfl (pu (.bool false) rfl (seq_nil ?_)))
      exact .inl ⟨rfl,⟨true,⟨rfl,rfl,rfl,rfl,rfl,trivial⟩,hI.pickL [] (by decide) rfl,hF⟩⟩
    ·
     have hF:=hG; clear hG
     refine ifE hF (fun h=>absurd h (by decide)) (fun _ hF=>?_)
     refine rgn rfl (pu (iv b) rfl (pu (.slice e a.length f) rfl (pu (iv ((a.length:Nat):Int)) (by kernel_rfl) (ifE hF (fun u hF=>?_) (fun u hF=>?_)))))
     ·
      refine seq_c (s_lss rfl rfl (fun _=>?_) (fun h=>absurd u h))
      refine pu (.bool true) rfl (puo (.bool false) ⟨rfl,rfl⟩ (pu (.bool false) rfl (seq_nil ?_)))
      exact .inl ⟨rfl,⟨false,⟨rfl,rfl,rfl,rfl,rfl,trivial⟩,hI.pickL [] (by decide) rfl,hF⟩⟩
     ·
      refine seq_c (s_lss rfl rfl (fun h=>absurd h u) (fun _=>?_))
      refine pu (.bool false) rfl (of_ rfl (pu (.bool false) rfl (seq_nil ?_)))
      exact .inl ⟨rfl,⟨false,⟨rfl,rfl,rfl,rfl,rfl,trivial⟩,hI.pickL [] (by decide) rfl,hF⟩⟩
   ·intro ρ w hJ
    obtain ⟨o,hag,hI,hF⟩:=hJ
    obtain ⟨ρ,rfl⟩:=hag.form; clear hag
    unfold F21j4 at hF
    refine wp_condF rfl (wp_exit ?_)
    exact .inl ⟨rfl,⟨o,⟨rfl,trivial⟩,hI.pickL [] (by decide) rfl,hF⟩⟩
  ·intro ρ w hJ
   obtain ⟨l,hag,hI,hF⟩:=hJ
   obtain ⟨ρ,rfl⟩:=hag.form; clear hag
   unfold F21j2 at hF
   refine wp_seq ?_
   have hG:=hF; rcases Bool.eq_false_or_eq_true l with rfl | rfl
   ·
    have hF:=hG; clear hG
    refine ifE hF (fun _ hF=>?_) (fun h=>absurd rfl h)
    refine rgn rfl (pu (.bool true) rfl (pu (.bool true) rfl (seq_nil (wp_ret ?_))))
    replace hF:=Option.some.inj hF; subst hF
    exact ⟨.bool true,Ret.r1 rfl rfl,⟨rfl,hI.below⟩⟩
   ·
    have hF:=hG; clear hG
    refine ifE hF (fun h=>absurd h (by decide)) (fun _ hF=>?_)
    refine rgn rfl (pu (.bool false) rfl (pu (.bool false) rfl (seq_nil (wp_ret ?_))))
    replace hF:=Option.some.inj hF; subst hF
    exact ⟨.bool false,Ret.r1 rfl rfl,⟨rfl,hI.below⟩⟩


theorem L36 (w0:World) (i:Int) (j:Int) (k:Option Addr) (l:Nat) (e:List Ld) (m:Option Addr) (o:Nat) (f:List Ld) (p:Option Addr) (q:Nat) (g:List Sp) (s:Int) (t:Int) (u:Int) (E:Cells w0 k (flat eLd e)) (F:e.length≤9223372036854775807) (G:e.length≤l) (H:Cells w0 m (flat eLd f)) (I:f.length≤9223372036854775807) (J:f.length≤o) (K:Cells w0 p (flat eSp g)) (L:g.length≤9223372036854775807) (M:g.length≤q) (r:(Int × Int × Int)) (hF:F36 i j e f g s t u=some r):Does Tryz.prog 36 [.agg #[.int .i64 i,.int .i64 j,.slice k e.length l,.slice m f.length o,.slice p g.length q,.int .i64 s],.int .i64 t,.int .i64 u] w0 fun v w=>v=.tuple #[.agg #[.int .i64 r.1,.int .i64 r.2.1],.int .i64 r.2.2]∧Below w0.heap.size w0 w:=by
 refine calls_of (n:=31) Tryz.func36 rfl Tryz.ntmps36 rfl ?_
 have hI:=Inv.start w0
 unfold F36 at hF
 refine wp_seq (rgn rfl (seq_c (s_boxI hI [iv i,iv j,.slice k e.length l,.slice m f.length o,.slice p g.length q,iv s] rfl ?_)))
 intro Y w hI
 refine seq_c (s_allocI hI [iv 0,iv 0] Tryz.zeroValue23 rfl ?_)
 intro Z w hI
 refine pu (iv 0) rfl (seq_nil (wp_seq (wp_seq (rgn rfl (seq_c (s_loadK hI 1 6 [iv i,iv j,.slice k e.length l,.slice m f.length o,.slice p g.length q,iv s] Tryz.isAgg28 Tryz.sizeOf28 rfl rfl rfl rfl ?_))))))
 refine pu (iv t) rfl (pu (iv u) rfl (bindE hF (fun x V hF=>?_)))
 refine seq_c (s_callv hI 97 [.agg #[iv i,iv j,.slice k e.length l,.slice m f.length o,.slice p g.length q,iv s],iv t,iv u] (iv x) (by kernel_rfl) (L97 _ i j k l e m o f p q g s t u (E.inv0 hI) F G (H.inv0 hI) I J (K.inv0 hI) L M _ V) ?_)
 intro w hI
 refine pu (iv x) rfl (seq_nil (wp_seq (rgn rfl (pu (iv x) rfl (ifE hF (fun y hF=>?_) (fun y hF=>?_))))))
 ·
  refine seq_c (s_neq rfl rfl (fun h=>absurd y h) (fun _=>?_))
  refine seq_nil (wp_condF rfl (wp_skip (wp_seq (rgn rfl (seq_c (s_loadK hI 1 6 [iv i,iv j,.slice k e.length l,.slice m f.length o,.slice p g.length q,iv s] Tryz.isAgg28 Tryz.sizeOf28 rfl rfl rfl rfl ?_))))))
  refine pu (iv u) rfl (bindE hF (fun d W hF=>?_))
  refine seq_c (s_call 86 [.agg #[iv i,iv j,.slice k e.length l,.slice m f.length o,.slice p g.length q,iv s],iv u] (by kernel_rfl) (L86 _ i j k l e m o f p q g s u (E.inv0 hI) F G (H.inv0 hI) I J (K.inv0 hI) L M _ W) ?_)
  rintro v w ⟨N,O,a0,P,Q,a1,R,S,a2,T,U,a3,rfl,hN,z,A,B,C⟩
  have hI:=hI.join hN; clear hN
  refine pu (iv t) rfl (bindE hF (fun a X hF=>?_))
  refine seq_c (s_callv hI 98 [.agg #[iv d.1,iv d.2.1,slv N d.2.2.1.length O,slv P d.2.2.2.1.length Q,slv R d.2.2.2.2.1.length S,iv d.2.2.2.2.2.1,slv T d.2.2.2.2.2.2.length U],iv t] (.tuple #[.agg #[iv a.1,iv a.2.1],.bool a.2.2]) (by kernel_rfl) (L98 _ d.1 d.2.1 (N.map fun b=>⟨b,0,none⟩) O d.2.2.1 (P.map fun b=>⟨b,0,none⟩) Q d.2.2.2.1 (R.map fun b=>⟨b,0,none⟩) S d.2.2.2.2.1 d.2.2.2.2.2.1 (T.map fun b=>⟨b,0,none⟩) U d.2.2.2.2.2.2 t (hI.rowCells 0 rfl z) (len_le rfl z.big) (len_le rfl z.cap) (hI.rowCells 1 rfl A) (len_le rfl A.big) (len_le rfl A.cap) (hI.rowCells 2 rfl B) (len_le rfl B.big) (len_le rfl B.cap) (hI.rowCells 3 rfl C) (len_le rfl C.big) (len_le rfl C.cap) _ X) ?_)
  intro w hI
  refine pu (.tuple #[.agg #[iv a.1,iv a.2.1],.bool a.2.2]) rfl (pu (.agg #[iv a.1,iv a.2.1]) rfl (pu (.bool a.2.2) rfl (seq_c (s_allocI hI [iv 0,iv 0] Tryz.zeroValue23 rfl ?_))))
  intro a4 w hI
  refine seq_c (s_store hI 0 2 [iv a.1,iv a.2.1] Tryz.sizeOf23 rfl rfl rfl rfl rfl (Nat.le_of_ble_eq_true rfl) ?_)
  intro w hI
  refine pu (.bool a.2.2) rfl (seq_nil (wp_seq (wp_seq (ifE hF (fun D hF=>?_) (fun D hF=>?_)))))
  ·
   rw [D]
   refine rgn rfl (pu (.bool true) rfl (pu (.bool false) rfl (seq_nil (wp_condF rfl (wp_skip (wp_seq (rgn rfl (seq_c (s_loadK hI 0 2 [iv a.1,iv a.2.1] Tryz.isAgg23 Tryz.sizeOf23 rfl rfl rfl rfl ?_)))))))))
   refine seq_c (s_store hI 5 2 [iv a.1,iv a.2.1] Tryz.sizeOf23 rfl rfl rfl rfl rfl (Nat.le_of_ble_eq_true rfl) ?_)
   intro w hI
   refine pu (iv 0) rfl (seq_nil (wp_ret ?_))
   replace hF:=Option.some.inj hF; subst hF
   exact ⟨.tuple #[.agg #[iv a.1,iv a.2.1],iv 0],Ret.ct rfl rfl (run_loadK hI 5 2 [iv a.1,iv a.2.1] Tryz.isAgg23 Tryz.sizeOf23 rfl rfl rfl) rfl,⟨rfl,hI.below⟩⟩
  ·
   rw [(Bool.eq_false_iff.2 D)]
   refine rgn rfl (pu (.bool false) rfl (pu (.bool true) rfl (seq_nil (wp_condT rfl (wp_seq (rgn rfl (pu (.agg #[iv 0,iv 0]) (by kernel_rfl) (seq_c (s_store hI 5 2 [iv 0,iv 0] Tryz.sizeOf23 rfl rfl rfl rfl rfl (Nat.le_of_ble_eq_true rfl) ?_)))))))))
   intro w hI
   refine pu (iv 14) rfl (seq_nil (wp_ret ?_))
   replace hF:=Option.some.inj hF; subst hF
   exact ⟨.tuple #[.agg #[iv 0,iv 0],iv 14],Ret.ct rfl rfl (run_loadK hI 5 2 [iv 0,iv 0] Tryz.isAgg23 Tryz.sizeOf23 rfl rfl rfl) rfl,⟨rfl,hI.below⟩⟩
 ·
  refine seq_c (s_neq rfl rfl (fun _=>?_) (fun h=>absurd h y))
  refine seq_nil (wp_condT rfl (wp_seq (rgn rfl (pu (.agg #[iv 0,iv 0]) (by kernel_rfl) (pu (iv x) rfl (seq_c (s_store hI 0 2 [iv 0,iv 0] Tryz.sizeOf23 rfl rfl rfl rfl rfl (Nat.le_of_ble_eq_true rfl) ?_)))))))
  intro w hI
  refine pu (iv x) rfl (seq_nil (wp_ret ?_))
  replace hF:=Option.some.inj hF; subst hF
  exact ⟨.tuple #[.agg #[iv 0,iv 0],iv x],Ret.ct rfl rfl (run_loadK hI 0 2 [iv 0,iv 0] Tryz.isAgg23 Tryz.sizeOf23 rfl rfl rfl) rfl,⟨rfl,hI.below⟩⟩


theorem L103 (w0:World) (a:Rg) (b:Rg) (r:(Int × Int)) (hF:F103 a b=some r):Does Tryz.prog 103 [.agg #[.int .i64 a.lo,.int .i64 a.hi],.agg #[.int .i64 b.lo,.int .i64 b.hi]] w0 fun v w=>v=.agg #[.int .i64 r.1,.int .i64 r.2]∧Below w0.heap.size w0 w:=by
 refine calls_of (n:=16) Tryz.func103 rfl Tryz.ntmps103 rfl ?_
 have hI:=Inv.start w0
 unfold F103 at hF
 refine wp_seq (rgn rfl (seq_c (s_boxI hI [iv a.lo,iv a.hi] rfl ?_)))
 intro b4 w hI
 refine seq_c (s_boxI hI [iv b.lo,iv b.hi] rfl ?_)
 intro b5 w hI
 refine seq_c (s_allocI hI [iv 0,iv 0] Tryz.zeroValue23 rfl ?_)
 intro b6 w hI
 refine seq_nil (wp_seq (rgn rfl (pu (.pointer (some ⟨b4,0,none⟩)) rfl (seq_c (s_load1 hI 2 (iv a.lo) Tryz.isAgg3 rfl rfl rfl ?_)))))
 refine pu (.pointer (some ⟨b5,0,none⟩)) rfl (seq_c (s_load1 hI 1 (iv b.lo) Tryz.isAgg3 rfl rfl rfl ?_))
 refine pu (iv (if b.lo > a.lo then b.lo else a.lo)) (by kernel_rfl) (pu (.pointer (some ⟨b4,1,none⟩)) rfl (seq_c (s_load1 hI 2 (iv a.hi) Tryz.isAgg3 rfl rfl rfl ?_)))
 refine pu (.pointer (some ⟨b5,1,none⟩)) rfl (seq_c (s_load1 hI 1 (iv b.hi) Tryz.isAgg3 rfl rfl rfl ?_))
 refine pu (iv (if b.hi < a.hi then b.hi else a.hi)) (by kernel_rfl) (pu (.agg #[iv (if b.lo > a.lo then b.lo else a.lo),iv (if b.hi < a.hi then b.hi else a.hi)]) (by kernel_rfl) (seq_c (s_store hI 0 2 [iv (if b.lo > a.lo then b.lo else a.lo),iv (if b.hi < a.hi then b.hi else a.hi)] Tryz.sizeOf23 rfl rfl rfl rfl rfl (Nat.le_of_ble_eq_true rfl) ?_)))
 intro w hI
 refine seq_nil (wp_ret ?_)
 replace hF:=Option.some.inj hF; subst hF
 exact ⟨.agg #[iv (if b.lo > a.lo then b.lo else a.lo),iv (if b.hi < a.hi then b.hi else a.hi)],Ret.c rfl rfl (run_loadK hI 0 2 [iv (if b.lo > a.lo then b.lo else a.lo),iv (if b.hi < a.hi then b.hi else a.hi)] Tryz.isAgg23 Tryz.sizeOf23 rfl rfl rfl),⟨rfl,hI.below⟩⟩


theorem L38 (w0:World) (m:Int) (o:Int) (p:Option Addr) (q:Nat) (g:List Ld) (s:Option Addr) (t:Nat) (i:List Ld) (u:Option Addr) (x:Nat) (k:List Sp) (z:Int) (R:Int) (E:Int) (a0:Cells w0 p (flat eLd g)) (a1:g.length≤9223372036854775807) (a2:g.length≤q) (a3:Cells w0 s (flat eLd i)) (a4:i.length≤9223372036854775807) (a5:i.length≤t) (a6:Cells w0 u (flat eSp k)) (a7:k.length≤9223372036854775807) (a8:k.length≤x) (r:(Int × Int × Int)) (hF:F38 m o g i k z R E=some r):Does Tryz.prog 38 [.agg #[.int .i64 m,.int .i64 o,.slice p g.length q,.slice s i.length t,.slice u k.length x,.int .i64 z],.int .i64 R,.int .i64 E] w0 fun v w=>v=.tuple #[.agg #[.int .i64 r.1,.int .i64 r.2.1],.int .i64 r.2.2]∧Below w0.heap.size w0 w:=by
 refine calls_of (n:=71) Tryz.func38 rfl Tryz.ntmps38 rfl ?_
 have hI:=Inv.start w0
 unfold F38 at hF
 refine wp_seq (rgn rfl (seq_c (s_boxI hI [iv m,iv o,.slice p g.length q,.slice s i.length t,.slice u k.length x,iv z] rfl ?_)))
 intro aI w hI
 refine seq_c (s_allocI hI [iv 0,iv 0] Tryz.zeroValue23 rfl ?_)
 intro a9 w hI
 refine pu (iv 0) rfl (seq_nil (wp_seq (wp_seq (rgn rfl (seq_c (s_loadK hI 1 6 [iv m,iv o,.slice p g.length q,.slice s i.length t,.slice u k.length x,iv z] Tryz.isAgg28 Tryz.sizeOf28 rfl rfl rfl rfl ?_))))))
 refine pu (iv E) rfl (bindE hF (fun N aJ hF=>?_))
 refine seq_c (s_callv hI 85 [.agg #[iv m,iv o,.slice p g.length q,.slice s i.length t,.slice u k.length x,iv z],iv E] (iv N) (by kernel_rfl) (L85 _ m o p q g s t i u x k z E (a0.inv0 hI) a1 a2 (a3.inv0 hI) a4 a5 (a6.inv0 hI) a7 a8 _ aJ) ?_)
 intro w hI
 refine pu (iv N) rfl (seq_nil (wp_seq (rgn rfl (pu (iv N) rfl (ifE hF (fun T hF=>?_) (fun T hF=>?_))))))
 ·
  refine seq_c (s_neq rfl rfl (fun h=>absurd T h) (fun _=>?_))
  refine seq_nil (wp_condF rfl (wp_skip (wp_seq (rgn rfl (seq_c (s_loadK hI 1 6 [iv m,iv o,.slice p g.length q,.slice s i.length t,.slice u k.length x,iv z] Tryz.isAgg28 Tryz.sizeOf28 rfl rfl rfl rfl ?_))))))
  refine pu (iv E) rfl (bindE hF (fun a aK hF=>?_))
  refine seq_c (s_call 86 [.agg #[iv m,iv o,.slice p g.length q,.slice s i.length t,.slice u k.length x,iv z],iv E] (by kernel_rfl) (L86 _ m o p q g s t i u x k z E (a0.inv0 hI) a1 a2 (a3.inv0 hI) a4 a5 (a6.inv0 hI) a7 a8 _ aK) ?_)
  rintro v w ⟨B,F,aL,C,G,aM,D,H,aN,l,A,aO,rfl,hN,O,P,Q,L⟩
  have hI:=hI.join hN; clear hN
  refine seq_c (s_allocI hI [iv 0,iv 0,.slice none 0 0,.slice none 0 0,.slice none 0 0,iv 0,.slice none 0 0] Tryz.zeroValue116 rfl ?_)
  intro U w hI
  refine seq_c (s_store hI 0 7 [iv a.1,iv a.2.1,slv B a.2.2.1.length F,slv C a.2.2.2.1.length G,slv D a.2.2.2.2.1.length H,iv a.2.2.2.2.2.1,slv l a.2.2.2.2.2.2.length A] Tryz.sizeOf116 rfl rfl rfl rfl rfl (Nat.le_of_ble_eq_true rfl) ?_)
  intro w hI
  refine seq_nil (wp_seq (rgn rfl (seq_c (s_loadK hI 0 7 [iv a.1,iv a.2.1,slv B a.2.2.1.length F,slv C a.2.2.2.1.length G,slv D a.2.2.2.2.1.length H,iv a.2.2.2.2.2.1,slv l a.2.2.2.2.2.2.length A] Tryz.isAgg116 Tryz.sizeOf116 rfl rfl rfl rfl ?_))))
  refine pu (iv R) rfl (bindE hF (fun f aP hF=>?_))
  refine seq_c (s_callv hI 101 [.agg #[iv a.1,iv a.2.1,slv B a.2.2.1.length F,slv C a.2.2.2.1.length G,slv D a.2.2.2.2.1.length H,iv a.2.2.2.2.2.1,slv l a.2.2.2.2.2.2.length A],iv R] (.tuple #[iv f.1,.bool f.2]) (by kernel_rfl) (L101 _ a.1 a.2.1 (B.map fun b=>⟨b,0,none⟩) F a.2.2.1 (C.map fun b=>⟨b,0,none⟩) G a.2.2.2.1 (D.map fun b=>⟨b,0,none⟩) H a.2.2.2.2.1 a.2.2.2.2.2.1 (l.map fun b=>⟨b,0,none⟩) A a.2.2.2.2.2.2 R (hI.rowCells 1 rfl O) (len_le rfl O.big) (len_le rfl O.cap) (hI.rowCells 2 rfl P) (len_le rfl P.big) (len_le rfl P.cap) (hI.rowCells 3 rfl Q) (len_le rfl Q.big) (len_le rfl Q.cap) (hI.rowCells 4 rfl L) (len_le rfl L.big) (len_le rfl L.cap) _ aP) ?_)
  intro w hI
  refine pu (.tuple #[iv f.1,.bool f.2]) rfl (pu (iv f.1) rfl (pu (.bool f.2) rfl (pu (iv f.1) rfl (pu (.bool f.2) rfl (seq_nil (wp_seq (wp_seq (ifE hF (fun V hF=>?_) (fun V hF=>?_)))))))))
  ·
   rw [V]
   refine rgn rfl (pu (.bool true) rfl (pu (.bool false) rfl (seq_nil (wp_condF rfl (wp_skip (wp_seq (rgn rfl (seq_c (s_loadK hI 0 7 [iv a.1,iv a.2.1,slv B a.2.2.1.length F,slv C a.2.2.2.1.length G,slv D a.2.2.2.2.1.length H,iv a.2.2.2.2.2.1,slv l a.2.2.2.2.2.2.length A] Tryz.isAgg116 Tryz.sizeOf116 rfl rfl rfl rfl ?_)))))))))
   refine bindE hF (fun I aQ hF=>?_)
   refine seq_c (s_call 102 [.agg #[iv a.1,iv a.2.1,slv B a.2.2.1.length F,slv C a.2.2.2.1.length G,slv D a.2.2.2.2.1.length H,iv a.2.2.2.2.2.1,slv l a.2.2.2.2.2.2.length A]] (by kernel_rfl) (L102 _ a.1 a.2.1 (B.map fun b=>⟨b,0,none⟩) F a.2.2.1 (C.map fun b=>⟨b,0,none⟩) G a.2.2.2.1 (D.map fun b=>⟨b,0,none⟩) H a.2.2.2.2.1 a.2.2.2.2.2.1 (l.map fun b=>⟨b,0,none⟩) A a.2.2.2.2.2.2 (hI.rowCells 1 rfl O) (len_le rfl O.big) (len_le rfl O.cap) (hI.rowCells 2 rfl P) (len_le rfl P.big) (len_le rfl P.cap) (hI.rowCells 3 rfl Q) (len_le rfl Q.big) (len_le rfl Q.cap) (hI.rowCells 4 rfl L) (len_le rfl L.big) (len_le rfl L.cap) _ aQ) ?_)
   rintro v w ⟨W,S,Y,rfl,hN,aA⟩
   have hI:=hI.join hN; clear hN
   refine pu (.tuple #[slv W I.1.length S,.bool I.2]) rfl (pu (slv W I.1.length S) rfl (pu (.bool I.2) rfl (pu (slv W I.1.length S) rfl (pu (.bool I.2) rfl (seq_nil (wp_seq (wp_seq (ifE hF (fun Z hF=>?_) (fun Z hF=>?_)))))))))
   ·
    rw [Z]
    refine rgn rfl (pu (.bool true) rfl (pu (.bool false) rfl (seq_nil (wp_condF rfl (wp_skip (wp_seq (gdE hF (fun aB hF=>?_))))))))
    refine bindE hF (fun d aC hF=>?_)
    refine ckE hF (fun aR hF=>?_)
    refine gdE hF (fun aS hF=>?_)
    refine bindE hF (fun e aD hF=>?_)
    obtain ⟨M,rfl,aT⟩:=aA.at_ eRg_len (by decide) aC
    have aU:=aA.atS eRg_len (by decide) aD
    refine wp_toks [tv (fun _=>(slv (some M) I.1.length S)),tv (fun _=>(iv f.1)),tr (fun _=>(.pointer (some ⟨M,((f.1).toNat) * 2,none⟩))) [],tr (fun _=>(.agg #[iv d.lo,iv d.hi])) [13],tv (fun _=>(slv (some M) I.1.length S)),tv (fun _=>(iv f.1)),tr (fun _=>(iv (f.1+1))) [],tr (fun _=>(.pointer (some ⟨M,((f.1+1).toNat) * 2,none⟩))) [],tr (fun _=>(.agg #[iv e.lo,iv e.hi])) [13],tal 9 [iv 0,iv 0] 23,tal 10 [iv 0,iv 0] 23,tst (fun y=>[(some (y 9).b,blk [iv d.lo,iv d.hi] 23)]) 9,tst (fun y=>[(some (y 10).b,blk [iv e.lo,iv e.hi] 23)]) 10] (fun y=>[(6,.pointer (some ⟨a9,0,none⟩)),(9,.pointer (some ⟨U,0,none⟩)),(10,iv f.1),(13,.pointer (some ⟨(y 9).b,0,none⟩)),(14,.pointer (some ⟨(y 10).b,0,none⟩))]) (fun y=>[(some (y 9).b,blk [iv d.lo,iv d.hi] 23),(some (y 10).b,blk [iv e.lo,iv e.hi] 23),(some M,blk Y 23),(some U,blk [iv a.1,iv a.2.1,slv B a.2.2.1.length F,slv C a.2.2.2.1.length G,slv D a.2.2.2.2.1.length H,iv a.2.2.2.2.2.1,slv l a.2.2.2.2.2.2.length A] 116),(B,blk aL 30),(C,blk aM 31),(D,blk aN 33),(l,blk aO 30),(some a9,blk [iv 0,iv 0] 23),(some aI,blk [iv m,iv o,.slice p g.length q,.slice s i.length t,.slice u k.length x,iv z] 28)]) hI (by kernel_rfl) (fun y=>⟨rfl,rfl⟩) (fun y=>?_) ?_
    ·
     refine tp rfl (fun _=>rfl) (tp rfl (fun _=>rfl) (tl0 rfl (fun X w hI=>s_indexR ((f.1).toNat) Tryz.underlying130 Tryz.sizeOf23 rfl rfl (Int.toNat_of_nonneg aB).symm (lt_n aC rfl) br) (tl1 [(some M,blk Y 23)] rfl rfl (fun X w hI=>s_loadRK hI 0 [iv d.lo,iv d.hi] Tryz.isAgg23 Tryz.sizeOf23 rfl rfl rfl aT br) (tp rfl (fun _=>rfl) (tp rfl (fun _=>rfl) (tl0 rfl (fun X w hI=>s_add rfl rfl aR br) (tl0 rfl (fun X w hI=>s_indexR ((f.1+1).toNat) Tryz.underlying130 Tryz.sizeOf23 rfl rfl (Int.toNat_of_nonneg aS).symm (lt_n aD rfl) br) (tl1 [(some M,blk Y 23)] rfl rfl (fun X w hI=>s_loadRK hI 0 [iv e.lo,iv e.hi] Tryz.isAgg23 Tryz.sizeOf23 rfl rfl rfl aU br) (tA rfl Tryz.zeroValue23 rfl ?_)))))))))
     refine tA rfl Tryz.zeroValue23 rfl (tS [(some (y 9).b,blk [iv 0,iv 0] 23)] rfl ⟨rfl,rfl⟩ (fun X w hI=>s_store hI 0 2 [iv d.lo,iv d.hi] Tryz.sizeOf23 rfl rfl rfl rfl rfl (Nat.le_of_ble_eq_true rfl) fun w hI=>⟨rfl,hI.castL rfl⟩) (tS [(some (y 10).b,blk [iv 0,iv 0] 23)] rfl ⟨rfl,rfl⟩ (fun X w hI=>s_store hI 0 2 [iv e.lo,iv e.hi] Tryz.sizeOf23 rfl rfl rfl rfl rfl (Nat.le_of_ble_eq_true rfl) fun w hI=>⟨rfl,hI.castL rfl⟩) ?_))
     exact tn
    intro y hp ρ w hag hI
    clear hp
    generalize (y 9).b=aE at *
    generalize (y 10).b=aF at *
    obtain ⟨ρ,rfl⟩:=hag.form; clear hag
    refine wp_seq (rgn rfl (pu (.pointer (some ⟨aE,0,none⟩)) rfl (seq_c (s_load1 hI 0 (iv d.lo) Tryz.isAgg3 rfl rfl rfl ?_))))
    refine pu (.pointer (some ⟨aF,1,none⟩)) rfl (seq_c (s_load1 hI 1 (iv e.hi) Tryz.isAgg3 rfl rfl rfl ?_))
    refine ckE hF (fun aV hF=>?_)
    refine seq_c (s_sub rfl rfl aV ?_)
    refine pu (.pointer (some ⟨aE,1,none⟩)) rfl (seq_c (s_load1 hI 0 (iv d.hi) Tryz.isAgg3 rfl rfl rfl ?_))
    refine pu (.pointer (some ⟨aF,0,none⟩)) rfl (seq_c (s_load1 hI 1 (iv e.lo) Tryz.isAgg3 rfl rfl rfl ?_))
    refine ckE hF (fun aW hF=>?_)
    refine seq_c (s_sub rfl rfl aW ?_)
    refine pu (.agg #[iv (d.lo - e.hi),iv (d.hi - e.lo)]) (by kernel_rfl) (seq_c (s_allocI hI [iv 0,iv 0] Tryz.zeroValue23 rfl ?_))
    intro aZ w hI
    refine seq_c (s_store hI 0 2 [iv (d.lo - e.hi),iv (d.hi - e.lo)] Tryz.sizeOf23 rfl rfl rfl rfl rfl (Nat.le_of_ble_eq_true rfl) ?_)
    intro w hI
    refine seq_nil (wp_seq (wp_lit 8 hI (by kernel_rfl) ?_))
    refine zp (.pointer (some ⟨U,6,none⟩)) (fun _=>rfl) (zc (slv l a.2.2.2.2.2.2.length A) (fun w hI=>s_load1 hI 4 (slv l a.2.2.2.2.2.2.length A) Tryz.isAgg24 rfl rfl rfl br) (zp (iv f.1) (fun _=>rfl) (bindE hF (fun J aG hF=>?_))))
    obtain ⟨aH,rfl,aX⟩:=L.at_ eLd_len (by decide) aG
    refine zc (.pointer (some ⟨aH,((f.1).toNat) * 6,none⟩)) (fun w hI=>s_indexR ((f.1).toNat) Tryz.underlying24 Tryz.sizeOf30 rfl rfl (Int.toNat_of_nonneg aB).symm (lt_n aG rfl) br) (zp (.pointer (some ⟨aH,((f.1).toNat) * 6+2,none⟩)) (fun _=>rfl) (zc (.agg #[iv J.lo,iv J.hi]) (fun w hI=>s_loadRK hI 8 [iv J.lo,iv J.hi] Tryz.isAgg23 Tryz.sizeOf23 rfl rfl rfl (fun j v h=>by have:=part_of aX 2 2 rfl j v h; rwa [← Nat.add_assoc] at this) br) (zc (.agg #[iv (d.lo - e.hi),iv (d.hi - e.lo)]) (fun w hI=>s_loadK hI 0 2 [iv (d.lo - e.hi),iv (d.hi - e.lo)] Tryz.isAgg23 Tryz.sizeOf23 rfl rfl rfl rfl br) (bindE hF (fun K aY hF=>?_)))))
    refine zc (.agg #[iv K.1,iv K.2]) (fun w hI=>s_call 103 [.agg #[iv J.lo,iv J.hi],.agg #[iv (d.lo - e.hi),iv (d.hi - e.lo)]] (by kernel_rfl) (L103 _ (⟨J.lo,J.hi⟩:Rg) (⟨d.lo - e.hi,d.hi - e.lo⟩:Rg) _ aY) (fun v' w' h=>h)) (zh (fun w hI=>?_))
    refine seq_c (s_store hI 9 2 [iv K.1,iv K.2] Tryz.sizeOf23 rfl rfl rfl rfl rfl (Nat.le_of_ble_eq_true rfl) ?_)
    intro w hI
    refine pu (iv 0) rfl (seq_nil (wp_ret ?_))
    replace hF:=Option.some.inj hF; subst hF
    exact ⟨.tuple #[.agg #[iv K.1,iv K.2],iv 0],Ret.ct rfl rfl (run_loadK hI 9 2 [iv K.1,iv K.2] Tryz.isAgg23 Tryz.sizeOf23 rfl rfl rfl) rfl,⟨rfl,hI.below⟩⟩
   ·
    rw [(Bool.eq_false_iff.2 Z)]
    refine rgn rfl (pu (.bool false) rfl (pu (.bool true) rfl (seq_nil (wp_condT rfl (wp_seq (rgn rfl (pu (.agg #[iv 0,iv 0]) (by kernel_rfl) (seq_c (s_store hI 6 2 [iv 0,iv 0] Tryz.sizeOf23 rfl rfl rfl rfl rfl (Nat.le_of_ble_eq_true rfl) ?_)))))))))
    intro w hI
    refine pu (iv 14) rfl (seq_nil (wp_ret ?_))
    replace hF:=Option.some.inj hF; subst hF
    exact ⟨.tuple #[.agg #[iv 0,iv 0],iv 14],Ret.ct rfl rfl (run_loadK hI 6 2 [iv 0,iv 0] Tryz.isAgg23 Tryz.sizeOf23 rfl rfl rfl) rfl,⟨rfl,hI.below⟩⟩
  ·
   rw [(Bool.eq_false_iff.2 V)]
   refine rgn rfl (pu (.bool false) rfl (pu (.bool true) rfl (seq_nil (wp_condT rfl (wp_seq (rgn rfl (pu (.agg #[iv 0,iv 0]) (by kernel_rfl) (seq_c (s_store hI 5 2 [iv 0,iv 0] Tryz.sizeOf23 rfl rfl rfl rfl rfl (Nat.le_of_ble_eq_true rfl) ?_)))))))))
   intro w hI
   refine pu (iv 17) rfl (seq_nil (wp_ret ?_))
   replace hF:=Option.some.inj hF; subst hF
   exact ⟨.tuple #[.agg #[iv 0,iv 0],iv 17],Ret.ct rfl rfl (run_loadK hI 5 2 [iv 0,iv 0] Tryz.isAgg23 Tryz.sizeOf23 rfl rfl rfl) rfl,⟨rfl,hI.below⟩⟩
 ·
  refine seq_c (s_neq rfl rfl (fun _=>?_) (fun h=>absurd h T))
  refine seq_nil (wp_condT rfl (wp_seq (rgn rfl (pu (.agg #[iv 0,iv 0]) (by kernel_rfl) (pu (iv N) rfl (seq_c (s_store hI 0 2 [iv 0,iv 0] Tryz.sizeOf23 rfl rfl rfl rfl rfl (Nat.le_of_ble_eq_true rfl) ?_)))))))
  intro w hI
  refine pu (iv N) rfl (seq_nil (wp_ret ?_))
  replace hF:=Option.some.inj hF; subst hF
  exact ⟨.tuple #[.agg #[iv 0,iv 0],iv N],Ret.ct rfl rfl (run_loadK hI 0 2 [iv 0,iv 0] Tryz.isAgg23 Tryz.sizeOf23 rfl rfl rfl) rfl,⟨rfl,hI.below⟩⟩


theorem L112 (w0:World) (a:Bool) (b:Bool) (r:Int) (hF:F112 a b=some r):Does Tryz.prog 112 [.bool a,.bool b] w0 fun v w=>v=.int .i64 r∧Below w0.heap.size w0 w:=by
 refine calls_of (n:=9) Tryz.func112 rfl Tryz.ntmps112 rfl ?_
 have hI:=Inv.start w0
 unfold F112 at hF
 refine wp_seq (rgn rfl (pu (iv 0) rfl (seq_nil (wp_seq (wp_block ?_)))))
 refine wp_seq ?_
 have hG:=hF; rcases Bool.eq_false_or_eq_true b with rfl | rfl
 ·
  have hF:=hG; clear hG
  refine ifE hF (fun _ hF=>?_) (fun h=>absurd rfl h)
  refine rgn rfl (pu (.bool true) rfl (pu (.bool true) rfl (seq_nil (wp_condT rfl (wp_seq (rgn rfl (pu (iv 1) rfl (seq_nil (wp_ret ?_)))))))))
  replace hF:=Option.some.inj hF; subst hF
  exact ⟨iv 1,Ret.r1 rfl rfl,⟨rfl,hI.below⟩⟩
 ·
  have hF:=hG; clear hG
  refine ifE hF (fun h=>absurd h (by decide)) (fun _ hF=>?_)
  refine rgn rfl (pu (.bool false) rfl (pu (.bool false) rfl (seq_nil (wp_condF rfl (wp_seq ?_)))))
  have hG:=hF; rcases Bool.eq_false_or_eq_true a with rfl | rfl
  ·
   have hF:=hG; clear hG
   refine ifE hF (fun _ hF=>?_) (fun h=>absurd rfl h)
   refine rgn rfl (pu (.bool true) rfl (pu (.bool true) rfl (seq_nil (wp_condT rfl (wp_seq (rgn rfl (pu (iv 2) rfl (seq_nil (wp_ret ?_)))))))))
   replace hF:=Option.some.inj hF; subst hF
   exact ⟨iv 2,Ret.r1 rfl rfl,⟨rfl,hI.below⟩⟩
  ·
   have hF:=hG; clear hG
   refine ifE hF (fun h=>absurd h (by decide)) (fun _ hF=>?_)
   refine rgn rfl (pu (.bool false) rfl (pu (.bool false) rfl (seq_nil (wp_condF rfl (wp_skip (wp_seq (rgn rfl (pu (iv 0) rfl (seq_nil ?_)))))))))
   refine wp_ret ?_
   replace hF:=Option.some.inj hF; subst hF
   exact ⟨iv 0,Ret.r1 rfl rfl,⟨rfl,hI.below⟩⟩


theorem L45 (w0:World) (f:Int) (g:Int) (i:Option Addr) (j:Nat) (b:List Ld) (k:Option Addr) (l:Nat) (d:List Ld) (m:Option Addr) (o:Nat) (e:List Sp) (p:Int) (q:Int) (s:Int) (E:Cells w0 i (flat eLd b)) (F:b.length≤9223372036854775807) (G:b.length≤j) (H:Cells w0 k (flat eLd d)) (I:d.length≤9223372036854775807) (J:d.length≤l) (K:Cells w0 m (flat eSp e)) (L:e.length≤9223372036854775807) (M:e.length≤o) (r:(Int × Int)) (hF:F45 f g b d e p q s=some r):Does Tryz.prog 45 [.agg #[.int .i64 f,.int .i64 g,.slice i b.length j,.slice k d.length l,.slice m e.length o,.int .i64 p],.int .i64 q,.int .i64 s] w0 fun v w=>v=.tuple #[.int .i64 r.1,.int .i64 r.2]∧Below w0.heap.size w0 w:=by
 refine calls_of (n:=27) Tryz.func45 rfl Tryz.ntmps45 rfl ?_
 have hI:=Inv.start w0
 unfold F45 at hF
 refine wp_seq (rgn rfl (seq_c (s_boxI hI [iv f,iv g,.slice i b.length j,.slice k d.length l,.slice m e.length o,iv p] rfl ?_)))
 intro S w hI
 refine pu (iv 0) rfl (pu (iv 0) rfl (seq_nil (wp_seq (rgn rfl (seq_c (s_loadK hI 0 6 [iv f,iv g,.slice i b.length j,.slice k d.length l,.slice m e.length o,iv p] Tryz.isAgg28 Tryz.sizeOf28 rfl rfl rfl rfl ?_))))))
 refine pu (iv q) rfl (pu (iv s) rfl (bindE hF (fun a N hF=>?_)))
 refine seq_c (s_callv hI 36 [.agg #[iv f,iv g,.slice i b.length j,.slice k d.length l,.slice m e.length o,iv p],iv q,iv s] (.tuple #[.agg #[iv a.1,iv a.2.1],iv a.2.2]) (by kernel_rfl) (L36 _ f g i j b k l d m o e p q s (E.inv0 hI) F G (H.inv0 hI) I J (K.inv0 hI) L M _ N) ?_)
 intro w hI
 refine pu (.tuple #[.agg #[iv a.1,iv a.2.1],iv a.2.2]) rfl (pu (.agg #[iv a.1,iv a.2.1]) rfl (pu (iv a.2.2) rfl (seq_c (s_allocI hI [iv 0,iv 0] Tryz.zeroValue23 rfl ?_))))
 intro t w hI
 refine seq_c (s_store hI 0 2 [iv a.1,iv a.2.1] Tryz.sizeOf23 rfl rfl rfl rfl rfl (Nat.le_of_ble_eq_true rfl) ?_)
 intro w hI
 refine pu (iv a.2.2) rfl (seq_nil (wp_seq (wp_seq (rgn rfl (pu (iv a.2.2) rfl (ifE hF (fun u hF=>?_) (fun u hF=>?_)))))))
 ·
  refine seq_c (s_neq rfl rfl (fun h=>absurd u h) (fun _=>?_))
  refine seq_nil (wp_condF rfl (wp_skip (wp_seq (rgn rfl (pu (.pointer (some ⟨t,0,none⟩)) rfl (seq_c (s_load1 hI 0 (iv a.1) Tryz.isAgg3 rfl rfl rfl ?_)))))))
  refine ifE hF (fun x hF=>?_) (fun x hF=>?_)
  ·
   refine seq_c (s_eql rfl rfl (fun _=>?_) (fun h=>absurd x h))
   refine pu (.pointer (some ⟨t,1,none⟩)) rfl (seq_c (s_load1 hI 0 (iv a.2.1) Tryz.isAgg3 rfl rfl rfl ?_))
   refine ifE hF (fun y hF=>?_) (fun y hF=>?_)
   ·
    refine seq_c (s_eql rfl rfl (fun _=>?_) (fun h=>absurd y h))
    refine bindE hF (fun z O hF=>?_)
    refine seq_c (s_callv hI 112 [.bool true,.bool true] (iv z) (by kernel_rfl) (L112 _ true true _ O) ?_)
    intro w hI
    refine pu (iv z) rfl (pu (iv 0) rfl (seq_nil (wp_ret ?_)))
    replace hF:=Option.some.inj hF; subst hF
    exact ⟨.tuple #[iv z,iv 0],Ret.r2 rfl rfl rfl,⟨rfl,hI.below⟩⟩
   ·
    refine seq_c (s_eql rfl rfl (fun h=>absurd h y) (fun _=>?_))
    refine bindE hF (fun A P hF=>?_)
    refine seq_c (s_callv hI 112 [.bool true,.bool false] (iv A) (by kernel_rfl) (L112 _ true false _ P) ?_)
    intro w hI
    refine pu (iv A) rfl (pu (iv 0) rfl (seq_nil (wp_ret ?_)))
    replace hF:=Option.some.inj hF; subst hF
    exact ⟨.tuple #[iv A,iv 0],Ret.r2 rfl rfl rfl,⟨rfl,hI.below⟩⟩
  ·
   refine seq_c (s_eql rfl rfl (fun h=>absurd h x) (fun _=>?_))
   refine pu (.pointer (some ⟨t,1,none⟩)) rfl (seq_c (s_load1 hI 0 (iv a.2.1) Tryz.isAgg3 rfl rfl rfl ?_))
   refine ifE hF (fun B hF=>?_) (fun B hF=>?_)
   ·
    refine seq_c (s_eql rfl rfl (fun _=>?_) (fun h=>absurd B h))
    refine bindE hF (fun C Q hF=>?_)
    refine seq_c (s_callv hI 112 [.bool false,.bool true] (iv C) (by kernel_rfl) (L112 _ false true _ Q) ?_)
    intro w hI
    refine pu (iv C) rfl (pu (iv 0) rfl (seq_nil (wp_ret ?_)))
    replace hF:=Option.some.inj hF; subst hF
    exact ⟨.tuple #[iv C,iv 0],Ret.r2 rfl rfl rfl,⟨rfl,hI.below⟩⟩
   ·
    refine seq_c (s_eql rfl rfl (fun h=>absurd h B) (fun _=>?_))
    refine bindE hF (fun D R hF=>?_)
    refine seq_c (s_callv hI 112 [.bool false,.bool false] (iv D) (by kernel_rfl) (L112 _ false false _ R) ?_)
    intro w hI
    refine pu (iv D) rfl (pu (iv 0) rfl (seq_nil (wp_ret ?_)))
    replace hF:=Option.some.inj hF; subst hF
    exact ⟨.tuple #[iv D,iv 0],Ret.r2 rfl rfl rfl,⟨rfl,hI.below⟩⟩
 ·
  refine seq_c (s_neq rfl rfl (fun _=>?_) (fun h=>absurd h u))
  refine seq_nil (wp_condT rfl (wp_seq (rgn rfl (pu (iv a.2.2) rfl (pu (iv 0) rfl (pu (iv a.2.2) rfl (seq_nil (wp_ret ?_))))))))
  replace hF:=Option.some.inj hF; subst hF
  exact ⟨.tuple #[iv 0,iv a.2.2],Ret.r2 rfl rfl rfl,⟨rfl,hI.below⟩⟩


theorem L49 (w0:World) (g:Int) (i:Int) (j:Option Addr) (k:Nat) (d:List Ld) (l:Option Addr) (m:Nat) (e:List Ld) (o:Option Addr) (p:Nat) (f:List Sp) (q:Int) (s:Int) (t:Int) (C:Cells w0 j (flat eLd d)) (D:d.length≤9223372036854775807) (E:d.length≤k) (F:Cells w0 l (flat eLd e)) (G:e.length≤9223372036854775807) (H:e.length≤m) (I:Cells w0 o (flat eSp f)) (J:f.length≤9223372036854775807) (K:f.length≤p) (r:(Bool × Int)) (hF:F49 g i d e f q s t=some r):Does Tryz.prog 49 [.agg #[.int .i64 g,.int .i64 i,.slice j d.length k,.slice l e.length m,.slice o f.length p,.int .i64 q],.int .i64 s,.int .i64 t] w0 fun v w=>v=.tuple #[.bool r.1,.int .i64 r.2]∧Below w0.heap.size w0 w:=by
 refine calls_of (n:=21) Tryz.func49 rfl Tryz.ntmps49 rfl ?_
 have hI:=Inv.start w0
 unfold F49 at hF
 refine wp_seq (rgn rfl (seq_c (s_boxI hI [iv g,iv i,.slice j d.length k,.slice l e.length m,.slice o f.length p,iv q] rfl ?_)))
 intro W w hI
 refine pu (.bool false) rfl (pu (iv 0) rfl (seq_nil (wp_seq (wp_seq (rgn rfl (seq_c (s_loadK hI 0 6 [iv g,iv i,.slice j d.length k,.slice l e.length m,.slice o f.length p,iv q] Tryz.isAgg28 Tryz.sizeOf28 rfl rfl rfl rfl ?_)))))))
 refine pu (iv s) rfl (pu (iv t) rfl (bindE hF (fun u T hF=>?_)))
 refine seq_c (s_callv hI 97 [.agg #[iv g,iv i,.slice j d.length k,.slice l e.length m,.slice o f.length p,iv q],iv s,iv t] (iv u) (by kernel_rfl) (L97 _ g i j k d l m e o p f q s t (C.inv0 hI) D E (F.inv0 hI) G H (I.inv0 hI) J K _ T) ?_)
 intro w hI
 refine pu (iv u) rfl (seq_nil (wp_seq (rgn rfl (pu (iv u) rfl (ifE hF (fun h8 hF=>?_) (fun h8 hF=>?_))))))
 ·
  refine seq_c (s_neq rfl rfl (fun h=>absurd h8 h) (fun _=>?_))
  refine seq_nil (wp_condF rfl (wp_skip (wp_seq (rgn rfl (seq_c (s_loadK hI 0 6 [iv g,iv i,.slice j d.length k,.slice l e.length m,.slice o f.length p,iv q] Tryz.isAgg28 Tryz.sizeOf28 rfl rfl rfl rfl ?_))))))
  refine pu (iv t) rfl (bindE hF (fun a U hF=>?_))
  refine seq_c (s_call 86 [.agg #[iv g,iv i,.slice j d.length k,.slice l e.length m,.slice o f.length p,iv q],iv t] (by kernel_rfl) (L86 _ g i j k d l m e o p f q t (C.inv0 hI) D E (F.inv0 hI) G H (I.inv0 hI) J K _ U) ?_)
  rintro v w ⟨L,M,X,N,O,Y,P,Q,Z,R,S,a0,rfl,hN,x,y,z,A⟩
  have hI:=hI.join hN; clear hN
  refine pu (iv s) rfl (bindE hF (fun B V hF=>?_))
  refine seq_c (s_callv hI 116 [.agg #[iv a.1,iv a.2.1,slv L a.2.2.1.length M,slv N a.2.2.2.1.length O,slv P a.2.2.2.2.1.length Q,iv a.2.2.2.2.2.1,slv R a.2.2.2.2.2.2.length S],iv s] (.bool B) (by kernel_rfl) (L116 _ a.1 a.2.1 (L.map fun b=>⟨b,0,none⟩) M a.2.2.1 (N.map fun b=>⟨b,0,none⟩) O a.2.2.2.1 (P.map fun b=>⟨b,0,none⟩) Q a.2.2.2.2.1 a.2.2.2.2.2.1 (R.map fun b=>⟨b,0,none⟩) S a.2.2.2.2.2.2 s (hI.rowCells 0 rfl x) (len_le rfl x.big) (len_le rfl x.cap) (hI.rowCells 1 rfl y) (len_le rfl y.big) (len_le rfl y.cap) (hI.rowCells 2 rfl z) (len_le rfl z.big) (len_le rfl z.cap) (hI.rowCells 3 rfl A) (len_le rfl A.big) (len_le rfl A.cap) _ V) ?_)
  intro w hI
  refine pu (.bool B) rfl (pu (iv 0) rfl (seq_nil (wp_ret ?_)))
  replace hF:=Option.some.inj hF; subst hF
  exact ⟨.tuple #[.bool B,iv 0],Ret.r2 rfl rfl rfl,⟨rfl,hI.below⟩⟩
 ·
  refine seq_c (s_neq rfl rfl (fun _=>?_) (fun h=>absurd h h8))
  refine seq_nil (wp_condT rfl (wp_seq (rgn rfl (pu (iv u) rfl (pu (.bool false) rfl (pu (iv u) rfl (seq_nil (wp_ret ?_))))))))
  replace hF:=Option.some.inj hF; subst hF
  exact ⟨.tuple #[.bool false,iv u],Ret.r2 rfl rfl rfl,⟨rfl,hI.below⟩⟩


theorem L51 (w0:World) (J:Int) (K:Int) (L:Option Addr) (M:Nat) (C:List Ld) (N:Option Addr) (O:Nat) (D:List Ld) (P:Option Addr) (Q:Nat) (E:List Sp) (R:Int) (z:Int) (p2:Int) (b9:Cells w0 L (flat eLd C)) (bA:C.length≤9223372036854775807) (bB:C.length≤M) (bC:Cells w0 N (flat eLd D)) (bD:D.length≤9223372036854775807) (bE:D.length≤O) (bF:Cells w0 P (flat eSp E)) (bG:E.length≤9223372036854775807) (bH:E.length≤Q) (r:(Int × Int)) (hF:F51 J K C D E R z p2=some r):Does Tryz.prog 51 [.agg #[.int .i64 J,.int .i64 K,.slice L C.length M,.slice N D.length O,.slice P E.length Q,.int .i64 R],.int .i64 z,.int .i64 p2] w0 fun v w=>v=.tuple #[.int .i64 r.1,.int .i64 r.2]∧Below w0.heap.size w0 w:=by
 refine calls_of (n:=67) Tryz.func51 rfl Tryz.ntmps51 rfl ?_
 have hI:=Inv.start w0
 unfold F51 at hF
 refine wp_seq (rgn rfl (seq_c (s_boxI hI [iv J,iv K,.slice L C.length M,.slice N D.length O,.slice P E.length Q,iv R] rfl ?_)))
 intro bI w hI
 refine pu (iv 0) rfl (pu (iv 0) rfl (seq_nil (wp_seq (wp_seq (rgn rfl (seq_c (s_loadK hI 0 6 [iv J,iv K,.slice L C.length M,.slice N D.length O,.slice P E.length Q,iv R] Tryz.isAgg28 Tryz.sizeOf28 rfl rfl rfl rfl ?_)))))))
 refine pu (iv z) rfl (pu (iv p2) rfl (bindE hF (fun aA bV hF=>?_)))
 refine seq_c (s_callv hI 97 [.agg #[iv J,iv K,.slice L C.length M,.slice N D.length O,.slice P E.length Q,iv R],iv z,iv p2] (iv aA) (by kernel_rfl) (L97 _ J K L M C N O D P Q E R z p2 (b9.inv0 hI) bA bB (bC.inv0 hI) bD bE (bF.inv0 hI) bG bH _ bV) ?_)
 intro w hI
 refine pu (iv aA) rfl (seq_nil (wp_seq (rgn rfl (pu (iv aA) rfl (ifE hF (fun aO hF=>?_) (fun aO hF=>?_))))))
 ·
  refine seq_c (s_neq rfl rfl (fun h=>absurd aO h) (fun _=>?_))
  refine seq_nil (wp_condF rfl (wp_skip (wp_seq (rgn rfl (seq_c (s_loadK hI 0 6 [iv J,iv K,.slice L C.length M,.slice N D.length O,.slice P E.length Q,iv R] Tryz.isAgg28 Tryz.sizeOf28 rfl rfl rfl rfl ?_))))))
  refine pu (iv p2) rfl (bindE hF (fun a bW hF=>?_))
  refine seq_c (s_call 86 [.agg #[iv J,iv K,.slice L C.length M,.slice N D.length O,.slice P E.length Q,iv R],iv p2] (by kernel_rfl) (L86 _ J K L M C N O D P Q E R p2 (b9.inv0 hI) bA bB (bC.inv0 hI) bD bE (bF.inv0 hI) bG bH _ bW) ?_)
  rintro v w ⟨d,i,F,o,u,S,e,j,G,f,l,H,rfl,hN,p,x,q,s⟩
  have hI:=hI.join hN; clear hN
  refine seq_c (s_allocI hI [iv 0,iv 0,.slice none 0 0,.slice none 0 0,.slice none 0 0,iv 0,.slice none 0 0] Tryz.zeroValue116 rfl ?_)
  intro U w hI
  refine seq_c (s_store hI 0 7 [iv a.1,iv a.2.1,slv d a.2.2.1.length i,slv o a.2.2.2.1.length u,slv e a.2.2.2.2.1.length j,iv a.2.2.2.2.2.1,slv f a.2.2.2.2.2.2.length l] Tryz.sizeOf116 rfl rfl rfl rfl rfl (Nat.le_of_ble_eq_true rfl) ?_)
  intro w hI
  refine seq_nil (wp_seq (wp_seq (rgn rfl (seq_c (s_loadK hI 0 7 [iv a.1,iv a.2.1,slv d a.2.2.1.length i,slv o a.2.2.2.1.length u,slv e a.2.2.2.2.1.length j,iv a.2.2.2.2.2.1,slv f a.2.2.2.2.2.2.length l] Tryz.isAgg116 Tryz.sizeOf116 rfl rfl rfl rfl ?_)))))
  refine bindE hF (fun c7 bJ hF=>?_)
  refine ifE hF (fun aP hF=>?_) (fun aP hF=>?_)
  ·
   refine seq_c (s_callv hI 87 [.agg #[iv a.1,iv a.2.1,slv d a.2.2.1.length i,slv o a.2.2.2.1.length u,slv e a.2.2.2.2.1.length j,iv a.2.2.2.2.2.1,slv f a.2.2.2.2.2.2.length l]] (.bool true) (by kernel_rfl) (Does.mono (L87 _ a.1 a.2.1 (d.map fun b=>⟨b,0,none⟩) i a.2.2.1 (o.map fun b=>⟨b,0,none⟩) u a.2.2.2.1 (e.map fun b=>⟨b,0,none⟩) j a.2.2.2.2.1 a.2.2.2.2.2.1 (f.map fun b=>⟨b,0,none⟩) l a.2.2.2.2.2.2 (hI.rowCells 1 rfl p) (len_le rfl p.big) (len_le rfl p.cap) (hI.rowCells 2 rfl x) (len_le rfl x.big) (len_le rfl x.cap) (hI.rowCells 3 rfl q) (len_le rfl q.big) (len_le rfl q.cap) (hI.rowCells 4 rfl s) (len_le rfl s.big) (len_le rfl s.cap) _ bJ) (fun v' w' h=>⟨h.1.trans (congrArg Value.bool aP),h.2⟩)) ?_)
   intro w hI
   refine pu (.bool false) rfl (seq_nil (wp_condF rfl (wp_skip (wp_seq (wp_seq (rgn rfl (seq_c (s_loadK hI 0 7 [iv a.1,iv a.2.1,slv d a.2.2.1.length i,slv o a.2.2.2.1.length u,slv e a.2.2.2.2.1.length j,iv a.2.2.2.2.2.1,slv f a.2.2.2.2.2.2.length l] Tryz.isAgg116 Tryz.sizeOf116 rfl rfl rfl rfl ?_))))))))
   refine pu (iv z) rfl (bindE hF (fun c8 bK hF=>?_))
   refine ifE hF (fun aQ hF=>?_) (fun aQ hF=>?_)
   ·
    refine seq_c (s_callv hI 116 [.agg #[iv a.1,iv a.2.1,slv d a.2.2.1.length i,slv o a.2.2.2.1.length u,slv e a.2.2.2.2.1.length j,iv a.2.2.2.2.2.1,slv f a.2.2.2.2.2.2.length l],iv z] (.bool true) (by kernel_rfl) (Does.mono (L116 _ a.1 a.2.1 (d.map fun b=>⟨b,0,none⟩) i a.2.2.1 (o.map fun b=>⟨b,0,none⟩) u a.2.2.2.1 (e.map fun b=>⟨b,0,none⟩) j a.2.2.2.2.1 a.2.2.2.2.2.1 (f.map fun b=>⟨b,0,none⟩) l a.2.2.2.2.2.2 z (hI.rowCells 1 rfl p) (len_le rfl p.big) (len_le rfl p.cap) (hI.rowCells 2 rfl x) (len_le rfl x.big) (len_le rfl x.cap) (hI.rowCells 3 rfl q) (len_le rfl q.big) (len_le rfl q.cap) (hI.rowCells 4 rfl s) (len_le rfl s.big) (len_le rfl s.cap) _ bK) (fun v' w' h=>⟨h.1.trans (congrArg Value.bool aQ),h.2⟩)) ?_)
    intro w hI
    refine seq_nil (wp_condT rfl (wp_seq (rgn rfl (pu (iv 0) rfl (pu (iv 0) rfl (seq_nil (wp_ret ?_)))))))
    replace hF:=Option.some.inj hF; subst hF
    exact ⟨.tuple #[iv 0,iv 0],Ret.r2 rfl rfl rfl,⟨rfl,hI.below⟩⟩
   ·
    refine seq_c (s_callv hI 116 [.agg #[iv a.1,iv a.2.1,slv d a.2.2.1.length i,slv o a.2.2.2.1.length u,slv e a.2.2.2.2.1.length j,iv a.2.2.2.2.2.1,slv f a.2.2.2.2.2.2.length l],iv z] (.bool false) (by kernel_rfl) (Does.mono (L116 _ a.1 a.2.1 (d.map fun b=>⟨b,0,none⟩) i a.2.2.1 (o.map fun b=>⟨b,0,none⟩) u a.2.2.2.1 (e.map fun b=>⟨b,0,none⟩) j a.2.2.2.2.1 a.2.2.2.2.2.1 (f.map fun b=>⟨b,0,none⟩) l a.2.2.2.2.2.2 z (hI.rowCells 1 rfl p) (len_le rfl p.big) (len_le rfl p.cap) (hI.rowCells 2 rfl x) (len_le rfl x.big) (len_le rfl x.cap) (hI.rowCells 3 rfl q) (len_le rfl q.big) (len_le rfl q.cap) (hI.rowCells 4 rfl s) (len_le rfl s.big) (len_le rfl s.cap) _ bK) (fun v' w' h=>⟨h.1.trans (congrArg Value.bool (Bool.eq_false_iff.2 aQ)),h.2⟩)) ?_)
    intro w hI
    refine seq_nil (wp_condF rfl (wp_skip (wp_seq (rgn rfl (pu (.agg #[iv 0,iv 0]) (by kernel_rfl) (pu (.agg #[iv 1,iv 10000]) (by kernel_rfl) (seq_c (s_allocI hI [iv 0,iv 0] Tryz.zeroValue23 rfl ?_))))))))
    intro a3 w hI
    refine seq_c (s_allocI hI [iv 0,iv 0] Tryz.zeroValue23 rfl ?_)
    intro a4 w hI
    refine seq_c (s_store hI 1 2 [iv 0,iv 0] Tryz.sizeOf23 rfl rfl rfl rfl rfl (Nat.le_of_ble_eq_true rfl) ?_)
    intro w hI
    refine seq_c (s_store hI 0 2 [iv 1,iv 10000] Tryz.sizeOf23 rfl rfl rfl rfl rfl (Nat.le_of_ble_eq_true rfl) ?_)
    intro w hI
    refine seq_nil (wp_cutO (fun ρ w=>∃ (aF:Nat) (a5:Option Nat) (a6:Nat) (aH:List Value) (a7:Int) (a8:Int) (W:List Ld) (a9:Int) (aG:Bool),Agree ρ [(1,iv z),(9,.pointer (some ⟨U,0,none⟩)),(10,.pointer (some ⟨a3,0,none⟩)),(11,.pointer (some ⟨a4,0,none⟩)),(12,.pointer (some ⟨aF,0,none⟩)),(13,.bool aG)]∧Inv [] w0 w [(some U,blk [iv a.1,iv a.2.1,slv d a.2.2.1.length i,slv o a.2.2.2.1.length u,slv e a.2.2.2.2.1.length j,iv a.2.2.2.2.2.1,slv f a.2.2.2.2.2.2.length l] 116),(d,blk F 30),(o,blk S 31),(e,blk G 33),(f,blk H 30),(some a3,blk [iv 0,iv 0] 23),(some a4,blk [iv 1,iv 10000] 23),(some aF,blk [iv a7,iv a8,slv d a.2.2.1.length i,slv a5 W.length a6,slv e a.2.2.2.2.1.length j,iv a9,slv f a.2.2.2.2.2.2.length l] 116),(a5,blk aH 31)]∧(Row 6 a5 (W.length) a6 aH (flat eLd W))∧F51j1 z a a7 a8 W a9 aG=some r) ?_ ?_)
    ·
     refine bindE hF (fun m bL hF=>?_)
     refine bindE hF (fun t bM hF=>?_)
     refine bindE hF (fun c9 bN hF=>?_)
     refine ifE hF (fun aR hF=>?_) (fun aR hF=>?_)
     ·
      refine wp_toks [tr (fun _=>(.agg #[iv a.1,iv a.2.1,slv d a.2.2.1.length i,slv o a.2.2.2.1.length u,slv e a.2.2.2.2.1.length j,iv a.2.2.2.2.2.1,slv f a.2.2.2.2.2.2.length l])) [14],tv (fun _=>(iv z)),tr (fun _=>(.agg #[iv 0,iv 0])) [13],⟨fun y=>(.agg #[iv m.1,iv m.2.1,slv d a.2.2.1.length i,slv ((y 3).g 0) m.2.2.1.length ((y 3).c 0),slv e a.2.2.2.2.1.length j,iv m.2.2.2,slv f a.2.2.2.2.2.2.length l]),fun y=>[(((y 3).g 0),blk ((y 3).cl 0) 31)],fun y=>(Row 6 ((y 3).g 0) m.2.2.1.length ((y 3).c 0) ((y 3).cl 0) (flat eLd m.2.2.1)),[],[15,16,17,18]⟩,tr (fun _=>(.agg #[iv a.1,iv a.2.1,slv d a.2.2.1.length i,slv o a.2.2.2.1.length u,slv e a.2.2.2.2.1.length j,iv a.2.2.2.2.2.1,slv f a.2.2.2.2.2.2.length l])) [14],tv (fun _=>(iv z)),tr (fun _=>(.agg #[iv 1,iv 10000])) [12],⟨fun y=>(.agg #[iv t.1,iv t.2.1,slv d a.2.2.1.length i,slv ((y 7).g 0) t.2.2.1.length ((y 7).c 0),slv e a.2.2.2.2.1.length j,iv t.2.2.2,slv f a.2.2.2.2.2.2.length l]),fun y=>[(((y 7).g 0),blk ((y 7).cl 0) 31)],fun y=>(Row 6 ((y 7).g 0) t.2.2.1.length ((y 7).c 0) ((y 7).cl 0) (flat eLd t.2.2.1)),[],[15,16,17,18]⟩,tr (fun _=>(.bool true)) [7,15,17,18],tal 9 [iv 0,iv 0,.slice none 0 0,.slice none 0 0,.slice none 0 0,iv 0,.slice none 0 0] 116,tst (fun y=>[(some (y 9).b,blk [iv m.1,iv m.2.1,slv d a.2.2.1.length i,slv ((y 3).g 0) m.2.2.1.length ((y 3).c 0),slv e a.2.2.2.2.1.length j,iv m.2.2.2,slv f a.2.2.2.2.2.2.length l] 116)]) 9,tv (fun _=>(.bool true))] (fun y=>[(1,iv z),(9,.pointer (some ⟨U,0,none⟩)),(10,.pointer (some ⟨a3,0,none⟩)),(11,.pointer (some ⟨a4,0,none⟩)),(12,.pointer (some ⟨(y 9).b,0,none⟩)),(13,.bool true)]) (fun y=>[(((y 3).g 0),blk ((y 3).cl 0) 31),(((y 7).g 0),blk ((y 7).cl 0) 31),(some (y 9).b,blk [iv m.1,iv m.2.1,slv d a.2.2.1.length i,slv ((y 3).g 0) m.2.2.1.length ((y 3).c 0),slv e a.2.2.2.2.1.length j,iv m.2.2.2,slv f a.2.2.2.2.2.2.length l] 116),(some a4,blk [iv 1,iv 10000] 23),(some a3,blk [iv 0,iv 0] 23),(some U,blk [iv a.1,iv a.2.1,slv d a.2.2.1.length i,slv o a.2.2.2.1.length u,slv e a.2.2.2.2.1.length j,iv a.2.2.2.2.2.1,slv f a.2.2.2.2.2.2.length l] 116),(d,blk F 30),(o,blk S 31),(e,blk G 33),(f,blk H 30),(some bI,blk [iv J,iv K,.slice L C.length M,.slice N D.length O,.slice P E.length Q,iv R] 28)]) hI (by kernel_rfl) (fun y=>⟨rfl,rfl⟩) (fun y=>?_) ?_
      ·
       refine tl1 [(some U,blk [iv a.1,iv a.2.1,slv d a.2.2.1.length i,slv o a.2.2.2.1.length u,slv e a.2.2.2.2.1.length j,iv a.2.2.2.2.2.1,slv f a.2.2.2.2.2.2.length l] 116)] rfl rfl (fun X w hI=>s_loadK hI 0 7 [iv a.1,iv a.2.1,slv d a.2.2.1.length i,slv o a.2.2.2.1.length u,slv e a.2.2.2.2.1.length j,iv a.2.2.2.2.2.1,slv f a.2.2.2.2.2.2.length l] Tryz.isAgg116 Tryz.sizeOf116 rfl rfl rfl rfl br) (tp rfl (fun _=>rfl) (tl1 [(some a3,blk [iv 0,iv 0] 23)] rfl rfl (fun X w hI=>s_loadK hI 0 2 [iv 0,iv 0] Tryz.isAgg23 Tryz.sizeOf23 rfl rfl rfl rfl br) (tg (.agg #[iv m.1,iv m.2.1,slv d a.2.2.1.length i,slv ((y 3).g 0) m.2.2.1.length ((y 3).c 0),slv e a.2.2.2.2.1.length j,iv m.2.2.2,slv f a.2.2.2.2.2.2.length l]) [(d,blk F 30),(o,blk S 31),(e,blk G 33),(f,blk H 30)] [(d,blk F 30),(o,blk S 31),(e,blk G 33),(f,blk H 30)] rfl ⟨rfl,rfl,rfl⟩ ?_ ?_)))
       ·intro hp X w hI
        refine s_call 118 [.agg #[iv a.1,iv a.2.1,slv d a.2.2.1.length i,slv o a.2.2.2.1.length u,slv e a.2.2.2.2.1.length j,iv a.2.2.2.2.2.1,slv f a.2.2.2.2.2.2.length l],iv z,.agg #[iv 0,iv 0]] (by kernel_rfl) (L118 _ a.1 a.2.1 (d.map fun b=>⟨b,0,none⟩) i a.2.2.1 (o.map fun b=>⟨b,0,none⟩) u a.2.2.2.1 (e.map fun b=>⟨b,0,none⟩) j a.2.2.2.2.1 a.2.2.2.2.2.1 (f.map fun b=>⟨b,0,none⟩) l a.2.2.2.2.2.2 z (⟨0,0⟩:Rg) (hI.rowCells 0 rfl p) (len_le rfl p.big) (len_le rfl p.cap) (hI.rowCells 1 rfl x) (len_le rfl x.big) (len_le rfl x.cap) (hI.rowCells 2 rfl q) (len_le rfl q.big) (len_le rfl q.cap) (hI.rowCells 3 rfl s) (len_le rfl s.big) (len_le rfl s.cap) _ bL) ?_
        rintro v w ⟨aS,aT,aU,rfl,hN,aV⟩
        have hI:=hI.join hN; clear hN
        exact ⟨wit 0 [aS] [aT] [aU] [],rfl,Eq.mp rfl aV,hI.castL rfl⟩
       refine tl1 [(some U,blk [iv a.1,iv a.2.1,slv d a.2.2.1.length i,slv o a.2.2.2.1.length u,slv e a.2.2.2.2.1.length j,iv a.2.2.2.2.2.1,slv f a.2.2.2.2.2.2.length l] 116)] rfl rfl (fun X w hI=>s_loadK hI 0 7 [iv a.1,iv a.2.1,slv d a.2.2.1.length i,slv o a.2.2.2.1.length u,slv e a.2.2.2.2.1.length j,iv a.2.2.2.2.2.1,slv f a.2.2.2.2.2.2.length l] Tryz.isAgg116 Tryz.sizeOf116 rfl rfl rfl rfl br) (tp rfl (fun _=>rfl) (tl1 [(some a4,blk [iv 1,iv 10000] 23)] rfl rfl (fun X w hI=>s_loadK hI 0 2 [iv 1,iv 10000] Tryz.isAgg23 Tryz.sizeOf23 rfl rfl rfl rfl br) (tg (.agg #[iv t.1,iv t.2.1,slv d a.2.2.1.length i,slv ((y 7).g 0) t.2.2.1.length ((y 7).c 0),slv e a.2.2.2.2.1.length j,iv t.2.2.2,slv f a.2.2.2.2.2.2.length l]) [(d,blk F 30),(o,blk S 31),(e,blk G 33),(f,blk H 30)] [(d,blk F 30),(o,blk S 31),(e,blk G 33),(f,blk H 30)] rfl ⟨rfl,rfl,rfl⟩ ?_ ?_)))
       ·intro hp X w hI
        refine s_call 118 [.agg #[iv a.1,iv a.2.1,slv d a.2.2.1.length i,slv o a.2.2.2.1.length u,slv e a.2.2.2.2.1.length j,iv a.2.2.2.2.2.1,slv f a.2.2.2.2.2.2.length l],iv z,.agg #[iv 1,iv 10000]] (by kernel_rfl) (L118 _ a.1 a.2.1 (d.map fun b=>⟨b,0,none⟩) i a.2.2.1 (o.map fun b=>⟨b,0,none⟩) u a.2.2.2.1 (e.map fun b=>⟨b,0,none⟩) j a.2.2.2.2.1 a.2.2.2.2.2.1 (f.map fun b=>⟨b,0,none⟩) l a.2.2.2.2.2.2 z (⟨1,10000⟩:Rg) (hI.rowCells 0 rfl p) (len_le rfl p.big) (len_le rfl p.cap) (hI.rowCells 1 rfl x) (len_le rfl x.big) (len_le rfl x.cap) (hI.rowCells 2 rfl q) (len_le rfl q.big) (len_le rfl q.cap) (hI.rowCells 3 rfl s) (len_le rfl s.big) (len_le rfl s.cap) _ bM) ?_
        rintro v w ⟨bO,bP,bQ,rfl,hN,aB⟩
        have hI:=hI.join hN; clear hN
        exact ⟨wit 0 [bO] [bP] [bQ] [],rfl,Eq.mp rfl aB,hI.castL rfl⟩
       refine tl (.bool true) [(((y 7).g 0),blk ((y 7).cl 0) 31),(d,blk F 30),(e,blk G 33),(f,blk H 30)] rfl ⟨rfl,rfl⟩ ?_ ?_
       ·intro hp X w hI
        have aB:Row 6 ((y 7).g 0) t.2.2.1.length ((y 7).c 0) ((y 7).cl 0) (flat eLd t.2.2.1):=pg hp (k:=7) ⟨rfl,rfl⟩
        exact s_call 87 [.agg #[iv t.1,iv t.2.1,slv d a.2.2.1.length i,slv ((y 7).g 0) t.2.2.1.length ((y 7).c 0),slv e a.2.2.2.2.1.length j,iv t.2.2.2,slv f a.2.2.2.2.2.2.length l]] (by kernel_rfl) (Does.mono (L87 _ t.1 t.2.1 (d.map fun b=>⟨b,0,none⟩) i a.2.2.1 (((y 7).g 0).map fun b=>⟨b,0,none⟩) ((y 7).c 0) t.2.2.1 (e.map fun b=>⟨b,0,none⟩) j a.2.2.2.2.1 t.2.2.2 (f.map fun b=>⟨b,0,none⟩) l a.2.2.2.2.2.2 (hI.rowCells 1 rfl p) (len_le rfl p.big) (len_le rfl p.cap) (hI.rowCells 0 rfl aB) (len_le rfl aB.big) (len_le rfl aB.cap) (hI.rowCells 2 rfl q) (len_le rfl q.big) (len_le rfl q.cap) (hI.rowCells 3 rfl s) (len_le rfl s.big) (len_le rfl s.cap) _ bN) (fun v' w' h=>⟨h.1.trans (congrArg Value.bool aR),h.2⟩)) (fun v' w' h=>h)
       refine tA rfl Tryz.zeroValue116 rfl (tS [(some (y 9).b,blk [iv 0,iv 0,.slice none 0 0,.slice none 0 0,.slice none 0 0,iv 0,.slice none 0 0] 116)] rfl ⟨rfl,rfl⟩ (fun X w hI=>s_store hI 0 7 [iv m.1,iv m.2.1,slv d a.2.2.1.length i,slv ((y 3).g 0) m.2.2.1.length ((y 3).c 0),slv e a.2.2.2.2.1.length j,iv m.2.2.2,slv f a.2.2.2.2.2.2.length l] Tryz.sizeOf116 rfl rfl rfl rfl rfl (Nat.le_of_ble_eq_true rfl) fun w hI=>⟨rfl,hI.castL rfl⟩) (tp rfl (fun _=>rfl) ?_))
       exact tn
      intro y hp ρ w hag hI
      have aV:Row 6 ((y 3).g 0) m.2.2.1.length ((y 3).c 0) ((y 3).cl 0) (flat eLd m.2.2.1):=pgl hp (k:=3) (by decide) rfl
      have aB:Row 6 ((y 7).g 0) t.2.2.1.length ((y 7).c 0) ((y 7).cl 0) (flat eLd t.2.2.1):=pgl hp (k:=7) (by decide) rfl
      clear hp
      generalize (y 3).g 0=aS at *
      generalize (y 3).c 0=aT at *
      generalize (y 3).cl 0=aU at *
      generalize (y 7).g 0=bO at *
      generalize (y 7).c 0=bP at *
      generalize (y 7).cl 0=bQ at *
      generalize (y 9).b=bX at *
      obtain ⟨ρ,rfl⟩:=hag.form; clear hag
      exact .inl ⟨rfl,⟨bX,aS,aT,aU,m.1,m.2.1,m.2.2.1,m.2.2.2,true,⟨rfl,rfl,rfl,rfl,rfl,rfl,trivial⟩,hI.pickL [5,6,7,8,9,4,3,2,0] (by decide) rfl,(aV.to rfl rfl),hF⟩⟩
     ·
      refine wp_toks [tr (fun _=>(.agg #[iv a.1,iv a.2.1,slv d a.2.2.1.length i,slv o a.2.2.2.1.length u,slv e a.2.2.2.2.1.length j,iv a.2.2.2.2.2.1,slv f a.2.2.2.2.2.2.length l])) [14],tv (fun _=>(iv z)),tr (fun _=>(.agg #[iv 0,iv 0])) [13],⟨fun y=>(.agg #[iv m.1,iv m.2.1,slv d a.2.2.1.length i,slv ((y 3).g 0) m.2.2.1.length ((y 3).c 0),slv e a.2.2.2.2.1.length j,iv m.2.2.2,slv f a.2.2.2.2.2.2.length l]),fun y=>[(((y 3).g 0),blk ((y 3).cl 0) 31)],fun y=>(Row 6 ((y 3).g 0) m.2.2.1.length ((y 3).c 0) ((y 3).cl 0) (flat eLd m.2.2.1)),[],[15,16,17,18]⟩,tr (fun _=>(.agg #[iv a.1,iv a.2.1,slv d a.2.2.1.length i,slv o a.2.2.2.1.length u,slv e a.2.2.2.2.1.length j,iv a.2.2.2.2.2.1,slv f a.2.2.2.2.2.2.length l])) [14],tv (fun _=>(iv z)),tr (fun _=>(.agg #[iv 1,iv 10000])) [12],⟨fun y=>(.agg #[iv t.1,iv t.2.1,slv d a.2.2.1.length i,slv ((y 7).g 0) t.2.2.1.length ((y 7).c 0),slv e a.2.2.2.2.1.length j,iv t.2.2.2,slv f a.2.2.2.2.2.2.length l]),fun y=>[(((y 7).g 0),blk ((y 7).cl 0) 31)],fun y=>(Row 6 ((y 7).g 0) t.2.2.1.length ((y 7).c 0) ((y 7).cl 0) (flat eLd t.2.2.1)),[],[15,16,17,18]⟩,tr (fun _=>(.bool false)) [7,15,17,18],tal 9 [iv 0,iv 0,.slice none 0 0,.slice none 0 0,.slice none 0 0,iv 0,.slice none 0 0] 116,tst (fun y=>[(some (y 9).b,blk [iv m.1,iv m.2.1,slv d a.2.2.1.length i,slv ((y 3).g 0) m.2.2.1.length ((y 3).c 0),slv e a.2.2.2.2.1.length j,iv m.2.2.2,slv f a.2.2.2.2.2.2.length l] 116)]) 9,tv (fun _=>(.bool false))] (fun y=>[(1,iv z),(9,.pointer (some ⟨U,0,none⟩)),(10,.pointer (some ⟨a3,0,none⟩)),(11,.pointer (some ⟨a4,0,none⟩)),(12,.pointer (some ⟨(y 9).b,0,none⟩)),(13,.bool false)]) (fun y=>[(((y 3).g 0),blk ((y 3).cl 0) 31),(((y 7).g 0),blk ((y 7).cl 0) 31),(some (y 9).b,blk [iv m.1,iv m.2.1,slv d a.2.2.1.length i,slv ((y 3).g 0) m.2.2.1.length ((y 3).c 0),slv e a.2.2.2.2.1.length j,iv m.2.2.2,slv f a.2.2.2.2.2.2.length l] 116),(some a4,blk [iv 1,iv 10000] 23),(some a3,blk [iv 0,iv 0] 23),(some U,blk [iv a.1,iv a.2.1,slv d a.2.2.1.length i,slv o a.2.2.2.1.length u,slv e a.2.2.2.2.1.length j,iv a.2.2.2.2.2.1,slv f a.2.2.2.2.2.2.length l] 116),(d,blk F 30),(o,blk S 31),(e,blk G 33),(f,blk H 30),(some bI,blk [iv J,iv K,.slice L C.length M,.slice N D.length O,.slice P E.length Q,iv R] 28)]) hI (by kernel_rfl) (fun y=>⟨rfl,rfl⟩) (fun y=>?_) ?_
      ·
       refine tl1 [(some U,blk [iv a.1,iv a.2.1,slv d a.2.2.1.length i,slv o a.2.2.2.1.length u,slv e a.2.2.2.2.1.length j,iv a.2.2.2.2.2.1,slv f a.2.2.2.2.2.2.length l] 116)] rfl rfl (fun X w hI=>s_loadK hI 0 7 [iv a.1,iv a.2.1,slv d a.2.2.1.length i,slv o a.2.2.2.1.length u,slv e a.2.2.2.2.1.length j,iv a.2.2.2.2.2.1,slv f a.2.2.2.2.2.2.length l] Tryz.isAgg116 Tryz.sizeOf116 rfl rfl rfl rfl br) (tp rfl (fun _=>rfl) (tl1 [(some a3,blk [iv 0,iv 0] 23)] rfl rfl (fun X w hI=>s_loadK hI 0 2 [iv 0,iv 0] Tryz.isAgg23 Tryz.sizeOf23 rfl rfl rfl rfl br) (tg (.agg #[iv m.1,iv m.2.1,slv d a.2.2.1.length i,slv ((y 3).g 0) m.2.2.1.length ((y 3).c 0),slv e a.2.2.2.2.1.length j,iv m.2.2.2,slv f a.2.2.2.2.2.2.length l]) [(d,blk F 30),(o,blk S 31),(e,blk G 33),(f,blk H 30)] [(d,blk F 30),(o,blk S 31),(e,blk G 33),(f,blk H 30)] rfl ⟨rfl,rfl,rfl⟩ ?_ ?_)))
       ·intro hp X w hI
        refine s_call 118 [.agg #[iv a.1,iv a.2.1,slv d a.2.2.1.length i,slv o a.2.2.2.1.length u,slv e a.2.2.2.2.1.length j,iv a.2.2.2.2.2.1,slv f a.2.2.2.2.2.2.length l],iv z,.agg #[iv 0,iv 0]] (by kernel_rfl) (L118 _ a.1 a.2.1 (d.map fun b=>⟨b,0,none⟩) i a.2.2.1 (o.map fun b=>⟨b,0,none⟩) u a.2.2.2.1 (e.map fun b=>⟨b,0,none⟩) j a.2.2.2.2.1 a.2.2.2.2.2.1 (f.map fun b=>⟨b,0,none⟩) l a.2.2.2.2.2.2 z (⟨0,0⟩:Rg) (hI.rowCells 0 rfl p) (len_le rfl p.big) (len_le rfl p.cap) (hI.rowCells 1 rfl x) (len_le rfl x.big) (len_le rfl x.cap) (hI.rowCells 2 rfl q) (len_le rfl q.big) (len_le rfl q.cap) (hI.rowCells 3 rfl s) (len_le rfl s.big) (len_le rfl s.cap) _ bL) ?_
        rintro v w ⟨aW,aX,aY,rfl,hN,aZ⟩
        have hI:=hI.join hN; clear hN
        exact ⟨wit 0 [aW] [aX] [aY] [],rfl,Eq.mp rfl aZ,hI.castL rfl⟩
       refine tl1 [(some U,blk [iv a.1,iv a.2.1,slv d a.2.2.1.length i,slv o a.2.2.2.1.length u,slv e a.2.2.2.2.1.length j,iv a.2.2.2.2.2.1,slv f a.2.2.2.2.2.2.length l] 116)] rfl rfl (fun X w hI=>s_loadK hI 0 7 [iv a.1,iv a.2.1,slv d a.2.2.1.length i,slv o a.2.2.2.1.length u,slv e a.2.2.2.2.1.length j,iv a.2.2.2.2.2.1,slv f a.2.2.2.2.2.2.length l] Tryz.isAgg116 Tryz.sizeOf116 rfl rfl rfl rfl br) (tp rfl (fun _=>rfl) (tl1 [(some a4,blk [iv 1,iv 10000] 23)] rfl rfl (fun X w hI=>s_loadK hI 0 2 [iv 1,iv 10000] Tryz.isAgg23 Tryz.sizeOf23 rfl rfl rfl rfl br) (tg (.agg #[iv t.1,iv t.2.1,slv d a.2.2.1.length i,slv ((y 7).g 0) t.2.2.1.length ((y 7).c 0),slv e a.2.2.2.2.1.length j,iv t.2.2.2,slv f a.2.2.2.2.2.2.length l]) [(d,blk F 30),(o,blk S 31),(e,blk G 33),(f,blk H 30)] [(d,blk F 30),(o,blk S 31),(e,blk G 33),(f,blk H 30)] rfl ⟨rfl,rfl,rfl⟩ ?_ ?_)))
       ·intro hp X w hI
        refine s_call 118 [.agg #[iv a.1,iv a.2.1,slv d a.2.2.1.length i,slv o a.2.2.2.1.length u,slv e a.2.2.2.2.1.length j,iv a.2.2.2.2.2.1,slv f a.2.2.2.2.2.2.length l],iv z,.agg #[iv 1,iv 10000]] (by kernel_rfl) (L118 _ a.1 a.2.1 (d.map fun b=>⟨b,0,none⟩) i a.2.2.1 (o.map fun b=>⟨b,0,none⟩) u a.2.2.2.1 (e.map fun b=>⟨b,0,none⟩) j a.2.2.2.2.1 a.2.2.2.2.2.1 (f.map fun b=>⟨b,0,none⟩) l a.2.2.2.2.2.2 z (⟨1,10000⟩:Rg) (hI.rowCells 0 rfl p) (len_le rfl p.big) (len_le rfl p.cap) (hI.rowCells 1 rfl x) (len_le rfl x.big) (len_le rfl x.cap) (hI.rowCells 2 rfl q) (len_le rfl q.big) (len_le rfl q.cap) (hI.rowCells 3 rfl s) (len_le rfl s.big) (len_le rfl s.cap) _ bM) ?_
        rintro v w ⟨bR,bS,bT,rfl,hN,aC⟩
        have hI:=hI.join hN; clear hN
        exact ⟨wit 0 [bR] [bS] [bT] [],rfl,Eq.mp rfl aC,hI.castL rfl⟩
       refine tl (.bool false) [(((y 7).g 0),blk ((y 7).cl 0) 31),(d,blk F 30),(e,blk G 33),(f,blk H 30)] rfl ⟨rfl,rfl⟩ ?_ ?_
       ·intro hp X w hI
        have aC:Row 6 ((y 7).g 0) t.2.2.1.length ((y 7).c 0) ((y 7).cl 0) (flat eLd t.2.2.1):=pg hp (k:=7) ⟨rfl,rfl⟩
        exact s_call 87 [.agg #[iv t.1,iv t.2.1,slv d a.2.2.1.length i,slv ((y 7).g 0) t.2.2.1.length ((y 7).c 0),slv e a.2.2.2.2.1.length j,iv t.2.2.2,slv f a.2.2.2.2.2.2.length l]] (by kernel_rfl) (Does.mono (L87 _ t.1 t.2.1 (d.map fun b=>⟨b,0,none⟩) i a.2.2.1 (((y 7).g 0).map fun b=>⟨b,0,none⟩) ((y 7).c 0) t.2.2.1 (e.map fun b=>⟨b,0,none⟩) j a.2.2.2.2.1 t.2.2.2 (f.map fun b=>⟨b,0,none⟩) l a.2.2.2.2.2.2 (hI.rowCells 1 rfl p) (len_le rfl p.big) (len_le rfl p.cap) (hI.rowCells 0 rfl aC) (len_le rfl aC.big) (len_le rfl aC.cap) (hI.rowCells 2 rfl q) (len_le rfl q.big) (len_le rfl q.cap) (hI.rowCells 3 rfl s) (len_le rfl s.big) (len_le rfl s.cap) _ bN) (fun v' w' h=>⟨h.1.trans (congrArg Value.bool (Bool.eq_false_iff.2 aR)),h.2⟩)) (fun v' w' h=>h)
       refine tA rfl Tryz.zeroValue116 rfl (tS [(some (y 9).b,blk [iv 0,iv 0,.slice none 0 0,.slice none 0 0,.slice none 0 0,iv 0,.slice none 0 0] 116)] rfl ⟨rfl,rfl⟩ (fun X w hI=>s_store hI 0 7 [iv m.1,iv m.2.1,slv d a.2.2.1.length i,slv ((y 3).g 0) m.2.2.1.length ((y 3).c 0),slv e a.2.2.2.2.1.length j,iv m.2.2.2,slv f a.2.2.2.2.2.2.length l] Tryz.sizeOf116 rfl rfl rfl rfl rfl (Nat.le_of_ble_eq_true rfl) fun w hI=>⟨rfl,hI.castL rfl⟩) (tp rfl (fun _=>rfl) ?_))
       exact tn
      intro y hp ρ w hag hI
      have aZ:Row 6 ((y 3).g 0) m.2.2.1.length ((y 3).c 0) ((y 3).cl 0) (flat eLd m.2.2.1):=pgl hp (k:=3) (by decide) rfl
      have aC:Row 6 ((y 7).g 0) t.2.2.1.length ((y 7).c 0) ((y 7).cl 0) (flat eLd t.2.2.1):=pgl hp (k:=7) (by decide) rfl
      clear hp
      generalize (y 3).g 0=aW at *
      generalize (y 3).c 0=aX at *
      generalize (y 3).cl 0=aY at *
      generalize (y 7).g 0=bR at *
      generalize (y 7).c 0=bS at *
      generalize (y 7).cl 0=bT at *
      generalize (y 9).b=bY at *
      obtain ⟨ρ,rfl⟩:=hag.form; clear hag
      exact .inl ⟨rfl,⟨bY,aW,aX,aY,m.1,m.2.1,m.2.2.1,m.2.2.2,false,⟨rfl,rfl,rfl,rfl,rfl,rfl,trivial⟩,hI.pickL [5,6,7,8,9,4,3,2,0] (by decide) rfl,(aZ.to rfl rfl),hF⟩⟩
    ·intro ρ w hJ
     obtain ⟨aF,a5,a6,aH,a7,a8,W,a9,aG,hag,hI,aI,hF⟩:=hJ
     obtain ⟨ρ,rfl⟩:=hag.form; clear hag
     unfold F51j1 at hF
     refine wp_cutO (fun ρ w=>∃ (V:Option Nat) (Y:Nat) (b0:List Value) (Z:Int) (a0:Int) (T:List Ld) (a1:Int) (aJ:Bool),Agree ρ [(12,.pointer (some ⟨aF,0,none⟩)),(13,.bool aJ)]∧Inv [] w0 w [(some aF,blk [iv Z,iv a0,slv d a.2.2.1.length i,slv V T.length Y,slv e a.2.2.2.2.1.length j,iv a1,slv f a.2.2.2.2.2.2.length l] 116),(d,blk F 30),(V,blk b0 31),(e,blk G 33),(f,blk H 30)]∧(Row 6 V (T.length) Y b0 (flat eLd T))∧F51j2 a Z a0 T a1 aJ=some r) ?_ ?_
     ·
      refine wp_seq (rgn rfl (seq_c (s_loadK hI 0 7 [iv a.1,iv a.2.1,slv d a.2.2.1.length i,slv o a.2.2.2.1.length u,slv e a.2.2.2.2.1.length j,iv a.2.2.2.2.2.1,slv f a.2.2.2.2.2.2.length l] Tryz.isAgg116 Tryz.sizeOf116 rfl rfl rfl rfl ?_)))
      refine pu (iv z) rfl (bindE hF (fun I bZ hF=>?_))
      refine seq_c (s_callv hI 119 [.agg #[iv a.1,iv a.2.1,slv d a.2.2.1.length i,slv o a.2.2.2.1.length u,slv e a.2.2.2.2.1.length j,iv a.2.2.2.2.2.1,slv f a.2.2.2.2.2.2.length l],iv z] (.tuple #[iv I.1,.bool I.2]) (by kernel_rfl) (L119 _ a.1 a.2.1 (d.map fun b=>⟨b,0,none⟩) i a.2.2.1 (o.map fun b=>⟨b,0,none⟩) u a.2.2.2.1 (e.map fun b=>⟨b,0,none⟩) j a.2.2.2.2.1 a.2.2.2.2.2.1 (f.map fun b=>⟨b,0,none⟩) l a.2.2.2.2.2.2 z (hI.rowCells 1 rfl p) (len_le rfl p.big) (len_le rfl p.cap) (hI.rowCells 2 rfl x) (len_le rfl x.big) (len_le rfl x.cap) (hI.rowCells 3 rfl q) (len_le rfl q.big) (len_le rfl q.cap) (hI.rowCells 4 rfl s) (len_le rfl s.big) (len_le rfl s.cap) _ bZ) ?_)
      intro w hI
      refine pu (.tuple #[iv I.1,.bool I.2]) rfl (pu (iv I.1) rfl (pu (.bool I.2) rfl (pu (iv I.1) rfl (pu (.bool I.2) rfl (seq_nil (wp_seq (ifE hF (fun b1 hF=>?_) (fun b1 hF=>?_))))))))
      ·
       rw [b1]
       refine rgn rfl (pu (.bool true) rfl (seq_nil (wp_condT rfl (wp_seq (rgn rfl (seq_c (s_loadK hI 7 7 [iv a7,iv a8,slv d a.2.2.1.length i,slv a5 W.length a6,slv e a.2.2.2.2.1.length j,iv a9,slv f a.2.2.2.2.2.2.length l] Tryz.isAgg116 Tryz.sizeOf116 rfl rfl rfl rfl ?_)))))))
       refine pu (iv I.1) rfl (seq_c (s_loadK hI 6 2 [iv 1,iv 10000] Tryz.isAgg23 Tryz.sizeOf23 rfl rfl rfl rfl ?_))
       refine bindE hF (fun A c0 hF=>?_)
       refine seq_c (s_call 118 [.agg #[iv a7,iv a8,slv d a.2.2.1.length i,slv a5 W.length a6,slv e a.2.2.2.2.1.length j,iv a9,slv f a.2.2.2.2.2.2.length l],iv I.1,.agg #[iv 1,iv 10000]] (by kernel_rfl) (L118 _ a7 a8 (d.map fun b=>⟨b,0,none⟩) i a.2.2.1 (a5.map fun b=>⟨b,0,none⟩) a6 W (e.map fun b=>⟨b,0,none⟩) j a.2.2.2.2.1 a9 (f.map fun b=>⟨b,0,none⟩) l a.2.2.2.2.2.2 I.1 (⟨1,10000⟩:Rg) (hI.rowCells 1 rfl p) (len_le rfl p.big) (len_le rfl p.cap) (hI.rowCells 8 rfl aI) (len_le rfl aI.big) (len_le rfl aI.cap) (hI.rowCells 3 rfl q) (len_le rfl q.big) (len_le rfl q.cap) (hI.rowCells 4 rfl s) (len_le rfl s.big) (len_le rfl s.cap) _ c0) ?_)
       rintro v w ⟨aK,aL,b2,rfl,hN,b3⟩
       have hI:=hI.join hN; clear hN
       refine seq_c (s_store hI 8 7 [iv A.1,iv A.2.1,slv d a.2.2.1.length i,slv aK A.2.2.1.length aL,slv e a.2.2.2.2.1.length j,iv A.2.2.2,slv f a.2.2.2.2.2.2.length l] Tryz.sizeOf116 rfl rfl rfl rfl rfl (Nat.le_of_ble_eq_true rfl) ?_)
       intro w hI
       refine seq_nil ?_
       have hG:=hF; rcases Bool.eq_false_or_eq_true aG with rfl | rfl
       ·
        have hF:=hG; clear hG
        refine ifE hF (fun _ hF=>?_) (fun h=>absurd rfl h)
        refine rgn rfl (pu (.bool true) rfl (pu (.bool true) rfl (sf 5 rfl (pu (.bool true) rfl (pu (.bool true) rfl (seq_nil ?_))))))
        exact .inl ⟨rfl,⟨aK,aL,b2,A.1,A.2.1,A.2.2.1,A.2.2.2,true,⟨rfl,rfl,trivial⟩,hI.pickL [8,2,0,4,5] (by decide) rfl,(b3.to rfl rfl),hF⟩⟩
       ·
        have hF:=hG; clear hG
        refine ifE hF (fun h=>absurd h (by decide)) (fun _ hF=>?_)
        refine rgn rfl (pu (.bool false) rfl (pu (.bool false) rfl (seq_on rfl (s_loadK hI 1 7 [iv a.1,iv a.2.1,slv d a.2.2.1.length i,slv o a.2.2.2.1.length u,slv e a.2.2.2.2.1.length j,iv a.2.2.2.2.2.1,slv f a.2.2.2.2.2.2.length l] Tryz.isAgg116 Tryz.sizeOf116 rfl rfl rfl rfl ?_))))
        refine puo (iv I.1) ⟨rfl,rfl⟩ (seq_on rfl (s_loadK hI 6 2 [iv 0,iv 0] Tryz.isAgg23 Tryz.sizeOf23 rfl rfl rfl rfl ?_))
        refine bindE hF (fun B c1 hF=>?_)
        refine seq_on rfl (s_call 118 [.agg #[iv a.1,iv a.2.1,slv d a.2.2.1.length i,slv o a.2.2.2.1.length u,slv e a.2.2.2.2.1.length j,iv a.2.2.2.2.2.1,slv f a.2.2.2.2.2.2.length l],iv I.1,.agg #[iv 0,iv 0]] (by kernel_rfl) (L118 _ a.1 a.2.1 (d.map fun b=>⟨b,0,none⟩) i a.2.2.1 (o.map fun b=>⟨b,0,none⟩) u a.2.2.2.1 (e.map fun b=>⟨b,0,none⟩) j a.2.2.2.2.1 a.2.2.2.2.2.1 (f.map fun b=>⟨b,0,none⟩) l a.2.2.2.2.2.2 I.1 (⟨0,0⟩:Rg) (hI.rowCells 2 rfl p) (len_le rfl p.big) (len_le rfl p.cap) (hI.rowCells 3 rfl x) (len_le rfl x.big) (len_le rfl x.cap) (hI.rowCells 4 rfl q) (len_le rfl q.big) (len_le rfl q.cap) (hI.rowCells 5 rfl s) (len_le rfl s.big) (len_le rfl s.cap) _ c1) ?_)
        rintro v w ⟨aM,aN,cA,rfl,hN,aD⟩
        have hI:=hI.join hN; clear hN
        refine bindE hF (fun cB bU hF=>?_)
        refine ifE hF (fun b4 hF=>?_) (fun b4 hF=>?_)
        ·
         refine seq_on rfl (s_callv hI 87 [.agg #[iv B.1,iv B.2.1,slv d a.2.2.1.length i,slv aM B.2.2.1.length aN,slv e a.2.2.2.2.1.length j,iv B.2.2.2,slv f a.2.2.2.2.2.2.length l]] (.bool true) (by kernel_rfl) (Does.mono (L87 _ B.1 B.2.1 (d.map fun b=>⟨b,0,none⟩) i a.2.2.1 (aM.map fun b=>⟨b,0,none⟩) aN B.2.2.1 (e.map fun b=>⟨b,0,none⟩) j a.2.2.2.2.1 B.2.2.2 (f.map fun b=>⟨b,0,none⟩) l a.2.2.2.2.2.2 (hI.rowCells 3 rfl p) (len_le rfl p.big) (len_le rfl p.cap) (hI.rowCells 0 rfl aD) (len_le rfl aD.big) (len_le rfl aD.cap) (hI.rowCells 5 rfl q) (len_le rfl q.big) (len_le rfl q.cap) (hI.rowCells 6 rfl s) (len_le rfl s.big) (len_le rfl s.cap) _ bU) (fun v' w' h=>⟨h.1.trans (congrArg Value.bool b4),h.2⟩)) ?_)
         intro w hI
         refine pu (.bool true) rfl (pu (.bool true) rfl (seq_nil ?_))
         exact .inl ⟨rfl,⟨aK,aL,b2,A.1,A.2.1,A.2.2.1,A.2.2.2,true,⟨rfl,rfl,trivial⟩,hI.pickL [9,3,1,5,6] (by decide) rfl,(b3.to rfl rfl),hF⟩⟩
        ·
         refine seq_on rfl (s_callv hI 87 [.agg #[iv B.1,iv B.2.1,slv d a.2.2.1.length i,slv aM B.2.2.1.length aN,slv e a.2.2.2.2.1.length j,iv B.2.2.2,slv f a.2.2.2.2.2.2.length l]] (.bool false) (by kernel_rfl) (Does.mono (L87 _ B.1 B.2.1 (d.map fun b=>⟨b,0,none⟩) i a.2.2.1 (aM.map fun b=>⟨b,0,none⟩) aN B.2.2.1 (e.map fun b=>⟨b,0,none⟩) j a.2.2.2.2.1 B.2.2.2 (f.map fun b=>⟨b,0,none⟩) l a.2.2.2.2.2.2 (hI.rowCells 3 rfl p) (len_le rfl p.big) (len_le rfl p.cap) (hI.rowCells 0 rfl aD) (len_le rfl aD.big) (len_le rfl aD.cap) (hI.rowCells 5 rfl q) (len_le rfl q.big) (len_le rfl q.cap) (hI.rowCells 6 rfl s) (len_le rfl s.big) (len_le rfl s.cap) _ bU) (fun v' w' h=>⟨h.1.trans (congrArg Value.bool (Bool.eq_false_iff.2 b4)),h.2⟩)) ?_)
         intro w hI
         refine pu (.bool false) rfl (pu (.bool false) rfl (seq_nil ?_))
         exact .inl ⟨rfl,⟨aK,aL,b2,A.1,A.2.1,A.2.2.1,A.2.2.2,false,⟨rfl,rfl,trivial⟩,hI.pickL [9,3,1,5,6] (by decide) rfl,(b3.to rfl rfl),hF⟩⟩
      ·
       rw [(Bool.eq_false_iff.2 b1)]
       refine rgn rfl (pu (.bool false) rfl (seq_nil (wp_condF rfl (wp_skip ?_))))
       exact .inl ⟨rfl,⟨a5,a6,aH,a7,a8,W,a9,aG,⟨rfl,rfl,trivial⟩,hI.pickL [7,1,8,3,4] (by decide) rfl,(aI.to rfl rfl),hF⟩⟩
     ·intro ρ w hJ
      obtain ⟨V,Y,b0,Z,a0,T,a1,aJ,hag,hI,aE,hF⟩:=hJ
      obtain ⟨ρ,rfl⟩:=hag.form; clear hag
      unfold F51j2 at hF
      refine wp_seq ?_
      have hG:=hF; rcases Bool.eq_false_or_eq_true aJ with rfl | rfl
      ·
       have hF:=hG; clear hG
       refine ifE hF (fun _ hF=>?_) (fun h=>absurd rfl h)
       refine rgn rfl (seq_c (s_loadK hI 0 7 [iv Z,iv a0,slv d a.2.2.1.length i,slv V T.length Y,slv e a.2.2.2.2.1.length j,iv a1,slv f a.2.2.2.2.2.2.length l] Tryz.isAgg116 Tryz.sizeOf116 rfl rfl rfl rfl ?_))
       refine bindE hF (fun b5 c2 hF=>?_)
       refine seq_c (s_callv hI 87 [.agg #[iv Z,iv a0,slv d a.2.2.1.length i,slv V T.length Y,slv e a.2.2.2.2.1.length j,iv a1,slv f a.2.2.2.2.2.2.length l]] (.bool b5) (by kernel_rfl) (L87 _ Z a0 (d.map fun b=>⟨b,0,none⟩) i a.2.2.1 (V.map fun b=>⟨b,0,none⟩) Y T (e.map fun b=>⟨b,0,none⟩) j a.2.2.2.2.1 a1 (f.map fun b=>⟨b,0,none⟩) l a.2.2.2.2.2.2 (hI.rowCells 1 rfl p) (len_le rfl p.big) (len_le rfl p.cap) (hI.rowCells 2 rfl aE) (len_le rfl aE.big) (len_le rfl aE.cap) (hI.rowCells 3 rfl q) (len_le rfl q.big) (len_le rfl q.cap) (hI.rowCells 4 rfl s) (len_le rfl s.big) (len_le rfl s.cap) _ c2) ?_)
       intro w hI
       refine pu (.bool true) rfl (pu (.bool false) rfl (bindE hF (fun b6 c4 hF=>?_)))
       refine seq_c (s_callv hI 112 [.bool b5,.bool false] (iv b6) (by kernel_rfl) (L112 _ b5 false _ c4) ?_)
       intro w hI
       refine pu (iv b6) rfl (pu (iv 0) rfl (seq_nil (wp_ret ?_)))
       replace hF:=Option.some.inj hF; subst hF
       exact ⟨.tuple #[iv b6,iv 0],Ret.r2 rfl rfl rfl,⟨rfl,hI.below⟩⟩
      ·
       have hF:=hG; clear hG
       refine ifE hF (fun h=>absurd h (by decide)) (fun _ hF=>?_)
       refine rgn rfl (seq_c (s_loadK hI 0 7 [iv Z,iv a0,slv d a.2.2.1.length i,slv V T.length Y,slv e a.2.2.2.2.1.length j,iv a1,slv f a.2.2.2.2.2.2.length l] Tryz.isAgg116 Tryz.sizeOf116 rfl rfl rfl rfl ?_))
       refine bindE hF (fun b7 c5 hF=>?_)
       refine seq_c (s_callv hI 87 [.agg #[iv Z,iv a0,slv d a.2.2.1.length i,slv V T.length Y,slv e a.2.2.2.2.1.length j,iv a1,slv f a.2.2.2.2.2.2.length l]] (.bool b7) (by kernel_rfl) (L87 _ Z a0 (d.map fun b=>⟨b,0,none⟩) i a.2.2.1 (V.map fun b=>⟨b,0,none⟩) Y T (e.map fun b=>⟨b,0,none⟩) j a.2.2.2.2.1 a1 (f.map fun b=>⟨b,0,none⟩) l a.2.2.2.2.2.2 (hI.rowCells 1 rfl p) (len_le rfl p.big) (len_le rfl p.cap) (hI.rowCells 2 rfl aE) (len_le rfl aE.big) (len_le rfl aE.cap) (hI.rowCells 3 rfl q) (len_le rfl q.big) (len_le rfl q.cap) (hI.rowCells 4 rfl s) (len_le rfl s.big) (len_le rfl s.cap) _ c5) ?_)
       intro w hI
       refine pu (.bool false) rfl (pu (.bool true) rfl (bindE hF (fun b8 c6 hF=>?_)))
       refine seq_c (s_callv hI 112 [.bool b7,.bool true] (iv b8) (by kernel_rfl) (L112 _ b7 true _ c6) ?_)
       intro w hI
       refine pu (iv b8) rfl (pu (iv 0) rfl (seq_nil (wp_ret ?_)))
       replace hF:=Option.some.inj hF; subst hF
       exact ⟨.tuple #[iv b8,iv 0],Ret.r2 rfl rfl rfl,⟨rfl,hI.below⟩⟩
  ·
   refine seq_c (s_callv hI 87 [.agg #[iv a.1,iv a.2.1,slv d a.2.2.1.length i,slv o a.2.2.2.1.length u,slv e a.2.2.2.2.1.length j,iv a.2.2.2.2.2.1,slv f a.2.2.2.2.2.2.length l]] (.bool false) (by kernel_rfl) (Does.mono (L87 _ a.1 a.2.1 (d.map fun b=>⟨b,0,none⟩) i a.2.2.1 (o.map fun b=>⟨b,0,none⟩) u a.2.2.2.1 (e.map fun b=>⟨b,0,none⟩) j a.2.2.2.2.1 a.2.2.2.2.2.1 (f.map fun b=>⟨b,0,none⟩) l a.2.2.2.2.2.2 (hI.rowCells 1 rfl p) (len_le rfl p.big) (len_le rfl p.cap) (hI.rowCells 2 rfl x) (len_le rfl x.big) (len_le rfl x.cap) (hI.rowCells 3 rfl q) (len_le rfl q.big) (len_le rfl q.cap) (hI.rowCells 4 rfl s) (len_le rfl s.big) (len_le rfl s.cap) _ bJ) (fun v' w' h=>⟨h.1.trans (congrArg Value.bool (Bool.eq_false_iff.2 aP)),h.2⟩)) ?_)
   intro w hI
   refine pu (.bool true) rfl (seq_nil (wp_condT rfl (wp_seq (rgn rfl (pu (iv 0) rfl (pu (iv 14) rfl (seq_nil (wp_ret ?_))))))))
   replace hF:=Option.some.inj hF; subst hF
   exact ⟨.tuple #[iv 0,iv 14],Ret.r2 rfl rfl rfl,⟨rfl,hI.below⟩⟩
 ·
  refine seq_c (s_neq rfl rfl (fun _=>?_) (fun h=>absurd h aO))
  refine seq_nil (wp_condT rfl (wp_seq (rgn rfl (pu (iv aA) rfl (pu (iv 0) rfl (pu (iv aA) rfl (seq_nil (wp_ret ?_))))))))
  replace hF:=Option.some.inj hF; subst hF
  exact ⟨.tuple #[iv 0,iv aA],Ret.r2 rfl rfl rfl,⟨rfl,hI.below⟩⟩


theorem L55 (w0:World) (A:Int) (B:Int) (p:Option Addr) (q:Nat) (i:List Ld) (C:Option Addr) (D:Nat) (s:List Ld) (E:Option Addr) (F:Nat) (t:List Sp) (G:Int) (p1:Int) (K:Int) (b0:Cells w0 p (flat eLd i)) (b4:i.length≤9223372036854775807) (b5:i.length≤q) (b6:Cells w0 C (flat eLd s)) (b7:s.length≤9223372036854775807) (b8:s.length≤D) (b9:Cells w0 E (flat eSp t)) (bA:t.length≤9223372036854775807) (bB:t.length≤F) (N:Nat) (r:(List Int × Int)) (hF:F55 N A B i s t G p1 K=some r):Does Tryz.prog 55 [.agg #[.int .i64 A,.int .i64 B,.slice p i.length q,.slice C s.length D,.slice E t.length F,.int .i64 G],.int .i64 p1,.int .i64 K] w0 fun v w=>∃ (z0:Option Nat) (z1:Nat) (z2:List Value),v=.tuple #[slv z0 r.1.length z1,.int .i64 r.2]∧Inv [] w0 w [(z0,blk z2 3)]∧Row 1 z0 r.1.length z1 z2 (flat eInt r.1):=by
 refine calls_of (n:=80) Tryz.func55 rfl Tryz.ntmps55 rfl ?_
 have hI:=Inv.start w0
 unfold F55 at hF
 refine wp_seq (rgn rfl (seq_c (s_boxI hI [iv A,iv B,.slice p i.length q,.slice C s.length D,.slice E t.length F,iv G] rfl ?_)))
 intro b1 w hI
 refine pu (.slice none 0 0) rfl (pu (iv 0) rfl (seq_nil (wp_seq (wp_seq (rgn rfl (seq_c (s_loadK hI 0 6 [iv A,iv B,.slice p i.length q,.slice C s.length D,.slice E t.length F,iv G] Tryz.isAgg28 Tryz.sizeOf28 rfl rfl rfl rfl ?_)))))))
 refine pu (iv K) rfl (bindE hF (fun aC bW hF=>?_))
 refine seq_c (s_callv hI 85 [.agg #[iv A,iv B,.slice p i.length q,.slice C s.length D,.slice E t.length F,iv G],iv K] (iv aC) (by kernel_rfl) (L85 _ A B p q i C D s E F t G K (b0.inv0 hI) b4 b5 (b6.inv0 hI) b7 b8 (b9.inv0 hI) bA bB _ bW) ?_)
 intro w hI
 refine pu (iv aC) rfl (seq_nil (wp_seq (rgn rfl (pu (iv aC) rfl (ifE hF (fun bC hF=>?_) (fun bC hF=>?_))))))
 ·
  refine seq_c (s_neq rfl rfl (fun h=>absurd bC h) (fun _=>?_))
  refine seq_nil (wp_condF rfl (wp_skip (wp_seq (rgn rfl (seq_c (s_loadK hI 0 6 [iv A,iv B,.slice p i.length q,.slice C s.length D,.slice E t.length F,iv G] Tryz.isAgg28 Tryz.sizeOf28 rfl rfl rfl rfl ?_))))))
  refine pu (iv p1) rfl (bindE hF (fun e bX hF=>?_))
  refine seq_c (s_call 16 [.agg #[iv A,iv B,.slice p i.length q,.slice C s.length D,.slice E t.length F,iv G],iv p1] (by kernel_rfl) (L16 _ A B p q i C D s E F t G p1 (b0.inv0 hI) b4 b5 (b6.inv0 hI) b7 b8 (b9.inv0 hI) bA bB _ bX) ?_)
  rintro v w ⟨H,Z,bD,I,a0,bE,J,a1,bF,rfl,hN,bG,bH,bI⟩
  have hI:=hI.join hN; clear hN
  refine pu (.tuple #[.agg #[iv e.1,iv e.2.1,slv H e.2.2.1.length Z,slv I e.2.2.2.1.length a0,slv J e.2.2.2.2.1.length a1,iv e.2.2.2.2.2.1],iv e.2.2.2.2.2.2]) rfl (pu (.agg #[iv e.1,iv e.2.1,slv H e.2.2.1.length Z,slv I e.2.2.2.1.length a0,slv J e.2.2.2.2.1.length a1,iv e.2.2.2.2.2.1]) rfl (pu (iv e.2.2.2.2.2.2) rfl (seq_c (s_allocI hI [iv 0,iv 0,.slice none 0 0,.slice none 0 0,.slice none 0 0,iv 0] Tryz.zeroValue28 rfl ?_))))
  intro bS w hI
  refine seq_c (s_store hI 0 6 [iv e.1,iv e.2.1,slv H e.2.2.1.length Z,slv I e.2.2.2.1.length a0,slv J e.2.2.2.2.1.length a1,iv e.2.2.2.2.2.1] Tryz.sizeOf28 rfl rfl rfl rfl rfl (Nat.le_of_ble_eq_true rfl) ?_)
  intro w hI
  refine pu (iv e.2.2.2.2.2.2) rfl (seq_nil (wp_seq (wp_seq (rgn rfl (pu (iv e.2.2.2.2.2.2) rfl (ifE hF (fun bJ hF=>?_) (fun bJ hF=>?_)))))))
  ·
   refine seq_c (s_neq rfl rfl (fun h=>absurd bJ h) (fun _=>?_))
   refine seq_nil (wp_condF rfl (wp_skip (wp_seq (bindE hF (fun a bY hF=>?_)))))
   refine bindE hF (fun d bZ hF=>?_)
   refine wp_toks [tr (fun _=>(.agg #[iv A,iv B,.slice p i.length q,.slice C s.length D,.slice E t.length F,iv G])) [14],tv (fun _=>(iv K)),⟨fun y=>(.agg #[iv a.1,iv a.2.1,slv ((y 2).g 0) a.2.2.1.length ((y 2).c 0),slv ((y 2).g 1) a.2.2.2.1.length ((y 2).c 1),slv ((y 2).g 2) a.2.2.2.2.1.length ((y 2).c 2),iv a.2.2.2.2.2.1,slv ((y 2).g 3) a.2.2.2.2.2.2.length ((y 2).c 3)]),fun y=>[(((y 2).g 0),blk ((y 2).cl 0) 30),(((y 2).g 1),blk ((y 2).cl 1) 31),(((y 2).g 2),blk ((y 2).cl 2) 33),(((y 2).g 3),blk ((y 2).cl 3) 30)],fun y=>(Row 6 ((y 2).g 0) a.2.2.1.length ((y 2).c 0) ((y 2).cl 0) (flat eLd a.2.2.1))∧(Row 6 ((y 2).g 1) a.2.2.2.1.length ((y 2).c 1) ((y 2).cl 1) (flat eLd a.2.2.2.1))∧(Row 6 ((y 2).g 2) a.2.2.2.2.1.length ((y 2).c 2) ((y 2).cl 2) (flat eSp a.2.2.2.2.1))∧(Row 6 ((y 2).g 3) a.2.2.2.2.2.2.length ((y 2).c 3) ((y 2).cl 3) (flat eLd a.2.2.2.2.2.2)),[],[]⟩,tr (fun _=>(.agg #[iv e.1,iv e.2.1,slv H e.2.2.1.length Z,slv I e.2.2.2.1.length a0,slv J e.2.2.2.2.1.length a1,iv e.2.2.2.2.2.1])) [10],tv (fun _=>(iv K)),⟨fun y=>(.agg #[iv d.1,iv d.2.1,slv ((y 5).g 0) d.2.2.1.length ((y 5).c 0),slv ((y 5).g 1) d.2.2.2.1.length ((y 5).c 1),slv ((y 5).g 2) d.2.2.2.2.1.length ((y 5).c 2),iv d.2.2.2.2.2.1,slv ((y 5).g 3) d.2.2.2.2.2.2.length ((y 5).c 3)]),fun y=>[(((y 5).g 0),blk ((y 5).cl 0) 30),(((y 5).g 1),blk ((y 5).cl 1) 31),(((y 5).g 2),blk ((y 5).cl 2) 33),(((y 5).g 3),blk ((y 5).cl 3) 30)],fun y=>(Row 6 ((y 5).g 0) d.2.2.1.length ((y 5).c 0) ((y 5).cl 0) (flat eLd d.2.2.1))∧(Row 6 ((y 5).g 1) d.2.2.2.1.length ((y 5).c 1) ((y 5).cl 1) (flat eLd d.2.2.2.1))∧(Row 6 ((y 5).g 2) d.2.2.2.2.1.length ((y 5).c 2) ((y 5).cl 2) (flat eSp d.2.2.2.2.1))∧(Row 6 ((y 5).g 3) d.2.2.2.2.2.2.length ((y 5).c 3) ((y 5).cl 3) (flat eLd d.2.2.2.2.2.2)),[],[11,12,13]⟩,tal 6 [iv 0,iv 0,.slice none 0 0,.slice none 0 0,.slice none 0 0,iv 0,.slice none 0 0] 116,tal 7 [iv 0,iv 0,.slice none 0 0,.slice none 0 0,.slice none 0 0,iv 0,.slice none 0 0] 116,tst (fun y=>[(some (y 6).b,blk [iv a.1,iv a.2.1,slv ((y 2).g 0) a.2.2.1.length ((y 2).c 0),slv ((y 2).g 1) a.2.2.2.1.length ((y 2).c 1),slv ((y 2).g 2) a.2.2.2.2.1.length ((y 2).c 2),iv a.2.2.2.2.2.1,slv ((y 2).g 3) a.2.2.2.2.2.2.length ((y 2).c 3)] 116)]) 6,tst (fun y=>[(some (y 7).b,blk [iv d.1,iv d.2.1,slv ((y 5).g 0) d.2.2.1.length ((y 5).c 0),slv ((y 5).g 1) d.2.2.2.1.length ((y 5).c 1),slv ((y 5).g 2) d.2.2.2.2.1.length ((y 5).c 2),iv d.2.2.2.2.2.1,slv ((y 5).g 3) d.2.2.2.2.2.2.length ((y 5).c 3)] 116)]) 7] (fun y=>[(3,.pointer (some ⟨b1,0,none⟩)),(11,.pointer (some ⟨(y 6).b,0,none⟩)),(12,.pointer (some ⟨(y 7).b,0,none⟩))]) (fun y=>[(((y 2).g 0),blk ((y 2).cl 0) 30),(((y 2).g 1),blk ((y 2).cl 1) 31),(((y 2).g 2),blk ((y 2).cl 2) 33),(((y 2).g 3),blk ((y 2).cl 3) 30),(((y 5).g 0),blk ((y 5).cl 0) 30),(((y 5).g 1),blk ((y 5).cl 1) 31),(((y 5).g 2),blk ((y 5).cl 2) 33),(((y 5).g 3),blk ((y 5).cl 3) 30),(some (y 6).b,blk [iv a.1,iv a.2.1,slv ((y 2).g 0) a.2.2.1.length ((y 2).c 0),slv ((y 2).g 1) a.2.2.2.1.length ((y 2).c 1),slv ((y 2).g 2) a.2.2.2.2.1.length ((y 2).c 2),iv a.2.2.2.2.2.1,slv ((y 2).g 3) a.2.2.2.2.2.2.length ((y 2).c 3)] 116),(some (y 7).b,blk [iv d.1,iv d.2.1,slv ((y 5).g 0) d.2.2.1.length ((y 5).c 0),slv ((y 5).g 1) d.2.2.2.1.length ((y 5).c 1),slv ((y 5).g 2) d.2.2.2.2.1.length ((y 5).c 2),iv d.2.2.2.2.2.1,slv ((y 5).g 3) d.2.2.2.2.2.2.length ((y 5).c 3)] 116),(some bS,blk [iv e.1,iv e.2.1,slv H e.2.2.1.length Z,slv I e.2.2.2.1.length a0,slv J e.2.2.2.2.1.length a1,iv e.2.2.2.2.2.1] 28),(H,blk bD 30),(I,blk bE 31),(J,blk bF 33),(some b1,blk [iv A,iv B,.slice p i.length q,.slice C s.length D,.slice E t.length F,iv G] 28)]) hI (by kernel_rfl) (fun y=>⟨rfl,rfl⟩) (fun y=>?_) ?_
   ·
    refine tl1 [(some b1,blk [iv A,iv B,.slice p i.length q,.slice C s.length D,.slice E t.length F,iv G] 28)] rfl rfl (fun X w hI=>s_loadK hI 0 6 [iv A,iv B,.slice p i.length q,.slice C s.length D,.slice E t.length F,iv G] Tryz.isAgg28 Tryz.sizeOf28 rfl rfl rfl rfl br) (tp rfl (fun _=>rfl) (tg (.agg #[iv a.1,iv a.2.1,slv ((y 2).g 0) a.2.2.1.length ((y 2).c 0),slv ((y 2).g 1) a.2.2.2.1.length ((y 2).c 1),slv ((y 2).g 2) a.2.2.2.2.1.length ((y 2).c 2),iv a.2.2.2.2.2.1,slv ((y 2).g 3) a.2.2.2.2.2.2.length ((y 2).c 3)]) [] [] rfl ⟨rfl,rfl,rfl⟩ ?_ ?_))
    ·intro hp X w hI
     refine s_call 86 [.agg #[iv A,iv B,.slice p i.length q,.slice C s.length D,.slice E t.length F,iv G],iv K] (by kernel_rfl) (L86 _ A B p q i C D s E F t G K (b0.inv0 hI) b4 b5 (b6.inv0 hI) b7 b8 (b9.inv0 hI) bA bB _ bY) ?_
     rintro v w ⟨L,a3,aI,M,a4,aJ,O,a5,aK,P,a6,aL,rfl,hN,aM,aN,aO,aP⟩
     have hI:=hI.join hN; clear hN
     exact ⟨wit 0 [L,M,O,P] [a3,a4,a5,a6] [aI,aJ,aK,aL] [],rfl,Eq.mp rfl (And.intro aM (And.intro aN (And.intro aO aP))),hI.castL rfl⟩
    refine tl1 [(some bS,blk [iv e.1,iv e.2.1,slv H e.2.2.1.length Z,slv I e.2.2.2.1.length a0,slv J e.2.2.2.2.1.length a1,iv e.2.2.2.2.2.1] 28)] rfl rfl (fun X w hI=>s_loadK hI 0 6 [iv e.1,iv e.2.1,slv H e.2.2.1.length Z,slv I e.2.2.2.1.length a0,slv J e.2.2.2.2.1.length a1,iv e.2.2.2.2.2.1] Tryz.isAgg28 Tryz.sizeOf28 rfl rfl rfl rfl br) (tp rfl (fun _=>rfl) (tg (.agg #[iv d.1,iv d.2.1,slv ((y 5).g 0) d.2.2.1.length ((y 5).c 0),slv ((y 5).g 1) d.2.2.2.1.length ((y 5).c 1),slv ((y 5).g 2) d.2.2.2.2.1.length ((y 5).c 2),iv d.2.2.2.2.2.1,slv ((y 5).g 3) d.2.2.2.2.2.2.length ((y 5).c 3)]) [(H,blk bD 30),(I,blk bE 31),(J,blk bF 33)] [(H,blk bD 30),(I,blk bE 31),(J,blk bF 33)] rfl ⟨rfl,rfl,rfl⟩ ?_ ?_))
    ·intro hp X w hI
     refine s_call 86 [.agg #[iv e.1,iv e.2.1,slv H e.2.2.1.length Z,slv I e.2.2.2.1.length a0,slv J e.2.2.2.2.1.length a1,iv e.2.2.2.2.2.1],iv K] (by kernel_rfl) (L86 _ e.1 e.2.1 (H.map fun b=>⟨b,0,none⟩) Z e.2.2.1 (I.map fun b=>⟨b,0,none⟩) a0 e.2.2.2.1 (J.map fun b=>⟨b,0,none⟩) a1 e.2.2.2.2.1 e.2.2.2.2.2.1 K (hI.rowCells 0 rfl bG) (len_le rfl bG.big) (len_le rfl bG.cap) (hI.rowCells 1 rfl bH) (len_le rfl bH.big) (len_le rfl bH.cap) (hI.rowCells 2 rfl bI) (len_le rfl bI.big) (len_le rfl bI.cap) _ bZ) ?_
     rintro v w ⟨Q,a7,aQ,R,a8,aR,S,a9,aS,T,aA,aT,rfl,hN,aU,aV,aW,aX⟩
     have hI:=hI.join hN; clear hN
     exact ⟨wit 0 [Q,R,S,T] [a7,a8,a9,aA] [aQ,aR,aS,aT] [],rfl,Eq.mp rfl (And.intro aU (And.intro aV (And.intro aW aX))),hI.castL rfl⟩
    refine tA rfl Tryz.zeroValue116 rfl (tA rfl Tryz.zeroValue116 rfl (tS [(some (y 6).b,blk [iv 0,iv 0,.slice none 0 0,.slice none 0 0,.slice none 0 0,iv 0,.slice none 0 0] 116)] rfl ⟨rfl,rfl⟩ (fun X w hI=>s_store hI 0 7 [iv a.1,iv a.2.1,slv ((y 2).g 0) a.2.2.1.length ((y 2).c 0),slv ((y 2).g 1) a.2.2.2.1.length ((y 2).c 1),slv ((y 2).g 2) a.2.2.2.2.1.length ((y 2).c 2),iv a.2.2.2.2.2.1,slv ((y 2).g 3) a.2.2.2.2.2.2.length ((y 2).c 3)] Tryz.sizeOf116 rfl rfl rfl rfl rfl (Nat.le_of_ble_eq_true rfl) fun w hI=>⟨rfl,hI.castL rfl⟩) (tS [(some (y 7).b,blk [iv 0,iv 0,.slice none 0 0,.slice none 0 0,.slice none 0 0,iv 0,.slice none 0 0] 116)] rfl ⟨rfl,rfl⟩ (fun X w hI=>s_store hI 0 7 [iv d.1,iv d.2.1,slv ((y 5).g 0) d.2.2.1.length ((y 5).c 0),slv ((y 5).g 1) d.2.2.2.1.length ((y 5).c 1),slv ((y 5).g 2) d.2.2.2.2.1.length ((y 5).c 2),iv d.2.2.2.2.2.1,slv ((y 5).g 3) d.2.2.2.2.2.2.length ((y 5).c 3)] Tryz.sizeOf116 rfl rfl rfl rfl rfl (Nat.le_of_ble_eq_true rfl) fun w hI=>⟨rfl,hI.castL rfl⟩) ?_)))
    exact tn
   intro y hp ρ w hag hI
   obtain ⟨aM,aN,aO,aP⟩:(Row 6 ((y 2).g 0) a.2.2.1.length ((y 2).c 0) ((y 2).cl 0) (flat eLd a.2.2.1))∧(Row 6 ((y 2).g 1) a.2.2.2.1.length ((y 2).c 1) ((y 2).cl 1) (flat eLd a.2.2.2.1))∧(Row 6 ((y 2).g 2) a.2.2.2.2.1.length ((y 2).c 2) ((y 2).cl 2) (flat eSp a.2.2.2.2.1))∧(Row 6 ((y 2).g 3) a.2.2.2.2.2.2.length ((y 2).c 3) ((y 2).cl 3) (flat eLd a.2.2.2.2.2.2)):=pgl hp (k:=2) (by decide) rfl
   obtain ⟨aU,aV,aW,aX⟩:(Row 6 ((y 5).g 0) d.2.2.1.length ((y 5).c 0) ((y 5).cl 0) (flat eLd d.2.2.1))∧(Row 6 ((y 5).g 1) d.2.2.2.1.length ((y 5).c 1) ((y 5).cl 1) (flat eLd d.2.2.2.1))∧(Row 6 ((y 5).g 2) d.2.2.2.2.1.length ((y 5).c 2) ((y 5).cl 2) (flat eSp d.2.2.2.2.1))∧(Row 6 ((y 5).g 3) d.2.2.2.2.2.2.length ((y 5).c 3) ((y 5).cl 3) (flat eLd d.2.2.2.2.2.2)):=pgl hp (k:=5) (by decide) rfl
   clear hp
   generalize (y 2).g 0=L at *
   generalize (y 2).c 0=a3 at *
   generalize (y 2).cl 0=aI at *
   generalize (y 2).g 1=M at *
   generalize (y 2).c 1=a4 at *
   generalize (y 2).cl 1=aJ at *
   generalize (y 2).g 2=O at *
   generalize (y 2).c 2=a5 at *
   generalize (y 2).cl 2=aK at *
   generalize (y 2).g 3=P at *
   generalize (y 2).c 3=a6 at *
   generalize (y 2).cl 3=aL at *
   generalize (y 5).g 0=Q at *
   generalize (y 5).c 0=a7 at *
   generalize (y 5).cl 0=aQ at *
   generalize (y 5).g 1=R at *
   generalize (y 5).c 1=a8 at *
   generalize (y 5).cl 1=aR at *
   generalize (y 5).g 2=S at *
   generalize (y 5).c 2=a9 at *
   generalize (y 5).cl 2=aS at *
   generalize (y 5).g 3=T at *
   generalize (y 5).c 3=aA at *
   generalize (y 5).cl 3=aT at *
   generalize (y 6).b=aD at *
   generalize (y 7).b=aE at *
   obtain ⟨ρ,rfl⟩:=hag.form; clear hag
   refine wp_seq (rgn rfl (pu (.slice none 0 0) rfl (seq_nil (wp_cutO (fun ρ w=>∃ (U:Option Nat) (Y:Nat) (bK:List Value) (V:List Int),Agree ρ [(13,slv U V.length Y)]∧Inv [] w0 w [(U,blk bK 3)]∧(Row 1 U (V.length) Y bK (flat eInt V))∧F55j1 V=some r) ?_ ?_))))
   ·
    refine wp_seq (rgn rfl (pu (.pointer (some ⟨b1,2,none⟩)) rfl (seq_c (s_load1 hI 14 (.slice p i.length q) Tryz.isAgg24 rfl rfl rfl ?_))))
    refine pu (iv ((i.length:Nat):Int)) (by kernel_rfl) (pu (iv 0) rfl (seq_nil (wp_block ?_)))
    have hI:=hI.nilRow 3
    refine wp_loop (fun m ρ w=>∃ (a2:Option Nat) (aB:Nat) (aF:List Value) (x:List Int) (W:Int) (mm:Nat),Agree ρ [(11,.pointer (some ⟨aD,0,none⟩)),(12,.pointer (some ⟨aE,0,none⟩)),(13,slv a2 x.length aB),(42,.slice p i.length q),(43,iv (i.length:Int)),(44,iv W)]∧Inv [] w0 w [(some aD,blk [iv a.1,iv a.2.1,slv L a.2.2.1.length a3,slv M a.2.2.2.1.length a4,slv O a.2.2.2.2.1.length a5,iv a.2.2.2.2.2.1,slv P a.2.2.2.2.2.2.length a6] 116),(L,blk aI 30),(M,blk aJ 31),(O,blk aK 33),(P,blk aL 30),(some aE,blk [iv d.1,iv d.2.1,slv Q d.2.2.1.length a7,slv R d.2.2.2.1.length a8,slv S d.2.2.2.2.1.length a9,iv d.2.2.2.2.2.1,slv T d.2.2.2.2.2.2.length aA] 116),(Q,blk aQ 30),(R,blk aR 31),(S,blk aS 33),(T,blk aT 30),(a2,blk aF 3)]∧(Row 1 a2 (x.length) aB aF (flat eInt x))∧F55l2 i a d mm x W=some r∧mm=m) (m:=N) ⟨none,0,[],[],0,N,⟨rfl,rfl,rfl,rfl,rfl,rfl,trivial⟩,hI.pickL [9,1,2,3,4,10,5,6,7,8,0] (by decide) rfl,(Row.nil_ 1),hF,rfl⟩ ?_
    rintro m ρ w ⟨a2,aB,aF,x,W,mm,hag,hI,bL,hF,hm⟩
    subst hm; obtain ⟨ρ,rfl⟩:=hag.form; clear hag
    obtain _ | m2:=mm
    ·cases (show (none:Option (List Int × Int))=some r from hF)
    replace hF:F55b2 i a d (F55l2 i a d m2) x W=some r:=hF; unfold F55b2 at hF
    refine wp_seq (rgn rfl (ifE hF (fun bM hF=>?_) (fun bM hF=>?_)))
    ·
     refine seq_c (s_lss rfl rfl (fun _=>?_) (fun h=>absurd bM h))
     refine seq_nil (wp_seq (wp_condT rfl (wp_skip (wp_cutO (fun ρ w=>∃ (aY:Option Nat) (b2:Nat) (b3:List Value) (aG:List Int),Agree ρ [(11,.pointer (some ⟨aD,0,none⟩)),(12,.pointer (some ⟨aE,0,none⟩)),(13,slv aY aG.length b2),(42,.slice p i.length q),(43,iv (i.length:Int)),(44,iv W)]∧Inv [] w0 w [(some aD,blk [iv a.1,iv a.2.1,slv L a.2.2.1.length a3,slv M a.2.2.2.1.length a4,slv O a.2.2.2.2.1.length a5,iv a.2.2.2.2.2.1,slv P a.2.2.2.2.2.2.length a6] 116),(L,blk aI 30),(M,blk aJ 31),(O,blk aK 33),(P,blk aL 30),(some aE,blk [iv d.1,iv d.2.1,slv Q d.2.2.1.length a7,slv R d.2.2.2.1.length a8,slv S d.2.2.2.2.1.length a9,iv d.2.2.2.2.2.1,slv T d.2.2.2.2.2.2.length aA] 116),(Q,blk aQ 30),(R,blk aR 31),(S,blk aS 33),(T,blk aT 30),(aY,blk b3 3)]∧(Row 1 aY (aG.length) b2 b3 (flat eInt aG))∧F55j3 (F55l2 i a d m2) W aG=some r) ?_ ?_))))
     ·
      refine wp_block ?_
      refine wp_seq (rgn rfl (gdE hF (fun c0 hF=>?_)))
      refine bindE hF (fun f bT hF=>?_)
      obtain ⟨cD,cE,c1,c2,c4⟩:=b0.at_ eLd_len (by decide) bT
      refine seq_c (s_indexA (W).toNat Tryz.underlying24 Tryz.sizeOf30 rfl c1 rfl (Int.toNat_of_nonneg c0).symm (lt_n bT rfl) ?_)
      refine seq_c (s_loadBK hI [iv f.src,iv f.hr,iv f.lo,iv f.hi,iv f.kn,iv f.un] Tryz.isAgg30 Tryz.sizeOf30 rfl rfl c2 (by simp) c4 ?_)
      refine seq_c (s_allocI hI [iv 0,iv 0,iv 0,iv 0,iv 0,iv 0] Tryz.zeroValue30 rfl ?_)
      intro aZ w hI
      refine seq_c (s_store hI 0 6 [iv f.src,iv f.hr,iv f.lo,iv f.hi,iv f.kn,iv f.un] Tryz.sizeOf30 rfl rfl rfl rfl rfl (Nat.le_of_ble_eq_true rfl) ?_)
      intro w hI
      refine seq_nil (wp_seq (rgn rfl (seq_c (s_loadK hI 1 7 [iv a.1,iv a.2.1,slv L a.2.2.1.length a3,slv M a.2.2.2.1.length a4,slv O a.2.2.2.2.1.length a5,iv a.2.2.2.2.2.1,slv P a.2.2.2.2.2.2.length a6] Tryz.isAgg116 Tryz.sizeOf116 rfl rfl rfl rfl ?_))))
      refine pu (.pointer (some ⟨aZ,1,none⟩)) rfl (seq_c (s_load1 hI 0 (iv f.hr) Tryz.isAgg3 rfl rfl rfl ?_))
      refine bindE hF (fun l c5 hF=>?_)
      refine seq_c (s_callv hI 98 [.agg #[iv a.1,iv a.2.1,slv L a.2.2.1.length a3,slv M a.2.2.2.1.length a4,slv O a.2.2.2.2.1.length a5,iv a.2.2.2.2.2.1,slv P a.2.2.2.2.2.2.length a6],iv f.hr] (.tuple #[.agg #[iv l.1,iv l.2.1],.bool l.2.2]) (by kernel_rfl) (L98 _ a.1 a.2.1 (L.map fun b=>⟨b,0,none⟩) a3 a.2.2.1 (M.map fun b=>⟨b,0,none⟩) a4 a.2.2.2.1 (O.map fun b=>⟨b,0,none⟩) a5 a.2.2.2.2.1 a.2.2.2.2.2.1 (P.map fun b=>⟨b,0,none⟩) a6 a.2.2.2.2.2.2 f.hr (hI.rowCells 2 rfl aM) (len_le rfl aM.big) (len_le rfl aM.cap) (hI.rowCells 3 rfl aN) (len_le rfl aN.big) (len_le rfl aN.cap) (hI.rowCells 4 rfl aO) (len_le rfl aO.big) (len_le rfl aO.cap) (hI.rowCells 5 rfl aP) (len_le rfl aP.big) (len_le rfl aP.cap) _ c5) ?_)
      intro w hI
      refine pu (.tuple #[.agg #[iv l.1,iv l.2.1],.bool l.2.2]) rfl (pu (.agg #[iv l.1,iv l.2.1]) rfl (pu (.bool l.2.2) rfl (seq_c (s_allocI hI [iv 0,iv 0] Tryz.zeroValue23 rfl ?_))))
      intro cF w hI
      refine seq_c (s_store hI 0 2 [iv l.1,iv l.2.1] Tryz.sizeOf23 rfl rfl rfl rfl rfl (Nat.le_of_ble_eq_true rfl) ?_)
      intro w hI
      refine pu (.bool l.2.2) rfl (seq_nil (wp_seq (rgn rfl (seq_c (s_loadK hI 7 7 [iv d.1,iv d.2.1,slv Q d.2.2.1.length a7,slv R d.2.2.2.1.length a8,slv S d.2.2.2.2.1.length a9,iv d.2.2.2.2.2.1,slv T d.2.2.2.2.2.2.length aA] Tryz.isAgg116 Tryz.sizeOf116 rfl rfl rfl rfl ?_)))))
      refine pu (.pointer (some ⟨aZ,1,none⟩)) rfl (seq_c (s_load1 hI 1 (iv f.hr) Tryz.isAgg3 rfl rfl rfl ?_))
      refine bindE hF (fun o c6 hF=>?_)
      refine seq_c (s_callv hI 98 [.agg #[iv d.1,iv d.2.1,slv Q d.2.2.1.length a7,slv R d.2.2.2.1.length a8,slv S d.2.2.2.2.1.length a9,iv d.2.2.2.2.2.1,slv T d.2.2.2.2.2.2.length aA],iv f.hr] (.tuple #[.agg #[iv o.1,iv o.2.1],.bool o.2.2]) (by kernel_rfl) (L98 _ d.1 d.2.1 (Q.map fun b=>⟨b,0,none⟩) a7 d.2.2.1 (R.map fun b=>⟨b,0,none⟩) a8 d.2.2.2.1 (S.map fun b=>⟨b,0,none⟩) a9 d.2.2.2.2.1 d.2.2.2.2.2.1 (T.map fun b=>⟨b,0,none⟩) aA d.2.2.2.2.2.2 f.hr (hI.rowCells 8 rfl aU) (len_le rfl aU.big) (len_le rfl aU.cap) (hI.rowCells 9 rfl aV) (len_le rfl aV.big) (len_le rfl aV.cap) (hI.rowCells 10 rfl aW) (len_le rfl aW.big) (len_le rfl aW.cap) (hI.rowCells 11 rfl aX) (len_le rfl aX.big) (len_le rfl aX.cap) _ c6) ?_)
      intro w hI
      refine pu (.tuple #[.agg #[iv o.1,iv o.2.1],.bool o.2.2]) rfl (pu (.agg #[iv o.1,iv o.2.1]) rfl (pu (.bool o.2.2) rfl (seq_c (s_allocI hI [iv 0,iv 0] Tryz.zeroValue23 rfl ?_))))
      intro cG w hI
      refine seq_c (s_store hI 0 2 [iv o.1,iv o.2.1] Tryz.sizeOf23 rfl rfl rfl rfl rfl (Nat.le_of_ble_eq_true rfl) ?_)
      intro w hI
      refine pu (.bool o.2.2) rfl (seq_nil (wp_cutO (fun ρ w=>Agree ρ [(11,.pointer (some ⟨aD,0,none⟩)),(12,.pointer (some ⟨aE,0,none⟩)),(13,slv a2 x.length aB),(15,.pointer (some ⟨aZ,0,none⟩)),(42,.slice p i.length q),(43,iv (i.length:Int)),(44,iv W),(69,.bool true)]∧Inv [] w0 w [(some aD,blk [iv a.1,iv a.2.1,slv L a.2.2.1.length a3,slv M a.2.2.2.1.length a4,slv O a.2.2.2.2.1.length a5,iv a.2.2.2.2.2.1,slv P a.2.2.2.2.2.2.length a6] 116),(L,blk aI 30),(M,blk aJ 31),(O,blk aK 33),(P,blk aL 30),(some aE,blk [iv d.1,iv d.2.1,slv Q d.2.2.1.length a7,slv R d.2.2.2.1.length a8,slv S d.2.2.2.2.1.length a9,iv d.2.2.2.2.2.1,slv T d.2.2.2.2.2.2.length aA] 116),(Q,blk aQ 30),(R,blk aR 31),(S,blk aS 33),(T,blk aT 30),(a2,blk aF 3),(some aZ,blk [iv f.src,iv f.hr,iv f.lo,iv f.hi,iv f.kn,iv f.un] 30)]∧F55j4 (F55l2 i a d m2) x W f=some r) ?_ ?_))
      ·
       refine rgn rfl (seq_c (s_loadK hI 1 2 [iv l.1,iv l.2.1] Tryz.isAgg23 Tryz.sizeOf23 rfl rfl rfl rfl ?_))
       refine seq_c (s_loadK hI 0 2 [iv o.1,iv o.2.1] Tryz.isAgg23 Tryz.sizeOf23 rfl rfl rfl rfl ?_)
       refine ifE hF (fun bN hF=>?_) (fun bN hF=>?_)
       ·
        refine seq_c (s_neqA (b:=decide (l.1=o.1) && decide (l.2.1=o.2.1)) rfl rfl (by kernel_rfl) (fun w=>eq23 _ l.1 l.2.1 o.1 o.2.1 w) (fun h=>absurd bN h) (fun _=>?_))
        refine pu (.bool false) rfl (puo (.bool l.2.2) ⟨rfl,rfl⟩ (puo (.bool o.2.2) ⟨rfl,rfl⟩ (ifE hF (fun bO hF=>?_) (fun bO hF=>?_))))
        ·
         refine seq_on rfl (s_neqB Tryz.underlying4 rfl rfl (fun h=>absurd bO h) (fun _=>?_))
         refine pu (.bool false) rfl (seq_nil (.inr ?_))
         refine wp_condF rfl (wp_skip ?_)
         exact .inl ⟨rfl,⟨a2,aB,aF,x,⟨rfl,rfl,rfl,rfl,rfl,rfl,trivial⟩,hI.pickL [3,4,5,6,7,8,9,10,11,12,13] (by decide) rfl,(bL.to rfl rfl),hF⟩⟩
        ·
         refine seq_on rfl (s_neqB Tryz.underlying4 rfl rfl (fun _=>?_) (fun h=>absurd h bO))
         refine pu (.bool true) rfl (seq_nil ?_)
         exact .inl ⟨rfl,⟨⟨rfl,rfl,rfl,rfl,rfl,rfl,rfl,rfl,trivial⟩,hI.pickL [3,4,5,6,7,8,9,10,11,12,13,2] (by decide) rfl,hF⟩⟩
       ·
        refine seq_c (s_neqA (b:=decide (l.1=o.1) && decide (l.2.1=o.2.1)) rfl rfl (by kernel_rfl) (fun w=>eq23 _ l.1 l.2.1 o.1 o.2.1 w) (fun _=>?_) (fun h=>absurd h bN))
        refine pu (.bool true) rfl (sf 3 rfl (pu (.bool true) rfl (seq_nil ?_)))
        exact .inl ⟨rfl,⟨⟨rfl,rfl,rfl,rfl,rfl,rfl,rfl,rfl,trivial⟩,hI.pickL [3,4,5,6,7,8,9,10,11,12,13,2] (by decide) rfl,hF⟩⟩
      ·intro ρ w hJ
       obtain ⟨hag,hI,hF⟩:=hJ
       obtain ⟨ρ,rfl⟩:=hag.form; clear hag
       unfold F55j4 at hF
       refine wp_condT rfl (rgn rfl (pu (slv a2 x.length aB) rfl (pu (.pointer (some ⟨aZ,1,none⟩)) rfl (seq_c (s_load1 hI 11 (iv f.hr) Tryz.isAgg3 rfl rfl rfl ?_)))))
       refine seq_c (s_new hI [iv f.hr] 3 (fun b=>slv (some b) 1 1) (by kernel_rfl) ?_)
       intro cH w hI
       refine gdE hF (fun cI hF=>?_)
       refine seq_c (s_appN hI Tryz.underlying41 (z:=iv 0) (k:=1) (bytes:=8) rfl rfl rfl 11 rfl rfl bL [iv f.hr] rfl rfl (hI.cells 0 (off:=0) rfl (fun j u h=>by rw [Nat.zero_add]; exact h)) (by simp [Value.oneCell']) (by omega) (by omega) (n2:=(x++[f.hr]).length) (app_len rfl rfl) ?_)
       intro bP bQ bU w hI bR
       have bR:Row 1 bP ((x++[f.hr]).length) bQ bU (flat eInt (x++[f.hr])):=bR.snoc _ rfl
       refine pu (slv bP ((x++[f.hr]).length) bQ) rfl (seq_nil ?_)
       exact .inl ⟨rfl,⟨bP,bQ,bU,x++[f.hr],⟨rfl,rfl,rfl,rfl,rfl,rfl,trivial⟩,hI.pickL [1,2,3,4,5,6,7,8,9,10,11] (by decide) rfl,(bR.to rfl rfl),hF⟩⟩
     ·intro ρ w hJ
      obtain ⟨aY,b2,b3,aG,hag,hI,c7,hF⟩:=hJ
      obtain ⟨ρ,rfl⟩:=hag.form; clear hag
      unfold F55j3 at hF
      refine rgn rfl (ckE hF (fun c8 hF=>?_))
      refine seq_c (s_add rfl rfl c8 ?_)
      refine pu (iv (W+1)) rfl (seq_nil ?_)
      exact ⟨rfl,m2,Nat.lt_succ_self _,⟨aY,b2,b3,aG,W+1,m2,⟨rfl,rfl,rfl,rfl,rfl,rfl,trivial⟩,hI.pickL [0,1,2,3,4,5,6,7,8,9,10] (by decide) rfl,(c7.to rfl rfl),hF,rfl⟩⟩
    ·
     refine seq_c (s_lss rfl rfl (fun h=>absurd h bM) (fun _=>?_))
     refine seq_nil (wp_seq (wp_condF rfl (wp_exit ?_)))
     exact .inl ⟨rfl,⟨a2,aB,aF,x,⟨rfl,trivial⟩,hI.pickL [10] (by decide) rfl,(bL.to rfl rfl),hF⟩⟩
   ·intro ρ w hJ
    obtain ⟨U,Y,bK,V,hag,hI,c9,hF⟩:=hJ
    obtain ⟨ρ,rfl⟩:=hag.form; clear hag
    unfold F55j1 at hF
    refine wp_seq (rgn rfl (pu (slv U V.length Y) rfl (gdE hF (fun bV hF=>?_))))
    refine seq_c (s_call 69 [slv U V.length Y] (by kernel_rfl) (sort_c hI 0 rfl c9 bV) ?_)
    rintro v w ⟨rfl,cJ,hI,cA⟩
    refine seq_nil (wp_seq (rgn rfl (pu (slv U V.length Y) rfl (seq_c (s_call 70 [slv U V.length Y] (by kernel_rfl) (compact_c hI 0 rfl cA bV) ?_)))))
    rintro v w ⟨rfl,cB,hI,cC⟩
    refine pu (slv U ((compactI (sortI V)).length) Y) rfl (pu (iv 0) rfl (seq_nil (wp_ret ?_)))
    replace hF:=Option.some.inj hF; subst hF
    exact ⟨.tuple #[slv U ((compactI (sortI V)).length) Y,iv 0],Ret.r2 rfl rfl rfl,⟨U,Y,cB,rfl,hI.pickL [0] (by decide) rfl,cC.to rfl rfl⟩⟩
  ·
   refine seq_c (s_neq rfl rfl (fun _=>?_) (fun h=>absurd h bJ))
   refine seq_nil (wp_condT rfl (wp_seq (rgn rfl (pu (iv e.2.2.2.2.2.2) rfl (pu (.slice none 0 0) rfl (pu (iv e.2.2.2.2.2.2) rfl (seq_nil (wp_ret ?_))))))))
   have hI:=hI.nilRow 3
   replace hF:=Option.some.inj hF; subst hF
   exact ⟨.tuple #[.slice none 0 0,iv e.2.2.2.2.2.2],Ret.r2 rfl rfl rfl,⟨none,0,[],rfl,hI.pickL [0] (by decide) rfl,Row.nil_ 1⟩⟩
 ·
  refine seq_c (s_neq rfl rfl (fun _=>?_) (fun h=>absurd h bC))
  refine seq_nil (wp_condT rfl (wp_seq (rgn rfl (pu (iv aC) rfl (pu (.slice none 0 0) rfl (pu (iv aC) rfl (seq_nil (wp_ret ?_))))))))
  have hI:=hI.nilRow 3
  replace hF:=Option.some.inj hF; subst hF
  exact ⟨.tuple #[.slice none 0 0,iv aC],Ret.r2 rfl rfl rfl,⟨none,0,[],rfl,hI.pickL [0] (by decide) rfl,Row.nil_ 1⟩⟩


theorem L60 (w0:World) (r:(Int × Int × List Ld × List Ld × List Sp × Int)) (hF:F60=some r):Does Tryz.prog 60 [] w0 fun v w=>∃ (z0:Option Nat) (z1:Nat) (z2:List Value) (z3:Option Nat) (z4:Nat) (z5:List Value) (z6:Option Nat) (z7:Nat) (z8:List Value),v=.agg #[.int .i64 r.1,.int .i64 r.2.1,slv z0 r.2.2.1.length z1,slv z3 r.2.2.2.1.length z4,slv z6 r.2.2.2.2.1.length z7,.int .i64 r.2.2.2.2.2]∧Inv [] w0 w [(z0,blk z2 30),(z3,blk z5 31),(z6,blk z8 33)]∧Row 6 z0 r.2.2.1.length z1 z2 (flat eLd r.2.2.1)∧Row 6 z3 r.2.2.2.1.length z4 z5 (flat eLd r.2.2.2.1)∧Row 6 z6 r.2.2.2.2.1.length z7 z8 (flat eSp r.2.2.2.2.1):=by
 refine calls_of (n:=21) Tryz.func60 rfl Tryz.ntmps60 rfl ?_
 have hI:=Inv.start w0
 unfold F60 at hF
 refine wp_seq (rgn rfl (seq_c (s_allocI hI [iv 0,iv 0,.slice none 0 0,.slice none 0 0,.slice none 0 0,iv 0] Tryz.zeroValue28 rfl ?_)))
 intro b8 w hI
 refine seq_nil (wp_seq (rgn rfl (pu (.agg #[iv 100,iv 120]) (by kernel_rfl) (pu (.agg #[iv 40,iv 50]) (by kernel_rfl) (pu (.agg #[iv 1,iv 30,iv 40,iv 50,iv 0,iv 0]) (by kernel_rfl) (pu (.agg #[iv 30,iv 40]) (by kernel_rfl) (pu (.agg #[iv 2,iv 35,iv 30,iv 40,iv 0,iv 0]) (by kernel_rfl) (pu (.agg #[iv 10,iv 60]) (by kernel_rfl) (pu (.agg #[iv 3,iv 58,iv 10,iv 60,iv 4,iv 0]) (by kernel_rfl) ?_)))))))))
 refine seq_c (s_new hI [iv 1,iv 30,iv 40,iv 50,iv 0,iv 0,iv 2,iv 35,iv 30,iv 40,iv 0,iv 0,iv 3,iv 58,iv 10,iv 60,iv 4,iv 0] 30 (fun b=>slv (some b) 3 3) (by kernel_rfl) ?_)
 intro b9 w hI
 refine pu (.agg #[iv 20,iv 35]) (by kernel_rfl) (pu (.agg #[iv 11,iv 35,iv 20,iv 35,iv 2,iv 0]) (by kernel_rfl) (pu (.agg #[iv 0,iv 5]) (by kernel_rfl) (pu (.agg #[iv 12,iv 58,iv 0,iv 5,iv 5,iv 0]) (by kernel_rfl) (pu (.agg #[iv 13,iv 58,iv 0,iv 0,iv 6,iv 0]) (by kernel_rfl) (pu (.agg #[iv 80,iv 90]) (by kernel_rfl) (pu (.agg #[iv 14,iv 30,iv 80,iv 90,iv 9,iv 0]) (by kernel_rfl) (seq_c (s_new hI [iv 11,iv 35,iv 20,iv 35,iv 2,iv 0,iv 12,iv 58,iv 0,iv 5,iv 5,iv 0,iv 13,iv 58,iv 0,iv 0,iv 6,iv 0,iv 14,iv 30,iv 80,iv 90,iv 9,iv 0] 31 (fun b=>slv (some b) 4 4) (by kernel_rfl) ?_))))))))
 intro a w hI
 refine pu (.agg #[iv 21,iv 1,iv 58,iv 60,iv 4,iv 0]) (by kernel_rfl) (pu (.agg #[iv 22,iv 2,iv 64,iv 70,iv 5,iv 0]) (by kernel_rfl) (seq_c (s_new hI [iv 21,iv 1,iv 58,iv 60,iv 4,iv 0,iv 22,iv 2,iv 64,iv 70,iv 5,iv 0] 33 (fun b=>slv (some b) 2 2) (by kernel_rfl) ?_)))
 intro d w hI
 refine pu (.agg #[iv 100,iv 120,.slice (some ⟨b9,0,none⟩) 3 3,.slice (some ⟨a,0,none⟩) 4 4,.slice (some ⟨d,0,none⟩) 2 2,iv 2]) (by kernel_rfl) (seq_c (s_store hI 3 6 [iv 100,iv 120,.slice (some ⟨b9,0,none⟩) 3 3,.slice (some ⟨a,0,none⟩) 4 4,.slice (some ⟨d,0,none⟩) 2 2,iv 2] Tryz.sizeOf28 rfl rfl rfl rfl rfl (Nat.le_of_ble_eq_true rfl) ?_))
 intro w hI
 refine seq_nil (wp_ret ?_)
 have e:Row 6 (some b9) 3 3 [iv 1,iv 30,iv 40,iv 50,iv 0,iv 0,iv 2,iv 35,iv 30,iv 40,iv 0,iv 0,iv 3,iv 58,iv 10,iv 60,iv 4,iv 0] (flat eLd [(⟨1,30,40,50,0,0⟩:Ld),(⟨2,35,30,40,0,0⟩:Ld),(⟨3,58,10,60,4,0⟩:Ld)]):=Row.lit eLd_len (l:=[(⟨1,30,40,50,0,0⟩:Ld),(⟨2,35,30,40,0,0⟩:Ld),(⟨3,58,10,60,4,0⟩:Ld)]) rfl (Nat.le_of_ble_eq_true rfl)
 have f:Row 6 (some a) 4 4 [iv 11,iv 35,iv 20,iv 35,iv 2,iv 0,iv 12,iv 58,iv 0,iv 5,iv 5,iv 0,iv 13,iv 58,iv 0,iv 0,iv 6,iv 0,iv 14,iv 30,iv 80,iv 90,iv 9,iv 0] (flat eLd [(⟨11,35,20,35,2,0⟩:Ld),(⟨12,58,0,5,5,0⟩:Ld),(⟨13,58,0,0,6,0⟩:Ld),(⟨14,30,80,90,9,0⟩:Ld)]):=Row.lit eLd_len (l:=[(⟨11,35,20,35,2,0⟩:Ld),(⟨12,58,0,5,5,0⟩:Ld),(⟨13,58,0,0,6,0⟩:Ld),(⟨14,30,80,90,9,0⟩:Ld)]) rfl (Nat.le_of_ble_eq_true rfl)
 have g:Row 6 (some d) 2 2 [iv 21,iv 1,iv 58,iv 60,iv 4,iv 0,iv 22,iv 2,iv 64,iv 70,iv 5,iv 0] (flat eSp [(⟨21,1,58,60,4,0⟩:Sp),(⟨22,2,64,70,5,0⟩:Sp)]):=Row.lit eSp_len (l:=[(⟨21,1,58,60,4,0⟩:Sp),(⟨22,2,64,70,5,0⟩:Sp)]) rfl (Nat.le_of_ble_eq_true rfl)
 replace hF:=Option.some.inj hF; subst hF
 exact ⟨.agg #[iv 100,iv 120,slv (some b9) 3 3,slv (some a) 4 4,slv (some d) 2 2,iv 2],Ret.c rfl rfl (run_loadK hI 3 6 [iv 100,iv 120,slv (some b9) 3 3,slv (some a) 4 4,slv (some d) 2 2,iv 2] Tryz.isAgg28 Tryz.sizeOf28 rfl rfl rfl),⟨some b9,3,[iv 1,iv 30,iv 40,iv 50,iv 0,iv 0,iv 2,iv 35,iv 30,iv 40,iv 0,iv 0,iv 3,iv 58,iv 10,iv 60,iv 4,iv 0],some a,4,[iv 11,iv 35,iv 20,iv 35,iv 2,iv 0,iv 12,iv 58,iv 0,iv 5,iv 5,iv 0,iv 13,iv 58,iv 0,iv 0,iv 6,iv 0,iv 14,iv 30,iv 80,iv 90,iv 9,iv 0],some d,2,[iv 21,iv 1,iv 58,iv 60,iv 4,iv 0,iv 22,iv 2,iv 64,iv 70,iv 5,iv 0],(by first | (simp only [List.length_set,sortI_len] <;> rfl) | rfl),hI.pickL [2,1,0] (by decide) rfl,e.to rfl rfl,f.to rfl rfl,g.to rfl rfl⟩⟩


theorem L13 (w0:World) (N:Nat) (r:Bool) (hF:F13 N=some r):Does Tryz.prog 13 [] w0 fun v w=>v=.bool r∧Below w0.heap.size w0 w:=by
 refine calls_of (n:=162) Tryz.func13 rfl Tryz.ntmps13 rfl ?_
 have hI:=Inv.start w0
 unfold F13 at hF
 refine wp_seq (rgn rfl (pu (.bool false) rfl (seq_nil (wp_seq (rgn rfl (bindE hF (fun a aJ hF=>?_)))))))
 refine seq_c (s_call 60 [] (by kernel_rfl) (L60 _ _ aJ) ?_)
 rintro v w ⟨g,i,aV,k,l,aW,m,o,aX,rfl,hN,p,q,s⟩
 have hI:=hI.join hN; clear hN
 refine seq_c (s_allocI hI [iv 0,iv 0,.slice none 0 0,.slice none 0 0,.slice none 0 0,iv 0] Tryz.zeroValue28 rfl ?_)
 intro aY w hI
 refine seq_c (s_store hI 0 6 [iv a.1,iv a.2.1,slv g a.2.2.1.length i,slv k a.2.2.2.1.length l,slv m a.2.2.2.2.1.length o,iv a.2.2.2.2.2] Tryz.sizeOf28 rfl rfl rfl rfl rfl (Nat.le_of_ble_eq_true rfl) ?_)
 intro w hI
 refine seq_nil (wp_seq (rgn rfl (seq_c (s_loadK hI 0 6 [iv a.1,iv a.2.1,slv g a.2.2.1.length i,slv k a.2.2.2.1.length l,slv m a.2.2.2.2.1.length o,iv a.2.2.2.2.2] Tryz.isAgg28 Tryz.sizeOf28 rfl rfl rfl rfl ?_))))
 refine bindE hF (fun d aK hF=>?_)
 refine seq_c (s_callv hI 36 [.agg #[iv a.1,iv a.2.1,slv g a.2.2.1.length i,slv k a.2.2.2.1.length l,slv m a.2.2.2.2.1.length o,iv a.2.2.2.2.2],iv 30,iv 2] (.tuple #[.agg #[iv d.1,iv d.2.1],iv d.2.2]) (by kernel_rfl) (L36 _ a.1 a.2.1 (g.map fun b=>⟨b,0,none⟩) i a.2.2.1 (k.map fun b=>⟨b,0,none⟩) l a.2.2.2.1 (m.map fun b=>⟨b,0,none⟩) o a.2.2.2.2.1 a.2.2.2.2.2 30 2 (hI.rowCells 1 rfl p) (len_le rfl p.big) (len_le rfl p.cap) (hI.rowCells 2 rfl q) (len_le rfl q.big) (len_le rfl q.cap) (hI.rowCells 3 rfl s) (len_le rfl s.big) (len_le rfl s.cap) _ aK) ?_)
 intro w hI
 refine pu (.tuple #[.agg #[iv d.1,iv d.2.1],iv d.2.2]) rfl (pu (.agg #[iv d.1,iv d.2.1]) rfl (pu (iv d.2.2) rfl (seq_c (s_allocI hI [iv 0,iv 0] Tryz.zeroValue23 rfl ?_))))
 intro aC w hI
 refine seq_c (s_store hI 0 2 [iv d.1,iv d.2.1] Tryz.sizeOf23 rfl rfl rfl rfl rfl (Nat.le_of_ble_eq_true rfl) ?_)
 intro w hI
 refine pu (iv d.2.2) rfl (seq_nil (wp_seq (rgn rfl (seq_c (s_loadK hI 1 6 [iv a.1,iv a.2.1,slv g a.2.2.1.length i,slv k a.2.2.2.1.length l,slv m a.2.2.2.2.1.length o,iv a.2.2.2.2.2] Tryz.isAgg28 Tryz.sizeOf28 rfl rfl rfl rfl ?_)))))
 refine bindE hF (fun e aL hF=>?_)
 refine seq_c (s_callv hI 38 [.agg #[iv a.1,iv a.2.1,slv g a.2.2.1.length i,slv k a.2.2.2.1.length l,slv m a.2.2.2.2.1.length o,iv a.2.2.2.2.2],iv 3,iv 5] (.tuple #[.agg #[iv e.1,iv e.2.1],iv e.2.2]) (by kernel_rfl) (L38 _ a.1 a.2.1 (g.map fun b=>⟨b,0,none⟩) i a.2.2.1 (k.map fun b=>⟨b,0,none⟩) l a.2.2.2.1 (m.map fun b=>⟨b,0,none⟩) o a.2.2.2.2.1 a.2.2.2.2.2 3 5 (hI.rowCells 2 rfl p) (len_le rfl p.big) (len_le rfl p.cap) (hI.rowCells 3 rfl q) (len_le rfl q.big) (len_le rfl q.cap) (hI.rowCells 4 rfl s) (len_le rfl s.big) (len_le rfl s.cap) _ aL) ?_)
 intro w hI
 refine pu (.tuple #[.agg #[iv e.1,iv e.2.1],iv e.2.2]) rfl (pu (.agg #[iv e.1,iv e.2.1]) rfl (pu (iv e.2.2) rfl (seq_c (s_allocI hI [iv 0,iv 0] Tryz.zeroValue23 rfl ?_))))
 intro aD w hI
 refine seq_c (s_store hI 0 2 [iv e.1,iv e.2.1] Tryz.sizeOf23 rfl rfl rfl rfl rfl (Nat.le_of_ble_eq_true rfl) ?_)
 intro w hI
 refine pu (iv e.2.2) rfl (seq_nil (wp_seq (rgn rfl (seq_c (s_loadK hI 2 6 [iv a.1,iv a.2.1,slv g a.2.2.1.length i,slv k a.2.2.2.1.length l,slv m a.2.2.2.2.1.length o,iv a.2.2.2.2.2] Tryz.isAgg28 Tryz.sizeOf28 rfl rfl rfl rfl ?_)))))
 refine bindE hF (fun B aM hF=>?_)
 refine seq_c (s_callv hI 45 [.agg #[iv a.1,iv a.2.1,slv g a.2.2.1.length i,slv k a.2.2.2.1.length l,slv m a.2.2.2.2.1.length o,iv a.2.2.2.2.2],iv 58,iv 4] (.tuple #[iv B.1,iv B.2]) (by kernel_rfl) (L45 _ a.1 a.2.1 (g.map fun b=>⟨b,0,none⟩) i a.2.2.1 (k.map fun b=>⟨b,0,none⟩) l a.2.2.2.1 (m.map fun b=>⟨b,0,none⟩) o a.2.2.2.2.1 a.2.2.2.2.2 58 4 (hI.rowCells 3 rfl p) (len_le rfl p.big) (len_le rfl p.cap) (hI.rowCells 4 rfl q) (len_le rfl q.big) (len_le rfl q.cap) (hI.rowCells 5 rfl s) (len_le rfl s.big) (len_le rfl s.cap) _ aM) ?_)
 intro w hI
 refine pu (.tuple #[iv B.1,iv B.2]) rfl (pu (iv B.1) rfl (pu (iv B.2) rfl (pu (iv B.1) rfl (pu (iv B.2) rfl (seq_nil (wp_seq (rgn rfl (seq_c (s_loadK hI 2 6 [iv a.1,iv a.2.1,slv g a.2.2.1.length i,slv k a.2.2.2.1.length l,slv m a.2.2.2.2.1.length o,iv a.2.2.2.2.2] Tryz.isAgg28 Tryz.sizeOf28 rfl rfl rfl rfl ?_)))))))))
 refine bindE hF (fun f aN hF=>?_)
 refine seq_c (s_callv hI 47 [.agg #[iv a.1,iv a.2.1,slv g a.2.2.1.length i,slv k a.2.2.2.1.length l,slv m a.2.2.2.2.1.length o,iv a.2.2.2.2.2],iv 5] (.tuple #[.agg #[iv f.1,iv f.2.1],iv f.2.2]) (by kernel_rfl) (L47 _ a.1 a.2.1 (g.map fun b=>⟨b,0,none⟩) i a.2.2.1 (k.map fun b=>⟨b,0,none⟩) l a.2.2.2.1 (m.map fun b=>⟨b,0,none⟩) o a.2.2.2.2.1 a.2.2.2.2.2 5 (hI.rowCells 3 rfl p) (len_le rfl p.big) (len_le rfl p.cap) (hI.rowCells 4 rfl q) (len_le rfl q.big) (len_le rfl q.cap) (hI.rowCells 5 rfl s) (len_le rfl s.big) (len_le rfl s.cap) _ aN) ?_)
 intro w hI
 refine pu (.tuple #[.agg #[iv f.1,iv f.2.1],iv f.2.2]) rfl (pu (.agg #[iv f.1,iv f.2.1]) rfl (pu (iv f.2.2) rfl (seq_c (s_allocI hI [iv 0,iv 0] Tryz.zeroValue23 rfl ?_))))
 intro aE w hI
 refine seq_c (s_store hI 0 2 [iv f.1,iv f.2.1] Tryz.sizeOf23 rfl rfl rfl rfl rfl (Nat.le_of_ble_eq_true rfl) ?_)
 intro w hI
 refine pu (iv f.2.2) rfl (seq_nil (wp_seq (rgn rfl (seq_c (s_loadK hI 3 6 [iv a.1,iv a.2.1,slv g a.2.2.1.length i,slv k a.2.2.2.1.length l,slv m a.2.2.2.2.1.length o,iv a.2.2.2.2.2] Tryz.isAgg28 Tryz.sizeOf28 rfl rfl rfl rfl ?_)))))
 refine bindE hF (fun D aO hF=>?_)
 refine seq_c (s_callv hI 49 [.agg #[iv a.1,iv a.2.1,slv g a.2.2.1.length i,slv k a.2.2.2.1.length l,slv m a.2.2.2.2.1.length o,iv a.2.2.2.2.2],iv 61,iv 6] (.tuple #[.bool D.1,iv D.2]) (by kernel_rfl) (L49 _ a.1 a.2.1 (g.map fun b=>⟨b,0,none⟩) i a.2.2.1 (k.map fun b=>⟨b,0,none⟩) l a.2.2.2.1 (m.map fun b=>⟨b,0,none⟩) o a.2.2.2.2.1 a.2.2.2.2.2 61 6 (hI.rowCells 4 rfl p) (len_le rfl p.big) (len_le rfl p.cap) (hI.rowCells 5 rfl q) (len_le rfl q.big) (len_le rfl q.cap) (hI.rowCells 6 rfl s) (len_le rfl s.big) (len_le rfl s.cap) _ aO) ?_)
 intro w hI
 refine pu (.tuple #[.bool D.1,iv D.2]) rfl (pu (.bool D.1) rfl (pu (iv D.2) rfl (pu (.bool D.1) rfl (pu (iv D.2) rfl (seq_nil (wp_seq (rgn rfl (seq_c (s_loadK hI 3 6 [iv a.1,iv a.2.1,slv g a.2.2.1.length i,slv k a.2.2.2.1.length l,slv m a.2.2.2.2.1.length o,iv a.2.2.2.2.2] Tryz.isAgg28 Tryz.sizeOf28 rfl rfl rfl rfl ?_)))))))))
 refine bindE hF (fun x aP hF=>?_)
 refine seq_c (s_callv hI 51 [.agg #[iv a.1,iv a.2.1,slv g a.2.2.1.length i,slv k a.2.2.2.1.length l,slv m a.2.2.2.2.1.length o,iv a.2.2.2.2.2],iv 61,iv 5] (.tuple #[iv x.1,iv x.2]) (by kernel_rfl) (L51 _ a.1 a.2.1 (g.map fun b=>⟨b,0,none⟩) i a.2.2.1 (k.map fun b=>⟨b,0,none⟩) l a.2.2.2.1 (m.map fun b=>⟨b,0,none⟩) o a.2.2.2.2.1 a.2.2.2.2.2 61 5 (hI.rowCells 4 rfl p) (len_le rfl p.big) (len_le rfl p.cap) (hI.rowCells 5 rfl q) (len_le rfl q.big) (len_le rfl q.cap) (hI.rowCells 6 rfl s) (len_le rfl s.big) (len_le rfl s.cap) _ aP) ?_)
 intro w hI
 refine pu (.tuple #[iv x.1,iv x.2]) rfl (pu (iv x.1) rfl (pu (iv x.2) rfl (pu (iv x.1) rfl (pu (iv x.2) rfl (seq_nil (wp_seq (rgn rfl (seq_c (s_loadK hI 3 6 [iv a.1,iv a.2.1,slv g a.2.2.1.length i,slv k a.2.2.2.1.length l,slv m a.2.2.2.2.1.length o,iv a.2.2.2.2.2] Tryz.isAgg28 Tryz.sizeOf28 rfl rfl rfl rfl ?_)))))))))
 refine bindE hF (fun y aQ hF=>?_)
 refine seq_c (s_callv hI 51 [.agg #[iv a.1,iv a.2.1,slv g a.2.2.1.length i,slv k a.2.2.2.1.length l,slv m a.2.2.2.2.1.length o,iv a.2.2.2.2.2],iv 105,iv 6] (.tuple #[iv y.1,iv y.2]) (by kernel_rfl) (L51 _ a.1 a.2.1 (g.map fun b=>⟨b,0,none⟩) i a.2.2.1 (k.map fun b=>⟨b,0,none⟩) l a.2.2.2.1 (m.map fun b=>⟨b,0,none⟩) o a.2.2.2.2.1 a.2.2.2.2.2 105 6 (hI.rowCells 4 rfl p) (len_le rfl p.big) (len_le rfl p.cap) (hI.rowCells 5 rfl q) (len_le rfl q.big) (len_le rfl q.cap) (hI.rowCells 6 rfl s) (len_le rfl s.big) (len_le rfl s.cap) _ aQ) ?_)
 intro w hI
 refine pu (.tuple #[iv y.1,iv y.2]) rfl (pu (iv y.1) rfl (pu (iv y.2) rfl (pu (iv y.1) rfl (pu (iv y.2) rfl (seq_nil (wp_seq (rgn rfl (seq_c (s_loadK hI 3 6 [iv a.1,iv a.2.1,slv g a.2.2.1.length i,slv k a.2.2.2.1.length l,slv m a.2.2.2.2.1.length o,iv a.2.2.2.2.2] Tryz.isAgg28 Tryz.sizeOf28 rfl rfl rfl rfl ?_)))))))))
 refine bindE hF (fun z aR hF=>?_)
 refine seq_c (s_callv hI 51 [.agg #[iv a.1,iv a.2.1,slv g a.2.2.1.length i,slv k a.2.2.2.1.length l,slv m a.2.2.2.2.1.length o,iv a.2.2.2.2.2],iv 106,iv 6] (.tuple #[iv z.1,iv z.2]) (by kernel_rfl) (L51 _ a.1 a.2.1 (g.map fun b=>⟨b,0,none⟩) i a.2.2.1 (k.map fun b=>⟨b,0,none⟩) l a.2.2.2.1 (m.map fun b=>⟨b,0,none⟩) o a.2.2.2.2.1 a.2.2.2.2.2 106 6 (hI.rowCells 4 rfl p) (len_le rfl p.big) (len_le rfl p.cap) (hI.rowCells 5 rfl q) (len_le rfl q.big) (len_le rfl q.cap) (hI.rowCells 6 rfl s) (len_le rfl s.big) (len_le rfl s.cap) _ aR) ?_)
 intro w hI
 refine pu (.tuple #[iv z.1,iv z.2]) rfl (pu (iv z.1) rfl (pu (iv z.2) rfl (pu (iv z.1) rfl (pu (iv z.2) rfl (seq_nil (wp_seq (rgn rfl (seq_c (s_loadK hI 3 6 [iv a.1,iv a.2.1,slv g a.2.2.1.length i,slv k a.2.2.2.1.length l,slv m a.2.2.2.2.1.length o,iv a.2.2.2.2.2] Tryz.isAgg28 Tryz.sizeOf28 rfl rfl rfl rfl ?_)))))))))
 refine bindE hF (fun t aS hF=>?_)
 refine seq_c (s_call 32 [.agg #[iv a.1,iv a.2.1,slv g a.2.2.1.length i,slv k a.2.2.2.1.length l,slv m a.2.2.2.2.1.length o,iv a.2.2.2.2.2],iv 9] (by kernel_rfl) (L32 _ a.1 a.2.1 (g.map fun b=>⟨b,0,none⟩) i a.2.2.1 (k.map fun b=>⟨b,0,none⟩) l a.2.2.2.1 (m.map fun b=>⟨b,0,none⟩) o a.2.2.2.2.1 a.2.2.2.2.2 9 (hI.rowCells 4 rfl p) (len_le rfl p.big) (len_le rfl p.cap) (hI.rowCells 5 rfl q) (len_le rfl q.big) (len_le rfl q.cap) (hI.rowCells 6 rfl s) (len_le rfl s.big) (len_le rfl s.cap) _ aS) ?_)
 rintro v w ⟨C,E,aF,rfl,hN,K⟩
 have hI:=hI.join hN; clear hN
 refine pu (.tuple #[slv C t.1.length E,iv t.2]) rfl (pu (slv C t.1.length E) rfl (pu (iv t.2) rfl (pu (slv C t.1.length E) rfl (pu (iv t.2) rfl (seq_nil (wp_seq (rgn rfl (seq_c (s_loadK hI 4 6 [iv a.1,iv a.2.1,slv g a.2.2.1.length i,slv k a.2.2.2.1.length l,slv m a.2.2.2.2.1.length o,iv a.2.2.2.2.2] Tryz.isAgg28 Tryz.sizeOf28 rfl rfl rfl rfl ?_)))))))))
 refine bindE hF (fun A aT hF=>?_)
 refine seq_c (s_call 55 [.agg #[iv a.1,iv a.2.1,slv g a.2.2.1.length i,slv k a.2.2.2.1.length l,slv m a.2.2.2.2.1.length o,iv a.2.2.2.2.2],iv 11,iv 2] (by kernel_rfl) (L55 _ a.1 a.2.1 (g.map fun b=>⟨b,0,none⟩) i a.2.2.1 (k.map fun b=>⟨b,0,none⟩) l a.2.2.2.1 (m.map fun b=>⟨b,0,none⟩) o a.2.2.2.2.1 a.2.2.2.2.2 11 2 (hI.rowCells 5 rfl p) (len_le rfl p.big) (len_le rfl p.cap) (hI.rowCells 6 rfl q) (len_le rfl q.big) (len_le rfl q.cap) (hI.rowCells 7 rfl s) (len_le rfl s.big) (len_le rfl s.cap) N _ aT) ?_)
 rintro v w ⟨F,G,aG,rfl,hN,O⟩
 have hI:=hI.join hN; clear hN
 refine pu (.tuple #[slv F A.1.length G,iv A.2]) rfl (pu (slv F A.1.length G) rfl (pu (iv A.2) rfl (pu (slv F A.1.length G) rfl (pu (iv A.2) rfl (seq_nil (wp_cutO (fun ρ w=>∃ (H:Bool),Agree ρ [(2,.pointer (some ⟨aC,0,none⟩)),(4,.pointer (some ⟨aD,0,none⟩)),(6,iv B.1),(8,.pointer (some ⟨aE,0,none⟩)),(10,.bool D.1),(12,iv x.1),(14,iv y.1),(16,iv z.1),(18,slv C t.1.length E),(20,slv F A.1.length G),(22,.bool H)]∧Inv [] w0 w [(some aC,blk [iv d.1,iv d.2.1] 23),(some aD,blk [iv e.1,iv e.2.1] 23),(some aE,blk [iv f.1,iv f.2.1] 23),(C,blk aF 3),(F,blk aG 3)]∧F13j1 N d e B f D x y z t A H=some r) ?_ ?_))))))
 ·
  refine rgn rfl (pu (iv d.2.2) rfl (ifE hF (fun P hF=>?_) (fun P hF=>?_)))
  ·
   refine seq_c (s_eql rfl rfl (fun _=>?_) (fun h=>absurd P h))
   refine pu (.bool true) rfl (puo (iv e.2.2) ⟨rfl,rfl⟩ (ifE hF (fun Q hF=>?_) (fun Q hF=>?_)))
   ·
    refine seq_on rfl (s_eql rfl rfl (fun _=>?_) (fun h=>absurd Q h))
    refine pu (.bool true) rfl (pu (.bool true) rfl (puo (iv B.2) ⟨rfl,rfl⟩ (ifE hF (fun R hF=>?_) (fun R hF=>?_))))
    ·
     refine seq_on rfl (s_eql rfl rfl (fun _=>?_) (fun h=>absurd R h))
     refine pu (.bool true) rfl (pu (.bool true) rfl (puo (iv f.2.2) ⟨rfl,rfl⟩ (ifE hF (fun S hF=>?_) (fun S hF=>?_))))
     ·
      refine seq_on rfl (s_eql rfl rfl (fun _=>?_) (fun h=>absurd S h))
      refine pu (.bool true) rfl (pu (.bool true) rfl (puo (iv D.2) ⟨rfl,rfl⟩ (ifE hF (fun T hF=>?_) (fun T hF=>?_))))
      ·
       refine seq_on rfl (s_eql rfl rfl (fun _=>?_) (fun h=>absurd T h))
       refine pu (.bool true) rfl (pu (.bool true) rfl (puo (iv x.2) ⟨rfl,rfl⟩ (ifE hF (fun U hF=>?_) (fun U hF=>?_))))
       ·
        refine seq_on rfl (s_eql rfl rfl (fun _=>?_) (fun h=>absurd U h))
        refine pu (.bool true) rfl (pu (.bool true) rfl (puo (iv y.2) ⟨rfl,rfl⟩ (ifE hF (fun V hF=>?_) (fun V hF=>?_))))
        ·
         refine seq_on rfl (s_eql rfl rfl (fun _=>?_) (fun h=>absurd V h))
         refine pu (.bool true) rfl (pu (.bool true) rfl (puo (iv z.2) ⟨rfl,rfl⟩ (ifE hF (fun W hF=>?_) (fun W hF=>?_))))
         ·
          refine seq_on rfl (s_eql rfl rfl (fun _=>?_) (fun h=>absurd W h))
          refine pu (.bool true) rfl (pu (.bool true) rfl (puo (iv t.2) ⟨rfl,rfl⟩ (ifE hF (fun X hF=>?_) (fun X hF=>?_))))
          ·
           refine seq_on rfl (s_eql rfl rfl (fun _=>?_) (fun h=>absurd X h))
           refine pu (.bool true) rfl (pu (.bool true) rfl (puo (iv A.2) ⟨rfl,rfl⟩ (ifE hF (fun Y hF=>?_) (fun Y hF=>?_))))
           ·
            refine seq_on rfl (s_eql rfl rfl (fun _=>?_) (fun h=>absurd Y h))
            refine pu (.bool true) rfl (pu (.bool true) rfl (seq_nil ?_))
            exact .inl ⟨rfl,⟨true,⟨rfl,rfl,rfl,rfl,rfl,rfl,rfl,rfl,rfl,rfl,rfl,trivial⟩,hI.pickL [4,3,2,1,0] (by decide) rfl,hF⟩⟩
           ·
            refine seq_on rfl (s_eql rfl rfl (fun h=>absurd h Y) (fun _=>?_))
            refine pu (.bool false) rfl (pu (.bool false) rfl (seq_nil ?_))
            exact .inl ⟨rfl,⟨false,⟨rfl,rfl,rfl,rfl,rfl,rfl,rfl,rfl,rfl,rfl,rfl,trivial⟩,hI.pickL [4,3,2,1,0] (by decide) rfl,hF⟩⟩
          ·
           refine seq_on rfl (s_eql rfl rfl (fun h=>absurd h X) (fun _=>?_))
           refine pu (.bool false) rfl (pu (.bool false) rfl (sf 2 rfl (pu (.bool false) rfl (pu (.bool false) rfl (seq_nil ?_)))))
           exact .inl ⟨rfl,⟨false,⟨rfl,rfl,rfl,rfl,rfl,rfl,rfl,rfl,rfl,rfl,rfl,trivial⟩,hI.pickL [4,3,2,1,0] (by decide) rfl,hF⟩⟩
         ·
          refine seq_on rfl (s_eql rfl rfl (fun h=>absurd h W) (fun _=>?_))
          refine pu (.bool false) rfl (pu (.bool false) rfl (sf 2 rfl (pu (.bool false) rfl (pu (.bool false) rfl (sf 2 rfl (pu (.bool false) rfl (pu (.bool false) rfl (seq_nil ?_))))))))
          exact .inl ⟨rfl,⟨false,⟨rfl,rfl,rfl,rfl,rfl,rfl,rfl,rfl,rfl,rfl,rfl,trivial⟩,hI.pickL [4,3,2,1,0] (by decide) rfl,hF⟩⟩
        ·
         refine seq_on rfl (s_eql rfl rfl (fun h=>absurd h V) (fun _=>?_))
         refine pu (.bool false) rfl (pu (.bool false) rfl (sf 2 rfl (pu (.bool false) rfl (pu (.bool false) rfl (sf 2 rfl (pu (.bool false) rfl (pu (.bool false) rfl (sf 2 rfl (pu (.bool false) rfl ?_)))))))))
         refine pu (.bool false) rfl (seq_nil ?_)
         exact .inl ⟨rfl,⟨false,⟨rfl,rfl,rfl,rfl,rfl,rfl,rfl,rfl,rfl,rfl,rfl,trivial⟩,hI.pickL [4,3,2,1,0] (by decide) rfl,hF⟩⟩
       ·
        refine seq_on rfl (s_eql rfl rfl (fun h=>absurd h U) (fun _=>?_))
        refine pu (.bool false) rfl (pu (.bool false) rfl (sf 2 rfl (pu (.bool false) rfl (pu (.bool false) rfl (sf 2 rfl (pu (.bool false) rfl (pu (.bool false) rfl (sf 2 rfl (pu (.bool false) rfl ?_)))))))))
        refine pu (.bool false) rfl (sf 2 rfl (pu (.bool false) rfl (pu (.bool false) rfl (seq_nil ?_))))
        exact .inl ⟨rfl,⟨false,⟨rfl,rfl,rfl,rfl,rfl,rfl,rfl,rfl,rfl,rfl,rfl,trivial⟩,hI.pickL [4,3,2,1,0] (by decide) rfl,hF⟩⟩
      ·
       refine seq_on rfl (s_eql rfl rfl (fun h=>absurd h T) (fun _=>?_))
       refine pu (.bool false) rfl (pu (.bool false) rfl (sf 2 rfl (pu (.bool false) rfl (pu (.bool false) rfl (sf 2 rfl (pu (.bool false) rfl (pu (.bool false) rfl (sf 2 rfl (pu (.bool false) rfl ?_)))))))))
       refine pu (.bool false) rfl (sf 2 rfl (pu (.bool false) rfl (pu (.bool false) rfl (sf 2 rfl (pu (.bool false) rfl (pu (.bool false) rfl (seq_nil ?_)))))))
       exact .inl ⟨rfl,⟨false,⟨rfl,rfl,rfl,rfl,rfl,rfl,rfl,rfl,rfl,rfl,rfl,trivial⟩,hI.pickL [4,3,2,1,0] (by decide) rfl,hF⟩⟩
     ·
      refine seq_on rfl (s_eql rfl rfl (fun h=>absurd h S) (fun _=>?_))
      refine pu (.bool false) rfl (pu (.bool false) rfl (sf 2 rfl (pu (.bool false) rfl (pu (.bool false) rfl (sf 2 rfl (pu (.bool false) rfl (pu (.bool false) rfl (sf 2 rfl (pu (.bool false) rfl ?_)))))))))
      refine pu (.bool false) rfl (sf 2 rfl (pu (.bool false) rfl (pu (.bool false) rfl (sf 2 rfl (pu (.bool false) rfl (pu (.bool false) rfl (sf 2 rfl (pu (.bool false) rfl (pu (.bool false) rfl ?_)))))))))
      refine seq_nil ?_
      exact .inl ⟨rfl,⟨false,⟨rfl,rfl,rfl,rfl,rfl,rfl,rfl,rfl,rfl,rfl,rfl,trivial⟩,hI.pickL [4,3,2,1,0] (by decide) rfl,hF⟩⟩
    ·
     refine seq_on rfl (s_eql rfl rfl (fun h=>absurd h R) (fun _=>?_))
     refine pu (.bool false) rfl (pu (.bool false) rfl (sf 2 rfl (pu (.bool false) rfl (pu (.bool false) rfl (sf 2 rfl (pu (.bool false) rfl (pu (.bool false) rfl (sf 2 rfl (pu (.bool false) rfl ?_)))))))))
     refine pu (.bool false) rfl (sf 2 rfl (pu (.bool false) rfl (pu (.bool false) rfl (sf 2 rfl (pu (.bool false) rfl (pu (.bool false) rfl (sf 2 rfl (pu (.bool false) rfl (pu (.bool false) rfl ?_)))))))))
     refine sf 2 rfl (pu (.bool false) rfl (pu (.bool false) rfl (seq_nil ?_)))
     exact .inl ⟨rfl,⟨false,⟨rfl,rfl,rfl,rfl,rfl,rfl,rfl,rfl,rfl,rfl,rfl,trivial⟩,hI.pickL [4,3,2,1,0] (by decide) rfl,hF⟩⟩
   ·
    refine seq_on rfl (s_eql rfl rfl (fun h=>absurd h Q) (fun _=>?_))
    refine pu (.bool false) rfl (pu (.bool false) rfl (sf 2 rfl (pu (.bool false) rfl (pu (.bool false) rfl (sf 2 rfl (pu (.bool false) rfl (pu (.bool false) rfl (sf 2 rfl (pu (.bool false) rfl ?_)))))))))
    refine pu (.bool false) rfl (sf 2 rfl (pu (.bool false) rfl (pu (.bool false) rfl (sf 2 rfl (pu (.bool false) rfl (pu (.bool false) rfl (sf 2 rfl (pu (.bool false) rfl (pu (.bool false) rfl ?_)))))))))
    refine sf 2 rfl (pu (.bool false) rfl (pu (.bool false) rfl (sf 2 rfl (pu (.bool false) rfl (pu (.bool false) rfl (seq_nil ?_))))))
    exact .inl ⟨rfl,⟨false,⟨rfl,rfl,rfl,rfl,rfl,rfl,rfl,rfl,rfl,rfl,rfl,trivial⟩,hI.pickL [4,3,2,1,0] (by decide) rfl,hF⟩⟩
  ·
   refine seq_c (s_eql rfl rfl (fun h=>absurd h P) (fun _=>?_))
   refine pu (.bool false) rfl (sf 2 rfl (pu (.bool false) rfl (pu (.bool false) rfl (sf 2 rfl (pu (.bool false) rfl (pu (.bool false) rfl (sf 2 rfl (pu (.bool false) rfl (pu (.bool false) rfl ?_)))))))))
   refine sf 2 rfl (pu (.bool false) rfl (pu (.bool false) rfl (sf 2 rfl (pu (.bool false) rfl (pu (.bool false) rfl (sf 2 rfl (pu (.bool false) rfl (pu (.bool false) rfl (of_ rfl ?_)))))))))
   refine of_ rfl (pu (.bool false) rfl (pu (.bool false) rfl (sf 2 rfl (pu (.bool false) rfl (pu (.bool false) rfl (sf 2 rfl (pu (.bool false) rfl (pu (.bool false) rfl (seq_nil ?_)))))))))
   exact .inl ⟨rfl,⟨false,⟨rfl,rfl,rfl,rfl,rfl,rfl,rfl,rfl,rfl,rfl,rfl,trivial⟩,hI.pickL [4,3,2,1,0] (by decide) rfl,hF⟩⟩
 ·intro ρ w hJ
  obtain ⟨H,hag,hI,hF⟩:=hJ
  obtain ⟨ρ,rfl⟩:=hag.form; clear hag
  unfold F13j1 at hF
  refine wp_cutO (fun ρ w=>∃ (I:Bool),Agree ρ [(12,iv x.1),(14,iv y.1),(16,iv z.1),(18,slv C t.1.length E),(20,slv F A.1.length G),(22,.bool H),(23,.bool I)]∧Inv [] w0 w [(C,blk aF 3),(F,blk aG 3)]∧F13j2 N x y z t A H I=some r) ?_ ?_
  ·
   refine ifE hF (fun Z hF=>?_) (fun Z hF=>?_)
   ·
    rw [Z]
    refine rgn rfl (seq_c (s_loadK hI 0 2 [iv d.1,iv d.2.1] Tryz.isAgg23 Tryz.sizeOf23 rfl rfl rfl rfl ?_))
    refine pu (.agg #[iv 50,iv 75]) (by kernel_rfl) (ifE hF (fun a0 hF=>?_) (fun a0 hF=>?_))
    ·
     refine seq_c (s_eqlA (b:=decide (d.1=50) && decide (d.2.1=75)) rfl rfl (by kernel_rfl) (fun w=>eq23 _ d.1 d.2.1 50 75 w) (fun _=>?_) (fun h=>absurd a0 h))
     refine pu (.bool true) rfl (seq_on rfl (s_loadK hI 1 2 [iv e.1,iv e.2.1] Tryz.isAgg23 Tryz.sizeOf23 rfl rfl rfl rfl ?_))
     refine puo (.agg #[iv 15,iv 35]) ⟨rfl,(by kernel_rfl)⟩ (ifE hF (fun a1 hF=>?_) (fun a1 hF=>?_))
     ·
      refine seq_on rfl (s_eqlA (b:=decide (e.1=15) && decide (e.2.1=35)) rfl rfl (by kernel_rfl) (fun w=>eq23 _ e.1 e.2.1 15 35 w) (fun _=>?_) (fun h=>absurd a1 h))
      refine pu (.bool true) rfl (pu (.bool true) rfl (puo (iv B.1) ⟨rfl,rfl⟩ (ifE hF (fun a2 hF=>?_) (fun a2 hF=>?_))))
      ·
       refine seq_on rfl (s_eql rfl rfl (fun _=>?_) (fun h=>absurd a2 h))
       refine pu (.bool true) rfl (pu (.bool true) rfl (seq_on rfl (s_loadK hI 2 2 [iv f.1,iv f.2.1] Tryz.isAgg23 Tryz.sizeOf23 rfl rfl rfl rfl ?_)))
       refine puo (.agg #[iv 58,iv 100000]) ⟨rfl,(by kernel_rfl)⟩ (ifE hF (fun a3 hF=>?_) (fun a3 hF=>?_))
       ·
        refine seq_on rfl (s_eqlA (b:=decide (f.1=58) && decide (f.2.1=100000)) rfl rfl (by kernel_rfl) (fun w=>eq23 _ f.1 f.2.1 58 100000 w) (fun _=>?_) (fun h=>absurd a3 h))
        refine pu (.bool true) rfl (pu (.bool true) rfl (puo (.bool true) ⟨rfl,rfl⟩ (puo (.bool false) ⟨rfl,rfl⟩ (pu (.bool false) rfl (pu (.bool false) rfl (seq_nil ?_))))))
        exact .inl ⟨rfl,⟨false,⟨rfl,rfl,rfl,rfl,rfl,rfl,rfl,trivial⟩,hI.pickL [3,4] (by decide) rfl,hF⟩⟩
       ·
        refine seq_on rfl (s_eqlA (b:=decide (f.1=58) && decide (f.2.1=100000)) rfl rfl (by kernel_rfl) (fun w=>eq23 _ f.1 f.2.1 58 100000 w) (fun h=>absurd h a3) (fun _=>?_))
        refine pu (.bool false) rfl (pu (.bool false) rfl (sf 2 rfl (pu (.bool false) rfl (pu (.bool false) rfl (seq_nil ?_)))))
        exact .inl ⟨rfl,⟨false,⟨rfl,rfl,rfl,rfl,rfl,rfl,rfl,trivial⟩,hI.pickL [3,4] (by decide) rfl,hF⟩⟩
      ·
       refine seq_on rfl (s_eql rfl rfl (fun h=>absurd h a2) (fun _=>?_))
       refine pu (.bool false) rfl (pu (.bool false) rfl (sf 3 rfl (pu (.bool false) rfl (pu (.bool false) rfl (sf 2 rfl (pu (.bool false) rfl (pu (.bool false) rfl (seq_nil ?_))))))))
       exact .inl ⟨rfl,⟨false,⟨rfl,rfl,rfl,rfl,rfl,rfl,rfl,trivial⟩,hI.pickL [3,4] (by decide) rfl,hF⟩⟩
     ·
      refine seq_on rfl (s_eqlA (b:=decide (e.1=15) && decide (e.2.1=35)) rfl rfl (by kernel_rfl) (fun w=>eq23 _ e.1 e.2.1 15 35 w) (fun h=>absurd h a1) (fun _=>?_))
      refine pu (.bool false) rfl (pu (.bool false) rfl (sf 2 rfl (pu (.bool false) rfl (pu (.bool false) rfl (sf 3 rfl (pu (.bool false) rfl (pu (.bool false) rfl (sf 2 rfl (pu (.bool false) rfl ?_)))))))))
      refine pu (.bool false) rfl (seq_nil ?_)
      exact .inl ⟨rfl,⟨false,⟨rfl,rfl,rfl,rfl,rfl,rfl,rfl,trivial⟩,hI.pickL [3,4] (by decide) rfl,hF⟩⟩
    ·
     refine seq_c (s_eqlA (b:=decide (d.1=50) && decide (d.2.1=75)) rfl rfl (by kernel_rfl) (fun w=>eq23 _ d.1 d.2.1 50 75 w) (fun h=>absurd h a0) (fun _=>?_))
     refine pu (.bool false) rfl (sf 3 rfl (pu (.bool false) rfl (pu (.bool false) rfl (sf 2 rfl (pu (.bool false) rfl (pu (.bool false) rfl (sf 3 rfl (pu (.bool false) rfl (pu (.bool false) rfl ?_)))))))))
     refine sf 2 rfl (pu (.bool false) rfl (pu (.bool false) rfl (seq_nil ?_)))
     exact .inl ⟨rfl,⟨false,⟨rfl,rfl,rfl,rfl,rfl,rfl,rfl,trivial⟩,hI.pickL [3,4] (by decide) rfl,hF⟩⟩
   ·
    rw [(Bool.eq_false_iff.2 Z)]
    refine rgn rfl (seq_c (s_loadK hI 0 2 [iv d.1,iv d.2.1] Tryz.isAgg23 Tryz.sizeOf23 rfl rfl rfl rfl ?_))
    refine pu (.agg #[iv 50,iv 75]) (by kernel_rfl) (ifE hF (fun a4 hF=>?_) (fun a4 hF=>?_))
    ·
     refine seq_c (s_eqlA (b:=decide (d.1=50) && decide (d.2.1=75)) rfl rfl (by kernel_rfl) (fun w=>eq23 _ d.1 d.2.1 50 75 w) (fun _=>?_) (fun h=>absurd a4 h))
     refine pu (.bool true) rfl (seq_on rfl (s_loadK hI 1 2 [iv e.1,iv e.2.1] Tryz.isAgg23 Tryz.sizeOf23 rfl rfl rfl rfl ?_))
     refine puo (.agg #[iv 15,iv 35]) ⟨rfl,(by kernel_rfl)⟩ (ifE hF (fun a5 hF=>?_) (fun a5 hF=>?_))
     ·
      refine seq_on rfl (s_eqlA (b:=decide (e.1=15) && decide (e.2.1=35)) rfl rfl (by kernel_rfl) (fun w=>eq23 _ e.1 e.2.1 15 35 w) (fun _=>?_) (fun h=>absurd a5 h))
      refine pu (.bool true) rfl (pu (.bool true) rfl (puo (iv B.1) ⟨rfl,rfl⟩ (ifE hF (fun a6 hF=>?_) (fun a6 hF=>?_))))
      ·
       refine seq_on rfl (s_eql rfl rfl (fun _=>?_) (fun h=>absurd a6 h))
       refine pu (.bool true) rfl (pu (.bool true) rfl (seq_on rfl (s_loadK hI 2 2 [iv f.1,iv f.2.1] Tryz.isAgg23 Tryz.sizeOf23 rfl rfl rfl rfl ?_)))
       refine puo (.agg #[iv 58,iv 100000]) ⟨rfl,(by kernel_rfl)⟩ (ifE hF (fun a7 hF=>?_) (fun a7 hF=>?_))
       ·
        refine seq_on rfl (s_eqlA (b:=decide (f.1=58) && decide (f.2.1=100000)) rfl rfl (by kernel_rfl) (fun w=>eq23 _ f.1 f.2.1 58 100000 w) (fun _=>?_) (fun h=>absurd a7 h))
        refine pu (.bool true) rfl (pu (.bool true) rfl (puo (.bool false) ⟨rfl,rfl⟩ (puo (.bool true) ⟨rfl,rfl⟩ (pu (.bool true) rfl (pu (.bool true) rfl (seq_nil ?_))))))
        exact .inl ⟨rfl,⟨true,⟨rfl,rfl,rfl,rfl,rfl,rfl,rfl,trivial⟩,hI.pickL [3,4] (by decide) rfl,hF⟩⟩
       ·
        refine seq_on rfl (s_eqlA (b:=decide (f.1=58) && decide (f.2.1=100000)) rfl rfl (by kernel_rfl) (fun w=>eq23 _ f.1 f.2.1 58 100000 w) (fun h=>absurd h a7) (fun _=>?_))
        refine pu (.bool false) rfl (pu (.bool false) rfl (sf 2 rfl (pu (.bool false) rfl (pu (.bool false) rfl (seq_nil ?_)))))
        exact .inl ⟨rfl,⟨false,⟨rfl,rfl,rfl,rfl,rfl,rfl,rfl,trivial⟩,hI.pickL [3,4] (by decide) rfl,hF⟩⟩
      ·
       refine seq_on rfl (s_eql rfl rfl (fun h=>absurd h a6) (fun _=>?_))
       refine pu (.bool false) rfl (pu (.bool false) rfl (sf 3 rfl (pu (.bool false) rfl (pu (.bool false) rfl (sf 2 rfl (pu (.bool false) rfl (pu (.bool false) rfl (seq_nil ?_))))))))
       exact .inl ⟨rfl,⟨false,⟨rfl,rfl,rfl,rfl,rfl,rfl,rfl,trivial⟩,hI.pickL [3,4] (by decide) rfl,hF⟩⟩
     ·
      refine seq_on rfl (s_eqlA (b:=decide (e.1=15) && decide (e.2.1=35)) rfl rfl (by kernel_rfl) (fun w=>eq23 _ e.1 e.2.1 15 35 w) (fun h=>absurd h a5) (fun _=>?_))
      refine pu (.bool false) rfl (pu (.bool false) rfl (sf 2 rfl (pu (.bool false) rfl (pu (.bool false) rfl (sf 3 rfl (pu (.bool false) rfl (pu (.bool false) rfl (sf 2 rfl (pu (.bool false) rfl ?_)))))))))
      refine pu (.bool false) rfl (seq_nil ?_)
      exact .inl ⟨rfl,⟨false,⟨rfl,rfl,rfl,rfl,rfl,rfl,rfl,trivial⟩,hI.pickL [3,4] (by decide) rfl,hF⟩⟩
    ·
     refine seq_c (s_eqlA (b:=decide (d.1=50) && decide (d.2.1=75)) rfl rfl (by kernel_rfl) (fun w=>eq23 _ d.1 d.2.1 50 75 w) (fun h=>absurd h a4) (fun _=>?_))
     refine pu (.bool false) rfl (sf 3 rfl (pu (.bool false) rfl (pu (.bool false) rfl (sf 2 rfl (pu (.bool false) rfl (pu (.bool false) rfl (sf 3 rfl (pu (.bool false) rfl (pu (.bool false) rfl ?_)))))))))
     refine sf 2 rfl (pu (.bool false) rfl (pu (.bool false) rfl (seq_nil ?_)))
     exact .inl ⟨rfl,⟨false,⟨rfl,rfl,rfl,rfl,rfl,rfl,rfl,trivial⟩,hI.pickL [3,4] (by decide) rfl,hF⟩⟩
  ·intro ρ w hJ
   obtain ⟨I,hag,hI,hF⟩:=hJ
   obtain ⟨ρ,rfl⟩:=hag.form; clear hag
   unfold F13j2 at hF
   refine wp_cutO (fun ρ w=>∃ (J:Bool),Agree ρ [(22,.bool H),(23,.bool I),(24,.bool J)]∧Inv [] w0 w []∧F13j3 H I J=some r) ?_ ?_
   ·
    refine rgn rfl (pu (iv x.1) rfl (ifE hF (fun a8 hF=>?_) (fun a8 hF=>?_)))
    ·
     refine seq_c (s_eql rfl rfl (fun _=>?_) (fun h=>absurd a8 h))
     refine pu (.bool true) rfl (puo (iv y.1) ⟨rfl,rfl⟩ (ifE hF (fun a9 hF=>?_) (fun a9 hF=>?_)))
     ·
      refine seq_on rfl (s_eql rfl rfl (fun _=>?_) (fun h=>absurd a9 h))
      refine pu (.bool true) rfl (pu (.bool true) rfl (puo (iv z.1) ⟨rfl,rfl⟩ (ifE hF (fun aA hF=>?_) (fun aA hF=>?_))))
      ·
       refine seq_on rfl (s_eql rfl rfl (fun _=>?_) (fun h=>absurd aA h))
       refine pu (.bool true) rfl (pu (.bool true) rfl (puo (slv C t.1.length E) ⟨rfl,rfl⟩ (seq_on rfl (s_new hI [iv 2,iv 11,iv 14] 3 (fun b=>slv (some b) 3 3) (by kernel_rfl) ?_))))
       intro L w hI
       refine bindE hF (fun aZ aH hF=>?_)
       refine ifE hF (fun aB hF=>?_) (fun aB hF=>?_)
       ·
        refine seq_on rfl (s_callv hI 21 [slv C t.1.length E,.slice (some ⟨L,0,none⟩) 3 3] (.bool true) (by kernel_rfl) (Does.mono (L21 _ (C.map fun b=>⟨b,0,none⟩) E t.1 (some ⟨L,0,none⟩) 3 [2,11,14] (hI.rowCells 1 rfl K) (len_le rfl K.big) (len_le rfl K.cap) (hI.cells 0 (off:=0) rfl (fun j u h=>by rw [Nat.zero_add]; exact h)) (Nat.le_of_ble_eq_true rfl) (Nat.le_refl _) N _ aH) (fun v' w' h=>⟨h.1.trans (congrArg Value.bool aB),h.2⟩)) ?_)
        intro w hI
        refine pu (.bool true) rfl (pu (.bool true) rfl (puo (slv F A.1.length G) ⟨rfl,rfl⟩ (seq_on rfl (s_new hI [iv 30,iv 35,iv 58] 3 (fun b=>slv (some b) 3 3) (by kernel_rfl) ?_))))
        intro aI w hI
        refine bindE hF (fun M aU hF=>?_)
        refine seq_on rfl (s_callv hI 21 [slv F A.1.length G,.slice (some ⟨aI,0,none⟩) 3 3] (.bool M) (by kernel_rfl) (L21 _ (F.map fun b=>⟨b,0,none⟩) G A.1 (some ⟨aI,0,none⟩) 3 [30,35,58] (hI.rowCells 3 rfl O) (len_le rfl O.big) (len_le rfl O.cap) (hI.cells 0 (off:=0) rfl (fun j u h=>by rw [Nat.zero_add]; exact h)) (Nat.le_of_ble_eq_true rfl) (Nat.le_refl _) N _ aU) ?_)
        intro w hI
        refine pu (.bool M) rfl (pu (.bool M) rfl (seq_nil ?_))
        exact .inl ⟨rfl,⟨M,⟨rfl,rfl,rfl,trivial⟩,hI.pickL [] (by decide) rfl,hF⟩⟩
       ·
        refine seq_on rfl (s_callv hI 21 [slv C t.1.length E,.slice (some ⟨L,0,none⟩) 3 3] (.bool false) (by kernel_rfl) (Does.mono (L21 _ (C.map fun b=>⟨b,0,none⟩) E t.1 (some ⟨L,0,none⟩) 3 [2,11,14] (hI.rowCells 1 rfl K) (len_le rfl K.big) (len_le rfl K.cap) (hI.cells 0 (off:=0) rfl (fun j u h=>by rw [Nat.zero_add]; exact h)) (Nat.le_of_ble_eq_true rfl) (Nat.le_refl _) N _ aH) (fun v' w' h=>⟨h.1.trans (congrArg Value.bool (Bool.eq_false_iff.2 aB)),h.2⟩)) ?_)
        intro w hI
        refine pu (.bool false) rfl (pu (.bool false) rfl (sf 3 rfl (pu (.bool false) rfl (pu (.bool false) rfl (seq_nil ?_)))))
        exact .inl ⟨rfl,⟨false,⟨rfl,rfl,rfl,trivial⟩,hI.pickL [] (by decide) rfl,hF⟩⟩
      ·
       refine seq_on rfl (s_eql rfl rfl (fun h=>absurd h aA) (fun _=>?_))
       refine pu (.bool false) rfl (pu (.bool false) rfl (sf 3 rfl (pu (.bool false) rfl (pu (.bool false) rfl (sf 3 rfl (pu (.bool false) rfl (pu (.bool false) rfl (seq_nil ?_))))))))
       exact .inl ⟨rfl,⟨false,⟨rfl,rfl,rfl,trivial⟩,hI.pickL [] (by decide) rfl,hF⟩⟩
     ·
      refine seq_on rfl (s_eql rfl rfl (fun h=>absurd h a9) (fun _=>?_))
      refine pu (.bool false) rfl (pu (.bool false) rfl (sf 2 rfl (pu (.bool false) rfl (pu (.bool false) rfl (sf 3 rfl (pu (.bool false) rfl (pu (.bool false) rfl (sf 3 rfl (pu (.bool false) rfl ?_)))))))))
      refine pu (.bool false) rfl (seq_nil ?_)
      exact .inl ⟨rfl,⟨false,⟨rfl,rfl,rfl,trivial⟩,hI.pickL [] (by decide) rfl,hF⟩⟩
    ·
     refine seq_c (s_eql rfl rfl (fun h=>absurd h a8) (fun _=>?_))
     refine pu (.bool false) rfl (sf 2 rfl (pu (.bool false) rfl (pu (.bool false) rfl (sf 2 rfl (pu (.bool false) rfl (pu (.bool false) rfl (sf 3 rfl (pu (.bool false) rfl (pu (.bool false) rfl ?_)))))))))
     refine sf 3 rfl (pu (.bool false) rfl (pu (.bool false) rfl (seq_nil ?_)))
     exact .inl ⟨rfl,⟨false,⟨rfl,rfl,rfl,trivial⟩,hI.pickL [] (by decide) rfl,hF⟩⟩
   ·intro ρ w hJ
    obtain ⟨J,hag,hI,hF⟩:=hJ
    obtain ⟨ρ,rfl⟩:=hag.form; clear hag
    unfold F13j3 at hF
    refine wp_seq ?_
    have hG:=hF; rcases Bool.eq_false_or_eq_true H with rfl | rfl
    ·
     have hF:=hG; clear hG
     refine ifE hF (fun _ hF=>?_) (fun h=>absurd rfl h)
     have hG:=hF; rcases Bool.eq_false_or_eq_true I with rfl | rfl
     ·
      have hF:=hG; clear hG
      refine ifE hF (fun _ hF=>?_) (fun h=>absurd rfl h)
      refine rgn rfl (pu (.bool true) rfl (pu (.bool true) rfl (puo (.bool true) ⟨rfl,rfl⟩ (pu (.bool true) rfl (pu (.bool true) rfl (puo (.bool J) ⟨rfl,rfl⟩ (pu (.bool J) rfl (pu (.bool J) rfl (seq_nil ?_)))))))))
      refine wp_ret ?_
      replace hF:=Option.some.inj hF; subst hF
      exact ⟨.bool J,Ret.r1 rfl rfl,⟨rfl,hI.below⟩⟩
     ·
      have hF:=hG; clear hG
      refine ifE hF (fun h=>absurd h (by decide)) (fun _ hF=>?_)
      refine rgn rfl (pu (.bool true) rfl (pu (.bool true) rfl (puo (.bool false) ⟨rfl,rfl⟩ (pu (.bool false) rfl (pu (.bool false) rfl (of_ rfl (pu (.bool false) rfl (pu (.bool false) rfl (seq_nil ?_)))))))))
      refine wp_ret ?_
      replace hF:=Option.some.inj hF; subst hF
      exact ⟨.bool false,Ret.r1 rfl rfl,⟨rfl,hI.below⟩⟩
    ·
     have hF:=hG; clear hG
     refine ifE hF (fun h=>absurd h (by decide)) (fun _ hF=>?_)
     have hG:=hF; rcases Bool.eq_false_or_eq_true I with rfl | rfl
     ·
      have hF:=hG; clear hG
      refine ifE hF (fun _ hF=>?_) (fun h=>absurd rfl h)
      refine rgn rfl (pu (.bool false) rfl (pu (.bool false) rfl (of_ rfl (pu (.bool false) rfl (pu (.bool false) rfl (of_ rfl (pu (.bool false) rfl (pu (.bool false) rfl (seq_nil ?_)))))))))
      refine wp_ret ?_
      replace hF:=Option.some.inj hF; subst hF
      exact ⟨.bool false,Ret.r1 rfl rfl,⟨rfl,hI.below⟩⟩
     ·
      have hF:=hG; clear hG
      refine ifE hF (fun h=>absurd h (by decide)) (fun _ hF=>?_)
      refine rgn rfl (pu (.bool false) rfl (pu (.bool false) rfl (of_ rfl (pu (.bool false) rfl (pu (.bool false) rfl (of_ rfl (pu (.bool false) rfl (pu (.bool false) rfl (seq_nil ?_)))))))))
      refine wp_ret ?_
      replace hF:=Option.some.inj hF; subst hF
      exact ⟨.bool false,Ret.r1 rfl rfl,⟨rfl,hI.below⟩⟩


theorem L30 (w0:World) (g:Int) (i:Int) (j:Option Addr) (k:Nat) (d:List Ld) (l:Option Addr) (m:Nat) (e:List Ld) (o:Option Addr) (p:Nat) (f:List Sp) (q:Int) (s:Int) (B:Cells w0 j (flat eLd d)) (C:d.length≤9223372036854775807) (D:d.length≤k) (E:Cells w0 l (flat eLd e)) (F:e.length≤9223372036854775807) (G:e.length≤m) (H:Cells w0 o (flat eSp f)) (I:f.length≤9223372036854775807) (J:f.length≤p) (r:(Bool × Int)) (hF:F30 g i d e f q s=some r):Does Tryz.prog 30 [.agg #[.int .i64 g,.int .i64 i,.slice j d.length k,.slice l e.length m,.slice o f.length p,.int .i64 q],.int .i64 s] w0 fun v w=>v=.tuple #[.bool r.1,.int .i64 r.2]∧Below w0.heap.size w0 w:=by
 refine calls_of (n:=17) Tryz.func30 rfl Tryz.ntmps30 rfl ?_
 have hI:=Inv.start w0
 unfold F30 at hF
 refine wp_seq (rgn rfl (seq_c (s_boxI hI [iv g,iv i,.slice j d.length k,.slice l e.length m,.slice o f.length p,iv q] rfl ?_)))
 intro V w hI
 refine pu (.bool false) rfl (pu (iv 0) rfl (seq_nil (wp_seq (wp_seq (rgn rfl (seq_c (s_loadK hI 0 6 [iv g,iv i,.slice j d.length k,.slice l e.length m,.slice o f.length p,iv q] Tryz.isAgg28 Tryz.sizeOf28 rfl rfl rfl rfl ?_)))))))
 refine pu (iv s) rfl (bindE hF (fun t S hF=>?_))
 refine seq_c (s_callv hI 85 [.agg #[iv g,iv i,.slice j d.length k,.slice l e.length m,.slice o f.length p,iv q],iv s] (iv t) (by kernel_rfl) (L85 _ g i j k d l m e o p f q s (B.inv0 hI) C D (E.inv0 hI) F G (H.inv0 hI) I J _ S) ?_)
 intro w hI
 refine pu (iv t) rfl (seq_nil (wp_seq (rgn rfl (pu (iv t) rfl (ifE hF (fun h8 hF=>?_) (fun h8 hF=>?_))))))
 ·
  refine seq_c (s_neq rfl rfl (fun h=>absurd h8 h) (fun _=>?_))
  refine seq_nil (wp_condF rfl (wp_skip (wp_seq (rgn rfl (seq_c (s_loadK hI 0 6 [iv g,iv i,.slice j d.length k,.slice l e.length m,.slice o f.length p,iv q] Tryz.isAgg28 Tryz.sizeOf28 rfl rfl rfl rfl ?_))))))
  refine pu (iv s) rfl (bindE hF (fun a T hF=>?_))
  refine seq_c (s_call 86 [.agg #[iv g,iv i,.slice j d.length k,.slice l e.length m,.slice o f.length p,iv q],iv s] (by kernel_rfl) (L86 _ g i j k d l m e o p f q s (B.inv0 hI) C D (E.inv0 hI) F G (H.inv0 hI) I J _ T) ?_)
  rintro v w ⟨K,L,W,M,N,X,O,P,Y,Q,R,Z,rfl,hN,u,x,y,z⟩
  have hI:=hI.join hN; clear hN
  refine bindE hF (fun A U hF=>?_)
  refine seq_c (s_callv hI 87 [.agg #[iv a.1,iv a.2.1,slv K a.2.2.1.length L,slv M a.2.2.2.1.length N,slv O a.2.2.2.2.1.length P,iv a.2.2.2.2.2.1,slv Q a.2.2.2.2.2.2.length R]] (.bool A) (by kernel_rfl) (L87 _ a.1 a.2.1 (K.map fun b=>⟨b,0,none⟩) L a.2.2.1 (M.map fun b=>⟨b,0,none⟩) N a.2.2.2.1 (O.map fun b=>⟨b,0,none⟩) P a.2.2.2.2.1 a.2.2.2.2.2.1 (Q.map fun b=>⟨b,0,none⟩) R a.2.2.2.2.2.2 (hI.rowCells 0 rfl u) (len_le rfl u.big) (len_le rfl u.cap) (hI.rowCells 1 rfl x) (len_le rfl x.big) (len_le rfl x.cap) (hI.rowCells 2 rfl y) (len_le rfl y.big) (len_le rfl y.cap) (hI.rowCells 3 rfl z) (len_le rfl z.big) (len_le rfl z.cap) _ U) ?_)
  intro w hI
  refine pu (.bool A) rfl (pu (iv 0) rfl (seq_nil (wp_ret ?_)))
  replace hF:=Option.some.inj hF; subst hF
  exact ⟨.tuple #[.bool A,iv 0],Ret.r2 rfl rfl rfl,⟨rfl,hI.below⟩⟩
 ·
  refine seq_c (s_neq rfl rfl (fun _=>?_) (fun h=>absurd h h8))
  refine seq_nil (wp_condT rfl (wp_seq (rgn rfl (pu (iv t) rfl (pu (.bool false) rfl (pu (iv t) rfl (seq_nil (wp_ret ?_))))))))
  replace hF:=Option.some.inj hF; subst hF
  exact ⟨.tuple #[.bool false,iv t],Ret.r2 rfl rfl rfl,⟨rfl,hI.below⟩⟩


theorem L4 (w0:World) (f:Int) (g:Int) (j:Option Addr) (k:Nat) (a:List Ld) (l:Option Addr) (m:Nat) (d:List Ld) (o:Option Addr) (p:Nat) (e:List Sp) (i:Int) (q:Int) (z:Option Addr) (A:Nat) (s:List Int) (F:Cells w0 j (flat eLd a)) (G:a.length≤9223372036854775807) (H:a.length≤k) (I:Cells w0 l (flat eLd d)) (J:d.length≤9223372036854775807) (K:d.length≤m) (L:Cells w0 o (flat eSp e)) (M:e.length≤9223372036854775807) (O:e.length≤p) (a2:Cells w0 z (flat eInt s)) (a3:s.length≤9223372036854775807) (a4:s.length≤A) (N:Nat) (r:Bool) (hF:F4 N f g a d e i q s=some r):Does Tryz.prog 4 [.agg #[.int .i64 f,.int .i64 g,.slice j a.length k,.slice l d.length m,.slice o e.length p,.int .i64 i],.int .i64 q,.slice z s.length A] w0 fun v w=>v=.bool r∧Below w0.heap.size w0 w:=by
 refine calls_of (n:=75) Tryz.func4 rfl Tryz.ntmps4 rfl ?_
 have hI:=Inv.start w0
 unfold F4 at hF
 refine wp_seq (rgn rfl (seq_c (s_boxI hI [iv f,iv g,.slice j a.length k,.slice l d.length m,.slice o e.length p,iv i] rfl ?_)))
 intro T w hI
 refine pu (.bool false) rfl (seq_nil (wp_cutO (fun ρ w=>∃ (P:Bool),Agree ρ [(1,iv q),(2,.slice z s.length A),(3,.pointer (some ⟨T,0,none⟩)),(7,.bool P)]∧Inv [] w0 w [(some T,blk [iv f,iv g,.slice j a.length k,.slice l d.length m,.slice o e.length p,iv i] 28)]∧F4j1 f g a d e i q s N P=some r) ?_ ?_))
 ·
  refine rgn rfl (bindE hF (fun aF a5 hF=>?_))
  refine ifE hF (fun U hF=>?_) (fun U hF=>?_)
  ·
   refine seq_c (s_callv hI 13 [] (.bool true) (by kernel_rfl) (Does.mono (L13 _ N _ a5) (fun v' w' h=>⟨h.1.trans (congrArg Value.bool U),h.2⟩)) ?_)
   intro w hI
   refine pu (.bool true) rfl (seq_nil ?_)
   exact .inl ⟨rfl,⟨true,⟨rfl,rfl,rfl,rfl,trivial⟩,hI.pickL [0] (by decide) rfl,hF⟩⟩
  ·
   refine seq_c (s_callv hI 13 [] (.bool false) (by kernel_rfl) (Does.mono (L13 _ N _ a5) (fun v' w' h=>⟨h.1.trans (congrArg Value.bool (Bool.eq_false_iff.2 U)),h.2⟩)) ?_)
   intro w hI
   refine pu (.bool false) rfl (seq_nil ?_)
   exact .inl ⟨rfl,⟨false,⟨rfl,rfl,rfl,rfl,trivial⟩,hI.pickL [0] (by decide) rfl,hF⟩⟩
 ·intro ρ w hJ
  obtain ⟨P,hag,hI,hF⟩:=hJ
  obtain ⟨ρ,rfl⟩:=hag.form; clear hag
  unfold F4j1 at hF
  refine wp_seq (rgn rfl (seq_c (s_loadK hI 0 6 [iv f,iv g,.slice j a.length k,.slice l d.length m,.slice o e.length p,iv i] Tryz.isAgg28 Tryz.sizeOf28 rfl rfl rfl rfl ?_)))
  refine pu (iv q) rfl (bindE hF (fun t a7 hF=>?_))
  refine seq_c (s_callv hI 30 [.agg #[iv f,iv g,.slice j a.length k,.slice l d.length m,.slice o e.length p,iv i],iv q] (.tuple #[.bool t.1,iv t.2]) (by kernel_rfl) (L30 _ f g j k a l m d o p e i q (F.inv0 hI) G H (I.inv0 hI) J K (L.inv0 hI) M O _ a7) ?_)
  intro w hI
  refine pu (.tuple #[.bool t.1,iv t.2]) rfl (pu (.bool t.1) rfl (pu (iv t.2) rfl (pu (.bool t.1) rfl (pu (iv t.2) rfl (seq_nil (wp_seq (rgn rfl (seq_c (s_loadK hI 0 6 [iv f,iv g,.slice j a.length k,.slice l d.length m,.slice o e.length p,iv i] Tryz.isAgg28 Tryz.sizeOf28 rfl rfl rfl rfl ?_)))))))))
  refine pu (iv q) rfl (bindE hF (fun u a8 hF=>?_))
  refine seq_c (s_callv hI 31 [.agg #[iv f,iv g,.slice j a.length k,.slice l d.length m,.slice o e.length p,iv i],iv q] (.tuple #[.bool u.1,iv u.2]) (by kernel_rfl) (L31 _ f g j k a l m d o p e i q (F.inv0 hI) G H (I.inv0 hI) J K (L.inv0 hI) M O N _ a8) ?_)
  intro w hI
  refine pu (.tuple #[.bool u.1,iv u.2]) rfl (pu (.bool u.1) rfl (pu (iv u.2) rfl (pu (.bool u.1) rfl (pu (iv u.2) rfl (seq_nil (wp_seq (rgn rfl (seq_c (s_loadK hI 0 6 [iv f,iv g,.slice j a.length k,.slice l d.length m,.slice o e.length p,iv i] Tryz.isAgg28 Tryz.sizeOf28 rfl rfl rfl rfl ?_)))))))))
  refine pu (iv q) rfl (bindE hF (fun x a9 hF=>?_))
  refine seq_c (s_call 32 [.agg #[iv f,iv g,.slice j a.length k,.slice l d.length m,.slice o e.length p,iv i],iv q] (by kernel_rfl) (L32 _ f g j k a l m d o p e i q (F.inv0 hI) G H (I.inv0 hI) J K (L.inv0 hI) M O _ a9) ?_)
  rintro v w ⟨B,C,aG,rfl,hN,Q⟩
  have hI:=hI.join hN; clear hN
  refine pu (.tuple #[slv B x.1.length C,iv x.2]) rfl (pu (slv B x.1.length C) rfl (pu (iv x.2) rfl (pu (slv B x.1.length C) rfl (pu (iv x.2) rfl (seq_nil (wp_seq (rgn rfl (seq_c (s_loadK hI 1 6 [iv f,iv g,.slice j a.length k,.slice l d.length m,.slice o e.length p,iv i] Tryz.isAgg28 Tryz.sizeOf28 rfl rfl rfl rfl ?_)))))))))
  refine pu (iv q) rfl (bindE hF (fun y aA hF=>?_))
  refine seq_c (s_call 33 [.agg #[iv f,iv g,.slice j a.length k,.slice l d.length m,.slice o e.length p,iv i],iv q] (by kernel_rfl) (L33 _ f g j k a l m d o p e i q (F.inv0 hI) G H (I.inv0 hI) J K (L.inv0 hI) M O N _ aA) ?_)
  rintro v w ⟨D,E,aH,rfl,hN,R⟩
  have hI:=hI.join hN; clear hN
  refine pu (.tuple #[slv D y.1.length E,iv y.2]) rfl (pu (slv D y.1.length E) rfl (pu (iv y.2) rfl (pu (slv D y.1.length E) rfl (pu (iv y.2) rfl (seq_nil (wp_cutO (fun ρ w=>∃ (S:Bool),Agree ρ [(1,iv q),(2,.slice z s.length A),(3,.pointer (some ⟨T,0,none⟩)),(7,.bool P),(8,.bool t.1),(9,iv t.2),(10,.bool u.1),(11,iv u.2),(13,iv x.2),(15,iv y.2),(16,.bool S)]∧Inv [] w0 w [(some T,blk [iv f,iv g,.slice j a.length k,.slice l d.length m,.slice o e.length p,iv i] 28)]∧F4j2 f g a d e i q s N P t u x y S=some r) ?_ ?_))))))
  ·
   refine rgn rfl (pu (slv B x.1.length C) rfl (pu (slv D y.1.length E) rfl (bindE hF (fun aI a6 hF=>?_))))
   refine ifE hF (fun V hF=>?_) (fun V hF=>?_)
   ·
    refine seq_c (s_callv hI 21 [slv B x.1.length C,slv D y.1.length E] (.bool true) (by kernel_rfl) (Does.mono (L21 _ (B.map fun b=>⟨b,0,none⟩) C x.1 (D.map fun b=>⟨b,0,none⟩) E y.1 (hI.rowCells 1 rfl Q) (len_le rfl Q.big) (len_le rfl Q.cap) (hI.rowCells 0 rfl R) (len_le rfl R.big) (len_le rfl R.cap) N _ a6) (fun v' w' h=>⟨h.1.trans (congrArg Value.bool V),h.2⟩)) ?_)
    intro w hI
    refine pu (.bool true) rfl (seq_nil ?_)
    exact .inl ⟨rfl,⟨true,⟨rfl,rfl,rfl,rfl,rfl,rfl,rfl,rfl,rfl,rfl,rfl,trivial⟩,hI.pickL [2] (by decide) rfl,hF⟩⟩
   ·
    refine seq_c (s_callv hI 21 [slv B x.1.length C,slv D y.1.length E] (.bool false) (by kernel_rfl) (Does.mono (L21 _ (B.map fun b=>⟨b,0,none⟩) C x.1 (D.map fun b=>⟨b,0,none⟩) E y.1 (hI.rowCells 1 rfl Q) (len_le rfl Q.big) (len_le rfl Q.cap) (hI.rowCells 0 rfl R) (len_le rfl R.big) (len_le rfl R.cap) N _ a6) (fun v' w' h=>⟨h.1.trans (congrArg Value.bool (Bool.eq_false_iff.2 V)),h.2⟩)) ?_)
    intro w hI
    refine pu (.bool false) rfl (seq_nil ?_)
    exact .inl ⟨rfl,⟨false,⟨rfl,rfl,rfl,rfl,rfl,rfl,rfl,rfl,rfl,rfl,rfl,trivial⟩,hI.pickL [2] (by decide) rfl,hF⟩⟩
  ·intro ρ w hJ
   obtain ⟨S,hag,hI,hF⟩:=hJ
   obtain ⟨ρ,rfl⟩:=hag.form; clear hag
   unfold F4j2 at hF
   refine wp_seq ?_
   have hG:=hF; rcases Bool.eq_false_or_eq_true P with rfl | rfl
   ·
    have hF:=hG; clear hG
    refine ifE hF (fun _ hF=>?_) (fun h=>absurd rfl h)
    have hG:=hF; rcases Bool.eq_false_or_eq_true S with rfl | rfl
    ·
     have hF:=hG; clear hG
     refine ifE hF (fun _ hF=>?_) (fun h=>absurd rfl h)
     refine wp_lit 31 hI (by kernel_rfl) ?_
     refine zp (.bool true) (fun _=>rfl) (zp (.bool true) (fun _=>rfl) (zq (.bool t.1) rfl (fun _=>rfl) (zq (.bool u.1) rfl (fun _=>rfl) (ifE hF (fun W hF=>?_) (fun W hF=>?_)))))
     ·
      refine zo (.bool true) rfl (fun w hI=>s_eqlB Tryz.underlying4 rfl rfl (fun _=>br) (fun h=>absurd W h)) (zp (.bool true) (fun _=>rfl) (zp (.bool true) (fun _=>rfl) (zq (iv t.2) rfl (fun _=>rfl) (zq (iv u.2) rfl (fun _=>rfl) (ifE hF (fun X hF=>?_) (fun X hF=>?_))))))
      ·
       refine zo (.bool true) rfl (fun w hI=>s_eql rfl rfl (fun _=>br) (fun h=>absurd X h)) (zp (.bool true) (fun _=>rfl) (zp (.bool true) (fun _=>rfl) (zq (.bool true) rfl (fun _=>rfl) (zp (.bool true) (fun _=>rfl) (zp (.bool true) (fun _=>rfl) (zq (iv x.2) rfl (fun _=>rfl) (zq (iv y.2) rfl (fun _=>rfl) (ifE hF (fun Y hF=>?_) (fun Y hF=>?_)))))))))
       ·
        refine zo (.bool true) rfl (fun w hI=>s_eql rfl rfl (fun _=>br) (fun h=>absurd Y h)) (zp (.bool true) (fun _=>rfl) (zp (.bool true) (fun _=>rfl) (zo (.agg #[iv f,iv g,.slice j a.length k,.slice l d.length m,.slice o e.length p,iv i]) rfl (fun w hI=>s_loadK hI 0 6 [iv f,iv g,.slice j a.length k,.slice l d.length m,.slice o e.length p,iv i] Tryz.isAgg28 Tryz.sizeOf28 rfl rfl rfl rfl br) (zq (iv q) rfl (fun _=>rfl) (zq (.slice z s.length A) rfl (fun _=>rfl) (bindE hF (fun aB aC hF=>?_)))))))
        refine zo (iv aB) rfl (fun w hI=>s_call 34 [.agg #[iv f,iv g,.slice j a.length k,.slice l d.length m,.slice o e.length p,iv i],iv q,.slice z s.length A] (by kernel_rfl) (L34 _ f g j k a l m d o p e i q z A s (F.inv0 hI) G H (I.inv0 hI) J K (L.inv0 hI) M O (a2.inv0 hI) a3 a4 _ aC) (fun v' w' h=>h)) (zo (.agg #[iv f,iv g,.slice j a.length k,.slice l d.length m,.slice o e.length p,iv i]) rfl (fun w hI=>s_loadK hI 0 6 [iv f,iv g,.slice j a.length k,.slice l d.length m,.slice o e.length p,iv i] Tryz.isAgg28 Tryz.sizeOf28 rfl rfl rfl rfl br) (zq (iv q) rfl (fun _=>rfl) (zq (.slice z s.length A) rfl (fun _=>rfl) (bindE hF (fun aD aE hF=>?_)))))
        refine zo (iv aD) rfl (fun w hI=>s_call 35 [.agg #[iv f,iv g,.slice j a.length k,.slice l d.length m,.slice o e.length p,iv i],iv q,.slice z s.length A] (by kernel_rfl) (L35 _ f g j k a l m d o p e i q z A s (F.inv0 hI) G H (I.inv0 hI) J K (L.inv0 hI) M O (a2.inv0 hI) a3 a4 N _ aE) (fun v' w' h=>h)) (ifE hF (fun Z hF=>?_) (fun Z hF=>?_))
        ·
         refine zo (.bool true) rfl (fun w hI=>s_eql rfl rfl (fun _=>br) (fun h=>absurd Z h)) (zp (.bool true) (fun _=>rfl) (zp (.bool true) (fun _=>rfl) (zh (fun w hI=>?_))))
         refine seq_nil (wp_ret ?_)
         replace hF:=Option.some.inj hF; subst hF
         exact ⟨.bool true,Ret.r1 rfl rfl,⟨rfl,hI.below⟩⟩
        ·
         refine zo (.bool false) rfl (fun w hI=>s_eql rfl rfl (fun h=>absurd h Z) (fun _=>br)) (zp (.bool false) (fun _=>rfl) (zp (.bool false) (fun _=>rfl) (zh (fun w hI=>?_))))
         refine seq_nil (wp_ret ?_)
         replace hF:=Option.some.inj hF; subst hF
         exact ⟨.bool false,Ret.r1 rfl rfl,⟨rfl,hI.below⟩⟩
       ·
        refine zo (.bool false) rfl (fun w hI=>s_eql rfl rfl (fun h=>absurd h Y) (fun _=>br)) (zp (.bool false) (fun _=>rfl) (zp (.bool false) (fun _=>rfl) (zf 9 rfl (zp (.bool false) (fun _=>rfl) (zp (.bool false) (fun _=>rfl) (zh (fun w hI=>?_)))))))
        refine seq_nil (wp_ret ?_)
        replace hF:=Option.some.inj hF; subst hF
        exact ⟨.bool false,Ret.r1 rfl rfl,⟨rfl,hI.below⟩⟩
      ·
       refine zo (.bool false) rfl (fun w hI=>s_eql rfl rfl (fun h=>absurd h X) (fun _=>br)) (zp (.bool false) (fun _=>rfl) (zp (.bool false) (fun _=>rfl) (zf 1 rfl (zp (.bool false) (fun _=>rfl) (zp (.bool false) (fun _=>rfl) (zf 3 rfl (zp (.bool false) (fun _=>rfl) (zp (.bool false) (fun _=>rfl) (zf 1 rfl ?_)))))))))
       refine zf 8 rfl (zp (.bool false) (fun _=>rfl) (zp (.bool false) (fun _=>rfl) (zh (fun w hI=>?_))))
       refine seq_nil (wp_ret ?_)
       replace hF:=Option.some.inj hF; subst hF
       exact ⟨.bool false,Ret.r1 rfl rfl,⟨rfl,hI.below⟩⟩
     ·
      refine zo (.bool false) rfl (fun w hI=>s_eqlB Tryz.underlying4 rfl rfl (fun h=>absurd h W) (fun _=>br)) (zp (.bool false) (fun _=>rfl) (zp (.bool false) (fun _=>rfl) (zf 3 rfl (zp (.bool false) (fun _=>rfl) (zp (.bool false) (fun _=>rfl) (zf 1 rfl (zp (.bool false) (fun _=>rfl) (zp (.bool false) (fun _=>rfl) (zf 1 rfl ?_)))))))))
      refine zf 2 rfl (zp (.bool false) (fun _=>rfl) (zp (.bool false) (fun _=>rfl) (zf 9 rfl (zp (.bool false) (fun _=>rfl) (zp (.bool false) (fun _=>rfl) (zh (fun w hI=>?_)))))))
      refine seq_nil (wp_ret ?_)
      replace hF:=Option.some.inj hF; subst hF
      exact ⟨.bool false,Ret.r1 rfl rfl,⟨rfl,hI.below⟩⟩
    ·
     have hF:=hG; clear hG
     refine ifE hF (fun h=>absurd h (by decide)) (fun _ hF=>?_)
     refine wp_lit 31 hI (by kernel_rfl) ?_
     refine zp (.bool true) (fun _=>rfl) (zp (.bool true) (fun _=>rfl) (zq (.bool t.1) rfl (fun _=>rfl) (zq (.bool u.1) rfl (fun _=>rfl) (ifE hF (fun a0 hF=>?_) (fun a0 hF=>?_)))))
     ·
      refine zo (.bool true) rfl (fun w hI=>s_eqlB Tryz.underlying4 rfl rfl (fun _=>br) (fun h=>absurd a0 h)) (zp (.bool true) (fun _=>rfl) (zp (.bool true) (fun _=>rfl) (zq (iv t.2) rfl (fun _=>rfl) (zq (iv u.2) rfl (fun _=>rfl) (ifE hF (fun a1 hF=>?_) (fun a1 hF=>?_))))))
      ·
       refine zo (.bool true) rfl (fun w hI=>s_eql rfl rfl (fun _=>br) (fun h=>absurd a1 h)) (zp (.bool true) (fun _=>rfl) (zp (.bool true) (fun _=>rfl) (zq (.bool false) rfl (fun _=>rfl) (zp (.bool false) (fun _=>rfl) (zp (.bool false) (fun _=>rfl) (zf 3 rfl (zp (.bool false) (fun _=>rfl) (zp (.bool false) (fun _=>rfl) (zf 1 rfl ?_)))))))))
       refine zf 8 rfl (zp (.bool false) (fun _=>rfl) (zp (.bool false) (fun _=>rfl) (zh (fun w hI=>?_))))
       refine seq_nil (wp_ret ?_)
       replace hF:=Option.some.inj hF; subst hF
       exact ⟨.bool false,Ret.r1 rfl rfl,⟨rfl,hI.below⟩⟩
      ·
       refine zo (.bool false) rfl (fun w hI=>s_eql rfl rfl (fun h=>absurd h a1) (fun _=>br)) (zp (.bool false) (fun _=>rfl) (zp (.bool false) (fun _=>rfl) (zf 1 rfl (zp (.bool false) (fun _=>rfl) (zp (.bool false) (fun _=>rfl) (zf 3 rfl (zp (.bool false) (fun _=>rfl) (zp (.bool false) (fun _=>rfl) (zf 1 rfl ?_)))))))))
       refine zf 8 rfl (zp (.bool false) (fun _=>rfl) (zp (.bool false) (fun _=>rfl) (zh (fun w hI=>?_))))
       refine seq_nil (wp_ret ?_)
       replace hF:=Option.some.inj hF; subst hF
       exact ⟨.bool false,Ret.r1 rfl rfl,⟨rfl,hI.below⟩⟩
     ·
      refine zo (.bool false) rfl (fun w hI=>s_eqlB Tryz.underlying4 rfl rfl (fun h=>absurd h a0) (fun _=>br)) (zp (.bool false) (fun _=>rfl) (zp (.bool false) (fun _=>rfl) (zf 3 rfl (zp (.bool false) (fun _=>rfl) (zp (.bool false) (fun _=>rfl) (zf 1 rfl (zp (.bool false) (fun _=>rfl) (zp (.bool false) (fun _=>rfl) (zf 1 rfl ?_)))))))))
      refine zf 2 rfl (zp (.bool false) (fun _=>rfl) (zp (.bool false) (fun _=>rfl) (zf 9 rfl (zp (.bool false) (fun _=>rfl) (zp (.bool false) (fun _=>rfl) (zh (fun w hI=>?_)))))))
      refine seq_nil (wp_ret ?_)
      replace hF:=Option.some.inj hF; subst hF
      exact ⟨.bool false,Ret.r1 rfl rfl,⟨rfl,hI.below⟩⟩
   ·
    have hF:=hG; clear hG
    refine ifE hF (fun h=>absurd h (by decide)) (fun _ hF=>?_)
    have hG:=hF; rcases Bool.eq_false_or_eq_true S with rfl | rfl
    ·
     have hF:=hG; clear hG
     refine ifE hF (fun _ hF=>?_) (fun h=>absurd rfl h)
     refine wp_lit 31 hI (by kernel_rfl) ?_
     refine zp (.bool false) (fun _=>rfl) (zp (.bool false) (fun _=>rfl) (zf 3 rfl (zp (.bool false) (fun _=>rfl) (zp (.bool false) (fun _=>rfl) (zf 3 rfl (zp (.bool false) (fun _=>rfl) (zp (.bool false) (fun _=>rfl) (zf 1 rfl (zp (.bool false) (fun _=>rfl) ?_)))))))))
     refine zp (.bool false) (fun _=>rfl) (zf 3 rfl (zp (.bool false) (fun _=>rfl) (zp (.bool false) (fun _=>rfl) (zf 9 rfl (zp (.bool false) (fun _=>rfl) (zp (.bool false) (fun _=>rfl) (zh (fun w hI=>?_))))))))
     refine seq_nil (wp_ret ?_)
     replace hF:=Option.some.inj hF; subst hF
     exact ⟨.bool false,Ret.r1 rfl rfl,⟨rfl,hI.below⟩⟩
    ·
     have hF:=hG; clear hG
     refine ifE hF (fun h=>absurd h (by decide)) (fun _ hF=>?_)
     refine wp_lit 31 hI (by kernel_rfl) ?_
     refine zp (.bool false) (fun _=>rfl) (zp (.bool false) (fun _=>rfl) (zf 3 rfl (zp (.bool false) (fun _=>rfl) (zp (.bool false) (fun _=>rfl) (zf 3 rfl (zp (.bool false) (fun _=>rfl) (zp (.bool false) (fun _=>rfl) (zf 1 rfl (zp (.bool false) (fun _=>rfl) ?_)))))))))
     refine zp (.bool false) (fun _=>rfl) (zf 3 rfl (zp (.bool false) (fun _=>rfl) (zp (.bool false) (fun _=>rfl) (zf 9 rfl (zp (.bool false) (fun _=>rfl) (zp (.bool false) (fun _=>rfl) (zh (fun w hI=>?_))))))))
     refine seq_nil (wp_ret ?_)
     replace hF:=Option.some.inj hF; subst hF
     exact ⟨.bool false,Ret.r1 rfl rfl,⟨rfl,hI.below⟩⟩

end Go.K
