import Derived.Test.YtcondbkhcjgemaaGreatDoorProg
import Derived.Test.YtcondbkhcjgemaaGreatDoorEKK1
import Derived.Test.YtcondbkhcjgemaaGreatDoorEKK3
import Derived.Test.YtcondbkhcjgemaaGreatDoorEKK2
import Derived.Test.YtcondbkhcjgemaaGreatDoorED
import Derived.Test.YtcondbkhcjgemaaGreatDoorEHb
import Derived.Test.YtcondbkhcjgemaaGreatDoorESb
import Derived.Test.YtcondbkhcjgemaaGreatDoorEDc
import Derived.Tactics2
namespace Go.K
open Go.Proofs.Tryz
open Go.Proofs Go.RowKit
set_option linter.unusedVariables false
set_option linter.unusedSimpArgs false
set_option maxRecDepth 100000
set_option linter.defProp false
abbrev uM {α:Type} (p:Option Addr) (l:List α) (c:Nat):Value:=.slice p l.length c
abbrev uN {α:Type} (g:Option Nat) (l:List α) (c:Nat):Value:=slv g l.length c
theorem uO {a b:Prop} (h:a) (g:¬a):b:=absurd h g
theorem uP {a b:Prop} (h:¬a) (g:a):b:=absurd g h
abbrev uD:Value:=.slice none 0 0
abbrev uE (s:Str):Value:=.string (bts s)
abbrev uF (b o:Nat):Value:=.pointer (some ⟨b,o,none⟩)
abbrev uG (g:Option Nat):Option Addr:=g.map fun b=>⟨b,0,none⟩
theorem uH {y b:Bool} {q:World→Prop} (h:y=b):∀ (v:Value) (w:World),v=Value.bool y∧q w→v=Value.bool b∧q w:=fun _ _ g=>⟨g.1.trans (congrArg Value.bool h),g.2⟩
theorem uI {q:Value→World→Prop}:∀ (v:Value) (w:World),q v w→q v w:=fun _ _ g=>g
theorem uJ {P:Program} {fn:Func} {t:Nat} {ρ:Env} {w0 w:World} {L:List (Option Nat × Obj)} {e:Value} (hI:Inv [] w0 w L) (h:(fn.results,ρ t)=(#[.tmp t],e)):∃ v,Ret P fn ρ w v∧v=e∧Below w0.heap.size w0 w:=⟨_,Ret.r1 (congrArg (·.1) h) (congrArg (·.2) h),rfl,hI.below⟩
theorem uK {ρ:Env}:∀ {l:List (Nat × Value)},(l.map fun p=>ρ p.1)=l.map (·.2)→cd ρ l
  | [],_=>trivial
  | (i,v) :: l,h=>⟨(List.cons.inj h).1,uK (List.cons.inj h).2⟩
theorem uL {P:Program} {r:Option Nat} {ds:List Deferred} {n:Nat} {Q:List Deferred→Exit→Env→World→Prop} {ρ:Env} {w:World} {id:Nat} {l:List Oper} {y:Code} (hd:fo n l=true) (h:Seq P l.toArray (thenE (fun ds=>WP r ds P n y Q) Q ds .normal) l ρ w):WP r ds P n (.seq (.region id l.toArray false) y) Q ρ w:=ab (rgn hd h)
abbrev qa {α:Type} (l:List α) (d:Int):Int:=if (l.length:Int) < (if 0 > d then 0 else d) then (l.length:Int) else (if 0 > d then 0 else d)
abbrev qd {α:Type} (l:List α) (d:Int):Nat:=(qa l d).toNat
abbrev qb {α:Type} (l:List α) (d:Int):List α:=(l.drop (qd l d)).take (l.length - (qd l d))
abbrev qc {α:Type} (l:List α) (d:Int):List α:=(l.drop 0).take (qd l d - 0)
abbrev qe:List Value:=[iv 0,uD,uD,uD,iv 0,iv 0,iv 0,uD,iv 0,iv 0,iv 0,iv 0,iv 0,iv 0,iv 0,iv 0,iv 0,iv 0,iv 0,iv 0,iv 0,iv 0,iv 0,iv 0,iv 0,iv 0,iv 0,iv 0,iv 0,iv 0,iv 0,iv 0,iv 0,iv 0,iv 0,iv 0,iv 0,iv 0,iv 0,iv 0,iv 0,iv 0,iv 0,iv 0]
abbrev qf {α β:Type} (a0:Int) (a1:Option Nat) (a2:List α) (a3:Nat) (a4:Option Nat) (a5:List α) (a6:Nat) (a7:Option Nat) (a8:List α) (a9:Nat) (a10 a11 a12:Int) (a13:Option Nat) (a14:List β) (a15:Nat) (a16 a17 a18 a19 a20 a21 a22 a23 a24 a25 a26 a27 a28 a29 a30 a31 a32 a33 a34 a35 a36 a37 a38 a39 a40 a41 a42 a43 a44 a45 a46 a47 a48 a49 a50 a51:Int):List Value:=[iv a0,uN a1 a2 a3,uN a4 a5 a6,uN a7 a8 a9,iv a10,iv a11,iv a12,uN a13 a14 a15,iv a16,iv a17,iv a18,iv a19,iv a20,iv a21,iv a22,iv a23,iv a24,iv a25,iv a26,iv a27,iv a28,iv a29,iv a30,iv a31,iv a32,iv a33,iv a34,iv a35,iv a36,iv a37,iv a38,iv a39,iv a40,iv a41,iv a42,iv a43,iv a44,iv a45,iv a46,iv a47,iv a48,iv a49,iv a50,iv a51]
abbrev qg (x:Rc):List Value:=[iv x.p,iv x.n,iv x.k,iv x.d,iv x.kn,iv x.op,iv x.on,uE x.t]
abbrev qh (x:Sp3):List Value:=[iv x.no,iv x.sz,uE x.t]
def zi130 := @Tryz.isAgg130
def zi148 := @Tryz.isAgg148
def zi149 := @Tryz.isAgg149
def zi168 := @Tryz.isAgg168
def zi169 := @Tryz.isAgg169
def zi179 := @Tryz.isAgg179
def zi180 := @Tryz.isAgg180
def zi23 := @Tryz.isAgg23
def mh := @Tryz.isAgg25
def zi26 := @Tryz.isAgg26
def zi3 := @Tryz.isAgg3
def me := @Tryz.isAgg35
def mq := @Tryz.isAgg38
def mv := @Tryz.isAgg45
def zi47 := @Tryz.isAgg47
def zi5 := @Tryz.isAgg5
def zi54 := @Tryz.isAgg54
def zi60 := @Tryz.isAgg60
def zi61 := @Tryz.isAgg61
def mt := @Tryz.isAgg63
def zi64 := @Tryz.isAgg64
def zi68 := @Tryz.isAgg68
def zi79 := @Tryz.isAgg79
def mu := @Tryz.isAgg81
def zi83 := @Tryz.isAgg83
def zi9 := @Tryz.isAgg9
def zs130 := @Tryz.sizeOf130
def mn := @Tryz.sizeOf148
def zs149 := @Tryz.sizeOf149
def zs168 := @Tryz.sizeOf168
def zs169 := @Tryz.sizeOf169
def zs179 := @Tryz.sizeOf179
def zs180 := @Tryz.sizeOf180
def zs23 := @Tryz.sizeOf23
def md := @Tryz.sizeOf25
def zs26 := @Tryz.sizeOf26
def zs3 := @Tryz.sizeOf3
def mc := @Tryz.sizeOf35
def mw := @Tryz.sizeOf38
def zs45 := @Tryz.sizeOf45
def zs47 := @Tryz.sizeOf47
def zs5 := @Tryz.sizeOf5
def zs54 := @Tryz.sizeOf54
def zs60 := @Tryz.sizeOf60
def zs61 := @Tryz.sizeOf61
def mi := @Tryz.sizeOf63
def zs68 := @Tryz.sizeOf68
def zs79 := @Tryz.sizeOf79
def ml := @Tryz.sizeOf81
def zs83 := @Tryz.sizeOf83
def zs9 := @Tryz.sizeOf9
def zu100 := @Tryz.underlying100
def zu130 := @Tryz.underlying130
def mg := @Tryz.underlying148
def zu149 := @Tryz.underlying149
def zu168 := @Tryz.underlying168
def zu169 := @Tryz.underlying169
def zu199 := @Tryz.underlying199
def zu202 := @Tryz.underlying202
def zu210 := @Tryz.underlying210
def zu23 := @Tryz.underlying23
def zu25 := @Tryz.underlying25
def zu3 := @Tryz.underlying3
def zu35 := @Tryz.underlying35
def mj := @Tryz.underlying38
def nt := @Tryz.underlying45
def zu5 := @Tryz.underlying5
def zu54 := @Tryz.underlying54
def pf := @Tryz.underlying60
def zu61 := @Tryz.underlying61
def zu64 := @Tryz.underlying64
def xh:=(⟨zu64,by kernel_rfl,rfl,rfl,rfl⟩:xj Tryz.prog _ _ (iv 0) 1 8)
def xb:=(⟨mg,by kernel_rfl,rfl,rfl,rfl⟩:xj Tryz.prog _ _ (.int .u8 0) 1 1)
def xf:=(⟨nt,by kernel_rfl,rfl,rfl,rfl⟩:xj Tryz.prog _ _ (.agg #[iv 0,iv 0,iv 0,iv 0,iv 0,iv 0,iv 0,uE []]) 8 72)
def xd:=(⟨mj,by kernel_rfl,rfl,rfl,rfl⟩:xj Tryz.prog _ _ (.agg #[iv 0,iv 0,uE []]) 3 32)
def zu79 := @Tryz.underlying79
def zu9 := @Tryz.underlying9
theorem eq23 (n:Nat) (x0 x1 y0 y1:Int) (w:World):(Op.equalIn (n+2) 23 (.agg #[iv x0,iv x1]) (.agg #[iv y0,iv y1])).run Tryz.prog w=.ok (decide (x0=y0) && decide (x1=y1)) w:=by
  have u3:=zu3; have a3:=zi3; have z3:=zs3
  have hS:Tryz.prog.underlying 23=some (.struct (Tryz.prog.fieldsOf 23)):=by kernel_rfl
  rw [show n+2=(n+1)+1 from rfl,run_equalIn_agg w (n+1) 23 _ _ hS (by kernel_rfl)]
  simp only [Program.fieldsOf,zu23]
  go_simp
  by_cases h0:x0=y0 <;> by_cases h1:x1=y1 <;> simp [h0,h1]
theorem eq25 (n:Nat) (x0:Int) (x1:Int) (x2:Int) (x3:Int) (x4:Int) (x5:Int) (x6:Int) (x7:Str) (y0:Int) (y1:Int) (y2:Int) (y3:Int) (y4:Int) (y5:Int) (y6:Int) (y7:Str) (w:World):(Op.equalIn (n+3) 25 (.agg #[iv x0,iv x1,iv x2,iv x3,iv x4,iv x5,iv x6,uE x7]) (.agg #[iv y0,iv y1,iv y2,iv y3,iv y4,iv y5,iv y6,uE y7])).run Tryz.prog w=.ok (decide (x0=y0) && decide (x1=y1) && decide (x2=y2) && decide (x3=y3) && decide (x4=y4) && decide (x5=y5) && decide (x6=y6) && decide (x7=y7)) w:=by
  have u3:=zu3; have a3:=zi3; have z3:=zs3; have u9:=zu9; have a9:=zi9; have z9:=zs9
  have a:=zi23; have b:=zs23
  have q23:=fun v0 v1 v2 v3 w=>eq23 (n+0) v0 v1 v2 v3 w
  have hS:Tryz.prog.underlying 25=some (.struct (Tryz.prog.fieldsOf 25)):=by kernel_rfl
  rw [show n+3=(n+2)+1 from rfl,run_equalIn_agg w (n+2) 25 _ _ hS rfl]
  simp only [Program.fieldsOf,zu25]
  go_simp
  by_cases h0:x0=y0 <;> by_cases h1:x1=y1 <;> by_cases h2:x2=y2 <;> by_cases h3:x3=y3 <;> by_cases h4:x4=y4 <;> by_cases h5:x5=y5 <;> by_cases h6:x6=y6 <;> by_cases h7:x7=y7 <;> simp [h0,h1,h2,h3,h4,h5,h6,h7,q23,bts_list]
theorem eq35 (n:Nat) (x0:Int) (x1:Int) (x2:Str) (y0:Int) (y1:Int) (y2:Str) (w:World):(Op.equalIn (n+2) 35 (.agg #[iv x0,iv x1,uE x2]) (.agg #[iv y0,iv y1,uE y2])).run Tryz.prog w=.ok (decide (x0=y0) && decide (x1=y1) && decide (x2=y2)) w:=by
  have u3:=zu3; have a3:=zi3; have z3:=zs3; have u9:=zu9; have a9:=zi9; have z9:=zs9
  have hS:Tryz.prog.underlying 35=some (.struct (Tryz.prog.fieldsOf 35)):=by kernel_rfl
  rw [show n+2=(n+1)+1 from rfl,run_equalIn_agg w (n+1) 35 _ _ hS rfl]
  simp only [Program.fieldsOf,zu35]
  go_simp
  by_cases h0:x0=y0 <;> by_cases h1:x1=y1 <;> by_cases h2:x2=y2 <;> simp [h0,h1,h2,bts_list]
attribute [local irreducible] Seq cw cx fl opX

theorem L76 (w0:World) (a:Int) (b:Int) (d:Int) (r:Bool) (F:F76 a b d=some r):bn Tryz.prog 76 [iv a,iv b,iv d] w0 fun v w=>v=.bool r∧Below w0.heap.size w0 w:=by
 refine az (n:=15) func76 rfl ntmps76 rfl ?_
 have I:=Inv.start w0
 unfold F76 at F
 refine uL rfl (pu bF rfl (aa (uL rfl (pu2 (iv b) (iv a) rfl (ifN F (fun h7 F=>?_) (fun h7 F=>?_))))))
 ·
  refine ph (s_leq rfl rfl (uP h7) (fun _=>pu bF rfl (sf 3 rfl (pu2 bF bF rfl (aa (aj ?_))))))
  cases F
  exact uJ I rfl


 refine ph (s_leq rfl rfl (fun _=>?_) (uO h7))
 refine pu bT rfl (pup (iv a) rfl (pup (iv d) rfl (ifE F (fun h8 F=>?_) (fun h8 F=>?_))))
 ·
  refine aw rfl (s_leq rfl rfl (fun _=>?_) (uO h8))
  refine pu2 bT bT rfl (aa (aj ?_))
  cases F
  exact uJ I rfl
 refine aw rfl (s_leq rfl rfl (uP h8) (fun _=>pu2 bF bF rfl (aa (aj ?_))))
 cases F
 exact uJ I rfl
theorem L126 (w0:World) (a:Int) (r:Bool) (F:F126 a=some r):bn Tryz.prog 126 [iv a] w0 fun v w=>v=.bool r∧Below w0.heap.size w0 w:=by
 refine az (n:=5) func126 rfl ntmps126 rfl ?_
 have I:=Inv.start w0
 unfold F126 at F
 refine uL (by kernel_rfl) (pu bF (by kernel_rfl) (aa (uL (by kernel_rfl) (pu (iv a) (by kernel_rfl) (bt F (fun y7 hy8 F=>ph (bg I 76 _ _ (by kernel_rfl) (L76 _ a 0 5 _ hy8) fun w I=>pu (.bool y7) (by kernel_rfl) (aa (aj ?_)))))))))
 cases F
 exact uJ I rfl


theorem L75 (w0:World) (a:It) (r:Bool) (F:F75 a=some r):bn Tryz.prog 75 [.agg #[iv a.p,iv a.n]] w0 fun v w=>v=.bool r∧Below w0.heap.size w0 w:=by
 refine az (n:=11) func75 rfl ntmps75 rfl ?_
 have I:=Inv.start w0
 unfold F75 at F
 refine uL rfl (ph (ca I _ rfl fun b w I=>pu bF rfl (aa (uL rfl (pu (pt b) rfl (xg I 0 (iv a.p) zi3 rfl (bt F (fun g d F=>ifN F (fun h4 F=>?_) (fun h4 F=>?_)))))))))
 ·
  refine ph (bg I 126 _ _ (by kernel_rfl) (bn.mono (L126 _ a.p _ d) (uH (Bool.eq_false_iff.2 h4))) fun w I=>pu bF (by kernel_rfl) (sf 3 (by kernel_rfl) (pu2 bF bF (by kernel_rfl) (aa (aj ?_)))))
  cases F
  exact uJ I rfl


 refine ph (bg I 126 _ _ (by kernel_rfl) (bn.mono (L126 _ a.p _ d) (uH h4)) fun w I=>pu bT (by kernel_rfl) (pup (uF b 1) (by kernel_rfl) (aw (by kernel_rfl) (ag I 0 (iv a.n) zi3 rfl rfl rfl (bt F (fun e f F=>aw (by kernel_rfl) (bg I 76 _ _ (by kernel_rfl) (L76 _ a.n 0 9999 _ f) fun w I=>pu2 (.bool e) (.bool e) (by kernel_rfl) (aa (aj ?_)))))))))
 cases F
 exact uJ I rfl
theorem L77 (w0:World) (a:Int) (r:Bool) (F:F77 a=some r):bn Tryz.prog 77 [iv a] w0 fun v w=>v=.bool r∧Below w0.heap.size w0 w:=by
 refine az (n:=5) func77 rfl ntmps77 rfl ?_
 have I:=Inv.start w0
 unfold F77 at F
 refine uL (by kernel_rfl) (pu bF (by kernel_rfl) (aa (uL (by kernel_rfl) (pu (iv a) (by kernel_rfl) (bt F (fun y7 hy8 F=>ph (bg I 76 _ _ (by kernel_rfl) (L76 _ a 0 4166 _ hy8) fun w I=>pu (.bool y7) (by kernel_rfl) (aa (aj ?_)))))))))
 cases F
 exact uJ I rfl


theorem L78 (w0:World) (b:Bool) (a:Int) (r:Int) (F:F78 b a=some r):bn Tryz.prog 78 [.bool b,iv a] w0 fun v w=>v=iv r∧Below w0.heap.size w0 w:=by
 refine az (n:=7) func78 rfl ntmps78 rfl ?_
 have I:=Inv.start w0
 unfold F78 at F
 refine uL rfl (pu (iv 0) rfl (aa (ab (ab ?_))))
 have hG:=F; rcases Bool.eq_false_or_eq_true b with rfl | rfl
 ·
  have F:=hG; clear hG
  refine ifE F (fun _ F=>?_) (uO rfl)
  refine rgn rfl (pu bT rfl (aa (ah rfl (uL rfl (pu (iv 0) rfl (aa (aj ?_)))))))
  cases F
  exact uJ I rfl
 have F:=hG; clear hG
 refine ifE F (fun h=>absurd h (by decide)) (fun _ F=>rgn rfl (pu bF rfl (aa (ai rfl (ak (uL rfl (pu2 (iv a) (iv a) rfl (aa (aj ?_)))))))))
 cases F
 exact uJ I rfl


theorem L145 (w0:World) (a:Str) (N:Nat) (r:Bool) (F:F145 N a=some r):bn Tryz.prog 145 [uE a] w0 fun v w=>v=.bool r∧Below w0.heap.size w0 w:=by
 refine az (n:=19) func145 rfl ntmps145 rfl ?_
 have I:=Inv.start w0
 unfold F145 at F
 refine uL rfl (pu bF rfl (aa (ab (uL rfl (pu (uE a) rfl (ph (s_convSB I zu9 mg zu5 rfl fun i k l fr81 w I hcl82=>pu2 (iv ((a.length:Nat):Int)) (iv 0) (by kernel_rfl) (aa (au (cb (fun m ρ w=>∃ b mm,cd ρ [(6,uM (some ⟨i,0,none⟩) a k),(7,iv (a.length:Int)),(8,iv b)]∧Inv [] w0 w [(some i,.cells l.toArray 5 fr81)]∧F145l1 a mm b=some r∧mm=m) (m:=N) ⟨0,N,⟨rfl,rfl,rfl,trivial⟩,I.pk [0] rfl,F,rfl⟩ ?_))))))))))
 rintro m ρ w ⟨b,mm,hag,I,F,hm⟩
 subst hm; obtain ⟨ρ,rfl⟩:=hag.form
 obtain _ | m1:=mm
 ·cases (show (none:Option Bool)=some r from F)
 replace F:F145b1 a (F145l1 a m1) b=some r:=F; unfold F145b1 at F
 refine uL rfl (ifN F (fun e F=>?_) (fun e F=>?_))
 ·
  refine xl rfl (uP e) (fun _=>aa (ab (ai rfl (bw (uL rfl (pu bT rfl (aa (aj ?_))))))))
  cases F
  exact uJ I rfl


 refine xl rfl (fun _=>?_) (uO e)
 refine aa (ab (ah rfl (ak (ab (au (uL rfl (gdE F (fun o F=>bt F (fun d j F=>ph (s_indexF (b).toNat mg zs5 rfl rfl (Int.toNat_of_nonneg o).symm (fa j rfl) (ph (s_loadF I 0 (.int .u8 (nb d)) zi5 rfl rfl (hcl82 (b).toNat _ j) (pu (.int .u8 (nb d)) rfl (aa (uL rfl (pu (.int .u8 (nb d)) rfl (ifE F (fun f F=>?_) (fun f F=>?_))))))))))))))))))
 ·
  refine ph (s_lss8 rfl rfl (fun _=>?_) (uO f))
  refine pu bT rfl (sf 2 rfl (pu bT rfl (aa (ah rfl (uL rfl (pu bF rfl (aa (aj ?_))))))))
  cases F
  exact uJ I rfl
 refine ph (s_lss8 rfl rfl (uP f) (fun _=>pu bF rfl (pup (.int .u8 (nb d)) rfl (ifE F (fun g F=>?_) (fun g F=>?_)))))
 ·
  refine aw rfl (s_gtr8 rfl rfl (fun _=>?_) (uO g))
  refine pu bT rfl (aa (ah rfl (uL rfl (pu bF rfl (aa (aj ?_))))))
  cases F
  exact uJ I rfl
 refine aw rfl (s_gtr8 rfl rfl (uP g) (fun _=>pu bF rfl (aa (ai rfl (ak (rgn rfl (ckE F (fun p F=>xa rfl p (pu (iv (b+1)) rfl (aa (⟨rfl,m1,Nat.lt_succ_self _,⟨b+1,m1,⟨rfl,rfl,rfl,trivial⟩,I.pk [0] rfl,F,rfl⟩⟩)))))))))))
theorem L79 (w0:World) (a:Str) (N:Nat) (r:Bool) (F:F79 N a=some r):bn Tryz.prog 79 [uE a] w0 fun v w=>v=.bool r∧Below w0.heap.size w0 w:=by
 refine az (n:=10) func79 rfl ntmps79 rfl ?_
 have I:=Inv.start w0
 unfold F79 at F
 refine uL rfl (pu bF rfl (aa (uL rfl (pu2 (uE a) (iv (a.length:Int)) (by kernel_rfl) (ifN F (fun h4 F=>?_) (fun h4 F=>?_))))))
 ·
  refine ph (s_leq rfl rfl (uP h4) (fun _=>pu bF rfl (sf 2 rfl (pu2 bF bF rfl (aa (aj ?_))))))
  cases F
  exact uJ I rfl


 refine ph (s_leq rfl rfl (fun _=>?_) (uO h4))
 refine pu bT rfl (pup (uE a) rfl (bt F (fun y9 b F=>aw (by kernel_rfl) (bg I 145 _ _ (by kernel_rfl) (L145 _ a N _ b) fun w I=>pu2 (.bool y9) (.bool y9) (by kernel_rfl) (aa (aj ?_))))))
 cases F
 exact uJ I rfl
theorem L80 (w0:World) (e:Rc) (r:Bool) (F:F80 e=some r):bn Tryz.prog 80 [.agg (qg e).toArray] w0 fun v w=>v=.bool r∧Below w0.heap.size w0 w:=by
 refine az (n:=43) func80 rfl ntmps80 rfl ?_
 have I:=Inv.start w0
 unfold F80 at F
 refine uL rfl (ph (ca I _ rfl fun f w I=>pu bF rfl (aa (ab (uL rfl (pu (uF f 2) rfl (xg I 0 (iv e.k) zi3 rfl (ifN F (fun i F=>?_) (fun i F=>?_)))))))))
 ·
  refine xn rfl (fun _=>?_) (uP i)
  refine aa (ah rfl (uL rfl (pu (uF f 5) rfl (xr I 0 2 [iv e.op,iv e.on] zi23 zs23 rfl (pu (.agg #[iv 0,iv 0]) (by kernel_rfl) (ifE F (fun j F=>?_) (fun j F=>?_)))))))
  ·
   refine ph (kz (b:=decide (e.op=0) && decide (e.on=0)) rfl rfl (by kernel_rfl) (fun w=>eq23 _ e.op e.on 0 0 w) (fun _=>?_) (uO j))
   refine pu bT rfl (aa (aj ?_))
   cases F
   exact uJ I rfl
  refine ph (kz (b:=decide (e.op=0) && decide (e.on=0)) rfl rfl (by kernel_rfl) (fun w=>eq23 _ e.op e.on 0 0 w) (uP j) (fun _=>pu bF rfl (aa (aj ?_))))
  cases F
  exact uJ I rfl


 refine xn rfl (uO i) (fun _=>aa (ai rfl (ak (dn (fun ρ w=>∃ g,cd ρ [(1,pt f),(3,.bool g)]∧Inv [] w0 w [(some f,blk (qg e) 25)]∧F80j1 e g=some r) ?_ ?_))))
 ·
  refine rgn rfl (pu (uF f 5) rfl (xr I 0 2 [iv e.op,iv e.on] zi23 zs23 rfl (bt F (fun x u F=>ifN F (fun l F=>?_) (fun l F=>?_)))))
  ·
   refine ph (bg I 75 _ _ (by kernel_rfl) (bn.mono (L75 _ (⟨e.op,e.on⟩:It) _ u) (uH (Bool.eq_false_iff.2 l))) fun w I=>pu bF (by kernel_rfl) (sf 7 (by kernel_rfl) (pu2 bF bF (by kernel_rfl) (sf 7 (by kernel_rfl) (pu2 bF bF (by kernel_rfl) (aa (.inl ⟨rfl,⟨false,⟨rfl,rfl,trivial⟩,I.pk [0] rfl,F⟩⟩)))))))
  refine ph (bg I 75 _ _ (by kernel_rfl) (bn.mono (L75 _ (⟨e.op,e.on⟩:It) _ u) (uH l)) fun w I=>pu bT (by kernel_rfl) (pup (uF f 5) (by kernel_rfl) (pup (uF f 5) (by kernel_rfl) (aw (by kernel_rfl) (ag I 0 (iv e.op) zi3 rfl rfl rfl (pup (pt f) (by kernel_rfl) (pup (pt f) (by kernel_rfl) (aw (by kernel_rfl) (ag I 0 (iv e.p) zi3 rfl rfl rfl (ifN F (fun m F=>?_) (fun m F=>?_)))))))))))
  ·
   refine aw rfl (di rfl rfl (uP m) (fun _=>pu2 bF bF rfl (sf 7 rfl (pu2 bF bF rfl (aa (.inl ⟨rfl,⟨false,⟨rfl,rfl,trivial⟩,I.pk [0] rfl,F⟩⟩))))))
  refine aw rfl (di rfl rfl (fun _=>?_) (uO m))
  refine pu2 bT bT rfl (pup (uF f 5) rfl (pup (uF f 6) rfl (aw rfl (ag I 0 (iv e.on) zi3 rfl rfl rfl (pup (pt f) rfl (pup (uF f 1) rfl (aw rfl (ag I 0 (iv e.n) zi3 rfl rfl rfl (ifE F (fun o F=>?_) (fun o F=>?_))))))))))
  ·
   refine aw rfl (cm rfl rfl (fun _=>?_) (uO o))
   refine pu2 bT bT rfl (aa (.inl ⟨rfl,⟨true,⟨rfl,rfl,trivial⟩,I.pk [0] rfl,F⟩⟩))
  refine aw rfl (cm rfl rfl (uP o) (fun _=>pu2 bF bF rfl (aa (.inl ⟨rfl,⟨false,⟨rfl,rfl,trivial⟩,I.pk [0] rfl,F⟩⟩))))
 intro ρ w hJ
 obtain ⟨g,hag,I,F⟩:=hJ
 obtain ⟨ρ,rfl⟩:=hag.form
 unfold F80j1 at F
 refine ab ?_
 have hG:=F; rcases Bool.eq_false_or_eq_true g with rfl | rfl
 ·
  have F:=hG; clear hG
  refine ifE F (fun _ F=>?_) (uO rfl)
  refine rgn rfl (pu2 bT bT rfl (pup (uF f 3) rfl (aw rfl (ag I 0 (iv e.d) zi3 rfl rfl rfl (ifN F (fun q F=>?_) (fun q F=>?_))))))
  ·
   refine aw rfl (di rfl rfl (uP q) (fun _=>pu2 bF bF rfl (sf 3 rfl (pu2 bF bF rfl (aa (aj ?_))))))
   cases F
   exact uJ I rfl
  refine aw rfl (di rfl rfl (fun _=>?_) (uO q))
  refine pu2 bT bT rfl (pup (uF f 7) rfl (aw rfl (ag I 0 (uE e.t) zi9 rfl rfl rfl (ifE F (fun s F=>?_) (fun s F=>?_)))))
  ·
   refine aw rfl (s_strEq (a:=e.t) (b:=[]) rfl rfl (fun _=>?_) (uO s))
   refine pu2 bT bT rfl (aa (aj ?_))
   cases F
   exact uJ I rfl
  refine aw rfl (s_strEq (a:=e.t) (b:=[]) rfl rfl (uP s) (fun _=>pu2 bF bF rfl (aa (aj ?_))))
  cases F
  exact uJ I rfl
 have F:=hG; clear hG
 refine ifE F (fun h=>absurd h (by decide)) (fun _ F=>rgn rfl (pu2 bF bF rfl (sf 3 rfl (pu2 bF bF rfl (sf 3 rfl (pu2 bF bF rfl (aa (aj ?_))))))))
 cases F
 exact uJ I rfl
theorem L17 (w0:World) (a:Rc) (N:Nat) (r:Int) (F:F17 N a=some r):bn Tryz.prog 17 [.agg (qg a).toArray] w0 fun v w=>v=iv r∧Below w0.heap.size w0 w:=by
 refine az (n:=33) func17 rfl ntmps17 rfl ?_
 have I:=Inv.start w0
 unfold F17 at F
 refine uL rfl (ph (ca I _ rfl fun b w I=>pu (iv 0) rfl (aa (dn (fun ρ w=>∃ e,cd ρ [(1,pt b),(3,.bool e)]∧Inv [] w0 w [(some b,blk (qg a) 25)]∧F17j1 a N e=some r) ?_ ?_))))
 ·
  refine rgn rfl (pu (pt b) rfl (xr I 0 2 [iv a.p,iv a.n] zi23 zs23 rfl (bt F (fun G m F=>ifN F (fun f F=>?_) (fun f F=>?_)))))
  ·
   refine ph (bg I 75 _ _ (by kernel_rfl) (bn.mono (L75 _ (⟨a.p,a.n⟩:It) _ m) (uH (Bool.eq_false_iff.2 f))) fun w I=>pu bF (by kernel_rfl) (sf 3 (by kernel_rfl) (pu2 bF bF (by kernel_rfl) (sf 3 (by kernel_rfl) (pu2 bF bF (by kernel_rfl) (sf 3 (by kernel_rfl) (pu2 bF bF (by kernel_rfl) (aa (.inl ⟨rfl,⟨false,⟨rfl,rfl,trivial⟩,I.pk [0] rfl,F⟩⟩)))))))))
  refine ph (bg I 75 _ _ (by kernel_rfl) (bn.mono (L75 _ (⟨a.p,a.n⟩:It) _ m) (uH f)) fun w I=>pu bT (by kernel_rfl) (pup (uF b 2) (by kernel_rfl) (aw (by kernel_rfl) (ag I 0 (iv a.k) zi3 rfl rfl rfl (bt F (fun H o F=>ifN F (fun g F=>?_) (fun g F=>?_)))))))
  ·
   refine aw (by kernel_rfl) (bg I 76 _ _ (by kernel_rfl) (bn.mono (L76 _ a.k 0 60 _ o) (uH (Bool.eq_false_iff.2 g))) fun w I=>pu2 bF bF (by kernel_rfl) (sf 3 (by kernel_rfl) (pu2 bF bF (by kernel_rfl) (sf 3 (by kernel_rfl) (pu2 bF bF (by kernel_rfl) (aa (.inl ⟨rfl,⟨false,⟨rfl,rfl,trivial⟩,I.pk [0] rfl,F⟩⟩)))))))
  refine aw (by kernel_rfl) (bg I 76 _ _ (by kernel_rfl) (bn.mono (L76 _ a.k 0 60 _ o) (uH g)) fun w I=>pu2 bT bT (by kernel_rfl) (pup (uF b 3) (by kernel_rfl) (aw (by kernel_rfl) (ag I 0 (iv a.d) zi3 rfl rfl rfl (bt F (fun J q F=>ifN F (fun i F=>?_) (fun i F=>?_)))))))
  ·
   refine aw (by kernel_rfl) (bg I 77 _ _ (by kernel_rfl) (bn.mono (L77 _ a.d _ q) (uH (Bool.eq_false_iff.2 i))) fun w I=>pu2 bF bF (by kernel_rfl) (sf 3 (by kernel_rfl) (pu2 bF bF (by kernel_rfl) (aa (.inl ⟨rfl,⟨false,⟨rfl,rfl,trivial⟩,I.pk [0] rfl,F⟩⟩)))))
  refine aw (by kernel_rfl) (bg I 77 _ _ (by kernel_rfl) (bn.mono (L77 _ a.d _ q) (uH i)) fun w I=>pu2 bT bT (by kernel_rfl) (pup (uF b 4) (by kernel_rfl) (aw (by kernel_rfl) (ag I 0 (iv a.kn) zi3 rfl rfl rfl (bt F (fun K s F=>ifE F (fun j F=>?_) (fun j F=>?_)))))))
  ·
   refine aw (by kernel_rfl) (bg I 77 _ _ (by kernel_rfl) (bn.mono (L77 _ a.kn _ s) (uH j)) fun w I=>pu2 bT bT (by kernel_rfl) (aa (.inl ⟨rfl,⟨true,⟨rfl,rfl,trivial⟩,I.pk [0] rfl,F⟩⟩)))
  refine aw (by kernel_rfl) (bg I 77 _ _ (by kernel_rfl) (bn.mono (L77 _ a.kn _ s) (uH (Bool.eq_false_iff.2 j))) fun w I=>pu2 bF bF (by kernel_rfl) (aa (.inl ⟨rfl,⟨false,⟨rfl,rfl,trivial⟩,I.pk [0] rfl,F⟩⟩)))
 intro ρ w hJ
 obtain ⟨e,hag,I,F⟩:=hJ
 obtain ⟨ρ,rfl⟩:=hag.form
 unfold F17j1 at F
 refine ab ?_
 have hG:=F; rcases Bool.eq_false_or_eq_true e with rfl | rfl
 ·
  have F:=hG; clear hG
  refine ifE F (fun _ F=>?_) (uO rfl)
  refine rgn rfl (pu2 bT bT rfl (pup (uF b 7) rfl (aw rfl (ag I 0 (uE a.t) zi9 rfl rfl rfl (bt F (fun L u F=>ifN F (fun l F=>?_) (fun l F=>?_)))))))
  ·
   refine aw (by kernel_rfl) (bg I 79 _ _ (by kernel_rfl) (bn.mono (L79 _ a.t N _ u) (uH (Bool.eq_false_iff.2 l))) fun w I=>pu2 bF bF (by kernel_rfl) (sf 2 (by kernel_rfl) (pu bF (by kernel_rfl) (bt F (fun y z F=>ph (bg I 78 _ _ (by kernel_rfl) (L78 _ false 80 _ z) fun w I=>pu (iv y) (by kernel_rfl) (aa (aj ?_))))))))
   cases F
   exact uJ I rfl
  refine aw (by kernel_rfl) (bg I 79 _ _ (by kernel_rfl) (bn.mono (L79 _ a.t N _ u) (uH l)) fun w I=>pu2 bT bT (by kernel_rfl) (aw (by kernel_rfl) (ma I 0 mh md rfl rfl rfl (bt F (fun x A F=>aw (by kernel_rfl) (bg I 80 _ _ (by kernel_rfl) (L80 _ a _ A) fun w I=>pu (.bool x) (by kernel_rfl) (bt F (fun B C F=>ph (bg I 78 _ _ (by kernel_rfl) (L78 _ x 80 _ C) fun w I=>pu (iv B) (by kernel_rfl) (aa (aj ?_)))))))))))
  cases F
  exact uJ I rfl
 have F:=hG; clear hG
 refine ifE F (fun h=>absurd h (by decide)) (fun _ F=>rgn (by kernel_rfl) (pu2 bF bF (by kernel_rfl) (sf 3 (by kernel_rfl) (pu2 bF bF (by kernel_rfl) (sf 2 (by kernel_rfl) (pu bF (by kernel_rfl) (bt F (fun D E F=>ph (bg I 78 _ _ (by kernel_rfl) (L78 _ false 80 _ E) fun w I=>pu (iv D) (by kernel_rfl) (aa (aj ?_)))))))))))
 cases F
 exact uJ I rfl

theorem L142 (w0:World) (a:Int) (hG:Gl w0) (r:Str) (F:F142 a=some r):bn Tryz.prog 142 [iv a] w0 fun v w=>v=uE r∧Below w0.heap.size w0 w:=by
  refine ckE F (fun hn F=>?_)
  cases F
  rw [← itoaS_eq hn]; exact itoa_c w0 a hG hn


theorem L69 (w0:World) (e:Rc) (hG:Gl w0) (N:Nat) (r:Str) (F:F69 N e=some r):bn Tryz.prog 69 [.agg (qg e).toArray] w0 fun v w=>v=uE r∧Below w0.heap.size w0 w:=by
 refine az (n:=40) func69 rfl ntmps69 rfl ?_
 have I:=Inv.start w0
 unfold F69 at F
 refine uL rfl (ph (ca I _ rfl fun f w I=>pu (uE []) rfl (aa (uL rfl (pu (uE []) rfl (aa (dn (fun ρ w=>∃ (j:Str),cd ρ [(1,pt f),(3,uE j)]∧Inv [] w0 w [(some f,blk (qg e) 25)]∧F69j1 e j=some r) ?_ ?_)))))))
 ·
  refine uL rfl (pu2 (pt f) (pt f) rfl (xg I 0 (iv e.p) zi3 rfl (pu2 (pt f) (uF f 1) rfl (xg I 0 (iv e.n) zi3 rfl (pu (uF f 2) rfl (xg I 0 (iv e.k) zi3 rfl (pu (uF f 3) rfl (xg I 0 (iv e.d) zi3 rfl (pu (uF f 4) rfl (xg I 0 (iv e.kn) zi3 rfl (pu2 (uF f 5) (uF f 5) rfl (xg I 0 (iv e.op) zi3 rfl (pu2 (uF f 5) (uF f 6) rfl (xg I 0 (iv e.on) zi3 rfl (ph (fu I [iv e.p,iv e.n,iv e.k,iv e.d,iv e.kn,iv e.op,iv e.on] 3 (fun b=>slv (some b) 7 7) (by kernel_rfl) fun z w I=>pu2 (iv ((7:Nat):Int)) (iv 0) (by kernel_rfl) (aa (au ?_))))))))))))))))))
  have C:Row 1 (some z) 7 7 [iv e.p,iv e.n,iv e.k,iv e.d,iv e.kn,iv e.op,iv e.on] (al eInt [e.p,e.n,e.k,e.d,e.kn,e.op,e.on]):=Row.lit cy (l:=[e.p,e.n,e.k,e.d,e.kn,e.op,e.on]) rfl (mx rfl)
  refine cb (fun m ρ w=>∃ (o q s:_) (g:Str) (i mm:_),cd ρ [(1,pt f),(3,uE g),(24,slv o ([e.p,e.n,e.k,e.d,e.kn,e.op,e.on].length) q),(25,iv 7),(26,iv i)]∧Inv [] w0 w [(some f,blk (qg e) 25),(o,blk s 3)]∧(Row 1 o ([e.p,e.n,e.k,e.d,e.kn,e.op,e.on].length) q s (al eInt [e.p,e.n,e.k,e.d,e.kn,e.op,e.on]))∧F69l2 e mm g i=some r∧mm=m) (m:=N) ⟨some z,7,[iv e.p,iv e.n,iv e.k,iv e.d,iv e.kn,iv e.op,iv e.on],[],0,N,(uK rfl),I.pk [1,0] rfl,(C.to rfl rfl),F,rfl⟩ ?_
  rintro m ρ w ⟨o,q,s,g,i,mm,hag,I,A,F,hm⟩
  subst hm; obtain ⟨ρ,rfl⟩:=hag.form
  obtain _ | m2:=mm
  ·cases (show (none:Option Str)=some r from F)
  replace F:F69b2 e (F69l2 e m2) g i=some r:=F; unfold F69b2 at F
  refine uL rfl (ifN F (fun x F=>?_) (fun x F=>?_))
  ·
   refine xl rfl (uP x) (fun _=>aa (ab (ai rfl (bw (.inl ⟨rfl,⟨g,⟨rfl,rfl,trivial⟩,I.pk [0] rfl,F⟩⟩)))))
  refine xl rfl (fun _=>?_) (uO x)
  refine aa (ab (ah rfl (ak (ab (au (uL rfl (gdE F (fun D F=>bt F (fun u B F=>?_)))))))))
  obtain ⟨E,rfl,G⟩:=A.at_ cy (by decide) B
  refine ph (be (i).toNat zu64 zs3 rfl rfl (Int.toNat_of_nonneg D).symm (fa B rfl) (ph (db I 1 (iv u) zi3 rfl rfl (G 0 _ rfl) (pu (iv u) (by kernel_rfl) (aa (rgn (by kernel_rfl) (pu2 (uE g) (iv u) (by kernel_rfl) (bt F (fun y H F=>ph (bg I 142 _ _ (by kernel_rfl) (L142 _ u (hG.up I) _ H) fun w I=>gdE F (fun J F=>ph (kv (a:=y) rfl rfl J (gdE F (fun K F=>ph (kv (a:=g) rfl rfl K (pu (uE (g++(y++[32]))) (by kernel_rfl) (aa (rgn (by kernel_rfl) (ckE F (fun L F=>xa rfl L (pu (iv (i+1)) (by kernel_rfl) (aa (⟨rfl,m2,Nat.lt_succ_self _,⟨some E,q,s,g++(y++[32]),i+1,m2,(uK rfl),I.pk [0,1] rfl,(A.to rfl rfl),F,rfl⟩⟩)))))))))))))))))))))))
 intro ρ w hJ
 obtain ⟨j,hag,I,F⟩:=hJ
 obtain ⟨ρ,rfl⟩:=hag.form
 unfold F69j1 at F
 refine uL rfl (pu2 (uE j) (uF f 7) rfl (xg I 0 (uE e.t) zi9 rfl (gdE F (fun M F=>ph (kv (a:=j) rfl rfl M (pu (uE (j++e.t)) rfl (aa (aj ?_))))))))
 cases F
 exact uJ I rfl


theorem L82 (w0:World) (a:Int) (b:Int) (d:Int) (r:Bool) (F:F82 a b d=some r):bn Tryz.prog 82 [iv a,iv b,iv d] w0 fun v w=>v=.bool r∧Below w0.heap.size w0 w:=by
 refine az (n:=15) func82 rfl ntmps82 rfl ?_
 have I:=Inv.start w0
 unfold F82 at F
 refine uL rfl (pu bF rfl (aa (uL rfl (pu2 (iv a) (iv b) rfl (ifN F (fun h7 F=>?_) (fun h7 F=>?_))))))
 ·
  refine ph (s_geq rfl rfl (uP h7) (fun _=>pu bF rfl (sf 3 rfl (pu2 bF bF rfl (aa (aj ?_))))))
  cases F
  exact uJ I rfl


 refine ph (s_geq rfl rfl (fun _=>?_) (uO h7))
 refine pu bT rfl (pup (iv a) rfl (pup (iv d) rfl (ifE F (fun h8 F=>?_) (fun h8 F=>?_))))
 ·
  refine aw rfl (s_leq rfl rfl (fun _=>?_) (uO h8))
  refine pu2 bT bT rfl (aa (aj ?_))
  cases F
  exact uJ I rfl
 refine aw rfl (s_leq rfl rfl (uP h8) (fun _=>pu2 bF bF rfl (aa (aj ?_))))
 cases F
 exact uJ I rfl
theorem L127 (w0:World) (a:Int) (r:Bool) (F:F127 a=some r):bn Tryz.prog 127 [iv a] w0 fun v w=>v=.bool r∧Below w0.heap.size w0 w:=by
 refine az (n:=5) func127 rfl ntmps127 rfl ?_
 have I:=Inv.start w0
 unfold F127 at F
 refine uL (by kernel_rfl) (pu bF (by kernel_rfl) (aa (uL (by kernel_rfl) (pu (iv a) (by kernel_rfl) (bt F (fun y7 hy8 F=>ph (bg I 82 _ _ (by kernel_rfl) (L82 _ a 0 5 _ hy8) fun w I=>pu (.bool y7) (by kernel_rfl) (aa (aj ?_)))))))))
 cases F
 exact uJ I rfl


theorem L81 (w0:World) (a:It) (r:Bool) (F:F81 a=some r):bn Tryz.prog 81 [.agg #[iv a.p,iv a.n]] w0 fun v w=>v=.bool r∧Below w0.heap.size w0 w:=by
 refine az (n:=11) func81 rfl ntmps81 rfl ?_
 have I:=Inv.start w0
 unfold F81 at F
 refine uL rfl (ph (ca I _ rfl fun b w I=>pu bF rfl (aa (uL rfl (pu (pt b) rfl (xg I 0 (iv a.p) zi3 rfl (bt F (fun g d F=>ifN F (fun h4 F=>?_) (fun h4 F=>?_)))))))))
 ·
  refine ph (bg I 127 _ _ (by kernel_rfl) (bn.mono (L127 _ a.p _ d) (uH (Bool.eq_false_iff.2 h4))) fun w I=>pu bF (by kernel_rfl) (sf 3 (by kernel_rfl) (pu2 bF bF (by kernel_rfl) (aa (aj ?_)))))
  cases F
  exact uJ I rfl


 refine ph (bg I 127 _ _ (by kernel_rfl) (bn.mono (L127 _ a.p _ d) (uH h4)) fun w I=>pu bT (by kernel_rfl) (pup (uF b 1) (by kernel_rfl) (aw (by kernel_rfl) (ag I 0 (iv a.n) zi3 rfl rfl rfl (bt F (fun e f F=>aw (by kernel_rfl) (bg I 82 _ _ (by kernel_rfl) (L82 _ a.n 0 9999 _ f) fun w I=>pu2 (.bool e) (.bool e) (by kernel_rfl) (aa (aj ?_)))))))))
 cases F
 exact uJ I rfl
theorem L83 (w0:World) (a:Int) (r:Bool) (F:F83 a=some r):bn Tryz.prog 83 [iv a] w0 fun v w=>v=.bool r∧Below w0.heap.size w0 w:=by
 refine az (n:=5) func83 rfl ntmps83 rfl ?_
 have I:=Inv.start w0
 unfold F83 at F
 refine uL (by kernel_rfl) (pu bF (by kernel_rfl) (aa (uL (by kernel_rfl) (pu (iv a) (by kernel_rfl) (bt F (fun y7 hy8 F=>ph (bg I 82 _ _ (by kernel_rfl) (L82 _ a 0 4166 _ hy8) fun w I=>pu (.bool y7) (by kernel_rfl) (aa (aj ?_)))))))))
 cases F
 exact uJ I rfl


theorem L84 (w0:World) (b:Str) (N:Nat) (r:Bool) (F:F84 N b=some r):bn Tryz.prog 84 [uE b] w0 fun v w=>v=.bool r∧Below w0.heap.size w0 w:=by
 refine az (n:=20) func84 rfl ntmps84 rfl ?_
 have I:=Inv.start w0
 unfold F84 at F
 refine uL rfl (pu bF rfl (aa (ab (uL rfl (pu (iv 0) rfl (aa (au (cb (fun m ρ w=>∃ a mm,cd ρ [(0,uE b),(3,iv a)]∧Inv [] w0 w []∧F84l1 b mm a=some r∧mm=m) (m:=N) ⟨0,N,⟨rfl,rfl,trivial⟩,I.pk [] rfl,F,rfl⟩ ?_))))))))
 rintro m ρ w ⟨a,mm,hag,I,F,hm⟩
 subst hm; obtain ⟨ρ,rfl⟩:=hag.form
 obtain _ | m1:=mm
 ·cases (show (none:Option Bool)=some r from F)
 replace F:F84b1 b (F84l1 b m1) a=some r:=F; unfold F84b1 at F
 refine ab (uL rfl (pu3 (iv a) (uE b) (iv (b.length:Int)) (by kernel_rfl) (ifN F (fun d F=>?_) (fun d F=>?_))))
 ·
  refine xl rfl (uP d) (fun _=>aa (ai rfl (bw (uL rfl (pu bT rfl (aa (aj ?_)))))))
  cases F
  exact uJ I rfl


 refine xl rfl (fun _=>?_) (uO d)
 refine aa (ah rfl (ak (ab (au (uL rfl (pu2 (uE b) (iv a) rfl (gdE F (fun g F=>bt F (fun k i F=>ph (fb (a).toNat zu9 rfl rfl (Int.toNat_of_nonneg g).symm i (ifE F (fun e F=>?_) (fun e F=>?_))))))))))))
 ·
  refine ph (s_lss8 rfl rfl (fun _=>?_) (uO e))
  refine pu bT rfl (sf 4 rfl (pu bT rfl (aa (ah rfl (uL rfl (pu bF rfl (aa (aj ?_))))))))
  cases F
  exact uJ I rfl
 refine ph (s_lss8 rfl rfl (uP e) (fun _=>pu bF rfl (pup (uE b) rfl (pup (iv a) rfl (aw rfl (fb (a).toNat zu9 rfl rfl (Int.toNat_of_nonneg g).symm i (ifE F (fun f F=>?_) (fun f F=>?_))))))))
 ·
  refine aw rfl (s_gtr8 rfl rfl (fun _=>?_) (uO f))
  refine pu bT rfl (aa (ah rfl (uL rfl (pu bF rfl (aa (aj ?_))))))
  cases F
  exact uJ I rfl
 refine aw rfl (s_gtr8 rfl rfl (uP f) (fun _=>pu bF rfl (aa (ai rfl (ak (rgn rfl (pu (iv a) rfl (ckE F (fun j F=>xa rfl j (pu (iv (a+1)) rfl (aa (⟨rfl,m1,Nat.lt_succ_self _,⟨a+1,m1,⟨rfl,rfl,trivial⟩,I.pk [] rfl,F,rfl⟩⟩))))))))))))
theorem L18 (w0:World) (e:Rc) (N:Nat) (r:Int) (F:F18 N e=some r):bn Tryz.prog 18 [.agg (qg e).toArray] w0 fun v w=>v=iv r∧Below w0.heap.size w0 w:=by
 refine az (n:=76) func18 rfl ntmps18 rfl ?_
 have I:=Inv.start w0
 unfold F18 at F
 refine uL rfl (ph (ca I _ rfl fun f w I=>pu (iv 0) rfl (aa (ab (uL rfl (pu (pt f) rfl (xr I 0 2 [iv e.p,iv e.n] zi23 zs23 rfl (bt F (fun J B F=>ifN F (fun g F=>?_) (fun g F=>?_))))))))))
 ·
  refine ph (bg I 81 _ _ (by kernel_rfl) (bn.mono (L81 _ (⟨e.p,e.n⟩:It) _ B) (uH (Bool.eq_false_iff.2 g))) fun w I=>pu2 bT bT (by kernel_rfl) (sf 4 (by kernel_rfl) (pu2 bT bT (by kernel_rfl) (sf 4 (by kernel_rfl) (pu2 bT bT (by kernel_rfl) (sf 4 (by kernel_rfl) (pu2 bT bT (by kernel_rfl) (sf 4 (by kernel_rfl) (pu2 bT bT (by kernel_rfl) (sf 4 (by kernel_rfl) (pu bT (by kernel_rfl) (aa (ah rfl (uL (by kernel_rfl) (pu (iv 80) (by kernel_rfl) (aa (aj ?_)))))))))))))))))
  cases F
  exact uJ I rfl


 refine ph (bg I 81 _ _ (by kernel_rfl) (bn.mono (L81 _ (⟨e.p,e.n⟩:It) _ B) (uH g)) fun w I=>pu2 bF bF (by kernel_rfl) (pup (uF f 2) (by kernel_rfl) (aw (by kernel_rfl) (ag I 0 (iv e.k) zi3 rfl rfl rfl (bt F (fun K C F=>ifN F (fun i F=>?_) (fun i F=>?_)))))))
 ·
  refine aw (by kernel_rfl) (bg I 82 _ _ (by kernel_rfl) (bn.mono (L82 _ e.k 0 60 _ C) (uH (Bool.eq_false_iff.2 i))) fun w I=>pup bT (by kernel_rfl) (pu2 bT bT (by kernel_rfl) (sf 4 (by kernel_rfl) (pu2 bT bT (by kernel_rfl) (sf 4 (by kernel_rfl) (pu2 bT bT (by kernel_rfl) (of_ (by kernel_rfl) (sf 3 (by kernel_rfl) (pu2 bT bT (by kernel_rfl) (sf 4 (by kernel_rfl) (pu bT (by kernel_rfl) (aa (ah rfl (uL (by kernel_rfl) (pu (iv 80) (by kernel_rfl) (aa (aj ?_)))))))))))))))))
  cases F
  exact uJ I rfl
 refine aw (by kernel_rfl) (bg I 82 _ _ (by kernel_rfl) (bn.mono (L82 _ e.k 0 60 _ C) (uH i)) fun w I=>pup bF (by kernel_rfl) (pu2 bF bF (by kernel_rfl) (pup (uF f 3) (by kernel_rfl) (aw (by kernel_rfl) (ag I 0 (iv e.d) zi3 rfl rfl rfl (bt F (fun L D F=>ifN F (fun j F=>?_) (fun j F=>?_))))))))
 ·
  refine aw (by kernel_rfl) (bg I 83 _ _ (by kernel_rfl) (bn.mono (L83 _ e.d _ D) (uH (Bool.eq_false_iff.2 j))) fun w I=>pup bT (by kernel_rfl) (pu2 bT bT (by kernel_rfl) (sf 4 (by kernel_rfl) (pu2 bT bT (by kernel_rfl) (sf 4 (by kernel_rfl) (pu2 bT bT (by kernel_rfl) (of_ (by kernel_rfl) (sf 3 (by kernel_rfl) (pu bT (by kernel_rfl) (aa (ah rfl (uL (by kernel_rfl) (pu (iv 80) (by kernel_rfl) (aa (aj ?_)))))))))))))))
  cases F
  exact uJ I rfl
 refine aw (by kernel_rfl) (bg I 83 _ _ (by kernel_rfl) (bn.mono (L83 _ e.d _ D) (uH j)) fun w I=>pup bF (by kernel_rfl) (pu2 bF bF (by kernel_rfl) (pup (uF f 4) (by kernel_rfl) (aw (by kernel_rfl) (ag I 0 (iv e.kn) zi3 rfl rfl rfl (bt F (fun M E F=>ifN F (fun l F=>?_) (fun l F=>?_))))))))
 ·
  refine aw (by kernel_rfl) (bg I 83 _ _ (by kernel_rfl) (bn.mono (L83 _ e.kn _ E) (uH (Bool.eq_false_iff.2 l))) fun w I=>pup bT (by kernel_rfl) (pu2 bT bT (by kernel_rfl) (sf 4 (by kernel_rfl) (pu2 bT bT (by kernel_rfl) (sf 4 (by kernel_rfl) (pu bT (by kernel_rfl) (aa (ah rfl (uL (by kernel_rfl) (pu (iv 80) (by kernel_rfl) (aa (aj ?_))))))))))))
  cases F
  exact uJ I rfl
 refine aw (by kernel_rfl) (bg I 83 _ _ (by kernel_rfl) (bn.mono (L83 _ e.kn _ E) (uH l)) fun w I=>pup bF (by kernel_rfl) (pu2 bF bF (by kernel_rfl) (pup (uF f 7) (by kernel_rfl) (aw (by kernel_rfl) (ag I 0 (uE e.t) zi9 rfl rfl rfl (pup (iv (e.t.length:Int)) (by kernel_rfl) (ifE F (fun m F=>?_) (fun m F=>?_))))))))
 ·
  refine aw rfl (fh rfl rfl (fun _=>?_) (uO m))
  refine pu2 bT bT rfl (sf 4 rfl (pu bT rfl (aa (ah rfl (uL rfl (pu (iv 80) rfl (aa (aj ?_))))))))
  cases F
  exact uJ I rfl
 refine aw rfl (fh rfl rfl (uP m) (fun _=>pu2 bF bF rfl (pup (uF f 7) rfl (aw rfl (ag I 0 (uE e.t) zi9 rfl rfl rfl (bt F (fun O G F=>ifN F (fun o F=>?_) (fun o F=>?_))))))))
 ·
  refine aw (by kernel_rfl) (bg I 84 _ _ (by kernel_rfl) (bn.mono (L84 _ e.t N _ G) (uH (Bool.eq_false_iff.2 o))) fun w I=>pup bT (by kernel_rfl) (pu bT (by kernel_rfl) (aa (ah rfl (uL (by kernel_rfl) (pu (iv 80) (by kernel_rfl) (aa (aj ?_))))))))
  cases F
  exact uJ I rfl
 refine aw rfl (bg I 84 _ _ (by kernel_rfl) (bn.mono (L84 _ e.t N _ G) (uH o)) fun w I=>pup bF (by kernel_rfl) (pu bF (by kernel_rfl) (aa (ai rfl (ak (ab (uL rfl (pu (uF f 2) rfl (xg I 0 (iv e.k) zi3 rfl (ifN F (fun q F=>?_) (fun q F=>?_)))))))))))
 ·
  refine xn rfl (fun _=>?_) (uP q)
  refine aa (ah rfl (ab (uL rfl (pu (uF f 5) rfl (xr I 0 2 [iv e.op,iv e.on] zi23 zs23 rfl (pu (.agg #[iv 0,iv 0]) (by kernel_rfl) (ifN F (fun s F=>?_) (fun s F=>?_))))))))
  ·
   refine ph (lg (b:=decide (e.op=0) && decide (e.on=0)) rfl rfl (by kernel_rfl) (fun w=>eq23 _ e.op e.on 0 0 w) (fun _=>?_) (uP s))
   refine aa (ah rfl (uL rfl (pu (iv 80) rfl (aa (aj ?_)))))
   cases F
   exact uJ I rfl
  refine ph (lg (b:=decide (e.op=0) && decide (e.on=0)) rfl rfl (by kernel_rfl) (fun w=>eq23 _ e.op e.on 0 0 w) (uO s) (fun _=>aa (ai rfl (ak (uL rfl (pu (iv 0) rfl (aa (aj ?_))))))))
  cases F
  exact uJ I rfl
 refine xn rfl (uO q) (fun _=>aa (ai rfl (ak (ab (uL rfl (pu (uF f 3) rfl (xg I 0 (iv e.d) zi3 rfl (ifN F (fun u F=>?_) (fun u F=>?_)))))))))
 ·
  refine xn rfl (fun _=>?_) (uP u)
  refine pu bT rfl (sf 3 rfl (pu2 bT bT rfl (sf 4 rfl (pu2 bT bT rfl (sf 7 rfl (pu2 bT bT rfl (sf 7 rfl (pu bT rfl (aa (ah rfl (uL rfl (pu (iv 80) rfl (aa (aj ?_))))))))))))))
  cases F
  exact uJ I rfl
 refine xn rfl (uO u) (fun _=>pu bF rfl (pup (uF f 7) rfl (aw rfl (ag I 0 (uE e.t) zi9 rfl rfl rfl (ifN F (fun x F=>?_) (fun x F=>?_))))))
 ·
  refine aw rfl (s_strNe (a:=e.t) (b:=[]) rfl rfl (fun _=>?_) (uP x))
  refine pu2 bT bT rfl (sf 4 rfl (pu2 bT bT rfl (sf 7 rfl (pu2 bT bT rfl (sf 7 rfl (pu bT rfl (aa (ah rfl (uL rfl (pu (iv 80) rfl (aa (aj ?_))))))))))))
  cases F
  exact uJ I rfl
 refine aw rfl (s_strNe (a:=e.t) (b:=[]) rfl rfl (uO x) (fun _=>pu2 bF bF rfl (pup (uF f 5) rfl (aw rfl (ar I 0 2 [iv e.op,iv e.on] zi23 zs23 rfl rfl rfl rfl (bt F (fun P H F=>ifN F (fun y F=>?_) (fun y F=>?_))))))))
 ·
  refine aw (by kernel_rfl) (bg I 81 _ _ (by kernel_rfl) (bn.mono (L81 _ (⟨e.op,e.on⟩:It) _ H) (uH (Bool.eq_false_iff.2 y))) fun w I=>pup bT (by kernel_rfl) (pu2 bT bT (by kernel_rfl) (sf 7 (by kernel_rfl) (pu2 bT bT (by kernel_rfl) (sf 7 (by kernel_rfl) (pu bT (by kernel_rfl) (aa (ah rfl (uL (by kernel_rfl) (pu (iv 80) (by kernel_rfl) (aa (aj ?_))))))))))))
  cases F
  exact uJ I rfl
 refine aw (by kernel_rfl) (bg I 81 _ _ (by kernel_rfl) (bn.mono (L81 _ (⟨e.op,e.on⟩:It) _ H) (uH y)) fun w I=>pup bF (by kernel_rfl) (pu2 bF bF (by kernel_rfl) (pup (uF f 5) (by kernel_rfl) (pup (uF f 5) (by kernel_rfl) (aw (by kernel_rfl) (ag I 0 (iv e.op) zi3 rfl rfl rfl (pup (pt f) (by kernel_rfl) (pup (pt f) (by kernel_rfl) (aw (by kernel_rfl) (ag I 0 (iv e.p) zi3 rfl rfl rfl (ifN F (fun z F=>?_) (fun z F=>?_))))))))))))
 ·
  refine aw rfl (de rfl rfl (fun _=>?_) (uP z))
  refine pu2 bT bT rfl (sf 7 rfl (pu bT rfl (aa (ah rfl (uL rfl (pu (iv 80) rfl (aa (aj ?_))))))))
  cases F
  exact uJ I rfl
 refine aw rfl (de rfl rfl (uO z) (fun _=>pu2 bF bF rfl (pup (uF f 5) rfl (pup (uF f 6) rfl (aw rfl (ag I 0 (iv e.on) zi3 rfl rfl rfl (pup (pt f) rfl (pup (uF f 1) rfl (aw rfl (ag I 0 (iv e.n) zi3 rfl rfl rfl (ifE F (fun A F=>?_) (fun A F=>?_))))))))))))
 ·
  refine aw rfl (s_geq rfl rfl (fun _=>?_) (uO A))
  refine pu bT rfl (aa (ah rfl (uL rfl (pu (iv 80) rfl (aa (aj ?_))))))
  cases F
  exact uJ I rfl
 refine aw rfl (s_geq rfl rfl (uP A) (fun _=>pu bF rfl (aa (ai rfl (ak (uL rfl (pu (iv 0) rfl (aa (aj ?_)))))))))
 cases F
 exact uJ I rfl
theorem L143 (N:Nat):∀ (w0:World) (d:Int) (hL0:Inv [] w0 w0 []) (r:Str) (F:F143 N d=some r),bn Tryz.prog 143 [iv d] w0 fun v w=>v=uE r∧Inv [] w0 w []:=by
  induction N with
  | zero=>intro w0 d hL0 r F; cases (show (none:Option Str)=some r from F)
  | succ N ih =>
   intro w0 d hL0 r F
   replace F:F143b N (F143 N) d=some r:=F
   refine az (n:=40) func143 rfl ntmps143 rfl ?_
   have I:Inv [] w0 w0 []:=hL0
   unfold F143b at F
   refine uL rfl (pu (uE []) rfl (aa (ab (uL rfl (pu (iv d) rfl (ifE F (fun g F=>?_) (fun g F=>?_)))))))
   ·
    refine xl rfl (fun _=>?_) (uO g)
    refine aa (ah rfl (ab (ckE F (fun t F=>bt F (fun e i F=>ckE F (fun u F=>gdE F (fun j F=>dh I [] (by decide) rfl rfl rfl fun hsub=>alp 0 (iv d) hsub rfl (by kernel_rfl) (fun _=>rfl) (ap 1 (iv (d.tdiv 10)) hsub rfl (by kernel_rfl) (fun w I=>s_quo rfl rfl (by decide) t br) (alp 3 (iv d) hsub rfl (by kernel_rfl) (fun _=>rfl) (ap 4 (iv (d.tmod 10)) hsub rfl (by kernel_rfl) (fun w I=>s_rem rfl rfl (by decide) br) (ap 5 (iv (48 - (d.tmod 10))) hsub rfl (by kernel_rfl) (fun w I=>s_sub rfl rfl u br) (ap 6 (.int .u8 (w8 (48 - (d.tmod 10)))) hsub rfl (by kernel_rfl) (fun w I=>s_convTo8 zu5 zu3 rfl br) (bc [2,7] (by kernel_rfl) rfl (each2 ?_ ?_))))))))))))))
    ·intro w I
     refine dg rfl (co 143 [iv (d.tdiv 10)] (by kernel_rfl) (ih _ (d.tdiv 10) (I.lend [] (by decide) rfl rfl) _ i) ?_)
     rintro v w ⟨hv,hN⟩
     subst hv
     have I:=I.backsL [] [] (by decide) rfl rfl rfl hN; clear hN
     refine ⟨_,I,dc (fun _ h=>h.pk [] rfl) ?_⟩
     intro hsub
     refine bc [7] (by kernel_rfl) rfl (cz fun w I=>dg rfl (fu I [.int .u8 (w8 (48 - (d.tmod 10)))] 5 (fun b=>slv (some b) 1 1) (by kernel_rfl) fun x w I=>⟨_,I,dc (fun _ h=>h.pk [] rfl) ?_⟩))
     intro hsub
     refine bc [8] (by kernel_rfl) rfl (cz ?_)
     intro w I
     have y:Row 1 (some x) 1 1 [.int .u8 (w8 (48 - (d.tmod 10)))] (al eB [w8 (48 - (d.tmod 10))]):=Row.lit ew (l:=[w8 (48 - (d.tmod 10))]) rfl (mx rfl)
     refine dg rfl (fx (l:=[w8 (48 - (d.tmod 10))]) mg zu5 zu9 rfl rfl (I.rowCells 0 rfl y) (⟨_,I,dc (fun _ h=>h.pk [] rfl) ?_⟩))
     intro hsub
     refine ap 9 (uE (e++(bl [w8 (48 - (d.tmod 10))]))) hsub rfl (by kernel_rfl) (fun w I=>kv (a:=e) rfl rfl j br) (alp 10 (uE (e++(bl [w8 (48 - (d.tmod 10))]))) hsub rfl (by kernel_rfl) (fun _=>rfl) (cp rfl (fun w I=>aj ?_)))
     cases F
     exact ⟨_,Ret.r1 rfl rfl,⟨rfl,I.pk [] rfl⟩⟩
    intro w I
    refine dg rfl (fu I [.int .u8 (w8 (48 - (d.tmod 10)))] 5 (fun b=>slv (some b) 1 1) (by kernel_rfl) fun q w I=>⟨_,I,dc (fun _ h=>h.pk [] rfl) ?_⟩)
    intro hsub
    refine bc [2,8] (by kernel_rfl) rfl (each2 ?_ ?_)
    ·intro w I
     refine dg rfl (co 143 [iv (d.tdiv 10)] (by kernel_rfl) (ih _ (d.tdiv 10) (I.lend [] (by decide) rfl rfl) _ i) ?_)
     rintro v w ⟨hv,hN⟩
     subst hv
     have I:=I.backsL [] [0] (by decide) rfl rfl rfl hN; clear hN
     refine ⟨_,I,dc (fun _ h=>h.pk [] rfl) ?_⟩
     intro hsub
     refine bc [8] (by kernel_rfl) rfl (cz ?_)
     intro w I
     have z:Row 1 (some q) 1 1 [.int .u8 (w8 (48 - (d.tmod 10)))] (al eB [w8 (48 - (d.tmod 10))]):=Row.lit ew (l:=[w8 (48 - (d.tmod 10))]) rfl (mx rfl)
     refine dg rfl (fx (l:=[w8 (48 - (d.tmod 10))]) mg zu5 zu9 rfl rfl (I.rowCells 0 rfl z) (⟨_,I,dc (fun _ h=>h.pk [] rfl) ?_⟩))
     intro hsub
     refine ap 9 (uE (e++(bl [w8 (48 - (d.tmod 10))]))) hsub rfl (by kernel_rfl) (fun w I=>kv (a:=e) rfl rfl j br) (alp 10 (uE (e++(bl [w8 (48 - (d.tmod 10))]))) hsub rfl (by kernel_rfl) (fun _=>rfl) (cp rfl (fun w I=>aj ?_)))
     cases F
     exact ⟨_,Ret.r1 rfl rfl,⟨rfl,I.pk [] rfl⟩⟩
    intro w I
    have A:Row 1 (some q) 1 1 [.int .u8 (w8 (48 - (d.tmod 10)))] (al eB [w8 (48 - (d.tmod 10))]):=Row.lit ew (l:=[w8 (48 - (d.tmod 10))]) rfl (mx rfl)
    refine dg rfl (fx (l:=[w8 (48 - (d.tmod 10))]) mg zu5 zu9 rfl rfl (I.rowCells 0 rfl A) (⟨_,I,dc (fun _ h=>h.pk [] rfl) ?_⟩))
    intro hsub
    refine bc [2] (by kernel_rfl) rfl (cz fun w I=>dg rfl (co 143 [iv (d.tdiv 10)] (by kernel_rfl) (ih _ (d.tdiv 10) (I.lend [] (by decide) rfl rfl) _ i) ?_))
    rintro v w ⟨hv,hN⟩
    subst hv
    have I:=I.backsL [] [0] (by decide) rfl rfl rfl hN; clear hN
    refine ⟨_,I,dc (fun _ h=>h.pk [] rfl) ?_⟩
    intro hsub
    refine ap 9 (uE (e++(bl [w8 (48 - (d.tmod 10))]))) hsub rfl (by kernel_rfl) (fun w I=>kv (a:=e) rfl rfl j br) (alp 10 (uE (e++(bl [w8 (48 - (d.tmod 10))]))) hsub rfl (by kernel_rfl) (fun _=>rfl) (cp rfl (fun w I=>aj ?_)))
    cases F
    exact ⟨_,Ret.r1 rfl rfl,⟨rfl,I.pk [] rfl⟩⟩
   refine xl rfl (uP g) (fun _=>aa (ai rfl (ak (ab (uL rfl (pu (iv d) rfl (ifE F (fun k F=>?_) (fun k F=>?_))))))))
   ·
    refine xl rfl (fun _=>?_) (uO k)
    refine aa (ah rfl (uL rfl (pu (iv d) rfl (ckE F (fun B F=>ph (s_sub rfl rfl B (ph (s_convTo8 zu5 zu3 rfl (ph (fu I [.int .u8 (w8 (48 - d))] 5 (fun b=>slv (some b) 1 1) (by kernel_rfl) ?_))))))))))
    intro C w I
    have D:Row 1 (some C) 1 1 [.int .u8 (w8 (48 - d))] (al eB [w8 (48 - d)]):=Row.lit ew (l:=[w8 (48 - d)]) rfl (mx rfl)
    refine ph (fx (l:=[w8 (48 - d)]) mg zu5 zu9 rfl rfl (I.rowCells 0 rfl D) (gdE F (fun E F=>ph (kv (a:=[45]) rfl rfl E (pu (uE ([45]++(bl [w8 (48 - d)]))) rfl (aa (aj ?_)))))))
    cases F
    exact ⟨_,Ret.r1 rfl rfl,⟨rfl,I.pk [] rfl⟩⟩
   refine xl rfl (uP k) (fun _=>aa (ai rfl (ak (ab (uL rfl (pu (iv d) rfl (ifE F (fun m F=>?_) (fun m F=>?_))))))))
   ·
    refine xl rfl (fun _=>?_) (uO m)
    refine aa (ah rfl (uL rfl (pu (iv d) rfl (ckE F (fun G F=>xa rfl G (ph (s_convTo8 zu5 zu3 rfl (ph (fu I [.int .u8 (w8 (48+d))] 5 (fun b=>slv (some b) 1 1) (by kernel_rfl) ?_)))))))))
    intro H w I
    have J:Row 1 (some H) 1 1 [.int .u8 (w8 (48+d))] (al eB [w8 (48+d)]):=Row.lit ew (l:=[w8 (48+d)]) rfl (mx rfl)
    refine ph (fx (l:=[w8 (48+d)]) mg zu5 zu9 rfl rfl (I.rowCells 0 rfl J) (pu (uE (bl [w8 (48+d)])) rfl (aa (aj ?_))))
    cases F
    exact ⟨_,Ret.r1 rfl rfl,⟨rfl,I.pk [] rfl⟩⟩
   refine xl rfl (uP m) (fun _=>aa (ai rfl (ak (ab (ckE F (fun K F=>bt F (fun f o F=>ckE F (fun L F=>gdE F (fun p F=>dh I [] (by decide) rfl rfl rfl fun hsub=>alp 0 (iv d) hsub rfl (by kernel_rfl) (fun _=>rfl) (ap 1 (iv (d.tdiv 10)) hsub rfl (by kernel_rfl) (fun w I=>s_quo rfl rfl (by decide) K br) (alp 3 (iv d) hsub rfl (by kernel_rfl) (fun _=>rfl) (ap 4 (iv (d.tmod 10)) hsub rfl (by kernel_rfl) (fun w I=>s_rem rfl rfl (by decide) br) (ap 5 (iv (48+(d.tmod 10))) hsub rfl (by kernel_rfl) (fun w I=>cj rfl rfl L br) (ap 6 (.int .u8 (w8 (48+(d.tmod 10)))) hsub rfl (by kernel_rfl) (fun w I=>s_convTo8 zu5 zu3 rfl br) (bc [2,7] (by kernel_rfl) rfl (each2 ?_ ?_))))))))))))))))
   ·intro w I
    refine dg rfl (co 143 [iv (d.tdiv 10)] (by kernel_rfl) (ih _ (d.tdiv 10) (I.lend [] (by decide) rfl rfl) _ o) ?_)
    rintro v w ⟨hv,hN⟩
    subst hv
    have I:=I.backsL [] [] (by decide) rfl rfl rfl hN; clear hN
    refine ⟨_,I,dc (fun _ h=>h.pk [] rfl) ?_⟩
    intro hsub
    refine bc [7] (by kernel_rfl) rfl (cz fun w I=>dg rfl (fu I [.int .u8 (w8 (48+(d.tmod 10)))] 5 (fun b=>slv (some b) 1 1) (by kernel_rfl) fun M w I=>⟨_,I,dc (fun _ h=>h.pk [] rfl) ?_⟩))
    intro hsub
    refine bc [8] (by kernel_rfl) rfl (cz ?_)
    intro w I
    have O:Row 1 (some M) 1 1 [.int .u8 (w8 (48+(d.tmod 10)))] (al eB [w8 (48+(d.tmod 10))]):=Row.lit ew (l:=[w8 (48+(d.tmod 10))]) rfl (mx rfl)
    refine dg rfl (fx (l:=[w8 (48+(d.tmod 10))]) mg zu5 zu9 rfl rfl (I.rowCells 0 rfl O) (⟨_,I,dc (fun _ h=>h.pk [] rfl) ?_⟩))
    intro hsub
    refine ap 9 (uE (f++(bl [w8 (48+(d.tmod 10))]))) hsub rfl (by kernel_rfl) (fun w I=>kv (a:=f) rfl rfl p br) (alp 10 (uE (f++(bl [w8 (48+(d.tmod 10))]))) hsub rfl (by kernel_rfl) (fun _=>rfl) (cp rfl (fun w I=>aj ?_)))
    cases F
    exact ⟨_,Ret.r1 rfl rfl,⟨rfl,I.pk [] rfl⟩⟩
   intro w I
   refine dg rfl (fu I [.int .u8 (w8 (48+(d.tmod 10)))] 5 (fun b=>slv (some b) 1 1) (by kernel_rfl) fun s w I=>⟨_,I,dc (fun _ h=>h.pk [] rfl) ?_⟩)
   intro hsub
   refine bc [2,8] (by kernel_rfl) rfl (each2 ?_ ?_)
   ·intro w I
    refine dg rfl (co 143 [iv (d.tdiv 10)] (by kernel_rfl) (ih _ (d.tdiv 10) (I.lend [] (by decide) rfl rfl) _ o) ?_)
    rintro v w ⟨hv,hN⟩
    subst hv
    have I:=I.backsL [] [0] (by decide) rfl rfl rfl hN; clear hN
    refine ⟨_,I,dc (fun _ h=>h.pk [] rfl) ?_⟩
    intro hsub
    refine bc [8] (by kernel_rfl) rfl (cz ?_)
    intro w I
    have P:Row 1 (some s) 1 1 [.int .u8 (w8 (48+(d.tmod 10)))] (al eB [w8 (48+(d.tmod 10))]):=Row.lit ew (l:=[w8 (48+(d.tmod 10))]) rfl (mx rfl)
    refine dg rfl (fx (l:=[w8 (48+(d.tmod 10))]) mg zu5 zu9 rfl rfl (I.rowCells 0 rfl P) (⟨_,I,dc (fun _ h=>h.pk [] rfl) ?_⟩))
    intro hsub
    refine ap 9 (uE (f++(bl [w8 (48+(d.tmod 10))]))) hsub rfl (by kernel_rfl) (fun w I=>kv (a:=f) rfl rfl p br) (alp 10 (uE (f++(bl [w8 (48+(d.tmod 10))]))) hsub rfl (by kernel_rfl) (fun _=>rfl) (cp rfl (fun w I=>aj ?_)))
    cases F
    exact ⟨_,Ret.r1 rfl rfl,⟨rfl,I.pk [] rfl⟩⟩
   intro w I
   have Q:Row 1 (some s) 1 1 [.int .u8 (w8 (48+(d.tmod 10)))] (al eB [w8 (48+(d.tmod 10))]):=Row.lit ew (l:=[w8 (48+(d.tmod 10))]) rfl (mx rfl)
   refine dg rfl (fx (l:=[w8 (48+(d.tmod 10))]) mg zu5 zu9 rfl rfl (I.rowCells 0 rfl Q) (⟨_,I,dc (fun _ h=>h.pk [] rfl) ?_⟩))
   intro hsub
   refine bc [2] (by kernel_rfl) rfl (cz fun w I=>dg rfl (co 143 [iv (d.tdiv 10)] (by kernel_rfl) (ih _ (d.tdiv 10) (I.lend [] (by decide) rfl rfl) _ o) ?_))
   rintro v w ⟨hv,hN⟩
   subst hv
   have I:=I.backsL [] [0] (by decide) rfl rfl rfl hN; clear hN
   refine ⟨_,I,dc (fun _ h=>h.pk [] rfl) ?_⟩
   intro hsub
   refine ap 9 (uE (f++(bl [w8 (48+(d.tmod 10))]))) hsub rfl (by kernel_rfl) (fun w I=>kv (a:=f) rfl rfl p br) (alp 10 (uE (f++(bl [w8 (48+(d.tmod 10))]))) hsub rfl (by kernel_rfl) (fun _=>rfl) (cp rfl (fun w I=>aj ?_)))
   cases F
   exact ⟨_,Ret.r1 rfl rfl,⟨rfl,I.pk [] rfl⟩⟩


theorem L70 (w0:World) (e:Rc) (N:Nat) (r:Str) (F:F70 N e=some r):bn Tryz.prog 70 [.agg (qg e).toArray] w0 fun v w=>v=uE r∧Below w0.heap.size w0 w:=by
 refine az (n:=40) func70 rfl ntmps70 rfl ?_
 have I:=Inv.start w0
 unfold F70 at F
 refine uL rfl (ph (ca I _ rfl fun f w I=>pu (uE []) rfl (aa (uL rfl (pu (uE []) rfl (aa (dn (fun ρ w=>∃ (j:Str),cd ρ [(1,pt f),(3,uE j)]∧Inv [] w0 w [(some f,blk (qg e) 25)]∧F70j1 e j=some r) ?_ ?_)))))))
 ·
  refine uL rfl (pu2 (pt f) (pt f) rfl (xg I 0 (iv e.p) zi3 rfl (pu2 (pt f) (uF f 1) rfl (xg I 0 (iv e.n) zi3 rfl (pu (uF f 2) rfl (xg I 0 (iv e.k) zi3 rfl (pu (uF f 3) rfl (xg I 0 (iv e.d) zi3 rfl (pu (uF f 4) rfl (xg I 0 (iv e.kn) zi3 rfl (pu2 (uF f 5) (uF f 5) rfl (xg I 0 (iv e.op) zi3 rfl (pu2 (uF f 5) (uF f 6) rfl (xg I 0 (iv e.on) zi3 rfl (ph (fu I [iv e.p,iv e.n,iv e.k,iv e.d,iv e.kn,iv e.op,iv e.on] 3 (fun b=>slv (some b) 7 7) (by kernel_rfl) fun z w I=>pu2 (iv ((7:Nat):Int)) (iv 0) (by kernel_rfl) (aa (au ?_))))))))))))))))))
  have C:Row 1 (some z) 7 7 [iv e.p,iv e.n,iv e.k,iv e.d,iv e.kn,iv e.op,iv e.on] (al eInt [e.p,e.n,e.k,e.d,e.kn,e.op,e.on]):=Row.lit cy (l:=[e.p,e.n,e.k,e.d,e.kn,e.op,e.on]) rfl (mx rfl)
  refine cb (fun m ρ w=>∃ (q s u:_) (g:Str) (i mm:_),cd ρ [(1,pt f),(3,uE g),(24,slv q ([e.p,e.n,e.k,e.d,e.kn,e.op,e.on].length) s),(25,iv 7),(26,iv i)]∧Inv [] w0 w [(some f,blk (qg e) 25),(q,blk u 3)]∧(Row 1 q ([e.p,e.n,e.k,e.d,e.kn,e.op,e.on].length) s u (al eInt [e.p,e.n,e.k,e.d,e.kn,e.op,e.on]))∧F70l2 e N mm g i=some r∧mm=m) (m:=N) ⟨some z,7,[iv e.p,iv e.n,iv e.k,iv e.d,iv e.kn,iv e.op,iv e.on],[],0,N,(uK rfl),I.pk [1,0] rfl,(C.to rfl rfl),F,rfl⟩ ?_
  rintro m ρ w ⟨q,s,u,g,i,mm,hag,I,A,F,hm⟩
  subst hm; obtain ⟨ρ,rfl⟩:=hag.form
  obtain _ | m2:=mm
  ·cases (show (none:Option Str)=some r from F)
  replace F:F70b2 e N (F70l2 e N m2) g i=some r:=F; unfold F70b2 at F
  refine uL rfl (ifN F (fun x F=>?_) (fun x F=>?_))
  ·
   refine xl rfl (uP x) (fun _=>aa (ab (ai rfl (bw (.inl ⟨rfl,⟨g,⟨rfl,rfl,trivial⟩,I.pk [0] rfl,F⟩⟩)))))
  refine xl rfl (fun _=>?_) (uO x)
  refine aa (ab (ah rfl (ak (ab (au (uL rfl (gdE F (fun D F=>bt F (fun o B F=>?_)))))))))
  obtain ⟨E,rfl,G⟩:=A.at_ cy (by decide) B
  refine ph (be (i).toNat zu64 zs3 rfl rfl (Int.toNat_of_nonneg D).symm (fa B rfl) (ph (db I 1 (iv o) zi3 rfl rfl (G 0 _ rfl) (pu (iv o) rfl (aa (rgn rfl (pu2 (uE g) (iv o) rfl (bt F (fun y H F=>ph (co 143 [iv o] (by kernel_rfl) (L143 N _ o (I.lend [] (by decide) rfl rfl) _ H) ?_))))))))))
  rintro v w ⟨hv,hN⟩
  subst hv
  have I:=I.backsL [] [0,1] (by decide) rfl rfl rfl hN; clear hN
  refine gdE F (fun J F=>ph (kv (a:=g) rfl rfl J (gdE F (fun K F=>ph (kv (a:=g++y) rfl rfl K (pu (uE ((g++y)++[32])) rfl (aa (rgn rfl (ckE F (fun L F=>xa rfl L (pu (iv (i+1)) rfl (aa (⟨rfl,m2,Nat.lt_succ_self _,⟨some E,s,u,(g++y)++[32],i+1,m2,(uK rfl),I.pk [0,1] rfl,(A.to rfl rfl),F,rfl⟩⟩)))))))))))))
 intro ρ w hJ
 obtain ⟨j,hag,I,F⟩:=hJ
 obtain ⟨ρ,rfl⟩:=hag.form
 unfold F70j1 at F
 refine uL rfl (pu2 (uE j) (uF f 7) rfl (xg I 0 (uE e.t) zi9 rfl (gdE F (fun M F=>ph (kv (a:=j) rfl rfl M (pu (uE (j++e.t)) rfl (aa (aj ?_))))))))
 cases F
 exact uJ I rfl


theorem L187 (w0:World) (a:Str) (b:Str) (r:Int) (F:F187 a b=some r):bn Tryz.prog 187 [uE a,uE b] w0 fun v w=>v=iv r∧Below w0.heap.size w0 w:=by
  unfold F187 at F; split at F
  · rename_i h; obtain ⟨c,rfl⟩:=List.length_eq_one_iff.1 h; cases F; exact (Tryz.stringslite_Index_one (bts a) c w0).mono fun e w ⟨h1,h2⟩=>⟨_,h1,rfl,by rw [h2]; exact Below.refl _ _⟩
  cases F


theorem L170 (w0:World) (d:Str) (f:Str) (r:(Str × Str × Bool)) (F:F170 d f=some r):bn Tryz.prog 170 [uE d,uE f] w0 fun v w=>v=.tuple #[uE r.1,uE r.2.1,.bool r.2.2]∧Below w0.heap.size w0 w:=by
 refine az (n:=23) func170 rfl ntmps170 rfl ?_
 have I:=Inv.start w0
 unfold F170 at F
 refine uL (by kernel_rfl) (pu3 (uE []) (uE []) bF (by kernel_rfl) (aa (ab (uL (by kernel_rfl) (pu2 (uE d) (uE f) (by kernel_rfl) (bt F (fun e i F=>ph (bg I 187 _ _ (by kernel_rfl) (L187 _ d f _ i) fun w I=>pu (iv e) (by kernel_rfl) (aa (uL (by kernel_rfl) (pu (iv e) (by kernel_rfl) (ifN F (fun g F=>?_) (fun g F=>?_)))))))))))))
 ·
  refine ph (s_geq rfl rfl (uP g) (fun _=>aa (ai rfl (ak (uL rfl (pu3 (uE d) (uE d) (uE []) rfl (pu bF rfl (aa (aj ?_)))))))))
  cases F
  exact ⟨_,Ret.r3 rfl rfl rfl rfl,⟨rfl,I.below⟩⟩


 refine ph (s_geq rfl rfl (fun _=>?_) (uO g))
 refine aa (ah rfl (ab (gm 12 I (by kernel_rfl) (zB (uE d) (iv e) rfl (gdE F (fun j F=>zc (uE (d.take (e).toNat)) (fun w I=>nq (l:=d) (m:=d.take (e).toNat) (a:=0) (b:=(e).toNat) zu9 rfl (.inr ⟨rfl,rfl⟩) (.inl (congrArg (fun z=>some (Value.int .i64 z)) (Int.toNat_of_nonneg g).symm)) j rfl br) (zB (uE d) (iv e) rfl (zB (uE f) (iv (f.length:Int)) (by kernel_rfl) (ckE F (fun k F=>zc (iv (e+(f.length:Int))) (fun w I=>cj rfl rfl k br) (gdE F (fun o F=>gdE F (fun p F=>zc (uE (d.drop ((e+(f.length:Int)).toNat))) (fun w I=>nq (l:=d) (m:=d.drop ((e+(f.length:Int)).toNat)) (a:=(e+(f.length:Int)).toNat) (b:=d.length) zu9 rfl (.inl (congrArg (fun z=>some (Value.int .i64 z)) (Int.toNat_of_nonneg o).symm)) (.inr ⟨rfl,rfl⟩) p (str_drop _ _) br) (zB (uE (d.take (e).toNat)) (uE (d.drop ((e+(f.length:Int)).toNat))) rfl (zP bT rfl (zh (fun w I=>aa (aj ?_))))))))))))))))))
 cases F
 exact ⟨_,Ret.r3 rfl rfl rfl rfl,⟨rfl,I.below⟩⟩
theorem L162 (w0:World) (a:Str) (b:Str) (r:(Str × Str × Bool)) (F:F162 a b=some r):bn Tryz.prog 162 [uE a,uE b] w0 fun v w=>v=.tuple #[uE r.1,uE r.2.1,.bool r.2.2]∧Below w0.heap.size w0 w:=by
 refine az (n:=13) func162 rfl ntmps162 rfl ?_
 have I:=Inv.start w0
 unfold F162 at F
 refine uL (by kernel_rfl) (pu3 (uE []) (uE []) bF (by kernel_rfl) (aa (uL (by kernel_rfl) (pu2 (uE a) (uE b) (by kernel_rfl) (bt F (fun y7 hy8 F=>ph (bg I 170 _ _ (by kernel_rfl) (L170 _ a b _ hy8) fun w I=>pu3 (uE y7.1) (uE y7.2.1) (.bool y7.2.2) (by kernel_rfl) (pu3 (uE y7.1) (uE y7.2.1) (.bool y7.2.2) (by kernel_rfl) (aa (aj ?_))))))))))
 cases F
 exact ⟨_,Ret.r3 rfl rfl rfl rfl,⟨rfl,I.below⟩⟩


theorem L144 (w0:World) (d:Str) (hG:Gl w0) (r:((Int × Str) ⊕ Unit)) (F:F144 d=some r):DoesP Tryz.prog 144 [uE d] w0 (fun v w=>(match r with | .inl ra0=>v=.tuple #[iv ra0.1,uE ra0.2]∧Below w0.heap.size w0 w | .inr rb0=>False)) (fun ch w=>(match r with | .inl ra0=>False | .inr rb0=>IsP ch∧Below w0.heap.size w0 w)):=by
 refine calls_ofP (n:=25) func144 rfl ntmps144 rfl ?_
 have I:=Inv.start w0
 unfold F144 at F
 refine uL (by kernel_rfl) (pu2 (iv 0) (uE []) (by kernel_rfl) (aa (uL (by kernel_rfl) (pu (uE d) (by kernel_rfl) (bt F (fun a g F=>ph (bg I 162 _ _ (by kernel_rfl) (L162 _ d [32] _ g) fun w I=>pu3 (.tuple #[uE a.1,uE a.2.1,.bool a.2.2]) (uE a.1) (uE a.2.1) (by kernel_rfl) (pu3 (.bool a.2.2) (uE a.1) (uE a.2.1) (by kernel_rfl) (pu (.bool a.2.2) (by kernel_rfl) (aa (uL (by kernel_rfl) (pu (uE a.1) (by kernel_rfl) (bindSE F (fun b i F=>?_) (fun f j F=>?_))))))))))))))
 ·
  refine ph (bg I 163 [uE a.1] (.tuple #[iv b,.nilIface]) (by kernel_rfl) (atoi_ok (hG.up I) i) fun w I=>pu3 (.tuple #[iv b,.nilIface]) (iv b) (.nilIface) rfl (pu2 (iv b) (.nilIface) rfl (aa (ab (uL rfl (pu2 (.nilIface) bF rfl (aa (ai rfl (ak (uL rfl (pu3 (iv b) (uE a.2.1) (iv b) rfl (pu (uE a.2.1) rfl (aa (aj ?_))))))))))))))
  cases F
  exact ⟨_,Ret.r2 rfl rfl rfl,⟨rfl,I.below⟩⟩
 refine ph (co 163 [uE a.1] (by kernel_rfl) (atoi_no (hG.up I) j) ?_)
 rintro v w ⟨⟨e,rfl⟩,hb⟩; have I:=I.call hb; clear hb
 refine pu3 (.tuple #[iv f,(.iface 245 (pt e))]) (iv f) ((.iface 245 (pt e))) rfl (pu2 (iv f) ((.iface 245 (pt e))) rfl (aa (ab (uL rfl (pu2 ((.iface 245 (pt e))) bT rfl (aa (ah rfl ?_)))))))
 cases F
 refine lp (fun ch ρ w'=>IsP ch∧Inv [] w0 w' []) rfl ?_ ?_
 ·
  refine sd_c (kl ((.iface 26 (iv 5))) rfl (sd_d (fun _ h=>by cases h) (dies_panic (v:=(.iface 26 (iv 5))) rfl ⟨⟨_,_,rfl⟩,I⟩)))
 exact fun ch ρ w h=>⟨rfl,h.1,h.2.below⟩


theorem L72 (w0:World) (e:Str) (hG:Gl w0) (N:Nat) (r:((Int × Int × Int × Int × Int × Int × Int × Str) ⊕ Unit)) (F:F72 N e=some r):DoesP Tryz.prog 72 [uE e] w0 (fun v w=>(match r with | .inl ra0=>v=.agg #[iv ra0.1,iv ra0.2.1,iv ra0.2.2.1,iv ra0.2.2.2.1,iv ra0.2.2.2.2.1,iv ra0.2.2.2.2.2.1,iv ra0.2.2.2.2.2.2.1,uE ra0.2.2.2.2.2.2.2]∧Below w0.heap.size w0 w | .inr rb0=>False)) (fun ch w=>(match r with | .inl ra0=>False | .inr rb0=>IsP ch∧Below w0.heap.size w0 w)):=by
 refine calls_ofP (n:=48) func72 rfl ntmps72 rfl ?_
 have I:=Inv.start w0
 unfold F72 at F
 refine uL rfl (ph (bh I _ zeroValue25 rfl fun D w I=>aa (uL rfl (ph (bh I _ zeroValue199 rfl fun f w I=>aa (uL rfl (pu2 (uE e) (uE e) rfl (aa (dn (fun ρ w=>∃ (g i l o p j k:_) (B:Str),cd ρ [(0,uE e),(2,pt D),(3,pt f),(4,uE B)]∧Inv [] w0 w [(some D,blk [iv 0,iv 0,iv 0,iv 0,iv 0,iv 0,iv 0,uE []] 25),(some f,blk [iv g,iv i,iv l,iv o,iv p,iv j,iv k] 199)]∧F72j1 e N g i l o p j k B=some r) ?_ ?_)))))))))
 ·
  refine uL rfl (pu (iv 0) rfl (aa (au (cb (fun m ρ w=>∃ (q s t u x y z:_) (C:Str) (A mm:_),cd ρ [(0,uE e),(2,pt D),(3,pt f),(4,uE C),(8,iv A)]∧Inv [] w0 w [(some D,blk [iv 0,iv 0,iv 0,iv 0,iv 0,iv 0,iv 0,uE []] 25),(some f,blk [iv q,iv s,iv t,iv u,iv x,iv y,iv z] 199)]∧F72l2 e N mm q s t u x y z C A=some r∧mm=m) (m:=N) ⟨0,0,0,0,0,0,0,e,0,N,(uK rfl),I.pk [1,0] rfl,F,rfl⟩ ?_))))
  rintro m ρ w ⟨q,s,t,u,x,y,z,C,A,mm,hag,I,F,hm⟩
  subst hm; obtain ⟨ρ,rfl⟩:=hag.form
  obtain _ | m2:=mm
  ·cases (show (none:Option ((Int × Int × Int × Int × Int × Int × Int × Str) ⊕ Unit))=some r from F)
  replace F:F72b2 e N (F72l2 e N m2) q s t u x y z C A=some r:=F; unfold F72b2 at F
  refine uL rfl (ifN F (fun P F=>?_) (fun P F=>?_))
  ·
   refine xl rfl (uP P) (fun _=>aa (ab (ai rfl (bw (.inl ⟨rfl,⟨q,s,t,u,x,y,z,C,(uK rfl),I.pk [0,1] rfl,F⟩⟩)))))
  refine xl rfl (fun _=>?_) (uO P)
  refine aa (ab (ah rfl (ak (dn (fun ρ w=>∃ (E G H J K L M:_) (O:Str),cd ρ [(0,uE e),(2,pt D),(3,pt f),(4,uE O),(8,iv A)]∧Inv [] w0 w [(some D,blk [iv 0,iv 0,iv 0,iv 0,iv 0,iv 0,iv 0,uE []] 25),(some f,blk [iv E,iv G,iv H,iv J,iv K,iv L,iv M] 199)]∧nh (F72l2 e N m2) A E G H J K L M O=some r) ?_ ?_))))
  ·
   refine au (uL rfl (pu2 (iv A) (iv A) rfl (aa (bindSE F (fun d a1 F=>?_) (fun a6 a2 F=>?_)))))
   ·
    refine rgn (by kernel_rfl) (pu2 (iv A) (uE C) (by kernel_rfl) (ph (bg I 144 _ _ (by kernel_rfl) (DoesP.ok (L144 _ C (hG.up I) _ a1)) fun w I=>pu3 (.tuple #[iv d.1,uE d.2]) (iv d.1) (uE d.2) (by kernel_rfl) (ifE F (fun S F=>?_) (fun S F=>?_)))))
    ·
     refine xv 0 zu199 zs3 rfl S (by decide) 0 rfl (xq I 1 1 [iv d.1] zs3 rfl (mx rfl) fun w I=>pu (uE d.2) rfl (aa (.inl ⟨rfl,⟨d.1,s,t,u,x,y,z,d.2,(uK rfl),I.pk [0,1] rfl,F⟩⟩)))
    refine ifE F (fun T F=>?_) (fun T F=>?_)
    ·
     refine xv 1 zu199 zs3 rfl T (by decide) 1 rfl (xq I 1 1 [iv d.1] zs3 rfl (mx rfl) fun w I=>pu (uE d.2) rfl (aa (.inl ⟨rfl,⟨q,d.1,t,u,x,y,z,d.2,(uK rfl),I.pk [0,1] rfl,F⟩⟩)))
    refine ifE F (fun U F=>?_) (fun U F=>?_)
    ·
     refine xv 2 zu199 zs3 rfl U (by decide) 2 rfl (xq I 1 1 [iv d.1] zs3 rfl (mx rfl) fun w I=>pu (uE d.2) rfl (aa (.inl ⟨rfl,⟨q,s,d.1,u,x,y,z,d.2,(uK rfl),I.pk [0,1] rfl,F⟩⟩)))
    refine ifE F (fun V F=>?_) (fun V F=>?_)
    ·
     refine xv 3 zu199 zs3 rfl V (by decide) 3 rfl (xq I 1 1 [iv d.1] zs3 rfl (mx rfl) fun w I=>pu (uE d.2) rfl (aa (.inl ⟨rfl,⟨q,s,t,d.1,x,y,z,d.2,(uK rfl),I.pk [0,1] rfl,F⟩⟩)))
    refine ifE F (fun W F=>?_) (fun W F=>?_)
    ·
     refine xv 4 zu199 zs3 rfl W (by decide) 4 rfl (xq I 1 1 [iv d.1] zs3 rfl (mx rfl) fun w I=>pu (uE d.2) rfl (aa (.inl ⟨rfl,⟨q,s,t,u,d.1,y,z,d.2,(uK rfl),I.pk [0,1] rfl,F⟩⟩)))
    refine ifE F (fun X F=>?_) (fun X F=>?_)
    ·
     refine xv 5 zu199 zs3 rfl X (by decide) 5 rfl (xq I 1 1 [iv d.1] zs3 rfl (mx rfl) fun w I=>pu (uE d.2) rfl (aa (.inl ⟨rfl,⟨q,s,t,u,x,d.1,z,d.2,(uK rfl),I.pk [0,1] rfl,F⟩⟩)))
    refine ifN F (fun Y F=>?_) (fun Y F=>?_)
    ·
     cases F
    refine xv 6 zu199 zs3 rfl Y (by decide) 6 rfl (xq I 1 1 [iv d.1] zs3 rfl (mx rfl) fun w I=>pu (uE d.2) rfl (aa (.inl ⟨rfl,⟨q,s,t,u,x,y,d.1,d.2,(uK rfl),I.pk [0,1] rfl,F⟩⟩)))
   cases F
   refine lp (fun ch ρ w'=>IsP ch∧Inv [] w0 w' [(some D,blk [iv 0,iv 0,iv 0,iv 0,iv 0,iv 0,iv 0,uE []] 25),(some f,blk [iv q,iv s,iv t,iv u,iv x,iv y,iv z] 199)]) (by kernel_rfl) ?_ ?_
   ·
    refine sd_c (kl (iv A) rfl (sd_c (kl (uE C) rfl (sd_d (fun _ h=>by cases h) (dies_call 144 [uE C] (by kernel_rfl) (DoesP.diesI (L144 _ C (hG.up I) _ a2) I))))))
   exact fun ch ρ w h=>⟨rfl,h.1,h.2.below⟩
  intro ρ w hJ
  obtain ⟨E,G,H,J,K,L,M,O,hag,I,F⟩:=hJ
  obtain ⟨ρ,rfl⟩:=hag.form
  unfold nh at F
  refine rgn rfl (ckE F (fun a3 F=>xa rfl a3 (pu (iv (A+1)) rfl (aa (⟨rfl,m2,Nat.lt_succ_self _,⟨E,G,H,J,K,L,M,O,A+1,m2,(uK rfl),I.pk [0,1] rfl,F,rfl⟩⟩)))))
 intro ρ w hJ
 obtain ⟨g,i,l,o,p,j,k,B,hag,I,F⟩:=hJ
 obtain ⟨ρ,rfl⟩:=hag.form
 unfold F72j1 at F
 refine uL rfl (pu (pt f) rfl (xg I 1 (iv g) zi3 rfl (pu (uF f 1) rfl (xg I 1 (iv i) zi3 rfl (pu2 (.agg #[iv g,iv i]) (uF f 2) (by kernel_rfl) (xg I 1 (iv l) zi3 rfl (pu (uF f 3) rfl (xg I 1 (iv o) zi3 rfl (pu (uF f 4) rfl (xg I 1 (iv p) zi3 rfl (pu (uF f 5) rfl (xg I 1 (iv j) zi3 rfl (pu (uF f 6) rfl (xg I 1 (iv k) zi3 rfl (pu3 (.agg #[iv j,iv k]) (uE B) (.agg #[iv g,iv i,iv l,iv o,iv p,iv j,iv k,uE B]) (by kernel_rfl) (ph (bh I _ zeroValue25 rfl fun Z w I=>xi I 0 _ md rfl fun w I=>aa (ab (uL (by kernel_rfl) (xm I 0 mh md rfl (bt F (fun a7 a4 F=>ph (bg I 17 _ _ (by kernel_rfl) (L17 _ (⟨g,i,l,o,p,j,k,B⟩:Rc) N _ a4) fun w I=>ifN F (fun Q F=>?_) (fun Q F=>?_))))))))))))))))))))))))
 ·
  refine xn rfl (fun _=>?_) (uP Q)
  refine pu bT (by kernel_rfl) (sf 4 rfl (pu bT rfl (aa (ah rfl ?_))))
  cases F
  refine lp (fun ch ρ w'=>IsP ch∧Inv [] w0 w' [(some Z,blk [iv g,iv i,iv l,iv o,iv p,iv j,iv k,uE B] 25),(some D,blk [iv 0,iv 0,iv 0,iv 0,iv 0,iv 0,iv 0,uE []] 25),(some f,blk [iv g,iv i,iv l,iv o,iv p,iv j,iv k] 199)]) rfl ?_ ?_
  ·
   refine sd_c (kl ((.iface 26 (iv 5))) rfl (sd_d (fun _ h=>by cases h) (dies_panic (v:=(.iface 26 (iv 5))) rfl ⟨⟨_,_,rfl⟩,I⟩)))
  exact fun ch ρ w h=>⟨rfl,h.1,h.2.below⟩

 refine xn rfl (uO Q) (fun _=>pu bF rfl (aw (by kernel_rfl) (ma I 0 mh md rfl rfl rfl (bt F (fun a0 a5 F=>aw (by kernel_rfl) (bg I 69 _ _ (by kernel_rfl) (L69 _ (⟨g,i,l,o,p,j,k,B⟩:Rc) (hG.up I) N _ a5) fun w I=>pup (uE e) rfl (ifE F (fun R F=>?_) (fun R F=>?_))))))))
 ·
  refine aw rfl (s_strNe (a:=a0) (b:=e) rfl rfl (uO R) (fun _=>pu bF rfl (aa (ai rfl (ak (uL rfl (xm I 0 mh md rfl (xi I 1 _ md rfl fun w I=>aa (aj ?_)))))))))
  cases F
  exact ⟨_,Ret.c rfl rfl (ce I 1 8 [iv g,iv i,iv l,iv o,iv p,iv j,iv k,uE B] mh md rfl rfl rfl),⟨rfl,I.below⟩⟩
 refine aw rfl (s_strNe (a:=a0) (b:=e) rfl rfl (fun _=>?_) (uP R))
 refine pu bT rfl (aa (ah rfl ?_))
 cases F
 refine lp (fun ch ρ w'=>IsP ch∧Inv [] w0 w' [(some Z,blk [iv g,iv i,iv l,iv o,iv p,iv j,iv k,uE B] 25),(some D,blk [iv 0,iv 0,iv 0,iv 0,iv 0,iv 0,iv 0,uE []] 25),(some f,blk [iv g,iv i,iv l,iv o,iv p,iv j,iv k] 199)]) rfl ?_ ?_
 ·
  refine sd_c (kl ((.iface 26 (iv 5))) rfl (sd_d (fun _ h=>by cases h) (dies_panic (v:=(.iface 26 (iv 5))) rfl ⟨⟨_,_,rfl⟩,I⟩)))
 exact fun ch ρ w h=>⟨rfl,h.1,h.2.below⟩
theorem L15 (w0:World) (a:Str) (hG:Gl w0) (N:Nat) (r:(Int × Int × Int × Int × Int × Int × Int × Str × Int)) (F:F15 N a=some r):bn Tryz.prog 15 [uE a] w0 fun v w=>v=.tuple #[.agg #[iv r.1,iv r.2.1,iv r.2.2.1,iv r.2.2.2.1,iv r.2.2.2.2.1,iv r.2.2.2.2.2.1,iv r.2.2.2.2.2.2.1,uE r.2.2.2.2.2.2.2.1],iv r.2.2.2.2.2.2.2.2]∧Below w0.heap.size w0 w:=by
  unfold F15 at F
  refine bindSE F (fun x hx F=>?_) (fun x hx F=>?_)
  · cases F; exact dec_ok w0 a _ _ _ _ _ _ _ _ fun w L I=>DoesP.ok (L72 w a (hG.up I) N (.inl x) hx)
  cases F; exact dec_no w0 a fun w L I=>L72 w a (hG.up I) N (.inr x) hx


theorem L73 (w0:World) (b:Str) (N:Nat) (r:Int) (F:F73 N b=some r):bn Tryz.prog 73 [uE b] w0 fun v w=>v=iv r∧Below w0.heap.size w0 w:=by
 refine az (n:=15) func73 rfl ntmps73 rfl ?_
 have I:=Inv.start w0
 unfold F73 at F
 refine uL rfl (pu (iv 0) rfl (aa (ab (uL rfl (pu (iv 0) rfl (aa (au (cb (fun m ρ w=>∃ a mm,cd ρ [(0,uE b),(3,iv a)]∧Inv [] w0 w []∧F73l1 b mm a=some r∧mm=m) (m:=N) ⟨0,N,⟨rfl,rfl,trivial⟩,I.pk [] rfl,F,rfl⟩ ?_))))))))
 rintro m ρ w ⟨a,mm,hag,I,F,hm⟩
 subst hm; obtain ⟨ρ,rfl⟩:=hag.form
 obtain _ | m1:=mm
 ·cases (show (none:Option Int)=some r from F)
 replace F:F73b1 b (F73l1 b m1) a=some r:=F; unfold F73b1 at F
 refine ab (uL rfl (pu3 (iv a) (uE b) (iv (b.length:Int)) (by kernel_rfl) (ifN F (fun d F=>?_) (fun d F=>?_))))
 ·
  refine xl rfl (uP d) (fun _=>aa (ai rfl (bw (uL rfl (pu (iv (-1)) rfl (aa (aj ?_)))))))
  cases F
  exact uJ I rfl


 refine xl rfl (fun _=>?_) (uO d)
 refine aa (ah rfl (ak (ab (au (uL rfl (pu2 (uE b) (iv a) rfl (gdE F (fun f F=>bt F (fun j g F=>ph (fb (a).toNat zu9 rfl rfl (Int.toNat_of_nonneg f).symm g (ifE F (fun e F=>?_) (fun e F=>?_))))))))))))
 ·
  refine ph (s_eql8 rfl rfl (fun _=>?_) (uO e))
  refine aa (ah rfl (uL rfl (pu2 (iv a) (iv a) rfl (aa (aj ?_)))))
  cases F
  exact uJ I rfl
 refine ph (s_eql8 rfl rfl (uP e) (fun _=>aa (ai rfl (ak (rgn rfl (pu (iv a) rfl (ckE F (fun i F=>xa rfl i (pu (iv (a+1)) rfl (aa (⟨rfl,m1,Nat.lt_succ_self _,⟨a+1,m1,⟨rfl,rfl,trivial⟩,I.pk [] rfl,F,rfl⟩⟩)))))))))))
theorem L74 (w0:World) (d:Str) (g:Int) (N:Nat) (r:(Int × Bool)) (F:F74 N d g=some r):bn Tryz.prog 74 [uE d,iv g] w0 fun v w=>v=.tuple #[iv r.1,.bool r.2]∧Below w0.heap.size w0 w:=by
 refine az (n:=51) func74 rfl ntmps74 rfl ?_
 have I:=Inv.start w0
 unfold F74 at F
 refine uL rfl (pu2 (iv 0) bF rfl (aa (ab (dn (fun ρ w=>cd ρ [(0,uE d),(25,bF)]∧Inv [] w0 w []∧F74j1 d N=some r) ?_ ?_))))
 ·
  refine rgn rfl (pu (uE d) rfl (ifE F (fun i F=>?_) (fun i F=>?_)))
  ·
   refine ph (s_strEq (a:=d) (b:=[]) rfl rfl (fun _=>?_) (uO i))
   refine pu bT rfl (sf 4 rfl (pu2 bT bT rfl (sf 4 rfl (seq_offN rfl (seq_offN rfl (seq_offN rfl (of_ rfl (pu bT rfl (aa (.inr (ah rfl (uL rfl (pu2 (iv 0) bF rfl (aa (aj ?_)))))))))))))))
   cases F
   exact ⟨_,Ret.r2 rfl rfl rfl,⟨rfl,I.below⟩⟩
  refine ph (s_strEq (a:=d) (b:=[]) rfl rfl (uP i) (fun _=>pu bF rfl (pup (uE d) rfl (pup (iv (d.length:Int)) (by kernel_rfl) (pup (iv g) rfl (ifE F (fun j F=>?_) (fun j F=>?_)))))))
  ·
   refine aw rfl (fh rfl rfl (fun _=>?_) (uO j))
   refine pu2 bT bT rfl (sf 4 rfl (seq_offN rfl (seq_offN rfl (seq_offN rfl (of_ rfl (pu bT rfl (aa (.inr (ah rfl (uL rfl (pu2 (iv 0) bF rfl (aa (aj ?_)))))))))))))
   cases F
   exact ⟨_,Ret.r2 rfl rfl rfl,⟨rfl,I.below⟩⟩
  refine aw rfl (fh rfl rfl (uP j) (fun _=>pu2 bF bF rfl (pup (uE d) rfl (bt F (fun C x F=>aw rfl (fb 0 zu9 rfl rfl rfl x (ifN F (fun k F=>?_) (fun k F=>?_))))))))
  ·
   refine aw rfl (s_eql8 rfl rfl (uP k) (fun _=>pup bF rfl (sf 3 rfl (pup bF rfl (pu bF rfl (aa (.inl ⟨rfl,⟨⟨rfl,rfl,trivial⟩,I.pk [] rfl,F⟩⟩)))))))
  refine aw rfl (s_eql8 rfl rfl (fun _=>?_) (uO k))
  refine pup bT rfl (pup (uE d) rfl (pup (iv (d.length:Int)) (by kernel_rfl) (ifN F (fun l F=>?_) (fun l F=>?_))))
  ·
   refine aw rfl (fh rfl rfl (uP l) (fun _=>pup bF rfl (pu bF rfl (aa (.inl ⟨rfl,⟨⟨rfl,rfl,trivial⟩,I.pk [] rfl,F⟩⟩)))))
  refine aw rfl (fh rfl rfl (fun _=>?_) (uO l))
  refine pup bT rfl (pu bT rfl (aa (.inr (ah rfl (uL rfl (pu2 (iv 0) bF rfl (aa (aj ?_))))))))
  cases F
  exact ⟨_,Ret.r2 rfl rfl rfl,⟨rfl,I.below⟩⟩
 intro ρ w hJ
 obtain ⟨hag,I,F⟩:=hJ
 obtain ⟨ρ,rfl⟩:=hag.form
 unfold F74j1 at F
 refine ai rfl (ak (uL rfl (pu (iv 0) rfl (aa (ab (uL rfl (pu (iv 0) rfl (aa (au (cb (fun m ρ w=>∃ f e mm,cd ρ [(0,uE d),(6,iv f),(7,iv e)]∧Inv [] w0 w []∧F74l2 d mm f e=some r∧mm=m) (m:=N) ⟨0,0,N,⟨rfl,rfl,rfl,trivial⟩,I.pk [] rfl,F,rfl⟩ ?_))))))))))
 rintro m ρ w ⟨f,e,mm,hag,I,F,hm⟩
 subst hm; obtain ⟨ρ,rfl⟩:=hag.form
 obtain _ | m2:=mm
 ·cases (show (none:Option (Int × Bool))=some r from F)
 replace F:F74b2 d (F74l2 d m2) f e=some r:=F; unfold F74b2 at F
 refine ab (uL rfl (pu3 (iv e) (uE d) (iv (d.length:Int)) (by kernel_rfl) (ifN F (fun o F=>?_) (fun o F=>?_))))
 ·
  refine xl rfl (uP o) (fun _=>aa (ai rfl (bw (uL rfl (pu3 (iv f) (iv f) bT rfl (aa (aj ?_)))))))
  cases F
  exact ⟨_,Ret.r2 rfl rfl rfl,⟨rfl,I.below⟩⟩


 refine xl rfl (fun _=>?_) (uO o)
 refine aa (ah rfl (ak (ab (au (ab (uL rfl (pu2 (uE d) (iv e) rfl (gdE F (fun p F=>bt F (fun u q F=>ph (fb (e).toNat zu9 rfl rfl (Int.toNat_of_nonneg p).symm q (ifE F (fun s F=>?_) (fun s F=>?_)))))))))))))
 ·
  refine ph (s_lss8 rfl rfl (fun _=>?_) (uO s))
  refine pu bT rfl (sf 4 rfl (pu bT rfl (aa (ah rfl (uL rfl (pu2 (iv 0) bF rfl (aa (aj ?_))))))))
  cases F
  exact ⟨_,Ret.r2 rfl rfl rfl,⟨rfl,I.below⟩⟩
 refine ph (s_lss8 rfl rfl (uP s) (fun _=>pu bF rfl (pup (uE d) rfl (pup (iv e) rfl (aw rfl (fb (e).toNat zu9 rfl rfl (Int.toNat_of_nonneg p).symm q (ifE F (fun t F=>?_) (fun t F=>?_))))))))
 ·
  refine aw rfl (s_gtr8 rfl rfl (fun _=>?_) (uO t))
  refine pu bT rfl (aa (ah rfl (uL rfl (pu2 (iv 0) bF rfl (aa (aj ?_))))))
  cases F
  exact ⟨_,Ret.r2 rfl rfl rfl,⟨rfl,I.below⟩⟩
 refine aw rfl (s_gtr8 rfl rfl (uP t) (fun _=>pu bF rfl (aa (ai rfl (ak (rgn rfl (pu (iv f) rfl (ckE F (fun y F=>ph (s_mul rfl rfl y (pu2 (uE d) (iv e) rfl (ph (fb (e).toNat zu9 rfl rfl (Int.toNat_of_nonneg p).symm q (ph (s_sub8 rfl rfl (ckE F (fun z F=>ph (s_conv8 zu3 zu5 rfl z (ckE F (fun A F=>xa rfl A (pu (iv ((10 * f)+(w8 ((nb u) - 48)))) rfl (aa (rgn rfl (pu (iv e) rfl (ckE F (fun B F=>xa rfl B (pu (iv (e+1)) rfl (aa (⟨rfl,m2,Nat.lt_succ_self _,⟨(10 * f)+(w8 ((nb u) - 48)),e+1,m2,⟨rfl,rfl,rfl,trivial⟩,I.pk [] rfl,F,rfl⟩⟩)))))))))))))))))))))))))))))
theorem L16 (w0:World) (P:Str) (N:Nat) (r:(Int × Int × Int × Int × Int × Int × Int × Str × Int)) (F:F16 N P=some r):bn Tryz.prog 16 [uE P] w0 fun v w=>v=.tuple #[.agg #[iv r.1,iv r.2.1,iv r.2.2.1,iv r.2.2.2.1,iv r.2.2.2.2.1,iv r.2.2.2.2.2.1,iv r.2.2.2.2.2.2.1,uE r.2.2.2.2.2.2.2.1],iv r.2.2.2.2.2.2.2.2]∧Below w0.heap.size w0 w:=by
 refine az (n:=67) func16 rfl ntmps16 rfl ?_
 have I:=Inv.start w0
 unfold F16 at F
 refine uL rfl (ph (bh I _ zeroValue25 rfl fun J w I=>pu (iv 0) rfl (aa (uL rfl (pu uD rfl (aa (dn (fun ρ w=>∃ (M q o:_) (s:Str) (i:List Int),cd ρ [(0,uE s),(2,pt J),(4,uN M i q)]∧Inv [] w0 w [(some J,blk [iv 0,iv 0,iv 0,iv 0,iv 0,iv 0,iv 0,uE []] 25),(M,blk o 3)]∧(Row 1 M (i.length) q o (al eInt i))∧F16j1 N s i=some r) ?_ ?_)))))))
 ·
  refine uL rfl (pu (iv 0) rfl (aa (au ?_)))
  have I:=I.nilRow 3
  refine cb (fun m ρ w=>∃ (K L O:_) (e:Str) (g:List Int) (C mm:_),cd ρ [(0,uE e),(2,pt J),(4,uN K g L),(5,iv C)]∧Inv [] w0 w [(some J,blk [iv 0,iv 0,iv 0,iv 0,iv 0,iv 0,iv 0,uE []] 25),(K,blk O 3)]∧(Row 1 K (g.length) L O (al eInt g))∧F16l2 N mm e g C=some r∧mm=m) (m:=N) ⟨none,0,[],P,[],0,N,(uK rfl),I.pk [1,0] rfl,(Row.nil_ 1),F,rfl⟩ ?_
  rintro m ρ w ⟨K,L,O,e,g,C,mm,hag,I,Y,F,hm⟩
  subst hm; obtain ⟨ρ,rfl⟩:=hag.form
  obtain _ | m2:=mm
  ·cases (show (none:Option (Int × Int × Int × Int × Int × Int × Int × Str × Int))=some r from F)
  replace F:F16b2 N (F16l2 N m2) e g C=some r:=F; unfold F16b2 at F
  refine ab (uL rfl (pu (iv C) rfl (ifN F (fun Q F=>?_) (fun Q F=>?_))))
  ·
   refine xl rfl (uP Q) (fun _=>aa (ai rfl (bw (.inl ⟨rfl,⟨K,L,O,e,g,⟨rfl,rfl,rfl,trivial⟩,I.pk [0,1] rfl,(Y.to rfl rfl),F⟩⟩))))
  refine xl rfl (fun _=>?_) (uO Q)
  refine aa (ah rfl (ak (ab (au (uL (by kernel_rfl) (pu (uE e) (by kernel_rfl) (bt F (fun p a7 F=>ph (bg I 73 _ _ (by kernel_rfl) (L73 _ e N _ a7) fun w I=>pu (iv p) (by kernel_rfl) (aa (ab (uL (by kernel_rfl) (pu (iv p) (by kernel_rfl) (ifE F (fun R F=>?_) (fun R F=>?_)))))))))))))))
  ·
   refine xl rfl (fun _=>?_) (uO R)
   refine aa (ah rfl (uL rfl (pu (.agg #[iv 0,iv 0,iv 0,iv 0,iv 0,iv 0,iv 0,uE []]) (by kernel_rfl) (xi I 0 _ md rfl fun w I=>pu (iv 5) rfl (aa (aj ?_))))))
   cases F
   exact ⟨_,Ret.ct rfl rfl (ce I 0 8 [iv 0,iv 0,iv 0,iv 0,iv 0,iv 0,iv 0,uE []] mh md rfl rfl rfl) rfl,⟨rfl,I.below⟩⟩
  refine xl rfl (uP R) (fun _=>aa (ai rfl (ak (uL (by kernel_rfl) (pu2 (uE e) (iv p) (by kernel_rfl) (gdE F (fun a8 F=>gdE F (fun a9 F=>ph (nq (l:=e) (m:=e.take (p).toNat) (a:=0) (b:=(p).toNat) zu9 rfl (.inr ⟨rfl,rfl⟩) (.inl (congrArg (fun z=>some (Value.int .i64 z)) (Int.toNat_of_nonneg a8).symm)) a9 rfl (bt F (fun f aA F=>ph (bg I 74 _ _ (by kernel_rfl) (L74 _ (e.take (p).toNat) 9 N _ aA) fun w I=>pu3 (.tuple #[iv f.1,.bool f.2]) (iv f.1) (.bool f.2) (by kernel_rfl) (pu2 (iv f.1) (.bool f.2) (by kernel_rfl) (aa (ab (ab (ifN F (fun S F=>?_) (fun S F=>?_))))))))))))))))))
  ·
   rw [(Bool.eq_false_iff.2 S)]
   refine rgn rfl (pu2 bF bT rfl (aa (ah rfl (uL rfl (pu (.agg #[iv 0,iv 0,iv 0,iv 0,iv 0,iv 0,iv 0,uE []]) (by kernel_rfl) (xi I 0 _ md rfl fun w I=>pu (iv 5) rfl (aa (aj ?_))))))))
   cases F
   exact ⟨_,Ret.ct rfl rfl (ce I 0 8 [iv 0,iv 0,iv 0,iv 0,iv 0,iv 0,iv 0,uE []] mh md rfl rfl rfl) rfl,⟨rfl,I.below⟩⟩
  rw [S]
  refine rgn rfl (pu2 bT bF rfl (aa (ai rfl (ak (uL rfl (pu2 (uN K g L) (iv f.1) rfl (ph (fu I [iv f.1] 3 (fun b=>slv (some b) 1 1) (by kernel_rfl) fun aN w I=>gdE F (fun aO F=>ph (xk I xh 2 Y f.1 0 rfl (by omega) ?_))))))))))
  intro T U Z w I V
  refine pu (slv T ((g++[f.1]).length) U) rfl (aa (rgn rfl (pu2 (uE e) (iv p) rfl (ckE F (fun aB F=>xa rfl aB (gdE F (fun aC F=>gdE F (fun aD F=>ph (nq (l:=e) (m:=e.drop ((p+1).toNat)) (a:=(p+1).toNat) (b:=e.length) zu9 rfl (.inl (congrArg (fun z=>some (Value.int .i64 z)) (Int.toNat_of_nonneg aC).symm)) (.inr ⟨rfl,rfl⟩) aD (str_drop _ _) (pu (uE (e.drop ((p+1).toNat))) rfl (aa (rgn rfl (pu (iv C) rfl (ckE F (fun aE F=>xa rfl aE (pu (iv (C+1)) rfl (aa (⟨rfl,m2,Nat.lt_succ_self _,⟨T,U,Z,e.drop ((p+1).toNat),g++[f.1],C+1,m2,(uK rfl),I.pk [1,2] rfl,(V.to rfl rfl),F,rfl⟩⟩))))))))))))))))))
 intro ρ w hJ
 obtain ⟨M,q,o,s,i,hag,I,H,F⟩:=hJ
 obtain ⟨ρ,rfl⟩:=hag.form
 unfold F16j1 at F
 refine ab (bt F (fun t a0 F=>bt F (fun x a1 F=>bt F (fun D a2 F=>bt F (fun E a3 F=>bt F (fun G a4 F=>bt F (fun A a5 F=>bt F (fun B a6 F=>?_))))))))
 obtain ⟨d,rfl,aF⟩:=H.at_ cy (by decide) a0
 have aG:=H.atS cy (by decide) a1
 have aH:=H.atS cy (by decide) a2
 have aI:=H.atS cy (by decide) a3
 have aJ:=H.atS cy (by decide) a4
 have aK:=H.atS cy (by decide) a5
 have aL:=H.atS cy (by decide) a6
 refine kx [tv (fun _=>(uN (some d) i q)),tr (fun _=>(uF d (0 * 1))) [],tr (fun _=>(iv t)) [28],tv (fun _=>(uN (some d) i q)),tr (fun _=>(uF d (1 * 1))) [],tr (fun _=>(iv x)) [28],tv (fun _=>(.agg #[iv t,iv x])),tv (fun _=>(uN (some d) i q)),tr (fun _=>(uF d (2 * 1))) [],tr (fun _=>(iv D)) [28],tv (fun _=>(uN (some d) i q)),tr (fun _=>(uF d (3 * 1))) [],tr (fun _=>(iv E)) [28],tv (fun _=>(uN (some d) i q)),tr (fun _=>(uF d (4 * 1))) [],tr (fun _=>(iv G)) [28],tv (fun _=>(uN (some d) i q)),tr (fun _=>(uF d (5 * 1))) [],tr (fun _=>(iv A)) [28],tv (fun _=>(uN (some d) i q)),tr (fun _=>(uF d (6 * 1))) [],tr (fun _=>(iv B)) [28],tv (fun _=>(.agg #[iv A,iv B])),tv (fun _=>(uE s)),tv (fun _=>(.agg #[iv t,iv x,iv D,iv E,iv G,iv A,iv B,uE s])),tal 25 [iv 0,iv 0,iv 0,iv 0,iv 0,iv 0,iv 0,uE []] 25,tst (fun y=>[(some (y 25).b,blk [iv t,iv x,iv D,iv E,iv G,iv A,iv B,uE s] 25)]) 25] (fun y=>[(2,pt J),(9,uF ((y 25).b) 0)]) (fun y=>[(some (y 25).b,blk [iv t,iv x,iv D,iv E,iv G,iv A,iv B,uE s] 25),(some J,blk [iv 0,iv 0,iv 0,iv 0,iv 0,iv 0,iv 0,uE []] 25),(some d,blk o 3)]) I (by kernel_rfl) (fun y=>⟨rfl,rfl⟩) (fun y=>?_) ?_
 ·
  refine tt rfl rfl (tl0 rfl (fun X w I=>be 0 zu64 zs3 rfl rfl rfl (fa a0 rfl) br) (tl1 [(some d,blk o 3)] rfl rfl (fun X w I=>db I 0 (iv t) zi3 rfl rfl (aF 0 _ rfl) br) (tt rfl rfl (tl0 rfl (fun X w I=>be 1 zu64 zs3 rfl rfl rfl (fa a1 rfl) br) (tl1 [(some d,blk o 3)] rfl rfl (fun X w I=>db I 0 (iv x) zi3 rfl rfl (aG 0 _ rfl) br) (tt rfl (by kernel_rfl) (tt rfl rfl (tl0 rfl (fun X w I=>be 2 zu64 zs3 rfl rfl rfl (fa a2 rfl) br) (tl1 [(some d,blk o 3)] rfl rfl (fun X w I=>db I 0 (iv D) zi3 rfl rfl (aH 0 _ rfl) br) (tt rfl rfl (tl0 rfl (fun X w I=>be 3 zu64 zs3 rfl rfl rfl (fa a3 rfl) br) (tl1 [(some d,blk o 3)] rfl rfl (fun X w I=>db I 0 (iv E) zi3 rfl rfl (aI 0 _ rfl) br) (tt rfl rfl (tl0 rfl (fun X w I=>be 4 zu64 zs3 rfl rfl rfl (fa a4 rfl) br) (tl1 [(some d,blk o 3)] rfl rfl (fun X w I=>db I 0 (iv G) zi3 rfl rfl (aJ 0 _ rfl) br) (tt rfl rfl (tl0 rfl (fun X w I=>be 5 zu64 zs3 rfl rfl rfl (fa a5 rfl) br) (tl1 [(some d,blk o 3)] rfl rfl (fun X w I=>db I 0 (iv A) zi3 rfl rfl (aK 0 _ rfl) br) (tt rfl rfl (tl0 rfl (fun X w I=>be 6 zu64 zs3 rfl rfl rfl (fa a6 rfl) br) (tl1 [(some d,blk o 3)] rfl rfl (fun X w I=>db I 0 (iv B) zi3 rfl rfl (aL 0 _ rfl) br) (tt rfl (by kernel_rfl) (tt rfl rfl (tt rfl (by kernel_rfl) (tA rfl zeroValue25 rfl (tS [(some (y 25).b,blk [iv 0,iv 0,iv 0,iv 0,iv 0,iv 0,iv 0,uE []] 25)] rfl ⟨rfl,rfl⟩ (fun X w I=>aq I 0 8 [iv t,iv x,iv D,iv E,iv G,iv A,iv B,uE s] md rfl rfl rfl rfl rfl (mx rfl) fun w I=>⟨rfl,I.castL rfl⟩) (tn)))))))))))))))))))))))))))
 intro y hp ρ w hag I
 clear hp
 generalize (y 25).b=aP at *
 obtain ⟨ρ,rfl⟩:=hag.form
 refine ab (uL (by kernel_rfl) (xm I 0 mh md rfl (bt F (fun aQ aM F=>ph (bg I 18 _ _ (by kernel_rfl) (L18 _ (⟨t,x,D,E,G,A,B,s⟩:Rc) N _ aM) fun w I=>ifN F (fun W F=>?_) (fun W F=>?_))))))
 ·
  refine xn rfl (fun _=>?_) (uP W)
  refine aa (ah rfl (uL rfl (pu (.agg #[iv 0,iv 0,iv 0,iv 0,iv 0,iv 0,iv 0,uE []]) (by kernel_rfl) (xi I 1 _ md rfl fun w I=>pu (iv 5) rfl (aa (aj ?_))))))
  cases F
  exact ⟨_,Ret.ct rfl rfl (ce I 1 8 [iv 0,iv 0,iv 0,iv 0,iv 0,iv 0,iv 0,uE []] mh md rfl rfl rfl) rfl,⟨rfl,I.below⟩⟩


 refine xn rfl (uO W) (fun _=>aa (ai rfl (ak (uL rfl (xm I 0 mh md rfl (xi I 1 _ md rfl fun w I=>pu (iv 0) rfl (aa (aj ?_))))))))
 cases F
 exact ⟨_,Ret.ct rfl rfl (ce I 1 8 [iv t,iv x,iv D,iv E,iv G,iv A,iv B,uE s] mh md rfl rfl rfl) rfl,⟨rfl,I.below⟩⟩
theorem L146 (w0:World) (e:Option Addr) (f:Nat) (a:List Int) (k:bi w0 e (al eInt a)) (t:a.length≤9223372036854775807) (u:a.length≤f) (N:Nat) (r:Int) (F:F146 N a=some r):bn Tryz.prog 146 [uM e a f] w0 fun v w=>v=iv r∧Below w0.heap.size w0 w:=by
 refine az (n:=18) func146 rfl ntmps146 rfl ?_
 have I:=Inv.start w0
 unfold F146 at F
 refine uL rfl (pu (iv 0) rfl (aa (uL rfl (pu (iv 0) rfl (aa (ab (uL rfl (pu3 (uM e a f) (iv ((a.length:Nat):Int)) (iv 0) (by kernel_rfl) (aa (au (cb (fun m ρ w=>∃ b mm,cd ρ [(3,iv 0),(6,uM e a f),(7,iv (a.length:Int)),(8,iv b)]∧Inv [] w0 w []∧F146l1 a mm b=some r∧mm=m) (m:=N) ⟨0,N,(uK rfl),I.pk [] rfl,F,rfl⟩ ?_)))))))))))
 rintro m ρ w ⟨b,mm,hag,I,F,hm⟩
 subst hm; obtain ⟨ρ,rfl⟩:=hag.form
 obtain _ | m1:=mm
 ·cases (show (none:Option Int)=some r from F)
 replace F:F146b1 a (F146l1 a m1) b=some r:=F; unfold F146b1 at F
 refine uL rfl (ifN F (fun g F=>?_) (fun g F=>?_))
 ·
  refine xl rfl (uP g) (fun _=>aa (ab (ai rfl (bw (uL rfl (pu2 (iv 0) (iv 0) rfl (aa (aj ?_))))))))
  cases F
  exact uJ I rfl


 refine xl rfl (fun _=>?_) (uO g)
 refine aa (ab (ah rfl (ak (ab (au (uL rfl (gdE F (fun l F=>bt F (fun d j F=>?_)))))))))
 obtain ⟨x,y,o,p,q⟩:=k.at_ cy (by decide) j
 refine ph (cn (b).toNat zu202 zs26 rfl o rfl (Int.toNat_of_nonneg l).symm (fa j rfl) (ph (dj I (iv d) zi26 rfl p (by simp) (q 0 _ rfl) (pu (iv d) rfl (aa (uL rfl (pu2 (iv d) (iv 0) rfl (ifN F (fun i F=>?_) (fun i F=>?_)))))))))
 ·
  refine xn rfl (fun _=>?_) (uP i)
  refine aa (ah rfl (uL rfl (pu2 (iv d) (iv d) rfl (aa (aj ?_)))))
  cases F
  exact uJ I rfl
 refine xn rfl (uO i) (fun _=>aa (ai rfl (ak (rgn rfl (ckE F (fun s F=>xa rfl s (pu (iv (b+1)) rfl (aa (⟨rfl,m1,Nat.lt_succ_self _,⟨b+1,m1,(uK rfl),I.pk [] rfl,F,rfl⟩⟩)))))))))
theorem L86 (w0:World) (b:Option Addr) (d:Nat) (a:List Int) (e:bi w0 b (al eInt a)) (f:a.length≤9223372036854775807) (g:a.length≤d) (N:Nat) (r:Int) (F:F86 N a=some r):bn Tryz.prog 86 [uM b a d] w0 fun v w=>v=iv r∧Below w0.heap.size w0 w:=by
 refine az (n:=5) func86 rfl ntmps86 rfl ?_
 have I:=Inv.start w0
 unfold F86 at F
 refine uL (by kernel_rfl) (pu (iv 0) (by kernel_rfl) (aa (uL (by kernel_rfl) (pu (uM b a d) (by kernel_rfl) (bt F (fun y7 hy8 F=>ph (bg I 146 _ _ (by kernel_rfl) (L146 _ b d a (e.inv0 I) f g N _ hy8) fun w I=>pu (iv y7) (by kernel_rfl) (aa (aj ?_)))))))))
 cases F
 exact uJ I rfl


theorem L87 (w0:World) (a:Int) (r:Bool) (F:F87 a=some r):bn Tryz.prog 87 [iv a] w0 fun v w=>v=.bool r∧Below w0.heap.size w0 w:=by
 refine az (n:=5) func87 rfl ntmps87 rfl ?_
 have I:=Inv.start w0
 unfold F87 at F
 refine uL (by kernel_rfl) (pu bF (by kernel_rfl) (aa (uL (by kernel_rfl) (pu (iv a) (by kernel_rfl) (bt F (fun y7 hy8 F=>ph (bg I 76 _ _ (by kernel_rfl) (L76 _ a 0 59 _ hy8) fun w I=>pu (.bool y7) (by kernel_rfl) (aa (aj ?_)))))))))
 cases F
 exact uJ I rfl


theorem L147 (w0:World) (a:Int) (b:Int) (r:Int) (F:F147 a b=some r):bn Tryz.prog 147 [.int .u8 a,.int .u8 b] w0 fun v w=>v=.int .u8 r∧Below w0.heap.size w0 w:=by
 refine az (n:=12) func147 rfl ntmps147 rfl ?_
 have I:=Inv.start w0
 unfold F147 at F
 refine uL rfl (pu (.int .u8 0) rfl (aa (uL rfl (pu (.int .u8 a) rfl (ph (s_sub8 rfl rfl (pu (.int .u8 b) rfl (ph (s_add8 rfl rfl (ph (s_sub8 rfl rfl (ph (s_rem8 rfl rfl (by decide) (ph (s_add8 rfl rfl (pu (.int .u8 (w8 (32+((w8 ((w8 ((w8 (a - 32))+b)) - 32)).tmod 95)))) rfl (aa (aj ?_))))))))))))))))))
 cases F
 exact uJ I rfl


theorem L88 (w0:World) (A:Rc) (f:Int) (hG:Gl w0) (N:Nat) (r:List Sp3) (F:F88 N A f=some r):bn Tryz.prog 88 [.agg (qg A).toArray,iv f] w0 fun v w=>∃ z0 z1 z2,v=slv z0 r.length z1∧Inv [] w0 w [(z0,blk z2 35)]∧Row 3 z0 r.length z1 z2 (al bb r):=by
 refine az (n:=65) func88 rfl ntmps88 rfl ?_
 have I:=Inv.start w0
 unfold F88 at F
 refine uL (by kernel_rfl) (ph (ca I _ rfl fun aG w I=>pu uD (by kernel_rfl) (aa (uL (by kernel_rfl) (xm I 0 mh md rfl (bt F (fun e a6 F=>ph (bg I 69 _ _ (by kernel_rfl) (L69 _ A (hG.up I) N _ a6) fun w I=>pu (uE e) (by kernel_rfl) (aa (uL (by kernel_rfl) (pu3 (uE e) (iv (e.length:Int)) (iv (e.length:Int)) (by kernel_rfl) (aa (dn (fun ρ w=>∃ (y:Str),cd ρ [(1,iv f),(5,uE y),(6,iv (e.length:Int))]∧Inv [] w0 w []∧F88j1 f N e y=some r) ?_ ?_)))))))))))))
 ·
  refine uL rfl (pu (iv (e.length:Int)) rfl (ph (s_rem rfl rfl (by decide) (ifN F (fun K F=>?_) (fun K F=>?_)))))
  ·
   refine xe rfl (uP K) (fun _=>aa (ai rfl (ak (.inl ⟨rfl,⟨e,⟨rfl,rfl,rfl,trivial⟩,I.pk [] rfl,F⟩⟩))))
  refine xe rfl (fun _=>?_) (uO K)
  refine aa (ah rfl (rgn rfl (pu (uE e) rfl (gdE F (fun a7 F=>ph (kv (a:=e) rfl rfl a7 (pu (uE (e++[32])) rfl (aa (.inl ⟨rfl,⟨e++[32],⟨rfl,rfl,rfl,trivial⟩,I.pk [] rfl,F⟩⟩)))))))))
 intro ρ w hJ
 obtain ⟨y,hag,I,F⟩:=hJ
 obtain ⟨ρ,rfl⟩:=hag.form
 unfold F88j1 at F
 refine uL rfl (pu3 uD uD uD rfl (aa (ab (uL rfl (pu (iv 0) rfl (aa (au ?_)))))))
 have I:=I.nilRow 5
 have I:=I.nilRow 5
 have I:=I.nilRow 5
 refine cb (fun m ρ w=>∃ (C G L D H M E J O:_) (g:List Int) (i:List Int) (o:List Int) (q mm:_),cd ρ [(1,iv f),(5,uE y),(6,iv (e.length:Int)),(7,slv C g.length G),(8,slv D i.length H),(9,slv E o.length J),(10,iv q)]∧Inv [] w0 w [(C,blk L 5),(D,blk M 5),(E,blk O 5)]∧(Row 1 C (g.length) G L (al eB g))∧(Row 1 D (i.length) H M (al eB i))∧(Row 1 E (o.length) J O (al eB o))∧F88l2 f e y mm g i o q=some r∧mm=m) (m:=N) ⟨none,0,[],none,0,[],none,0,[],[],[],[],0,N,(uK rfl),I.pk [0,1,2] rfl,(Row.nil_ 1),(Row.nil_ 1),(Row.nil_ 1),F,rfl⟩ ?_
 rintro m ρ w ⟨C,G,L,D,H,M,E,J,O,g,i,o,q,mm,hag,I,a0,a1,a2,F,hm⟩
 subst hm; obtain ⟨ρ,rfl⟩:=hag.form
 obtain _ | m2:=mm
 ·cases (show (none:Option (List Sp3))=some r from F)
 replace F:F88b2 f e y (F88l2 f e y m2) g i o q=some r:=F; unfold F88b2 at F
 refine ab (uL rfl (pu3 (iv q) (uE y) (iv (y.length:Int)) (by kernel_rfl) (ifN F (fun P F=>?_) (fun P F=>?_))))
 ·
  refine xl rfl (uP P) (fun _=>aa (ai rfl (bw (uL rfl (pu3 (iv f) (iv (e.length:Int)) (slv C g.length G) rfl (ph (fx (l:=g) mg zu5 zu9 rfl rfl (I.rowCells 0 rfl a0) (pu3 (.agg #[iv f,iv (e.length:Int),uE (bl g)]) (iv f) (iv (e.length:Int)) (by kernel_rfl) (pu (slv D i.length H) rfl (ph (fx (l:=i) mg zu5 zu9 rfl rfl (I.rowCells 1 rfl a1) (pu3 (.agg #[iv f,iv (e.length:Int),uE (bl i)]) (iv f) (iv (e.length:Int)) (by kernel_rfl) (pu (slv E o.length J) rfl (ph (fx (l:=o) mg zu5 zu9 rfl rfl (I.rowCells 2 rfl a2) (pu (.agg #[iv f,iv (e.length:Int),uE (bl o)]) (by kernel_rfl) (ph (fu I [iv f,iv (e.length:Int),uE (bl g),iv f,iv (e.length:Int),uE (bl i),iv f,iv (e.length:Int),uE (bl o)] 35 (fun b=>slv (some b) 3 3) (by kernel_rfl) fun Q w I=>pu (.slice (some ⟨Q,0,none⟩) 3 3) rfl (aa (aj ?_))))))))))))))))))))
  have a8:Row 3 (some Q) 3 3 [iv f,iv (e.length:Int),uE (bl g),iv f,iv (e.length:Int),uE (bl i),iv f,iv (e.length:Int),uE (bl o)] (al bb [(⟨f,(e.length:Int),bl g⟩:Sp3),(⟨f,(e.length:Int),bl i⟩:Sp3),(⟨f,(e.length:Int),bl o⟩:Sp3)]):=Row.lit bk (l:=[(⟨f,(e.length:Int),bl g⟩:Sp3),(⟨f,(e.length:Int),bl i⟩:Sp3),(⟨f,(e.length:Int),bl o⟩:Sp3)]) rfl (mx rfl)
  cases F
  exact ⟨_,Ret.r1 rfl rfl,⟨some Q,3,[iv f,iv (e.length:Int),uE (bl g),iv f,iv (e.length:Int),uE (bl i),iv f,iv (e.length:Int),uE (bl o)],(by first | rfl | exact slv_n (Row.n_eq (by assumption) ew (by decide)) | (exact slv_n (Row.n_eq (by assumption) bx (by decide))) | (simp only [srtRc_len,List.length_set,sortI_len] <;> rfl)),I.pk [0] rfl,a8.to rfl rfl⟩⟩


 refine xl rfl (fun _=>?_) (uO P)
 refine aa (ah rfl (ak (ab (au (ab (gm 9 I (by kernel_rfl) (zB (uE y) (iv q) rfl (gdE F (fun a9 F=>bt F (fun s aA F=>zc (.int .u8 (nb s)) (fun w I=>fb (q).toNat zu9 rfl rfl (Int.toNat_of_nonneg a9).symm aA br) (zB (uE y) (iv q) rfl (ckE F (fun aB F=>zc (iv (q+1)) (fun w I=>cj rfl rfl aB br) (gdE F (fun aC F=>bt F (fun x aD F=>zc (.int .u8 (nb x)) (fun w I=>fb ((q+1).toNat) zu9 rfl rfl (Int.toNat_of_nonneg aC).symm aD br) (zB (.int .u8 (nb s)) (.int .u8 (nb x)) rfl (zh (fun w I=>aa (uL rfl (pu2 (slv C g.length G) (.int .u8 (nb s)) rfl (ph (fu I [.int .u8 (nb s)] 5 (fun b=>slv (some b) 1 1) (by kernel_rfl) fun aH w I=>gdE F (fun aI F=>ph (xk I xb 1 a0 (nb s) 0 rfl (by omega) ?_)))))))))))))))))))))))))
 intro R S a3 w I T
 refine pu (slv R ((g++[nb s]).length) S) rfl (aa (uL rfl (pu2 (slv D i.length H) (.int .u8 (nb x)) rfl (ph (fu I [.int .u8 (nb x)] 5 (fun b=>slv (some b) 1 1) (by kernel_rfl) fun aJ w I=>gdE F (fun aK F=>ph (xk I xb 3 a1 (nb x) 0 rfl (by omega) ?_)))))))
 intro U V a4 w I W
 refine pu (slv U ((i++[nb x]).length) V) (by kernel_rfl) (aa (rgn (by kernel_rfl) (pu3 (slv E o.length J) (.int .u8 (nb s)) (.int .u8 (nb x)) (by kernel_rfl) (bt F (fun B aE F=>ph (bg I 147 _ _ (by kernel_rfl) (L147 _ (nb s) (nb x) _ aE) fun w I=>ph (fu I [.int .u8 B] 5 (fun b=>slv (some b) 1 1) (by kernel_rfl) fun aL w I=>gdE F (fun aM F=>ph (xk I xb 5 a2 B 0 rfl (by omega) ?_)))))))))
 intro X Y a5 w I Z
 refine pu (slv X ((o++[B]).length) Y) rfl (aa (rgn rfl (pu (iv q) rfl (ckE F (fun aF F=>xa rfl aF (pu (iv (q+2)) rfl (aa (⟨rfl,m2,Nat.lt_succ_self _,⟨R,S,a3,U,V,a4,X,Y,a5,g++[nb s],i++[nb x],o++[B],q+2,m2,(uK rfl),I.pk [3,4,5] rfl,(T.to rfl rfl),(W.to rfl rfl),(Z.to rfl rfl),F,rfl⟩⟩))))))))
theorem L20 (w0:World) (a:Rc) (e:Int) (hG:Gl w0) (N:Nat) (r:(List Sp3 × Int)) (F:F20 N a e=some r):bn Tryz.prog 20 [.agg (qg a).toArray,iv e] w0 fun v w=>∃ z0 z1 z2,v=.tuple #[uN z0 r.1 z1,iv r.2]∧Inv [] w0 w [(z0,blk z2 35)]∧Row 3 z0 r.1.length z1 z2 (al bb r.1):=by
 refine az (n:=20) func20 rfl ntmps20 rfl ?_
 have I:=Inv.start w0
 unfold F20 at F
 refine uL (by kernel_rfl) (ph (ca I _ rfl fun E w I=>pu2 uD (iv 0) (by kernel_rfl) (aa (ab (uL (by kernel_rfl) (xm I 0 mh md rfl (bt F (fun g o F=>ph (bg I 17 _ _ (by kernel_rfl) (L17 _ a N _ o) fun w I=>pu (iv e) (by kernel_rfl) (bt F (fun q s F=>ph (bg I 87 _ _ (by kernel_rfl) (L87 _ e _ s) fun w I=>bt F (fun i x F=>ph (bg I 78 _ _ (by kernel_rfl) (L78 _ q 1 _ x) fun w I=>ph (fu I [iv g,iv i] 26 (fun b=>slv (some b) 2 2) (by kernel_rfl) fun y w I=>bt F (fun f z F=>ph (bg I 86 _ _ (by kernel_rfl) (L86 _ (some ⟨y,0,none⟩) 2 [g,i] (I.cells 0 (off:=0) rfl (fun j u h=>by rw [Nat.zero_add]; exact h)) (mx rfl) (Nat.le_refl _) N _ z) fun w I=>pu (iv f) (by kernel_rfl) (aa (uL (by kernel_rfl) (pu (iv f) (by kernel_rfl) (ifN F (fun h8 F=>?_) (fun h8 F=>?_))))))))))))))))))))))
 ·
  refine xn rfl (fun _=>?_) (uP h8)
  refine aa (ah rfl (uL (by kernel_rfl) (pu3 (iv f) uD (iv f) (by kernel_rfl) (aa (aj ?_)))))
  have I:=I.nilRow 35
  cases F
  exact ⟨_,Ret.r2 rfl rfl rfl,⟨none,0,[],rfl,I.pk [0] rfl,Row.nil_ 3⟩⟩


 refine xn rfl (uO h8) (fun _=>aa (ai rfl (ak (uL (by kernel_rfl) (xm I 1 mh md rfl (pu (iv e) (by kernel_rfl) (bt F (fun A B F=>ph (co 88 _ (by kernel_rfl) (L88 _ a e (hG.up I) N _ B) ?_)))))))))
 rintro v w ⟨l,m,C,rfl,hN,D⟩
 have I:=I.join hN; clear hN
 refine pu2 (uN l A m) (iv 0) rfl (aa (aj ?_))
 cases F
 exact ⟨_,Ret.r2 rfl rfl rfl,⟨l,m,C,rfl,I.pk [0] rfl,D.to rfl rfl⟩⟩
theorem L90 (w0:World) (a:Int) (r:Bool) (F:F90 a=some r):bn Tryz.prog 90 [iv a] w0 fun v w=>v=.bool r∧Below w0.heap.size w0 w:=by
 refine az (n:=5) func90 rfl ntmps90 rfl ?_
 have I:=Inv.start w0
 unfold F90 at F
 refine uL (by kernel_rfl) (pu bF (by kernel_rfl) (aa (uL (by kernel_rfl) (pu (iv a) (by kernel_rfl) (bt F (fun y7 hy8 F=>ph (bg I 76 _ _ (by kernel_rfl) (L76 _ a 0 2 _ hy8) fun w I=>pu (.bool y7) (by kernel_rfl) (aa (aj ?_)))))))))
 cases F
 exact uJ I rfl


theorem L91 (w0:World) (e:Int) (a:Sp3) (N:Nat) (r:Bool) (F:F91 N e a=some r):bn Tryz.prog 91 [iv e,.agg (qh a).toArray] w0 fun v w=>v=.bool r∧Below w0.heap.size w0 w:=by
 refine az (n:=52) func91 rfl ntmps91 rfl ?_
 have I:=Inv.start w0
 unfold F91 at F
 refine uL rfl (ph (ca I _ rfl fun b w I=>pu bF rfl (aa (ab (uL rfl (pu (pt b) rfl (xg I 0 (iv a.no) zi3 rfl (bt F (fun z o F=>ifN F (fun f F=>?_) (fun f F=>?_))))))))))
 ·
  refine ph (bg I 87 _ _ (by kernel_rfl) (bn.mono (L87 _ a.no _ o) (uH (Bool.eq_false_iff.2 f))) fun w I=>pu2 bT bT (by kernel_rfl) (sf 4 (by kernel_rfl) (pu2 bT bT (by kernel_rfl) (sf 8 (by kernel_rfl) (pu2 bT bT (by kernel_rfl) (sf 4 (by kernel_rfl) (pu bT (by kernel_rfl) (aa (ah rfl (uL (by kernel_rfl) (pu bF (by kernel_rfl) (aa (aj ?_)))))))))))))
  cases F
  exact uJ I rfl


 refine ph (bg I 87 _ _ (by kernel_rfl) (bn.mono (L87 _ a.no _ o) (uH f)) fun w I=>pu2 bF bF (by kernel_rfl) (pup (uF b 1) (by kernel_rfl) (aw (by kernel_rfl) (ag I 0 (iv a.sz) zi3 rfl rfl rfl (bt F (fun A p F=>ifN F (fun g F=>?_) (fun g F=>?_)))))))
 ·
  refine aw (by kernel_rfl) (bg I 76 _ _ (by kernel_rfl) (bn.mono (L76 _ a.sz 14 240 _ p) (uH (Bool.eq_false_iff.2 g))) fun w I=>pup bT (by kernel_rfl) (pu2 bT bT (by kernel_rfl) (sf 8 (by kernel_rfl) (pu2 bT bT (by kernel_rfl) (sf 4 (by kernel_rfl) (pu bT (by kernel_rfl) (aa (ah rfl (uL (by kernel_rfl) (pu bF (by kernel_rfl) (aa (aj ?_))))))))))))
  cases F
  exact uJ I rfl
 refine aw (by kernel_rfl) (bg I 76 _ _ (by kernel_rfl) (bn.mono (L76 _ a.sz 14 240 _ p) (uH g)) fun w I=>pup bF (by kernel_rfl) (pu2 bF bF (by kernel_rfl) (pup (uF b 2) (by kernel_rfl) (aw (by kernel_rfl) (ag I 0 (uE a.t) zi9 rfl rfl rfl (pup (iv (a.t.length:Int)) (by kernel_rfl) (pup (uF b 1) (by kernel_rfl) (aw (by kernel_rfl) (ag I 0 (iv a.sz) zi3 rfl rfl rfl (ckE F (fun q F=>aw (by kernel_rfl) (cj rfl rfl q (aw (by kernel_rfl) (s_quo rfl rfl (by decide) q (ifN F (fun i F=>?_) (fun i F=>?_))))))))))))))))
 ·
  refine aw rfl (de rfl rfl (fun _=>?_) (uP i))
  refine pu2 bT bT rfl (sf 4 rfl (pu bT rfl (aa (ah rfl (uL rfl (pu bF rfl (aa (aj ?_))))))))
  cases F
  exact uJ I rfl
 refine aw rfl (de rfl rfl (uO i) (fun _=>pu2 bF bF rfl (pup (uF b 2) rfl (aw rfl (ag I 0 (uE a.t) zi9 rfl rfl rfl (bt F (fun B s F=>ifN F (fun j F=>?_) (fun j F=>?_))))))))
 ·
  refine aw (by kernel_rfl) (bg I 145 _ _ (by kernel_rfl) (bn.mono (L145 _ a.t N _ s) (uH (Bool.eq_false_iff.2 j))) fun w I=>pup bT (by kernel_rfl) (pu bT (by kernel_rfl) (aa (ah rfl (uL (by kernel_rfl) (pu bF (by kernel_rfl) (aa (aj ?_))))))))
  cases F
  exact uJ I rfl
 refine aw rfl (bg I 145 _ _ (by kernel_rfl) (bn.mono (L145 _ a.t N _ s) (uH j)) fun w I=>pup bF (by kernel_rfl) (pu bF (by kernel_rfl) (aa (ai rfl (ak (dn (fun ρ w=>∃ d,cd ρ [(3,pt b),(5,.bool d)]∧Inv [] w0 w [(some b,blk (qh a) 35)]∧F91j1 a d=some r) ?_ ?_))))))
 ·
  refine rgn rfl (pu (iv e) rfl (ifN F (fun k F=>?_) (fun k F=>?_)))
  ·
   refine xe rfl (uP k) (fun _=>pu bF rfl (sf 4 rfl (pu2 bF bF rfl (aa (.inl ⟨rfl,⟨false,⟨rfl,rfl,trivial⟩,I.pk [0] rfl,F⟩⟩)))))
  refine xe rfl (fun _=>?_) (uO k)
  refine pu bT rfl (pup (uF b 1) rfl (aw rfl (ag I 0 (iv a.sz) zi3 rfl rfl rfl (aw rfl (s_rem rfl rfl (by decide) (ifE F (fun l F=>?_) (fun l F=>?_)))))))
  ·
   refine aw rfl (di rfl rfl (fun _=>?_) (uO l))
   refine pu2 bT bT rfl (aa (.inl ⟨rfl,⟨true,⟨rfl,rfl,trivial⟩,I.pk [0] rfl,F⟩⟩))
  refine aw rfl (di rfl rfl (uP l) (fun _=>pu2 bF bF rfl (aa (.inl ⟨rfl,⟨false,⟨rfl,rfl,trivial⟩,I.pk [0] rfl,F⟩⟩))))
 intro ρ w hJ
 obtain ⟨d,hag,I,F⟩:=hJ
 obtain ⟨ρ,rfl⟩:=hag.form
 unfold F91j1 at F
 refine ab ?_
 have hG:=F; rcases Bool.eq_false_or_eq_true d with rfl | rfl
 ·
  have F:=hG; clear hG
  refine ifE F (fun _ F=>?_) (uO rfl)
  refine rgn rfl (pu3 bT bF bF rfl (pup (uF b 2) rfl (aw rfl (ag I 0 (uE a.t) zi9 rfl rfl rfl (pup (uF b 2) rfl (aw rfl (ag I 0 (uE a.t) zi9 rfl rfl rfl (pup (iv (a.t.length:Int)) (by kernel_rfl) (ckE F (fun u F=>aw rfl (s_sub rfl rfl u (gdE F (fun x F=>bt F (fun C y F=>aw rfl (fb (((a.t.length:Int) - 1).toNat) zu9 rfl rfl (Int.toNat_of_nonneg x).symm y (ifE F (fun m F=>?_) (fun m F=>?_)))))))))))))))))
  ·
   refine aw rfl (s_eql8 rfl rfl (fun _=>?_) (uO m))
   refine pu2 bT bT rfl (aa (aj ?_))
   cases F
   exact uJ I rfl
  refine aw rfl (s_eql8 rfl rfl (uP m) (fun _=>pu2 bF bF rfl (aa (aj ?_))))
  cases F
  exact uJ I rfl
 have F:=hG; clear hG
 refine ifE F (fun h=>absurd h (by decide)) (fun _ F=>rgn rfl (pu3 bF bT bT rfl (sf 8 rfl (pu2 bT bT rfl (aa (aj ?_))))))
 cases F
 exact uJ I rfl
theorem L92 (w0:World) (a:Sp3) (r:List Int) (F:F92 a=some r):bn Tryz.prog 92 [.agg (qh a).toArray] w0 fun v w=>∃ z0 z1 z2,v=slv z0 r.length z1∧Inv [] w0 w [(z0,blk z2 5)]∧Row 1 z0 r.length z1 z2 (al eB r):=by
 refine az (n:=13) func92 rfl ntmps92 rfl ?_
 have I:=Inv.start w0
 unfold F92 at F
 refine uL rfl (ph (ca I _ rfl fun d w I=>pu uD rfl (aa (uL rfl (pu (uF d 2) rfl (xg I 0 (uE a.t) zi9 rfl (pu (iv (a.t.length:Int)) (by kernel_rfl) (gdE F (fun h9 F=>gdE F (fun i F=>ph (s_makeRowN I (enc:=eB) ew (by decide) ((0:Int)) mg (z:=.int .u8 0) (k:=1) (bytes:=1) rfl rfl ((a.t.length:Int)).toNat (congrArg (Value.int .i64) (Int.toNat_of_nonneg h9).symm) (congrArg (Value.int .i64) (Int.toNat_of_nonneg h9).symm) (by omega) (by decide) fun b j w I f=>pu (slv (some b) ((List.replicate ((a.t.length:Int)).toNat (0:Int)).length) (((a.t.length:Int)).toNat)) rfl (aa (uL rfl (pu2 (slv (some b) ((List.replicate ((a.t.length:Int)).toNat (0:Int)).length) (((a.t.length:Int)).toNat)) (uF d 2) rfl (xg I 1 (uE a.t) zi9 rfl (gdE F (fun g F=>ph (s_copyStr I (s:=a.t) mg zs5 0 rfl rfl f rfl g fun h w I e=>aa (uL rfl (pu2 (slv (some b) ((List.replicate ((a.t.length:Int)).toNat (0:Int)).length) (((a.t.length:Int)).toNat)) (slv (some b) ((List.replicate ((a.t.length:Int)).toNat (0:Int)).length) (((a.t.length:Int)).toNat)) rfl (aa (aj ?_))))))))))))))))))))))
 cases F
 exact ⟨_,Ret.r1 rfl rfl,⟨some b,((a.t.length:Int)).toNat,h,(by first | rfl | exact slv_n (Row.n_eq (by assumption) ew (by decide)) | (exact slv_n (Row.n_eq (by assumption) bx (by decide))) | (simp only [srtRc_len,List.length_set,sortI_len] <;> rfl)),I.pk [0] rfl,e.to rfl (e.n_eq ew (by decide))⟩⟩


theorem L165 (w0:World) (a:Int) (b:Int) (r:Int) (F:F165 a b=some r):bn Tryz.prog 165 [.int .u8 a,.int .u8 b] w0 fun v w=>v=.int .u8 r∧Below w0.heap.size w0 w:=by
 refine az (n:=11) func165 rfl ntmps165 rfl ?_
 have I:=Inv.start w0
 unfold F165 at F
 refine uL rfl (pu (.int .u8 0) rfl (aa (uL rfl (pu (.int .u8 a) rfl (ph (s_add8 rfl rfl (pu (.int .u8 b) rfl (ph (s_sub8 rfl rfl (ph (s_rem8 rfl rfl (by decide) (ph (s_add8 rfl rfl (pu (.int .u8 (w8 (32+((w8 ((w8 (a+95)) - b)).tmod 95)))) rfl (aa (aj ?_))))))))))))))))
 cases F
 exact uJ I rfl


theorem L149 (w0:World) (o:Option Addr) (p:Nat) (d:List Int) (q:Option Addr) (s:Nat) (f:List Int) (L:bi w0 o (al eB d)) (W:d.length≤9223372036854775807) (X:d.length≤p) (M:bi w0 q (al eB f)) (Y:f.length≤9223372036854775807) (Z:f.length≤s) (N:Nat) (r:List Int) (F:F149 N d f=some r):bn Tryz.prog 149 [uM o d p,uM q f s] w0 fun v w=>∃ z0 z1 z2,v=uN z0 r z1∧Inv [] w0 w [(z0,blk z2 5)]∧Row 1 z0 r.length z1 z2 (al eB r):=by
 refine az (n:=26) func149 rfl ntmps149 rfl ?_
 have I:=Inv.start w0
 unfold F149 at F
 refine uL rfl (pu uD rfl (aa (uL rfl (pu uD rfl (aa (ab (uL rfl (pu3 (uM o d p) (iv ((d.length:Nat):Int)) (iv 0) (by kernel_rfl) (aa (au ?_))))))))))
 have I:=I.nilRow 5
 refine cb (fun m ρ w=>∃ (g i t:_) (a:List Int) (e mm:_),cd ρ [(1,uM q f s),(5,uN g a i),(8,uM o d p),(9,iv (d.length:Int)),(10,iv e)]∧Inv [] w0 w [(g,blk t 5)]∧(Row 1 g (a.length) i t (al eB a))∧F149l1 d f mm a e=some r∧mm=m) (m:=N) ⟨none,0,[],[],0,N,(uK rfl),I.pk [0] rfl,(Row.nil_ 1),F,rfl⟩ ?_
 rintro m ρ w ⟨g,i,t,a,e,mm,hag,I,D,F,hm⟩
 subst hm; obtain ⟨ρ,rfl⟩:=hag.form
 obtain _ | m1:=mm
 ·cases (show (none:Option (List Int))=some r from F)
 replace F:F149b1 d f (F149l1 d f m1) a e=some r:=F; unfold F149b1 at F
 refine uL rfl (ifN F (fun y F=>?_) (fun y F=>?_))
 ·
  refine xl rfl (uP y) (fun _=>aa (ab (ai rfl (bw (uL rfl (pu2 (uN g a i) (uN g a i) rfl (aa (aj ?_))))))))
  cases F
  exact ⟨_,Ret.r1 rfl rfl,⟨g,i,t,rfl,I.pk [0] rfl,D.to rfl rfl⟩⟩


 refine xl rfl (fun _=>?_) (uO y)
 refine aa (ab (ah rfl (ak (ab (au (uL rfl (pu (iv e) rfl (gdE F (fun E F=>bt F (fun x G F=>?_))))))))))
 obtain ⟨a0,a1,O,P,Q⟩:=L.at_ ew (by decide) G
 refine ph (cn (e).toNat mg zs5 rfl O rfl (Int.toNat_of_nonneg E).symm (fa G rfl) (ph (dj I (.int .u8 x) zi5 rfl P (by simp) (Q 0 _ rfl) (pu2 (iv e) (.int .u8 x) rfl (aa (rgn rfl (pu3 (uN g a i) (.int .u8 x) (uM q f s) rfl (pu (iv e) rfl (bt F (fun H J F=>?_))))))))))
 obtain ⟨a2,a3,R,S,T⟩:=M.at_ ew (by decide) J
 refine ph (cn (e).toNat mg zs5 rfl R rfl (Int.toNat_of_nonneg E).symm (fa J rfl) (ph (dj I (.int .u8 H) zi5 rfl S (by simp) (T 0 _ rfl) (bt F (fun l U F=>ph (bg I 165 _ _ (by kernel_rfl) (L165 _ x H _ U) fun w I=>ph (fu I [.int .u8 l] 5 (fun b=>slv (some b) 1 1) (by kernel_rfl) fun a4 w I=>gdE F (fun a5 F=>ph (xk I xb 1 D l 0 rfl (by omega) ?_)))))))))
 intro A B K w I C
 refine pu (slv A ((a++[l]).length) B) rfl (aa (rgn rfl (ckE F (fun V F=>xa rfl V (pu (iv (e+1)) rfl (aa (⟨rfl,m1,Nat.lt_succ_self _,⟨A,B,K,a++[l],e+1,m1,(uK rfl),I.pk [1] rfl,(C.to rfl rfl),F,rfl⟩⟩)))))))
theorem L93 (w0:World) (G:Option Addr) (H:Nat) (d:List Int) (zp0_0:Bool) (J:Option Addr) (K:Nat) (f:List Int) (zp0_1:Bool) (R:Option Addr) (S:Nat) (Q:List Int) (zp0_2:Bool) (b7:bi w0 G (al eB d)) (cH:d.length≤9223372036854775807) (cI:d.length≤H) (hzp0_0:G.isNone=zp0_0) (b8:bi w0 J (al eB f)) (cJ:f.length≤9223372036854775807) (cK:f.length≤K) (hzp0_1:J.isNone=zp0_1) (b9:bi w0 R (al eB Q)) (bA:Q.length≤9223372036854775807) (bB:Q.length≤S) (hzp0_2:R.isNone=zp0_2) (N:Nat) (r:Str) (F:F93 N d zp0_0 f zp0_1 Q zp0_2=some r):bn Tryz.prog 93 [.agg #[uM G d H,uM J f K,uM R Q S]] w0 fun v w=>v=uE r∧Below w0.heap.size w0 w:=by
 refine az (n:=43) func93 rfl ntmps93 rfl ?_
 have I:=Inv.start w0
 unfold F93 at F
 refine uL (by kernel_rfl) (ph (ca I _ rfl fun bC w I=>pu (uE []) (by kernel_rfl) (aa (ab (gm 9 I (by kernel_rfl) (zP (pt bC) (by kernel_rfl) (zg 0 (uM G d H) zi148 rfl (zP (uF bC 1) (by kernel_rfl) (zg 0 (uM J f K) zi148 rfl (zP (uF bC 2) (by kernel_rfl) (zg 0 (uM R Q S) zi148 rfl (zB (uM G d H) (uM J f K) (by kernel_rfl) (zP (uM R Q S) (by kernel_rfl) (zh (fun w I=>aa (ab (uL (by kernel_rfl) (pu (uM G d H) (by kernel_rfl) (ifN F (fun bD F=>?_) (fun bD F=>?_))))))))))))))))))))
 ·
  refine ph (s_eqnil mg rfl rfl (fun h=>absurd h (isN_f hzp0_0 bD)) (fun _=>aa (ai rfl (ak (ab (uL (by kernel_rfl) (pu (uM J f K) (by kernel_rfl) (ifN F (fun bE F=>?_) (fun bE F=>?_)))))))))
  ·
   refine ph (s_eqnil mg rfl rfl (fun h=>absurd h (isN_f hzp0_1 bE)) (fun _=>aa (ai rfl (ak (uL (by kernel_rfl) (pu uD (by kernel_rfl) (aa (ab (uL (by kernel_rfl) (pu3 (uM G d H) (iv ((d.length:Nat):Int)) (iv 0) (by kernel_rfl) (aa (au ?_))))))))))))
   have I:=I.nilRow 5
   refine cb (fun m ρ w=>∃ (V aE aN:_) (i:List Int) (L mm:_),cd ρ [(3,uM G d H),(4,uM J f K),(6,uN V i aE),(25,iv (d.length:Int)),(26,iv L)]∧Inv [] w0 w [(V,blk aN 5)]∧(Row 1 V (i.length) aE aN (al eB i))∧F93l4 d f mm i L=some r∧mm=m) (m:=N) ⟨none,0,[],[],0,N,(uK rfl),I.pk [0] rfl,(Row.nil_ 1),F,rfl⟩ ?_
   rintro m ρ w ⟨V,aE,aN,i,L,mm,hag,I,bL,F,hm⟩
   subst hm; obtain ⟨ρ,rfl⟩:=hag.form
   obtain _ | m4:=mm
   ·cases (show (none:Option Str)=some r from F)
   replace F:F93b4 d f (F93l4 d f m4) i L=some r:=F; unfold F93b4 at F
   refine uL (by kernel_rfl) (ifN F (fun bG F=>?_) (fun bG F=>?_))
   ·
    refine xl rfl (uP bG) (fun _=>aa (ab (ai rfl (bw (uL (by kernel_rfl) (pu (uN V i aE) (by kernel_rfl) (ph (fx (l:=i) mg zu5 zu9 rfl rfl (I.rowCells 0 rfl bL) (pu (uE (bl i)) (by kernel_rfl) (aa (aj ?_)))))))))))
    cases F
    exact uJ I rfl


   refine xl rfl (fun _=>?_) (uO bG)
   refine aa (ab (ah rfl (ak (ab (au (uL (by kernel_rfl) (pu2 (iv L) (iv L) (by kernel_rfl) (aa (gdE F (fun bM F=>bt F (fun s bN F=>bt F (fun t bO F=>gdE F (fun dK F=>?_)))))))))))))
   obtain ⟨cL,cM,cN,cO,cP⟩:=b7.at_ ew (by decide) bN
   obtain ⟨cQ,cR,cS,cT,cU⟩:=b8.at_ ew (by decide) bO
   refine kx [tv (fun _=>(uN V i aE)),tv (fun _=>(uM G d H)),tv (fun _=>(iv L)),tr (fun _=>(uF cL (cM+(L).toNat * 1))) [],tr (fun _=>(.int .u8 s)) [],tv (fun _=>(uM J f K)),tv (fun _=>(iv L)),tr (fun _=>(uF cQ (cR+(L).toNat * 1))) [],tr (fun _=>(.int .u8 t)) [],⟨fun y=>(.slice (some ⟨(y 9).b,0,none⟩) 2 2),fun y=>[(some (y 9).b,blk [.int .u8 s,.int .u8 t] 5)],fun _=>True,[],[]⟩,⟨fun y=>(slv ((y 10).g 0) ((i++[s,t]).length) ((y 10).c 0)),fun y=>[(((y 10).g 0),blk ((y 10).cl 0) 5)],fun y=>(Row 1 ((y 10).g 0) ((i++[s,t]).length) ((y 10).c 0) ((y 10).cl 0) (al eB (i++[s,t]))),[12],[9]⟩,tv (fun y=>(slv ((y 10).g 0) ((i++[s,t]).length) ((y 10).c 0)))] (fun y=>[(3,uM G d H),(4,uM J f K),(6,slv ((y 10).g 0) ((i++[s,t]).length) ((y 10).c 0)),(25,iv (d.length:Int)),(26,iv L)]) (fun y=>[(some (y 9).b,blk [.int .u8 s,.int .u8 t] 5),(((y 10).g 0),blk ((y 10).cl 0) 5)]) I (by kernel_rfl) (fun y=>⟨(by kernel_rfl),(by kernel_rfl)⟩) (fun y=>?_) ?_
   ·
    refine tt rfl (by kernel_rfl) (tt rfl (by kernel_rfl) (tt rfl (by kernel_rfl) (tl0 rfl (fun X w I=>cn (L).toNat mg zs5 rfl cN rfl (Int.toNat_of_nonneg bM).symm (fa bN rfl) br) (tl0 rfl (fun X w I=>dj I (.int .u8 s) zi5 rfl cO (by simp) (cP 0 _ rfl) br) (tt rfl (by kernel_rfl) (tt rfl (by kernel_rfl) (tl0 rfl (fun X w I=>cn (L).toNat mg zs5 rfl cS rfl (Int.toNat_of_nonneg bM).symm (fa bO rfl) br) (tl0 rfl (fun X w I=>dj I (.int .u8 t) zi5 rfl cT (by simp) (cU 0 _ rfl) br) (tg (.slice (some ⟨(y 9).b,0,none⟩) 2 2) [] [] rfl ⟨(by kernel_rfl),(by kernel_rfl),(by kernel_rfl)⟩ ?_ ?_)))))))))
    ·intro hp X w I
     refine fu I [.int .u8 s,.int .u8 t] 5 (fun b=>slv (some b) 2 2) (by kernel_rfl) fun bP w I=>⟨wit bP [] [] [] [],(by kernel_rfl),trivial,I.castL (by kernel_rfl)⟩
    refine tg (slv ((y 10).g 0) ((i++[s,t]).length) ((y 10).c 0)) [(V,blk aN 5),(some (y 9).b,blk [.int .u8 s,.int .u8 t] 5)] [(some (y 9).b,blk [.int .u8 s,.int .u8 t] 5)] rfl ⟨(by kernel_rfl),(by kernel_rfl),(by kernel_rfl)⟩ ?_ ?_
    ·intro hp X w I
     refine ks I mg (z:=.int .u8 0) (k:=1) (bytes:=1) (by kernel_rfl) rfl rfl 0 rfl rfl bL [.int .u8 s,.int .u8 t] rfl rfl (I.cells 1 (off:=0) rfl (fun j u h=>by rw [Nat.zero_add]; exact h)) (by simp [Value.oneCell']) (by omega) (by omega) (n2:=(i++[s,t]).length) (kr rfl rfl) ?_
     intro aO aP aQ w I aF
     have aF:Row 1 aO ((i++[s,t]).length) aP aQ (al eB (i++[s,t])):=aF.more
     exact ⟨wit 0 [aO] [aP] [aQ] [],(by kernel_rfl),Eq.mp (by kernel_rfl) aF,I.castL (by kernel_rfl)⟩
    refine tpv (slv ((y 10).g 0) ((i++[s,t]).length) ((y 10).c 0)) rfl ⟨(by kernel_rfl),fun _=>(by kernel_rfl)⟩ (tn)
   intro y hp ρ w hag I
   have aF:Row 1 ((y 10).g 0) ((i++[s,t]).length) ((y 10).c 0) ((y 10).cl 0) (al eB (i++[s,t])):=pgl hp (k:=10) (by decide) (by kernel_rfl)
   clear hp
   generalize (y 9).b=bP at *
   generalize (y 10).g 0=aO at *
   generalize (y 10).c 0=aP at *
   generalize (y 10).cl 0=aQ at *
   obtain ⟨ρ,rfl⟩:=hag.form
   refine rgn (by kernel_rfl) (ckE F (fun cV F=>xa rfl cV (pu (iv (L+1)) (by kernel_rfl) (aa (⟨rfl,m4,Nat.lt_succ_self _,⟨aO,aP,aQ,i++[s,t],L+1,m4,(uK rfl),I.pk [1] rfl,(aF.to rfl rfl),F,rfl⟩⟩)))))
  refine ph (s_eqnil mg rfl rfl (fun _=>?_) (fun h=>absurd (isN_t hzp0_1 bE) (by obtain ⟨a,ha⟩:=h; rw [ha]; simp)))
  refine aa (ah rfl (rgn (by kernel_rfl) (pu2 (uM R Q S) (uM G d H) (by kernel_rfl) (bt F (fun T cW F=>ph (co 149 _ (by kernel_rfl) (L149 _ R S Q G H d (b9.inv0 I) bA bB (b7.inv0 I) cH cI N _ cW) ?_))))))
  rintro v w ⟨bQ,bR,cX,rfl,hN,cY⟩
  have I:=I.join hN; clear hN
  refine pu (uN bQ T bR) (by kernel_rfl) (aa (uL (by kernel_rfl) (pu uD (by kernel_rfl) (aa (ab (uL (by kernel_rfl) (pu3 (uM G d H) (iv ((d.length:Nat):Int)) (iv 0) (by kernel_rfl) (aa (au ?_)))))))))
  have I:=I.nilRow 5
  refine cb (fun m ρ w=>∃ (aR a2 a3 W aG aS:_) (o:List Int) (M mm:_),cd ρ [(3,uM G d H),(4,uN aR T a2),(6,uN W o aG),(25,iv (d.length:Int)),(26,iv M)]∧Inv [] w0 w [(aR,blk a3 5),(W,blk aS 5)]∧(Row 1 aR (T.length) a2 a3 (al eB T))∧(Row 1 W (o.length) aG aS (al eB o))∧F93l3 d T mm o M=some r∧mm=m) (m:=N) ⟨bQ,bR,cX,none,0,[],[],0,N,(uK rfl),I.pk [1,0] rfl,(cY.to rfl rfl),(Row.nil_ 1),F,rfl⟩ ?_
  rintro m ρ w ⟨aR,a2,a3,W,aG,aS,o,M,mm,hag,I,bS,bU,F,hm⟩
  subst hm; obtain ⟨ρ,rfl⟩:=hag.form
  obtain _ | m3:=mm
  ·cases (show (none:Option Str)=some r from F)
  replace F:F93b3 d T (F93l3 d T m3) o M=some r:=F; unfold F93b3 at F
  refine uL (by kernel_rfl) (ifN F (fun bH F=>?_) (fun bH F=>?_))
  ·
   refine xl rfl (uP bH) (fun _=>aa (ab (ai rfl (bw (uL (by kernel_rfl) (pu (uN W o aG) (by kernel_rfl) (ph (fx (l:=o) mg zu5 zu9 rfl rfl (I.rowCells 1 rfl bU) (pu (uE (bl o)) (by kernel_rfl) (aa (aj ?_)))))))))))
   cases F
   exact uJ I rfl
  refine xl rfl (fun _=>?_) (uO bH)
  refine aa (ab (ah rfl (ak (ab (au (uL (by kernel_rfl) (pu2 (iv M) (iv M) (by kernel_rfl) (aa (gdE F (fun bV F=>bt F (fun x bW F=>bt F (fun A bX F=>gdE F (fun dL F=>?_)))))))))))))
  obtain ⟨a4,rfl,cZ⟩:=bS.at_ ew (by decide) bX
  obtain ⟨d0,d1,d2,d3,d4⟩:=b7.at_ ew (by decide) bW
  refine kx [tv (fun _=>(uN W o aG)),tv (fun _=>(uM G d H)),tv (fun _=>(iv M)),tr (fun _=>(uF d0 (d1+(M).toNat * 1))) [],tr (fun _=>(.int .u8 x)) [],tv (fun _=>(uN (some a4) T a2)),tv (fun _=>(iv M)),tr (fun _=>(uF a4 ((M).toNat * 1))) [],tr (fun _=>(.int .u8 A)) [12],⟨fun y=>(.slice (some ⟨(y 9).b,0,none⟩) 2 2),fun y=>[(some (y 9).b,blk [.int .u8 x,.int .u8 A] 5)],fun _=>True,[],[]⟩,⟨fun y=>(slv ((y 10).g 0) ((o++[x,A]).length) ((y 10).c 0)),fun y=>[(((y 10).g 0),blk ((y 10).cl 0) 5)],fun y=>(Row 1 ((y 10).g 0) ((o++[x,A]).length) ((y 10).c 0) ((y 10).cl 0) (al eB (o++[x,A]))),[13],[9]⟩,tv (fun y=>(slv ((y 10).g 0) ((o++[x,A]).length) ((y 10).c 0)))] (fun y=>[(3,uM G d H),(4,uN (some a4) T a2),(6,slv ((y 10).g 0) ((o++[x,A]).length) ((y 10).c 0)),(25,iv (d.length:Int)),(26,iv M)]) (fun y=>[(some (y 9).b,blk [.int .u8 x,.int .u8 A] 5),(((y 10).g 0),blk ((y 10).cl 0) 5),(some a4,blk a3 5)]) I (by kernel_rfl) (fun y=>⟨(by kernel_rfl),(by kernel_rfl)⟩) (fun y=>?_) ?_
  ·
   refine tt rfl (by kernel_rfl) (tt rfl (by kernel_rfl) (tt rfl (by kernel_rfl) (tl0 rfl (fun X w I=>cn (M).toNat mg zs5 rfl d2 rfl (Int.toNat_of_nonneg bV).symm (fa bW rfl) br) (tl0 rfl (fun X w I=>dj I (.int .u8 x) zi5 rfl d3 (by simp) (d4 0 _ rfl) br) (tt rfl (by kernel_rfl) (tt rfl (by kernel_rfl) (tl0 rfl (fun X w I=>be (M).toNat mg zs5 rfl rfl (Int.toNat_of_nonneg bV).symm (fa bX rfl) br) (tl1 [(some a4,blk a3 5)] rfl (by kernel_rfl) (fun X w I=>db I 0 (.int .u8 A) zi5 rfl rfl (cZ 0 _ rfl) br) (tg (.slice (some ⟨(y 9).b,0,none⟩) 2 2) [] [] rfl ⟨(by kernel_rfl),(by kernel_rfl),(by kernel_rfl)⟩ ?_ ?_)))))))))
   ·intro hp X w I
    refine fu I [.int .u8 x,.int .u8 A] 5 (fun b=>slv (some b) 2 2) (by kernel_rfl) fun bY w I=>⟨wit bY [] [] [] [],(by kernel_rfl),trivial,I.castL (by kernel_rfl)⟩
   refine tg (slv ((y 10).g 0) ((o++[x,A]).length) ((y 10).c 0)) [(W,blk aS 5),(some (y 9).b,blk [.int .u8 x,.int .u8 A] 5)] [(some (y 9).b,blk [.int .u8 x,.int .u8 A] 5)] rfl ⟨(by kernel_rfl),(by kernel_rfl),(by kernel_rfl)⟩ ?_ ?_
   ·intro hp X w I
    refine ks I mg (z:=.int .u8 0) (k:=1) (bytes:=1) (by kernel_rfl) rfl rfl 0 rfl rfl bU [.int .u8 x,.int .u8 A] rfl rfl (I.cells 1 (off:=0) rfl (fun j u h=>by rw [Nat.zero_add]; exact h)) (by simp [Value.oneCell']) (by omega) (by omega) (n2:=(o++[x,A]).length) (kr rfl rfl) ?_
    intro aT aU aV w I aH
    have aH:Row 1 aT ((o++[x,A]).length) aU aV (al eB (o++[x,A])):=aH.more
    exact ⟨wit 0 [aT] [aU] [aV] [],(by kernel_rfl),Eq.mp (by kernel_rfl) aH,I.castL (by kernel_rfl)⟩
   refine tpv (slv ((y 10).g 0) ((o++[x,A]).length) ((y 10).c 0)) rfl ⟨(by kernel_rfl),fun _=>(by kernel_rfl)⟩ (tn)
  intro y hp ρ w hag I
  have aH:Row 1 ((y 10).g 0) ((o++[x,A]).length) ((y 10).c 0) ((y 10).cl 0) (al eB (o++[x,A])):=pgl hp (k:=10) (by decide) (by kernel_rfl)
  clear hp
  generalize (y 9).b=bY at *
  generalize (y 10).g 0=aT at *
  generalize (y 10).c 0=aU at *
  generalize (y 10).cl 0=aV at *
  obtain ⟨ρ,rfl⟩:=hag.form
  refine rgn (by kernel_rfl) (ckE F (fun d5 F=>xa rfl d5 (pu (iv (M+1)) (by kernel_rfl) (aa (⟨rfl,m3,Nat.lt_succ_self _,⟨some a4,a2,a3,aT,aU,aV,o++[x,A],M+1,m3,(uK rfl),I.pk [2,1] rfl,(bS.to rfl rfl),(aH.to rfl rfl),F,rfl⟩⟩)))))
 refine ph (s_eqnil mg rfl rfl (fun _=>?_) (fun h=>absurd (isN_t hzp0_0 bD) (by obtain ⟨a,ha⟩:=h; rw [ha]; simp)))
 refine aa (ah rfl (rgn (by kernel_rfl) (pu2 (uM R Q S) (uM J f K) (by kernel_rfl) (bt F (fun e d6 F=>ph (co 149 _ (by kernel_rfl) (L149 _ R S Q J K f (b9.inv0 I) bA bB (b8.inv0 I) cJ cK N _ d6) ?_))))))
 rintro v w ⟨Y,Z,bZ,rfl,hN,aI⟩
 have I:=I.join hN; clear hN
 refine pu (uN Y e Z) (by kernel_rfl) (aa (ab (uL (by kernel_rfl) (pu (uM J f K) (by kernel_rfl) (ifN F (fun bI F=>?_) (fun bI F=>?_))))))
 ·
  refine ph (s_eqnil mg rfl rfl (fun h=>absurd h (isN_f hzp0_1 bI)) (fun _=>aa (ai rfl (ak (uL (by kernel_rfl) (pu uD (by kernel_rfl) (aa (ab (uL (by kernel_rfl) (pu3 (uN Y e Z) (iv ((e.length:Nat):Int)) (iv 0) (by kernel_rfl) (aa (au ?_))))))))))))
  have I:=I.nilRow 5
  refine cb (fun m ρ w=>∃ (aW a5 a6 a0 aJ aX:_) (p:List Int) (O mm:_),cd ρ [(3,uN aW e a5),(4,uM J f K),(6,uN a0 p aJ),(25,iv (e.length:Int)),(26,iv O)]∧Inv [] w0 w [(aW,blk a6 5),(a0,blk aX 5)]∧(Row 1 aW (e.length) a5 a6 (al eB e))∧(Row 1 a0 (p.length) aJ aX (al eB p))∧F93l2 f e mm p O=some r∧mm=m) (m:=N) ⟨Y,Z,bZ,none,0,[],[],0,N,(uK rfl),I.pk [1,0] rfl,(aI.to rfl rfl),(Row.nil_ 1),F,rfl⟩ ?_
  rintro m ρ w ⟨aW,a5,a6,a0,aJ,aX,p,O,mm,hag,I,c0,c1,F,hm⟩
  subst hm; obtain ⟨ρ,rfl⟩:=hag.form
  obtain _ | m2:=mm
  ·cases (show (none:Option Str)=some r from F)
  replace F:F93b2 f e (F93l2 f e m2) p O=some r:=F; unfold F93b2 at F
  refine uL (by kernel_rfl) (ifN F (fun bJ F=>?_) (fun bJ F=>?_))
  ·
   refine xl rfl (uP bJ) (fun _=>aa (ab (ai rfl (bw (uL (by kernel_rfl) (pu (uN a0 p aJ) (by kernel_rfl) (ph (fx (l:=p) mg zu5 zu9 rfl rfl (I.rowCells 1 rfl c1) (pu (uE (bl p)) (by kernel_rfl) (aa (aj ?_)))))))))))
   cases F
   exact uJ I rfl
  refine xl rfl (fun _=>?_) (uO bJ)
  refine aa (ab (ah rfl (ak (ab (au (uL (by kernel_rfl) (pu2 (iv O) (iv O) (by kernel_rfl) (aa (gdE F (fun c2 F=>bt F (fun B c4 F=>bt F (fun C c5 F=>gdE F (fun dM F=>?_)))))))))))))
  obtain ⟨a7,rfl,d7⟩:=c0.at_ ew (by decide) c4
  obtain ⟨d8,d9,dA,dB,dC⟩:=b8.at_ ew (by decide) c5
  refine kx [tv (fun _=>(uN a0 p aJ)),tv (fun _=>(uN (some a7) e a5)),tv (fun _=>(iv O)),tr (fun _=>(uF a7 ((O).toNat * 1))) [],tr (fun _=>(.int .u8 B)) [12],tv (fun _=>(uM J f K)),tv (fun _=>(iv O)),tr (fun _=>(uF d8 (d9+(O).toNat * 1))) [],tr (fun _=>(.int .u8 C)) [],⟨fun y=>(.slice (some ⟨(y 9).b,0,none⟩) 2 2),fun y=>[(some (y 9).b,blk [.int .u8 B,.int .u8 C] 5)],fun _=>True,[],[]⟩,⟨fun y=>(slv ((y 10).g 0) ((p++[B,C]).length) ((y 10).c 0)),fun y=>[(((y 10).g 0),blk ((y 10).cl 0) 5)],fun y=>(Row 1 ((y 10).g 0) ((p++[B,C]).length) ((y 10).c 0) ((y 10).cl 0) (al eB (p++[B,C]))),[13],[9]⟩,tv (fun y=>(slv ((y 10).g 0) ((p++[B,C]).length) ((y 10).c 0)))] (fun y=>[(3,uN (some a7) e a5),(4,uM J f K),(6,slv ((y 10).g 0) ((p++[B,C]).length) ((y 10).c 0)),(25,iv (e.length:Int)),(26,iv O)]) (fun y=>[(some (y 9).b,blk [.int .u8 B,.int .u8 C] 5),(((y 10).g 0),blk ((y 10).cl 0) 5),(some a7,blk a6 5)]) I (by kernel_rfl) (fun y=>⟨(by kernel_rfl),(by kernel_rfl)⟩) (fun y=>?_) ?_
  ·
   refine tt rfl (by kernel_rfl) (tt rfl (by kernel_rfl) (tt rfl (by kernel_rfl) (tl0 rfl (fun X w I=>be (O).toNat mg zs5 rfl rfl (Int.toNat_of_nonneg c2).symm (fa c4 rfl) br) (tl1 [(some a7,blk a6 5)] rfl (by kernel_rfl) (fun X w I=>db I 0 (.int .u8 B) zi5 rfl rfl (d7 0 _ rfl) br) (tt rfl (by kernel_rfl) (tt rfl (by kernel_rfl) (tl0 rfl (fun X w I=>cn (O).toNat mg zs5 rfl dA rfl (Int.toNat_of_nonneg c2).symm (fa c5 rfl) br) (tl0 rfl (fun X w I=>dj I (.int .u8 C) zi5 rfl dB (by simp) (dC 0 _ rfl) br) (tg (.slice (some ⟨(y 9).b,0,none⟩) 2 2) [] [] rfl ⟨(by kernel_rfl),(by kernel_rfl),(by kernel_rfl)⟩ ?_ ?_)))))))))
   ·intro hp X w I
    refine fu I [.int .u8 B,.int .u8 C] 5 (fun b=>slv (some b) 2 2) (by kernel_rfl) fun c6 w I=>⟨wit c6 [] [] [] [],(by kernel_rfl),trivial,I.castL (by kernel_rfl)⟩
   refine tg (slv ((y 10).g 0) ((p++[B,C]).length) ((y 10).c 0)) [(a0,blk aX 5),(some (y 9).b,blk [.int .u8 B,.int .u8 C] 5)] [(some (y 9).b,blk [.int .u8 B,.int .u8 C] 5)] rfl ⟨(by kernel_rfl),(by kernel_rfl),(by kernel_rfl)⟩ ?_ ?_
   ·intro hp X w I
    refine ks I mg (z:=.int .u8 0) (k:=1) (bytes:=1) (by kernel_rfl) rfl rfl 0 rfl rfl c1 [.int .u8 B,.int .u8 C] rfl rfl (I.cells 1 (off:=0) rfl (fun j u h=>by rw [Nat.zero_add]; exact h)) (by simp [Value.oneCell']) (by omega) (by omega) (n2:=(p++[B,C]).length) (kr rfl rfl) ?_
    intro aY aZ b0 w I aK
    have aK:Row 1 aY ((p++[B,C]).length) aZ b0 (al eB (p++[B,C])):=aK.more
    exact ⟨wit 0 [aY] [aZ] [b0] [],(by kernel_rfl),Eq.mp (by kernel_rfl) aK,I.castL (by kernel_rfl)⟩
   refine tpv (slv ((y 10).g 0) ((p++[B,C]).length) ((y 10).c 0)) rfl ⟨(by kernel_rfl),fun _=>(by kernel_rfl)⟩ (tn)
  intro y hp ρ w hag I
  have aK:Row 1 ((y 10).g 0) ((p++[B,C]).length) ((y 10).c 0) ((y 10).cl 0) (al eB (p++[B,C])):=pgl hp (k:=10) (by decide) (by kernel_rfl)
  clear hp
  generalize (y 9).b=c6 at *
  generalize (y 10).g 0=aY at *
  generalize (y 10).c 0=aZ at *
  generalize (y 10).cl 0=b0 at *
  obtain ⟨ρ,rfl⟩:=hag.form
  refine rgn (by kernel_rfl) (ckE F (fun dD F=>xa rfl dD (pu (iv (O+1)) (by kernel_rfl) (aa (⟨rfl,m2,Nat.lt_succ_self _,⟨some a7,a5,a6,aY,aZ,b0,p++[B,C],O+1,m2,(uK rfl),I.pk [2,1] rfl,(c0.to rfl rfl),(aK.to rfl rfl),F,rfl⟩⟩)))))
 refine ph (s_eqnil mg rfl rfl (fun _=>?_) (fun h=>absurd (isN_t hzp0_1 bI) (by obtain ⟨a,ha⟩:=h; rw [ha]; simp)))
 refine aa (ah rfl (rgn (by kernel_rfl) (pu2 (uM R Q S) (uN Y e Z) (by kernel_rfl) (bt F (fun U dE F=>ph (co 149 _ (by kernel_rfl) (L149 _ R S Q (uG Y) Z e (b9.inv0 I) bA bB (I.rowCells 0 rfl aI) (am rfl aI.big) (am rfl aI.cap) N _ dE) ?_))))))
 rintro v w ⟨c7,c8,dF,rfl,hN,dG⟩
 have I:=I.join hN; clear hN
 refine pu (uN c7 U c8) (by kernel_rfl) (aa (uL (by kernel_rfl) (pu uD (by kernel_rfl) (aa (ab (uL (by kernel_rfl) (pu3 (uN Y e Z) (iv ((e.length:Nat):Int)) (iv 0) (by kernel_rfl) (aa (au ?_)))))))))
 have I:=I.nilRow 5
 refine cb (fun m ρ w=>∃ (b1 a8 a9 b2 aA aB a1 aL b3:_) (q:List Int) (P mm:_),cd ρ [(3,uN b1 e a8),(4,uN b2 U aA),(6,uN a1 q aL),(25,iv (e.length:Int)),(26,iv P)]∧Inv [] w0 w [(b1,blk a9 5),(b2,blk aB 5),(a1,blk b3 5)]∧(Row 1 b1 (e.length) a8 a9 (al eB e))∧(Row 1 b2 (U.length) aA aB (al eB U))∧(Row 1 a1 (q.length) aL b3 (al eB q))∧F93l1 e U mm q P=some r∧mm=m) (m:=N) ⟨Y,Z,bZ,c7,c8,dF,none,0,[],[],0,N,(uK rfl),I.pk [2,1,0] rfl,(aI.to rfl rfl),(dG.to rfl rfl),(Row.nil_ 1),F,rfl⟩ ?_
 rintro m ρ w ⟨b1,a8,a9,b2,aA,aB,a1,aL,b3,q,P,mm,hag,I,cA,cB,cC,F,hm⟩
 subst hm; obtain ⟨ρ,rfl⟩:=hag.form
 obtain _ | m1:=mm
 ·cases (show (none:Option Str)=some r from F)
 replace F:F93b1 e U (F93l1 e U m1) q P=some r:=F; unfold F93b1 at F
 refine uL (by kernel_rfl) (ifN F (fun bK F=>?_) (fun bK F=>?_))
 ·
  refine xl rfl (uP bK) (fun _=>aa (ab (ai rfl (bw (uL (by kernel_rfl) (pu (uN a1 q aL) (by kernel_rfl) (ph (fx (l:=q) mg zu5 zu9 rfl rfl (I.rowCells 2 rfl cC) (pu (uE (bl q)) (by kernel_rfl) (aa (aj ?_)))))))))))
  cases F
  exact uJ I rfl
 refine xl rfl (fun _=>?_) (uO bK)
 refine aa (ab (ah rfl (ak (ab (au (uL (by kernel_rfl) (pu2 (iv P) (iv P) (by kernel_rfl) (aa (gdE F (fun cD F=>bt F (fun D cE F=>bt F (fun E cF F=>gdE F (fun dN F=>?_)))))))))))))
 obtain ⟨aC,rfl,dH⟩:=cA.at_ ew (by decide) cE
 obtain ⟨aD,rfl,dI⟩:=cB.at_ ew (by decide) cF
 refine kx [tv (fun _=>(uN a1 q aL)),tv (fun _=>(uN (some aC) e a8)),tv (fun _=>(iv P)),tr (fun _=>(uF aC ((P).toNat * 1))) [],tr (fun _=>(.int .u8 D)) [12],tv (fun _=>(uN (some aD) U aA)),tv (fun _=>(iv P)),tr (fun _=>(uF aD ((P).toNat * 1))) [],tr (fun _=>(.int .u8 E)) [13],⟨fun y=>(.slice (some ⟨(y 9).b,0,none⟩) 2 2),fun y=>[(some (y 9).b,blk [.int .u8 D,.int .u8 E] 5)],fun _=>True,[],[]⟩,⟨fun y=>(slv ((y 10).g 0) ((q++[D,E]).length) ((y 10).c 0)),fun y=>[(((y 10).g 0),blk ((y 10).cl 0) 5)],fun y=>(Row 1 ((y 10).g 0) ((q++[D,E]).length) ((y 10).c 0) ((y 10).cl 0) (al eB (q++[D,E]))),[14],[9]⟩,tv (fun y=>(slv ((y 10).g 0) ((q++[D,E]).length) ((y 10).c 0)))] (fun y=>[(3,uN (some aC) e a8),(4,uN (some aD) U aA),(6,slv ((y 10).g 0) ((q++[D,E]).length) ((y 10).c 0)),(25,iv (e.length:Int)),(26,iv P)]) (fun y=>[(some (y 9).b,blk [.int .u8 D,.int .u8 E] 5),(((y 10).g 0),blk ((y 10).cl 0) 5),(some aC,blk a9 5),(some aD,blk aB 5)]) I (by kernel_rfl) (fun y=>⟨(by kernel_rfl),(by kernel_rfl)⟩) (fun y=>?_) ?_
 ·
  refine tt rfl (by kernel_rfl) (tt rfl (by kernel_rfl) (tt rfl (by kernel_rfl) (tl0 rfl (fun X w I=>be (P).toNat mg zs5 rfl rfl (Int.toNat_of_nonneg cD).symm (fa cE rfl) br) (tl1 [(some aC,blk a9 5)] rfl (by kernel_rfl) (fun X w I=>db I 0 (.int .u8 D) zi5 rfl rfl (dH 0 _ rfl) br) (tt rfl (by kernel_rfl) (tt rfl (by kernel_rfl) (tl0 rfl (fun X w I=>be (P).toNat mg zs5 rfl rfl (Int.toNat_of_nonneg cD).symm (fa cF rfl) br) (tl1 [(some aD,blk aB 5)] rfl (by kernel_rfl) (fun X w I=>db I 0 (.int .u8 E) zi5 rfl rfl (dI 0 _ rfl) br) (tg (.slice (some ⟨(y 9).b,0,none⟩) 2 2) [] [] rfl ⟨(by kernel_rfl),(by kernel_rfl),(by kernel_rfl)⟩ ?_ ?_)))))))))
  ·intro hp X w I
   refine fu I [.int .u8 D,.int .u8 E] 5 (fun b=>slv (some b) 2 2) (by kernel_rfl) fun cG w I=>⟨wit cG [] [] [] [],(by kernel_rfl),trivial,I.castL (by kernel_rfl)⟩
  refine tg (slv ((y 10).g 0) ((q++[D,E]).length) ((y 10).c 0)) [(a1,blk b3 5),(some (y 9).b,blk [.int .u8 D,.int .u8 E] 5)] [(some (y 9).b,blk [.int .u8 D,.int .u8 E] 5)] rfl ⟨(by kernel_rfl),(by kernel_rfl),(by kernel_rfl)⟩ ?_ ?_
  ·intro hp X w I
   refine ks I mg (z:=.int .u8 0) (k:=1) (bytes:=1) (by kernel_rfl) rfl rfl 0 rfl rfl cC [.int .u8 D,.int .u8 E] rfl rfl (I.cells 1 (off:=0) rfl (fun j u h=>by rw [Nat.zero_add]; exact h)) (by simp [Value.oneCell']) (by omega) (by omega) (n2:=(q++[D,E]).length) (kr rfl rfl) ?_
   intro b4 b5 b6 w I aM
   have aM:Row 1 b4 ((q++[D,E]).length) b5 b6 (al eB (q++[D,E])):=aM.more
   exact ⟨wit 0 [b4] [b5] [b6] [],(by kernel_rfl),Eq.mp (by kernel_rfl) aM,I.castL (by kernel_rfl)⟩
  refine tpv (slv ((y 10).g 0) ((q++[D,E]).length) ((y 10).c 0)) rfl ⟨(by kernel_rfl),fun _=>(by kernel_rfl)⟩ (tn)
 intro y hp ρ w hag I
 have aM:Row 1 ((y 10).g 0) ((q++[D,E]).length) ((y 10).c 0) ((y 10).cl 0) (al eB (q++[D,E])):=pgl hp (k:=10) (by decide) (by kernel_rfl)
 clear hp
 generalize (y 9).b=cG at *
 generalize (y 10).g 0=b4 at *
 generalize (y 10).c 0=b5 at *
 generalize (y 10).cl 0=b6 at *
 obtain ⟨ρ,rfl⟩:=hag.form
 refine rgn (by kernel_rfl) (ckE F (fun dJ F=>xa rfl dJ (pu (iv (P+1)) (by kernel_rfl) (aa (⟨rfl,m1,Nat.lt_succ_self _,⟨some aC,a8,a9,some aD,aA,aB,b4,b5,b6,q++[D,E],P+1,m1,(uK rfl),I.pk [2,3,1] rfl,(cA.to rfl rfl),(cB.to rfl rfl),(aM.to rfl rfl),F,rfl⟩⟩)))))
end Go.K
