import Derived.Test.YtcondbkhcjgemaaGreatDoorProg
import Derived.Test.YtcondbkhcjgemaaGreatDoorJKK1
import Derived.Test.YtcondbkhcjgemaaGreatDoorJKK3
import Derived.Test.YtcondbkhcjgemaaGreatDoorJKK2
import Derived.Test.YtcondbkhcjgemaaGreatDoorJD
import Derived.Test.YtcondbkhcjgemaaGreatDoorJHb
import Derived.Test.YtcondbkhcjgemaaGreatDoorJSb
import Derived.Test.YtcondbkhcjgemaaGreatDoorJDc
import Derived.Tactics2
namespace Go.K
open Go.Proofs.Tryz
open Go.Proofs Go.RowKit
set_option linter.unusedVariables false
set_option linter.unusedSimpArgs false
set_option maxRecDepth 100000
set_option linter.defProp false
abbrev qa {α:Type} (l:List α) (d:Int):Int:=if (l.length:Int) < (if 0 > d then 0 else d) then (l.length:Int) else (if 0 > d then 0 else d)
abbrev qd {α:Type} (l:List α) (d:Int):Nat:=(qa l d).toNat
abbrev qb {α:Type} (l:List α) (d:Int):List α:=(l.drop (qd l d)).take (l.length - (qd l d))
abbrev qc {α:Type} (l:List α) (d:Int):List α:=(l.drop 0).take (qd l d - 0)
abbrev qe:List Value:=[iv 0,.slice none 0 0,.slice none 0 0,.slice none 0 0,iv 0,iv 0,iv 0,.slice none 0 0,iv 0,iv 0,iv 0,iv 0,iv 0,iv 0,iv 0,iv 0,iv 0,iv 0,iv 0,iv 0,iv 0,iv 0,iv 0,iv 0,iv 0,iv 0,iv 0,iv 0,iv 0,iv 0,iv 0,iv 0,iv 0,iv 0,iv 0,iv 0,iv 0,iv 0,iv 0,iv 0,iv 0,iv 0,iv 0,iv 0]
abbrev qf {α β:Type} (a0:Int) (a1:Option Nat) (a2:List α) (a3:Nat) (a4:Option Nat) (a5:List α) (a6:Nat) (a7:Option Nat) (a8:List α) (a9:Nat) (a10 a11 a12:Int) (a13:Option Nat) (a14:List β) (a15:Nat) (a16 a17 a18 a19 a20 a21 a22 a23 a24 a25 a26 a27 a28 a29 a30 a31 a32 a33 a34 a35 a36 a37 a38 a39 a40 a41 a42 a43 a44 a45 a46 a47 a48 a49 a50 a51:Int):List Value:=[iv a0,slv a1 a2.length a3,slv a4 a5.length a6,slv a7 a8.length a9,iv a10,iv a11,iv a12,slv a13 a14.length a15,iv a16,iv a17,iv a18,iv a19,iv a20,iv a21,iv a22,iv a23,iv a24,iv a25,iv a26,iv a27,iv a28,iv a29,iv a30,iv a31,iv a32,iv a33,iv a34,iv a35,iv a36,iv a37,iv a38,iv a39,iv a40,iv a41,iv a42,iv a43,iv a44,iv a45,iv a46,iv a47,iv a48,iv a49,iv a50,iv a51]
abbrev qg (x:Rc):List Value:=[iv x.p,iv x.n,iv x.k,iv x.d,iv x.kn,iv x.op,iv x.on,.string (bts x.t)]
abbrev qh (x:Sp3):List Value:=[iv x.no,iv x.sz,.string (bts x.t)]
def zi117 := @Tryz.isAgg117
def zi148 := @Tryz.isAgg148
def zi149 := @Tryz.isAgg149
def zi168 := @Tryz.isAgg168
def zi169 := @Tryz.isAgg169
def zi179 := @Tryz.isAgg179
def zi180 := @Tryz.isAgg180
def zi23 := @Tryz.isAgg23
def mh := @Tryz.isAgg25
def zi26 := @Tryz.isAgg26
def zi3 := @Tryz.isAgg3
def me := @Tryz.isAgg35
def mq := @Tryz.isAgg38
def mv := @Tryz.isAgg45
def zi47 := @Tryz.isAgg47
def zi5 := @Tryz.isAgg5
def zi54 := @Tryz.isAgg54
def zi60 := @Tryz.isAgg60
def mt := @Tryz.isAgg63
def zi64 := @Tryz.isAgg64
def zi79 := @Tryz.isAgg79
def mu := @Tryz.isAgg81
def zi83 := @Tryz.isAgg83
def zi9 := @Tryz.isAgg9
def zs117 := @Tryz.sizeOf117
def mn := @Tryz.sizeOf148
def zs149 := @Tryz.sizeOf149
def zs168 := @Tryz.sizeOf168
def zs169 := @Tryz.sizeOf169
def zs179 := @Tryz.sizeOf179
def zs180 := @Tryz.sizeOf180
def zs23 := @Tryz.sizeOf23
def md := @Tryz.sizeOf25
def zs26 := @Tryz.sizeOf26
def zs3 := @Tryz.sizeOf3
def mc := @Tryz.sizeOf35
def mw := @Tryz.sizeOf38
def zs45 := @Tryz.sizeOf45
def zs47 := @Tryz.sizeOf47
def zs5 := @Tryz.sizeOf5
def mo := @Tryz.sizeOf54
def zs60 := @Tryz.sizeOf60
def mi := @Tryz.sizeOf63
def zs79 := @Tryz.sizeOf79
def ml := @Tryz.sizeOf81
def zs83 := @Tryz.sizeOf83
def zs9 := @Tryz.sizeOf9
def zu100 := @Tryz.underlying100
def zu115 := @Tryz.underlying115
def mg := @Tryz.underlying148
def zu149 := @Tryz.underlying149
def zu168 := @Tryz.underlying168
def zu169 := @Tryz.underlying169
def zu199 := @Tryz.underlying199
def zu202 := @Tryz.underlying202
def zu210 := @Tryz.underlying210
def zu23 := @Tryz.underlying23
def zu25 := @Tryz.underlying25
def zu3 := @Tryz.underlying3
def zu35 := @Tryz.underlying35
def mj := @Tryz.underlying38
def zu45 := @Tryz.underlying45
def zu5 := @Tryz.underlying5
def mf := @Tryz.underlying54
def zu60 := @Tryz.underlying60
def zu64 := @Tryz.underlying64
def mr := @Tryz.underlying79
def zu9 := @Tryz.underlying9
theorem eq23 (n:Nat) (x0 x1 y0 y1:Int) (w:World):(Op.equalIn (n+2) 23 (.agg #[iv x0,iv x1]) (.agg #[iv y0,iv y1])).run Tryz.prog w=.ok (decide (x0=y0) && decide (x1=y1)) w:=by
  have u3:=zu3; have a3:=zi3; have z3:=zs3
  have hS:Tryz.prog.underlying 23=some (.struct (Tryz.prog.fieldsOf 23)):=by kernel_rfl
  rw [show n+2=(n+1)+1 from rfl,run_equalIn_agg w (n+1) 23 _ _ hS (by kernel_rfl)]
  simp only [Program.fieldsOf,zu23]
  go_simp
  by_cases h0:x0=y0 <;> by_cases h1:x1=y1 <;> simp [h0,h1]
theorem eq25 (n:Nat) (x0:Int) (x1:Int) (x2:Int) (x3:Int) (x4:Int) (x5:Int) (x6:Int) (x7:Str) (y0:Int) (y1:Int) (y2:Int) (y3:Int) (y4:Int) (y5:Int) (y6:Int) (y7:Str) (w:World):(Op.equalIn (n+3) 25 (.agg #[iv x0,iv x1,iv x2,iv x3,iv x4,iv x5,iv x6,.string (bts x7)]) (.agg #[iv y0,iv y1,iv y2,iv y3,iv y4,iv y5,iv y6,.string (bts y7)])).run Tryz.prog w=.ok (decide (x0=y0) && decide (x1=y1) && decide (x2=y2) && decide (x3=y3) && decide (x4=y4) && decide (x5=y5) && decide (x6=y6) && decide (x7=y7)) w:=by
  have u3:=zu3; have a3:=zi3; have z3:=zs3; have u9:=zu9; have a9:=zi9; have z9:=zs9
  have a:=zi23; have b:=zs23
  have q23:=fun v0 v1 v2 v3 w=>eq23 (n+0) v0 v1 v2 v3 w
  have hS:Tryz.prog.underlying 25=some (.struct (Tryz.prog.fieldsOf 25)):=by kernel_rfl
  rw [show n+3=(n+2)+1 from rfl,run_equalIn_agg w (n+2) 25 _ _ hS (by kernel_rfl)]
  simp only [Program.fieldsOf,zu25]
  go_simp
  by_cases h0:x0=y0 <;> by_cases h1:x1=y1 <;> by_cases h2:x2=y2 <;> by_cases h3:x3=y3 <;> by_cases h4:x4=y4 <;> by_cases h5:x5=y5 <;> by_cases h6:x6=y6 <;> by_cases h7:x7=y7 <;> simp [h0,h1,h2,h3,h4,h5,h6,h7,q23,bts_list]
theorem eq35 (n:Nat) (x0:Int) (x1:Int) (x2:Str) (y0:Int) (y1:Int) (y2:Str) (w:World):(Op.equalIn (n+2) 35 (.agg #[iv x0,iv x1,.string (bts x2)]) (.agg #[iv y0,iv y1,.string (bts y2)])).run Tryz.prog w=.ok (decide (x0=y0) && decide (x1=y1) && decide (x2=y2)) w:=by
  have u3:=zu3; have a3:=zi3; have z3:=zs3; have u9:=zu9; have a9:=zi9; have z9:=zs9
  have hS:Tryz.prog.underlying 35=some (.struct (Tryz.prog.fieldsOf 35)):=by kernel_rfl
  rw [show n+2=(n+1)+1 from rfl,run_equalIn_agg w (n+1) 35 _ _ hS (by kernel_rfl)]
  simp only [Program.fieldsOf,zu35]
  go_simp
  by_cases h0:x0=y0 <;> by_cases h1:x1=y1 <;> by_cases h2:x2=y2 <;> simp [h0,h1,h2,bts_list]
attribute [local irreducible] Seq cw cx fl opX

theorem L76 (w0:World) (a:Int) (b:Int) (d:Int) (r:Bool) (F:F76 a b d=some r):bn Tryz.prog 76 [iv a,iv b,iv d] w0 fun v w=>v=.bool r∧Below w0.heap.size w0 w:=by
 refine az (n:=15) func76 rfl ntmps76 rfl ?_
 have I:=Inv.start w0
 unfold F76 at F
 refine ab (rgn (by kernel_rfl) (pu bF (by kernel_rfl) (aa (ab (rgn (by kernel_rfl) (pu2 (iv b) (iv a) (by kernel_rfl) (ifN F (fun h7 F=>?_) (fun h7 F=>?_))))))))
 ·
  refine ph (s_leq rfl rfl (fun h=>absurd h h7) (fun _=>pu bF (by kernel_rfl) (sf 3 (by kernel_rfl) (pu2 bF bF (by kernel_rfl) (aa (aj ?_))))))
  cases F
  exact ⟨_,Ret.r1 rfl rfl,⟨rfl,I.below⟩⟩


 refine ph (s_leq rfl rfl (fun _=>?_) (fun h=>absurd h7 h))
 refine pu bT (by kernel_rfl) (pup (iv a) (by kernel_rfl) (pup (iv d) (by kernel_rfl) (ifE F (fun h8 F=>?_) (fun h8 F=>?_))))
 ·
  refine aw (by kernel_rfl) (s_leq rfl rfl (fun _=>?_) (fun h=>absurd h8 h))
  refine pu2 bT bT (by kernel_rfl) (aa (aj ?_))
  cases F
  exact ⟨_,Ret.r1 rfl rfl,⟨rfl,I.below⟩⟩
 refine aw (by kernel_rfl) (s_leq rfl rfl (fun h=>absurd h h8) (fun _=>pu2 bF bF (by kernel_rfl) (aa (aj ?_))))
 cases F
 exact ⟨_,Ret.r1 rfl rfl,⟨rfl,I.below⟩⟩
theorem L126 (w0:World) (a:Int) (r:Bool) (F:F126 a=some r):bn Tryz.prog 126 [iv a] w0 fun v w=>v=.bool r∧Below w0.heap.size w0 w:=by
 refine az (n:=5) func126 rfl ntmps126 rfl ?_
 have I:=Inv.start w0
 unfold F126 at F
 refine ab (rgn (by kernel_rfl) (pu bF (by kernel_rfl) (aa (ab (rgn (by kernel_rfl) (pu (iv a) (by kernel_rfl) (bt F (fun y7 hy8 F=>ph (bg I 76 _ _ (by kernel_rfl) (L76 _ a 0 5 _ hy8) fun w I=>pu (.bool y7) (by kernel_rfl) (aa (aj ?_)))))))))))
 cases F
 exact ⟨_,Ret.r1 rfl rfl,⟨rfl,I.below⟩⟩


theorem L75 (w0:World) (a:It) (r:Bool) (F:F75 a=some r):bn Tryz.prog 75 [.agg #[iv a.p,iv a.n]] w0 fun v w=>v=.bool r∧Below w0.heap.size w0 w:=by
 refine az (n:=11) func75 rfl ntmps75 rfl ?_
 have I:=Inv.start w0
 unfold F75 at F
 refine ab (rgn (by kernel_rfl) (ph (ca I _ rfl fun b w I=>pu bF (by kernel_rfl) (aa (ab (rgn (by kernel_rfl) (pu (pt b) (by kernel_rfl) (ph (ag I 0 (iv a.p) zi3 rfl rfl rfl (bt F (fun g d F=>ifN F (fun h4 F=>?_) (fun h4 F=>?_))))))))))))
 ·
  refine ph (bg I 126 _ _ (by kernel_rfl) (bn.mono (L126 _ a.p _ d) (fun v' w' h=>⟨h.1.trans (congrArg Value.bool (Bool.eq_false_iff.2 h4)),h.2⟩)) fun w I=>pu bF (by kernel_rfl) (sf 3 (by kernel_rfl) (pu2 bF bF (by kernel_rfl) (aa (aj ?_)))))
  cases F
  exact ⟨_,Ret.r1 rfl rfl,⟨rfl,I.below⟩⟩


 refine ph (bg I 126 _ _ (by kernel_rfl) (bn.mono (L126 _ a.p _ d) (fun v' w' h=>⟨h.1.trans (congrArg Value.bool h4),h.2⟩)) fun w I=>pu bT (by kernel_rfl) (pup (.pointer (some ⟨b,1,none⟩)) (by kernel_rfl) (aw (by kernel_rfl) (ag I 0 (iv a.n) zi3 rfl rfl rfl (bt F (fun e f F=>aw (by kernel_rfl) (bg I 76 _ _ (by kernel_rfl) (L76 _ a.n 0 9999 _ f) fun w I=>pu2 (.bool e) (.bool e) (by kernel_rfl) (aa (aj ?_)))))))))
 cases F
 exact ⟨_,Ret.r1 rfl rfl,⟨rfl,I.below⟩⟩
theorem L77 (w0:World) (a:Int) (r:Bool) (F:F77 a=some r):bn Tryz.prog 77 [iv a] w0 fun v w=>v=.bool r∧Below w0.heap.size w0 w:=by
 refine az (n:=5) func77 rfl ntmps77 rfl ?_
 have I:=Inv.start w0
 unfold F77 at F
 refine ab (rgn (by kernel_rfl) (pu bF (by kernel_rfl) (aa (ab (rgn (by kernel_rfl) (pu (iv a) (by kernel_rfl) (bt F (fun y7 hy8 F=>ph (bg I 76 _ _ (by kernel_rfl) (L76 _ a 0 4166 _ hy8) fun w I=>pu (.bool y7) (by kernel_rfl) (aa (aj ?_)))))))))))
 cases F
 exact ⟨_,Ret.r1 rfl rfl,⟨rfl,I.below⟩⟩


theorem L78 (w0:World) (b:Bool) (a:Int) (r:Int) (F:F78 b a=some r):bn Tryz.prog 78 [.bool b,iv a] w0 fun v w=>v=iv r∧Below w0.heap.size w0 w:=by
 refine az (n:=7) func78 rfl ntmps78 rfl ?_
 have I:=Inv.start w0
 unfold F78 at F
 refine ab (rgn (by kernel_rfl) (pu (iv 0) (by kernel_rfl) (aa (ab (ab ?_)))))
 have hG:=F; rcases Bool.eq_false_or_eq_true b with rfl | rfl
 ·
  have F:=hG; clear hG
  refine ifE F (fun _ F=>?_) (fun h=>absurd rfl h)
  refine rgn (by kernel_rfl) (pu bT (by kernel_rfl) (aa (ah rfl (ab (rgn (by kernel_rfl) (pu (iv 0) (by kernel_rfl) (aa (aj ?_))))))))
  cases F
  exact ⟨_,Ret.r1 rfl rfl,⟨rfl,I.below⟩⟩
 have F:=hG; clear hG
 refine ifE F (fun h=>absurd h (by decide)) (fun _ F=>rgn (by kernel_rfl) (pu bF (by kernel_rfl) (aa (ai rfl (ak (ab (rgn (by kernel_rfl) (pu2 (iv a) (iv a) (by kernel_rfl) (aa (aj ?_))))))))))
 cases F
 exact ⟨_,Ret.r1 rfl rfl,⟨rfl,I.below⟩⟩


theorem L145 (w0:World) (a:Str) (N:Nat) (r:Bool) (F:F145 N a=some r):bn Tryz.prog 145 [.string (bts a)] w0 fun v w=>v=.bool r∧Below w0.heap.size w0 w:=by
 refine az (n:=19) func145 rfl ntmps145 rfl ?_
 have I:=Inv.start w0
 unfold F145 at F
 refine ab (rgn (by kernel_rfl) (pu bF (by kernel_rfl) (aa (ab (ab (rgn (by kernel_rfl) (pu (.string (bts a)) (by kernel_rfl) (ph (s_convSB I zu9 mg zu5 rfl fun i k l fr81 w I hcl82=>pu2 (iv ((a.length:Nat):Int)) (iv 0) (by kernel_rfl) (aa (au (cb (fun m ρ w=>∃ (b:Int) (mm:Nat),cd ρ [(6,.slice (some ⟨i,0,none⟩) a.length k),(7,iv (a.length:Int)),(8,iv b)]∧Inv [] w0 w [(some i,.cells l.toArray 5 fr81)]∧F145l1 a mm b=some r∧mm=m) (m:=N) ⟨0,N,⟨rfl,rfl,rfl,trivial⟩,I.pk [0] rfl rfl,F,rfl⟩ ?_))))))))))))
 rintro m ρ w ⟨b,mm,hag,I,F,hm⟩
 subst hm; obtain ⟨ρ,rfl⟩:=hag.form; clear hag
 obtain _ | m1:=mm
 ·cases (show (none:Option Bool)=some r from F)
 replace F:F145b1 a (F145l1 a m1) b=some r:=F; unfold F145b1 at F
 refine ab (rgn (by kernel_rfl) (ifN F (fun e F=>?_) (fun e F=>?_)))
 ·
  refine ph (cm rfl rfl (fun h=>absurd h e) (fun _=>aa (ab (ai rfl (bw (ab (rgn (by kernel_rfl) (pu bT (by kernel_rfl) (aa (aj ?_))))))))))
  cases F
  exact ⟨_,Ret.r1 rfl rfl,⟨rfl,I.below⟩⟩


 refine ph (cm rfl rfl (fun _=>?_) (fun h=>absurd e h))
 refine aa (ab (ah rfl (ak (ab (au (ab (rgn (by kernel_rfl) (gdE F (fun o F=>bt F (fun d j F=>ph (s_indexF (b).toNat mg zs5 rfl rfl (Int.toNat_of_nonneg o).symm (fa j rfl) (ph (s_loadF I 0 (.int .u8 (nb d)) zi5 rfl rfl (hcl82 (b).toNat _ j) (pu (.int .u8 (nb d)) (by kernel_rfl) (aa (ab (rgn (by kernel_rfl) (pu (.int .u8 (nb d)) (by kernel_rfl) (ifE F (fun f F=>?_) (fun f F=>?_))))))))))))))))))))
 ·
  refine ph (s_lss8 rfl rfl (fun _=>?_) (fun h=>absurd f h))
  refine pu bT (by kernel_rfl) (sf 2 (by kernel_rfl) (pu bT (by kernel_rfl) (aa (ah rfl (ab (rgn (by kernel_rfl) (pu bF (by kernel_rfl) (aa (aj ?_)))))))))
  cases F
  exact ⟨_,Ret.r1 rfl rfl,⟨rfl,I.below⟩⟩
 refine ph (s_lss8 rfl rfl (fun h=>absurd h f) (fun _=>pu bF (by kernel_rfl) (pup (.int .u8 (nb d)) (by kernel_rfl) (ifE F (fun g F=>?_) (fun g F=>?_)))))
 ·
  refine aw (by kernel_rfl) (s_gtr8 rfl rfl (fun _=>?_) (fun h=>absurd g h))
  refine pu bT (by kernel_rfl) (aa (ah rfl (ab (rgn (by kernel_rfl) (pu bF (by kernel_rfl) (aa (aj ?_)))))))
  cases F
  exact ⟨_,Ret.r1 rfl rfl,⟨rfl,I.below⟩⟩
 refine aw (by kernel_rfl) (s_gtr8 rfl rfl (fun h=>absurd h g) (fun _=>pu bF (by kernel_rfl) (aa (ai rfl (ak (rgn (by kernel_rfl) (ckE F (fun p F=>ph (cj rfl rfl p (pu (iv (b+1)) (by kernel_rfl) (aa (⟨rfl,m1,Nat.lt_succ_self _,⟨b+1,m1,⟨rfl,rfl,rfl,trivial⟩,I.pk [0] rfl rfl,F,rfl⟩⟩))))))))))))
theorem L79 (w0:World) (a:Str) (N:Nat) (r:Bool) (F:F79 N a=some r):bn Tryz.prog 79 [.string (bts a)] w0 fun v w=>v=.bool r∧Below w0.heap.size w0 w:=by
 refine az (n:=10) func79 rfl ntmps79 rfl ?_
 have I:=Inv.start w0
 unfold F79 at F
 refine ab (rgn (by kernel_rfl) (pu bF (by kernel_rfl) (aa (ab (rgn (by kernel_rfl) (pu2 (.string (bts a)) (iv (a.length:Int)) (by kernel_rfl) (ifN F (fun h4 F=>?_) (fun h4 F=>?_))))))))
 ·
  refine ph (s_leq rfl rfl (fun h=>absurd h h4) (fun _=>pu bF (by kernel_rfl) (sf 2 (by kernel_rfl) (pu2 bF bF (by kernel_rfl) (aa (aj ?_))))))
  cases F
  exact ⟨_,Ret.r1 rfl rfl,⟨rfl,I.below⟩⟩


 refine ph (s_leq rfl rfl (fun _=>?_) (fun h=>absurd h4 h))
 refine pu bT (by kernel_rfl) (pup (.string (bts a)) (by kernel_rfl) (bt F (fun y9 b F=>aw (by kernel_rfl) (bg I 145 _ _ (by kernel_rfl) (L145 _ a N _ b) fun w I=>pu2 (.bool y9) (.bool y9) (by kernel_rfl) (aa (aj ?_))))))
 cases F
 exact ⟨_,Ret.r1 rfl rfl,⟨rfl,I.below⟩⟩
theorem L80 (w0:World) (e:Rc) (r:Bool) (F:F80 e=some r):bn Tryz.prog 80 [.agg (qg e).toArray] w0 fun v w=>v=.bool r∧Below w0.heap.size w0 w:=by
 refine az (n:=43) func80 rfl ntmps80 rfl ?_
 have I:=Inv.start w0
 unfold F80 at F
 refine ab (rgn (by kernel_rfl) (ph (ca I _ rfl fun f w I=>pu bF (by kernel_rfl) (aa (ab (ab (rgn (by kernel_rfl) (pu (.pointer (some ⟨f,2,none⟩)) (by kernel_rfl) (ph (ag I 0 (iv e.k) zi3 rfl rfl rfl (ifN F (fun i F=>?_) (fun i F=>?_))))))))))))
 ·
  refine ph (de rfl rfl (fun _=>?_) (fun h=>absurd h i))
  refine aa (ah rfl (ab (rgn (by kernel_rfl) (pu (.pointer (some ⟨f,5,none⟩)) (by kernel_rfl) (ph (ar I 0 2 [iv e.op,iv e.on] zi23 zs23 rfl rfl rfl rfl (pu (.agg #[iv 0,iv 0]) (by kernel_rfl) (ifE F (fun j F=>?_) (fun j F=>?_)))))))))
  ·
   refine ph (kz (b:=decide (e.op=0) && decide (e.on=0)) rfl rfl (by kernel_rfl) (fun w=>eq23 _ e.op e.on 0 0 w) (fun _=>?_) (fun h=>absurd j h))
   refine pu bT (by kernel_rfl) (aa (aj ?_))
   cases F
   exact ⟨_,Ret.r1 rfl rfl,⟨rfl,I.below⟩⟩
  refine ph (kz (b:=decide (e.op=0) && decide (e.on=0)) rfl rfl (by kernel_rfl) (fun w=>eq23 _ e.op e.on 0 0 w) (fun h=>absurd h j) (fun _=>pu bF (by kernel_rfl) (aa (aj ?_))))
  cases F
  exact ⟨_,Ret.r1 rfl rfl,⟨rfl,I.below⟩⟩


 refine ph (de rfl rfl (fun h=>absurd i h) (fun _=>aa (ai rfl (ak (dn (fun ρ w=>∃ (g:Bool),cd ρ [(1,pt f),(3,.bool g)]∧Inv [] w0 w [(some f,blk (qg e) 25)]∧F80j1 e g=some r) ?_ ?_)))))
 ·
  refine rgn (by kernel_rfl) (pu (.pointer (some ⟨f,5,none⟩)) (by kernel_rfl) (ph (ar I 0 2 [iv e.op,iv e.on] zi23 zs23 rfl rfl rfl rfl (bt F (fun x u F=>ifN F (fun l F=>?_) (fun l F=>?_))))))
  ·
   refine ph (bg I 75 _ _ (by kernel_rfl) (bn.mono (L75 _ (⟨e.op,e.on⟩:It) _ u) (fun v' w' h=>⟨h.1.trans (congrArg Value.bool (Bool.eq_false_iff.2 l)),h.2⟩)) fun w I=>pu bF (by kernel_rfl) (sf 7 (by kernel_rfl) (pu2 bF bF (by kernel_rfl) (sf 7 (by kernel_rfl) (pu2 bF bF (by kernel_rfl) (aa (.inl ⟨rfl,⟨false,⟨rfl,rfl,trivial⟩,I.pk [0] rfl rfl,F⟩⟩)))))))
  refine ph (bg I 75 _ _ (by kernel_rfl) (bn.mono (L75 _ (⟨e.op,e.on⟩:It) _ u) (fun v' w' h=>⟨h.1.trans (congrArg Value.bool l),h.2⟩)) fun w I=>pu bT (by kernel_rfl) (pup (.pointer (some ⟨f,5,none⟩)) (by kernel_rfl) (pup (.pointer (some ⟨f,5,none⟩)) (by kernel_rfl) (aw (by kernel_rfl) (ag I 0 (iv e.op) zi3 rfl rfl rfl (pup (pt f) (by kernel_rfl) (pup (pt f) (by kernel_rfl) (aw (by kernel_rfl) (ag I 0 (iv e.p) zi3 rfl rfl rfl (ifN F (fun m F=>?_) (fun m F=>?_)))))))))))
  ·
   refine aw (by kernel_rfl) (di rfl rfl (fun h=>absurd h m) (fun _=>pu2 bF bF (by kernel_rfl) (sf 7 (by kernel_rfl) (pu2 bF bF (by kernel_rfl) (aa (.inl ⟨rfl,⟨false,⟨rfl,rfl,trivial⟩,I.pk [0] rfl rfl,F⟩⟩))))))
  refine aw (by kernel_rfl) (di rfl rfl (fun _=>?_) (fun h=>absurd m h))
  refine pu2 bT bT (by kernel_rfl) (pup (.pointer (some ⟨f,5,none⟩)) (by kernel_rfl) (pup (.pointer (some ⟨f,6,none⟩)) (by kernel_rfl) (aw (by kernel_rfl) (ag I 0 (iv e.on) zi3 rfl rfl rfl (pup (pt f) (by kernel_rfl) (pup (.pointer (some ⟨f,1,none⟩)) (by kernel_rfl) (aw (by kernel_rfl) (ag I 0 (iv e.n) zi3 rfl rfl rfl (ifE F (fun o F=>?_) (fun o F=>?_))))))))))
  ·
   refine aw (by kernel_rfl) (cm rfl rfl (fun _=>?_) (fun h=>absurd o h))
   refine pu2 bT bT (by kernel_rfl) (aa (.inl ⟨rfl,⟨true,⟨rfl,rfl,trivial⟩,I.pk [0] rfl rfl,F⟩⟩))
  refine aw (by kernel_rfl) (cm rfl rfl (fun h=>absurd h o) (fun _=>pu2 bF bF (by kernel_rfl) (aa (.inl ⟨rfl,⟨false,⟨rfl,rfl,trivial⟩,I.pk [0] rfl rfl,F⟩⟩))))
 intro ρ w hJ
 obtain ⟨g,hag,I,F⟩:=hJ
 obtain ⟨ρ,rfl⟩:=hag.form; clear hag
 unfold F80j1 at F
 refine ab ?_
 have hG:=F; rcases Bool.eq_false_or_eq_true g with rfl | rfl
 ·
  have F:=hG; clear hG
  refine ifE F (fun _ F=>?_) (fun h=>absurd rfl h)
  refine rgn (by kernel_rfl) (pu2 bT bT (by kernel_rfl) (pup (.pointer (some ⟨f,3,none⟩)) (by kernel_rfl) (aw (by kernel_rfl) (ag I 0 (iv e.d) zi3 rfl rfl rfl (ifN F (fun q F=>?_) (fun q F=>?_))))))
  ·
   refine aw (by kernel_rfl) (di rfl rfl (fun h=>absurd h q) (fun _=>pu2 bF bF (by kernel_rfl) (sf 3 (by kernel_rfl) (pu2 bF bF (by kernel_rfl) (aa (aj ?_))))))
   cases F
   exact ⟨_,Ret.r1 rfl rfl,⟨rfl,I.below⟩⟩
  refine aw (by kernel_rfl) (di rfl rfl (fun _=>?_) (fun h=>absurd q h))
  refine pu2 bT bT (by kernel_rfl) (pup (.pointer (some ⟨f,7,none⟩)) (by kernel_rfl) (aw (by kernel_rfl) (ag I 0 (.string (bts e.t)) zi9 rfl rfl rfl (ifE F (fun s F=>?_) (fun s F=>?_)))))
  ·
   refine aw (by kernel_rfl) (s_strEq (a:=e.t) (b:=[]) rfl rfl (fun _=>?_) (fun h=>absurd s h))
   refine pu2 bT bT (by kernel_rfl) (aa (aj ?_))
   cases F
   exact ⟨_,Ret.r1 rfl rfl,⟨rfl,I.below⟩⟩
  refine aw (by kernel_rfl) (s_strEq (a:=e.t) (b:=[]) rfl rfl (fun h=>absurd h s) (fun _=>pu2 bF bF (by kernel_rfl) (aa (aj ?_))))
  cases F
  exact ⟨_,Ret.r1 rfl rfl,⟨rfl,I.below⟩⟩
 have F:=hG; clear hG
 refine ifE F (fun h=>absurd h (by decide)) (fun _ F=>rgn (by kernel_rfl) (pu2 bF bF (by kernel_rfl) (sf 3 (by kernel_rfl) (pu2 bF bF (by kernel_rfl) (sf 3 (by kernel_rfl) (pu2 bF bF (by kernel_rfl) (aa (aj ?_))))))))
 cases F
 exact ⟨_,Ret.r1 rfl rfl,⟨rfl,I.below⟩⟩
theorem L17 (w0:World) (a:Rc) (N:Nat) (r:Int) (F:F17 N a=some r):bn Tryz.prog 17 [.agg (qg a).toArray] w0 fun v w=>v=iv r∧Below w0.heap.size w0 w:=by
 refine az (n:=33) func17 rfl ntmps17 rfl ?_
 have I:=Inv.start w0
 unfold F17 at F
 refine ab (rgn (by kernel_rfl) (ph (ca I _ rfl fun b w I=>pu (iv 0) (by kernel_rfl) (aa (dn (fun ρ w=>∃ (e:Bool),cd ρ [(1,pt b),(3,.bool e)]∧Inv [] w0 w [(some b,blk (qg a) 25)]∧F17j1 a N e=some r) ?_ ?_)))))
 ·
  refine rgn (by kernel_rfl) (pu (pt b) (by kernel_rfl) (ph (ar I 0 2 [iv a.p,iv a.n] zi23 zs23 rfl rfl rfl rfl (bt F (fun G m F=>ifN F (fun f F=>?_) (fun f F=>?_))))))
  ·
   refine ph (bg I 75 _ _ (by kernel_rfl) (bn.mono (L75 _ (⟨a.p,a.n⟩:It) _ m) (fun v' w' h=>⟨h.1.trans (congrArg Value.bool (Bool.eq_false_iff.2 f)),h.2⟩)) fun w I=>pu bF (by kernel_rfl) (sf 3 (by kernel_rfl) (pu2 bF bF (by kernel_rfl) (sf 3 (by kernel_rfl) (pu2 bF bF (by kernel_rfl) (sf 3 (by kernel_rfl) (pu2 bF bF (by kernel_rfl) (aa (.inl ⟨rfl,⟨false,⟨rfl,rfl,trivial⟩,I.pk [0] rfl rfl,F⟩⟩)))))))))
  refine ph (bg I 75 _ _ (by kernel_rfl) (bn.mono (L75 _ (⟨a.p,a.n⟩:It) _ m) (fun v' w' h=>⟨h.1.trans (congrArg Value.bool f),h.2⟩)) fun w I=>pu bT (by kernel_rfl) (pup (.pointer (some ⟨b,2,none⟩)) (by kernel_rfl) (aw (by kernel_rfl) (ag I 0 (iv a.k) zi3 rfl rfl rfl (bt F (fun H o F=>ifN F (fun g F=>?_) (fun g F=>?_)))))))
  ·
   refine aw (by kernel_rfl) (bg I 76 _ _ (by kernel_rfl) (bn.mono (L76 _ a.k 0 60 _ o) (fun v' w' h=>⟨h.1.trans (congrArg Value.bool (Bool.eq_false_iff.2 g)),h.2⟩)) fun w I=>pu2 bF bF (by kernel_rfl) (sf 3 (by kernel_rfl) (pu2 bF bF (by kernel_rfl) (sf 3 (by kernel_rfl) (pu2 bF bF (by kernel_rfl) (aa (.inl ⟨rfl,⟨false,⟨rfl,rfl,trivial⟩,I.pk [0] rfl rfl,F⟩⟩)))))))
  refine aw (by kernel_rfl) (bg I 76 _ _ (by kernel_rfl) (bn.mono (L76 _ a.k 0 60 _ o) (fun v' w' h=>⟨h.1.trans (congrArg Value.bool g),h.2⟩)) fun w I=>pu2 bT bT (by kernel_rfl) (pup (.pointer (some ⟨b,3,none⟩)) (by kernel_rfl) (aw (by kernel_rfl) (ag I 0 (iv a.d) zi3 rfl rfl rfl (bt F (fun J q F=>ifN F (fun i F=>?_) (fun i F=>?_)))))))
  ·
   refine aw (by kernel_rfl) (bg I 77 _ _ (by kernel_rfl) (bn.mono (L77 _ a.d _ q) (fun v' w' h=>⟨h.1.trans (congrArg Value.bool (Bool.eq_false_iff.2 i)),h.2⟩)) fun w I=>pu2 bF bF (by kernel_rfl) (sf 3 (by kernel_rfl) (pu2 bF bF (by kernel_rfl) (aa (.inl ⟨rfl,⟨false,⟨rfl,rfl,trivial⟩,I.pk [0] rfl rfl,F⟩⟩)))))
  refine aw (by kernel_rfl) (bg I 77 _ _ (by kernel_rfl) (bn.mono (L77 _ a.d _ q) (fun v' w' h=>⟨h.1.trans (congrArg Value.bool i),h.2⟩)) fun w I=>pu2 bT bT (by kernel_rfl) (pup (.pointer (some ⟨b,4,none⟩)) (by kernel_rfl) (aw (by kernel_rfl) (ag I 0 (iv a.kn) zi3 rfl rfl rfl (bt F (fun K s F=>ifE F (fun j F=>?_) (fun j F=>?_)))))))
  ·
   refine aw (by kernel_rfl) (bg I 77 _ _ (by kernel_rfl) (bn.mono (L77 _ a.kn _ s) (fun v' w' h=>⟨h.1.trans (congrArg Value.bool j),h.2⟩)) fun w I=>pu2 bT bT (by kernel_rfl) (aa (.inl ⟨rfl,⟨true,⟨rfl,rfl,trivial⟩,I.pk [0] rfl rfl,F⟩⟩)))
  refine aw (by kernel_rfl) (bg I 77 _ _ (by kernel_rfl) (bn.mono (L77 _ a.kn _ s) (fun v' w' h=>⟨h.1.trans (congrArg Value.bool (Bool.eq_false_iff.2 j)),h.2⟩)) fun w I=>pu2 bF bF (by kernel_rfl) (aa (.inl ⟨rfl,⟨false,⟨rfl,rfl,trivial⟩,I.pk [0] rfl rfl,F⟩⟩)))
 intro ρ w hJ
 obtain ⟨e,hag,I,F⟩:=hJ
 obtain ⟨ρ,rfl⟩:=hag.form; clear hag
 unfold F17j1 at F
 refine ab ?_
 have hG:=F; rcases Bool.eq_false_or_eq_true e with rfl | rfl
 ·
  have F:=hG; clear hG
  refine ifE F (fun _ F=>?_) (fun h=>absurd rfl h)
  refine rgn (by kernel_rfl) (pu2 bT bT (by kernel_rfl) (pup (.pointer (some ⟨b,7,none⟩)) (by kernel_rfl) (aw (by kernel_rfl) (ag I 0 (.string (bts a.t)) zi9 rfl rfl rfl (bt F (fun L u F=>ifN F (fun l F=>?_) (fun l F=>?_)))))))
  ·
   refine aw (by kernel_rfl) (bg I 79 _ _ (by kernel_rfl) (bn.mono (L79 _ a.t N _ u) (fun v' w' h=>⟨h.1.trans (congrArg Value.bool (Bool.eq_false_iff.2 l)),h.2⟩)) fun w I=>pu2 bF bF (by kernel_rfl) (sf 2 (by kernel_rfl) (pu bF (by kernel_rfl) (bt F (fun y z F=>ph (bg I 78 _ _ (by kernel_rfl) (L78 _ false 80 _ z) fun w I=>pu (iv y) (by kernel_rfl) (aa (aj ?_))))))))
   cases F
   exact ⟨_,Ret.r1 rfl rfl,⟨rfl,I.below⟩⟩
  refine aw (by kernel_rfl) (bg I 79 _ _ (by kernel_rfl) (bn.mono (L79 _ a.t N _ u) (fun v' w' h=>⟨h.1.trans (congrArg Value.bool l),h.2⟩)) fun w I=>pu2 bT bT (by kernel_rfl) (aw (by kernel_rfl) (ma I 0 mh md rfl rfl rfl (bt F (fun x A F=>aw (by kernel_rfl) (bg I 80 _ _ (by kernel_rfl) (L80 _ a _ A) fun w I=>pu (.bool x) (by kernel_rfl) (bt F (fun B C F=>ph (bg I 78 _ _ (by kernel_rfl) (L78 _ x 80 _ C) fun w I=>pu (iv B) (by kernel_rfl) (aa (aj ?_)))))))))))
  cases F
  exact ⟨_,Ret.r1 rfl rfl,⟨rfl,I.below⟩⟩
 have F:=hG; clear hG
 refine ifE F (fun h=>absurd h (by decide)) (fun _ F=>rgn (by kernel_rfl) (pu2 bF bF (by kernel_rfl) (sf 3 (by kernel_rfl) (pu2 bF bF (by kernel_rfl) (sf 2 (by kernel_rfl) (pu bF (by kernel_rfl) (bt F (fun D E F=>ph (bg I 78 _ _ (by kernel_rfl) (L78 _ false 80 _ E) fun w I=>pu (iv D) (by kernel_rfl) (aa (aj ?_)))))))))))
 cases F
 exact ⟨_,Ret.r1 rfl rfl,⟨rfl,I.below⟩⟩

theorem L142 (w0:World) (a:Int) (hG:Gl w0) (r:Str) (F:F142 a=some r):bn Tryz.prog 142 [iv a] w0 fun v w=>v=.string (bts r)∧Below w0.heap.size w0 w:=by
  refine ckE F (fun hn F=>?_)
  cases F
  rw [← itoaS_eq hn]; exact itoa_c w0 a hG hn


theorem L69 (w0:World) (e:Rc) (hG:Gl w0) (N:Nat) (r:Str) (F:F69 N e=some r):bn Tryz.prog 69 [.agg (qg e).toArray] w0 fun v w=>v=.string (bts r)∧Below w0.heap.size w0 w:=by
 refine az (n:=40) func69 rfl ntmps69 rfl ?_
 have I:=Inv.start w0
 unfold F69 at F
 refine ab (rgn (by kernel_rfl) (ph (ca I _ rfl fun f w I=>pu (.string (bts [])) (by kernel_rfl) (aa (ab (rgn (by kernel_rfl) (pu (.string (bts [])) (by kernel_rfl) (aa (dn (fun ρ w=>∃ (j:Str),cd ρ [(1,pt f),(3,.string (bts j))]∧Inv [] w0 w [(some f,blk (qg e) 25)]∧F69j1 e j=some r) ?_ ?_)))))))))
 ·
  refine ab (rgn (by kernel_rfl) (pu2 (pt f) (pt f) (by kernel_rfl) (ph (ag I 0 (iv e.p) zi3 rfl rfl rfl (pu2 (pt f) (.pointer (some ⟨f,1,none⟩)) (by kernel_rfl) (ph (ag I 0 (iv e.n) zi3 rfl rfl rfl (pu (.pointer (some ⟨f,2,none⟩)) (by kernel_rfl) (ph (ag I 0 (iv e.k) zi3 rfl rfl rfl (pu (.pointer (some ⟨f,3,none⟩)) (by kernel_rfl) (ph (ag I 0 (iv e.d) zi3 rfl rfl rfl (pu (.pointer (some ⟨f,4,none⟩)) (by kernel_rfl) (ph (ag I 0 (iv e.kn) zi3 rfl rfl rfl (pu2 (.pointer (some ⟨f,5,none⟩)) (.pointer (some ⟨f,5,none⟩)) (by kernel_rfl) (ph (ag I 0 (iv e.op) zi3 rfl rfl rfl (pu2 (.pointer (some ⟨f,5,none⟩)) (.pointer (some ⟨f,6,none⟩)) (by kernel_rfl) (ph (ag I 0 (iv e.on) zi3 rfl rfl rfl (ph (fu I [iv e.p,iv e.n,iv e.k,iv e.d,iv e.kn,iv e.op,iv e.on] 3 (fun b=>slv (some b) 7 7) (by kernel_rfl) fun z w I=>pu2 (iv ((7:Nat):Int)) (iv 0) (by kernel_rfl) (aa (au ?_))))))))))))))))))))))))))
  have C:Row 1 (some z) 7 7 [iv e.p,iv e.n,iv e.k,iv e.d,iv e.kn,iv e.op,iv e.on] (al eInt [e.p,e.n,e.k,e.d,e.kn,e.op,e.on]):=Row.lit eInt_len (l:=[e.p,e.n,e.k,e.d,e.kn,e.op,e.on]) rfl (mx rfl)
  refine cb (fun m ρ w=>∃ (o:Option Nat) (q:Nat) (s:List Value) (g:Str) (i:Int) (mm:Nat),cd ρ [(1,pt f),(3,.string (bts g)),(24,slv o ([e.p,e.n,e.k,e.d,e.kn,e.op,e.on].length) q),(25,iv 7),(26,iv i)]∧Inv [] w0 w [(some f,blk (qg e) 25),(o,blk s 3)]∧(Row 1 o ([e.p,e.n,e.k,e.d,e.kn,e.op,e.on].length) q s (al eInt [e.p,e.n,e.k,e.d,e.kn,e.op,e.on]))∧F69l2 e mm g i=some r∧mm=m) (m:=N) ⟨some z,7,[iv e.p,iv e.n,iv e.k,iv e.d,iv e.kn,iv e.op,iv e.on],[],0,N,⟨rfl,rfl,rfl,rfl,rfl,trivial⟩,I.pk [1,0] rfl rfl,(C.to rfl rfl),F,rfl⟩ ?_
  rintro m ρ w ⟨o,q,s,g,i,mm,hag,I,A,F,hm⟩
  subst hm; obtain ⟨ρ,rfl⟩:=hag.form; clear hag
  obtain _ | m2:=mm
  ·cases (show (none:Option Str)=some r from F)
  replace F:F69b2 e (F69l2 e m2) g i=some r:=F; unfold F69b2 at F
  refine ab (rgn (by kernel_rfl) (ifN F (fun x F=>?_) (fun x F=>?_)))
  ·
   refine ph (cm rfl rfl (fun h=>absurd h x) (fun _=>aa (ab (ai rfl (bw (.inl ⟨rfl,⟨g,⟨rfl,rfl,trivial⟩,I.pk [0] rfl rfl,F⟩⟩))))))
  refine ph (cm rfl rfl (fun _=>?_) (fun h=>absurd x h))
  refine aa (ab (ah rfl (ak (ab (au (ab (rgn (by kernel_rfl) (gdE F (fun D F=>bt F (fun u B F=>?_))))))))))
  obtain ⟨E,rfl,G⟩:=A.at_ eInt_len (by decide) B
  refine ph (be (i).toNat zu64 zs3 rfl rfl (Int.toNat_of_nonneg D).symm (fa B rfl) (ph (s_loadR1 I 1 (iv u) zi3 rfl rfl (G 0 _ rfl) (pu (iv u) (by kernel_rfl) (aa (rgn (by kernel_rfl) (pu2 (.string (bts g)) (iv u) (by kernel_rfl) (bt F (fun y H F=>ph (bg I 142 _ _ (by kernel_rfl) (L142 _ u (hG.up I) _ H) fun w I=>gdE F (fun J F=>ph (s_strCat (a:=y) rfl rfl J (gdE F (fun K F=>ph (s_strCat (a:=g) rfl rfl K (pu (.string (bts (g++(y++[32])))) (by kernel_rfl) (aa (rgn (by kernel_rfl) (ckE F (fun L F=>ph (cj rfl rfl L (pu (iv (i+1)) (by kernel_rfl) (aa (⟨rfl,m2,Nat.lt_succ_self _,⟨some E,q,s,g++(y++[32]),i+1,m2,⟨rfl,rfl,rfl,rfl,rfl,trivial⟩,I.pk [0,1] rfl rfl,(A.to rfl rfl),F,rfl⟩⟩))))))))))))))))))))))))
 intro ρ w hJ
 obtain ⟨j,hag,I,F⟩:=hJ
 obtain ⟨ρ,rfl⟩:=hag.form; clear hag
 unfold F69j1 at F
 refine ab (rgn (by kernel_rfl) (pu2 (.string (bts j)) (.pointer (some ⟨f,7,none⟩)) (by kernel_rfl) (ph (ag I 0 (.string (bts e.t)) zi9 rfl rfl rfl (gdE F (fun M F=>ph (s_strCat (a:=j) rfl rfl M (pu (.string (bts (j++e.t))) (by kernel_rfl) (aa (aj ?_))))))))))
 cases F
 exact ⟨_,Ret.r1 rfl rfl,⟨rfl,I.below⟩⟩


theorem L187 (w0:World) (a:Str) (b:Str) (r:Int) (F:F187 a b=some r):bn Tryz.prog 187 [.string (bts a),.string (bts b)] w0 fun v w=>v=iv r∧Below w0.heap.size w0 w:=by
  unfold F187 at F; split at F
  · rename_i h; obtain ⟨c,rfl⟩:=List.length_eq_one_iff.1 h; cases F; exact (Tryz.stringslite_Index_one (bts a) c w0).mono fun e w ⟨h1,h2⟩=>⟨_,h1,rfl,by rw [h2]; exact Below.refl _ _⟩
  cases F


theorem L170 (w0:World) (d:Str) (f:Str) (r:(Str × Str × Bool)) (F:F170 d f=some r):bn Tryz.prog 170 [.string (bts d),.string (bts f)] w0 fun v w=>v=.tuple #[.string (bts r.1),.string (bts r.2.1),.bool r.2.2]∧Below w0.heap.size w0 w:=by
 refine az (n:=23) func170 rfl ntmps170 rfl ?_
 have I:=Inv.start w0
 unfold F170 at F
 refine ab (rgn (by kernel_rfl) (pu3 (.string (bts [])) (.string (bts [])) bF (by kernel_rfl) (aa (ab (ab (rgn (by kernel_rfl) (pu2 (.string (bts d)) (.string (bts f)) (by kernel_rfl) (bt F (fun e i F=>ph (bg I 187 _ _ (by kernel_rfl) (L187 _ d f _ i) fun w I=>pu (iv e) (by kernel_rfl) (aa (ab (rgn (by kernel_rfl) (pu (iv e) (by kernel_rfl) (ifN F (fun g F=>?_) (fun g F=>?_))))))))))))))))
 ·
  refine ph (s_geq rfl rfl (fun h=>absurd h g) (fun _=>aa (ai rfl (ak (ab (rgn (by kernel_rfl) (pu3 (.string (bts d)) (.string (bts d)) (.string (bts [])) (by kernel_rfl) (pu bF (by kernel_rfl) (aa (aj ?_))))))))))
  cases F
  exact ⟨_,Ret.r3 rfl rfl rfl rfl,⟨rfl,I.below⟩⟩


 refine ph (s_geq rfl rfl (fun _=>?_) (fun h=>absurd g h))
 refine aa (ah rfl (ab (gm 12 I (by kernel_rfl) (zp2 (.string (bts d)) (iv e) (fun _=>(by kernel_rfl)) (gdE F (fun j F=>zc (.string (bts (d.take (e).toNat))) (fun w I=>nq (l:=d) (m:=d.take (e).toNat) (a:=0) (b:=(e).toNat) zu9 rfl (.inr ⟨rfl,rfl⟩) (.inl (congrArg (fun z=>some (Value.int .i64 z)) (Int.toNat_of_nonneg g).symm)) j rfl br) (zp2 (.string (bts d)) (iv e) (fun _=>(by kernel_rfl)) (zp2 (.string (bts f)) (iv (f.length:Int)) (fun _=>(by kernel_rfl)) (ckE F (fun k F=>zc (iv (e+(f.length:Int))) (fun w I=>cj rfl rfl k br) (gdE F (fun o F=>gdE F (fun p F=>zc (.string (bts (d.drop ((e+(f.length:Int)).toNat)))) (fun w I=>nq (l:=d) (m:=d.drop ((e+(f.length:Int)).toNat)) (a:=(e+(f.length:Int)).toNat) (b:=d.length) zu9 rfl (.inl (congrArg (fun z=>some (Value.int .i64 z)) (Int.toNat_of_nonneg o).symm)) (.inr ⟨rfl,rfl⟩) p (str_drop _ _) br) (zp2 (.string (bts (d.take (e).toNat))) (.string (bts (d.drop ((e+(f.length:Int)).toNat)))) (fun _=>(by kernel_rfl)) (zp bT (fun _=>(by kernel_rfl)) (zh (fun w I=>aa (aj ?_))))))))))))))))))
 cases F
 exact ⟨_,Ret.r3 rfl rfl rfl rfl,⟨rfl,I.below⟩⟩
theorem L162 (w0:World) (a:Str) (b:Str) (r:(Str × Str × Bool)) (F:F162 a b=some r):bn Tryz.prog 162 [.string (bts a),.string (bts b)] w0 fun v w=>v=.tuple #[.string (bts r.1),.string (bts r.2.1),.bool r.2.2]∧Below w0.heap.size w0 w:=by
 refine az (n:=13) func162 rfl ntmps162 rfl ?_
 have I:=Inv.start w0
 unfold F162 at F
 refine ab (rgn (by kernel_rfl) (pu3 (.string (bts [])) (.string (bts [])) bF (by kernel_rfl) (aa (ab (rgn (by kernel_rfl) (pu2 (.string (bts a)) (.string (bts b)) (by kernel_rfl) (bt F (fun y7 hy8 F=>ph (bg I 170 _ _ (by kernel_rfl) (L170 _ a b _ hy8) fun w I=>pu3 (.string (bts y7.1)) (.string (bts y7.2.1)) (.bool y7.2.2) (by kernel_rfl) (pu3 (.string (bts y7.1)) (.string (bts y7.2.1)) (.bool y7.2.2) (by kernel_rfl) (aa (aj ?_))))))))))))
 cases F
 exact ⟨_,Ret.r3 rfl rfl rfl rfl,⟨rfl,I.below⟩⟩


theorem L144 (w0:World) (d:Str) (hG:Gl w0) (r:((Int × Str) ⊕ Unit)) (F:F144 d=some r):DoesP Tryz.prog 144 [.string (bts d)] w0 (fun v w=>(match r with | .inl ra0=>v=.tuple #[iv ra0.1,.string (bts ra0.2)]∧Below w0.heap.size w0 w | .inr rb0=>False)) (fun ch w=>(match r with | .inl ra0=>False | .inr rb0=>IsP ch∧Below w0.heap.size w0 w)):=by
 refine calls_ofP (n:=25) func144 rfl ntmps144 rfl ?_
 have I:=Inv.start w0
 unfold F144 at F
 refine ab (rgn (by kernel_rfl) (pu2 (iv 0) (.string (bts [])) (by kernel_rfl) (aa (ab (rgn (by kernel_rfl) (pu (.string (bts d)) (by kernel_rfl) (bt F (fun a g F=>ph (bg I 162 _ _ (by kernel_rfl) (L162 _ d [32] _ g) fun w I=>pu3 (.tuple #[.string (bts a.1),.string (bts a.2.1),.bool a.2.2]) (.string (bts a.1)) (.string (bts a.2.1)) (by kernel_rfl) (pu3 (.bool a.2.2) (.string (bts a.1)) (.string (bts a.2.1)) (by kernel_rfl) (pu (.bool a.2.2) (by kernel_rfl) (aa (ab (rgn (by kernel_rfl) (pu (.string (bts a.1)) (by kernel_rfl) (bindSE F (fun b i F=>?_) (fun f j F=>?_)))))))))))))))))
 ·
  refine ph (bg I 163 [.string (bts a.1)] (.tuple #[iv b,.nilIface]) (by kernel_rfl) (atoi_ok (hG.up I) i) fun w I=>pu3 (.tuple #[iv b,.nilIface]) (iv b) (.nilIface) (by kernel_rfl) (pu2 (iv b) (.nilIface) (by kernel_rfl) (aa (ab (ab (rgn (by kernel_rfl) (pu2 (.nilIface) bF (by kernel_rfl) (aa (ai rfl (ak (ab (rgn (by kernel_rfl) (pu3 (iv b) (.string (bts a.2.1)) (iv b) (by kernel_rfl) (pu (.string (bts a.2.1)) (by kernel_rfl) (aa (aj ?_))))))))))))))))
  cases F
  exact ⟨_,Ret.r2 rfl rfl rfl,⟨rfl,I.below⟩⟩
 refine ph (co 163 [.string (bts a.1)] (by kernel_rfl) (atoi_no (hG.up I) j) ?_)
 rintro v w ⟨⟨e,rfl⟩,hb⟩; have I:=I.call hb; clear hb
 refine pu3 (.tuple #[iv f,(.iface 245 (pt e))]) (iv f) ((.iface 245 (pt e))) (by kernel_rfl) (pu2 (iv f) ((.iface 245 (pt e))) (by kernel_rfl) (aa (ab (ab (rgn (by kernel_rfl) (pu2 ((.iface 245 (pt e))) bT (by kernel_rfl) (aa (ah rfl ?_))))))))
 cases F
 refine lp (fun ch ρ w'=>IsP ch∧Inv [] w0 w' []) (by kernel_rfl) ?_ ?_
 ·
  refine sd_c (kl ((.iface 26 (iv 5))) (by kernel_rfl) (sd_d (fun _ h=>by cases h) (dies_panic (v:=(.iface 26 (iv 5))) (by kernel_rfl) ⟨⟨_,_,rfl⟩,I⟩)))
 exact fun ch ρ w h=>⟨rfl,h.1,h.2.below⟩


theorem L72 (w0:World) (e:Str) (hG:Gl w0) (N:Nat) (r:((Int × Int × Int × Int × Int × Int × Int × Str) ⊕ Unit)) (F:F72 N e=some r):DoesP Tryz.prog 72 [.string (bts e)] w0 (fun v w=>(match r with | .inl ra0=>v=.agg #[iv ra0.1,iv ra0.2.1,iv ra0.2.2.1,iv ra0.2.2.2.1,iv ra0.2.2.2.2.1,iv ra0.2.2.2.2.2.1,iv ra0.2.2.2.2.2.2.1,.string (bts ra0.2.2.2.2.2.2.2)]∧Below w0.heap.size w0 w | .inr rb0=>False)) (fun ch w=>(match r with | .inl ra0=>False | .inr rb0=>IsP ch∧Below w0.heap.size w0 w)):=by
 refine calls_ofP (n:=48) func72 rfl ntmps72 rfl ?_
 have I:=Inv.start w0
 unfold F72 at F
 refine ab (rgn (by kernel_rfl) (ph (bh I _ zeroValue25 rfl fun D w I=>aa (ab (rgn (by kernel_rfl) (ph (bh I _ zeroValue199 rfl fun f w I=>aa (ab (rgn (by kernel_rfl) (pu2 (.string (bts e)) (.string (bts e)) (by kernel_rfl) (aa (dn (fun ρ w=>∃ (g:Int) (i:Int) (l:Int) (o:Int) (p:Int) (j:Int) (k:Int) (B:Str),cd ρ [(0,.string (bts e)),(2,pt D),(3,pt f),(4,.string (bts B))]∧Inv [] w0 w [(some D,blk [iv 0,iv 0,iv 0,iv 0,iv 0,iv 0,iv 0,.string (bts [])] 25),(some f,blk [iv g,iv i,iv l,iv o,iv p,iv j,iv k] 199)]∧F72j1 e N g i l o p j k B=some r) ?_ ?_))))))))))))
 ·
  refine ab (rgn (by kernel_rfl) (pu (iv 0) (by kernel_rfl) (aa (au (cb (fun m ρ w=>∃ (q:Int) (s:Int) (t:Int) (u:Int) (x:Int) (y:Int) (z:Int) (C:Str) (A:Int) (mm:Nat),cd ρ [(0,.string (bts e)),(2,pt D),(3,pt f),(4,.string (bts C)),(8,iv A)]∧Inv [] w0 w [(some D,blk [iv 0,iv 0,iv 0,iv 0,iv 0,iv 0,iv 0,.string (bts [])] 25),(some f,blk [iv q,iv s,iv t,iv u,iv x,iv y,iv z] 199)]∧F72l2 e N mm q s t u x y z C A=some r∧mm=m) (m:=N) ⟨0,0,0,0,0,0,0,e,0,N,⟨rfl,rfl,rfl,rfl,rfl,trivial⟩,I.pk [1,0] rfl rfl,F,rfl⟩ ?_)))))
  rintro m ρ w ⟨q,s,t,u,x,y,z,C,A,mm,hag,I,F,hm⟩
  subst hm; obtain ⟨ρ,rfl⟩:=hag.form; clear hag
  obtain _ | m2:=mm
  ·cases (show (none:Option ((Int × Int × Int × Int × Int × Int × Int × Str) ⊕ Unit))=some r from F)
  replace F:F72b2 e N (F72l2 e N m2) q s t u x y z C A=some r:=F; unfold F72b2 at F
  refine ab (rgn (by kernel_rfl) (ifN F (fun P F=>?_) (fun P F=>?_)))
  ·
   refine ph (cm rfl rfl (fun h=>absurd h P) (fun _=>aa (ab (ai rfl (bw (.inl ⟨rfl,⟨q,s,t,u,x,y,z,C,⟨rfl,rfl,rfl,rfl,trivial⟩,I.pk [0,1] rfl rfl,F⟩⟩))))))
  refine ph (cm rfl rfl (fun _=>?_) (fun h=>absurd P h))
  refine aa (ab (ah rfl (ak (dn (fun ρ w=>∃ (E:Int) (G:Int) (H:Int) (J:Int) (K:Int) (L:Int) (M:Int) (O:Str),cd ρ [(0,.string (bts e)),(2,pt D),(3,pt f),(4,.string (bts O)),(8,iv A)]∧Inv [] w0 w [(some D,blk [iv 0,iv 0,iv 0,iv 0,iv 0,iv 0,iv 0,.string (bts [])] 25),(some f,blk [iv E,iv G,iv H,iv J,iv K,iv L,iv M] 199)]∧nh (F72l2 e N m2) A E G H J K L M O=some r) ?_ ?_))))
  ·
   refine au (ab (rgn (by kernel_rfl) (pu2 (iv A) (iv A) (by kernel_rfl) (aa (bindSE F (fun d a1 F=>?_) (fun a6 a2 F=>?_))))))
   ·
    refine rgn (by kernel_rfl) (pu2 (iv A) (.string (bts C)) (by kernel_rfl) (ph (bg I 144 _ _ (by kernel_rfl) (DoesP.ok (L144 _ C (hG.up I) _ a1)) fun w I=>pu3 (.tuple #[iv d.1,.string (bts d.2)]) (iv d.1) (.string (bts d.2)) (by kernel_rfl) (ifE F (fun S F=>?_) (fun S F=>?_)))))
    ·
     refine ph (av 0 zu199 zs3 rfl rfl S (by decide) 0 rfl (ph (aq I 1 1 [iv d.1] zs3 rfl rfl rfl rfl rfl (mx rfl) fun w I=>pu (.string (bts d.2)) (by kernel_rfl) (aa (.inl ⟨rfl,⟨d.1,s,t,u,x,y,z,d.2,⟨rfl,rfl,rfl,rfl,rfl,trivial⟩,I.pk [0,1] rfl rfl,F⟩⟩)))))
    refine ifE F (fun T F=>?_) (fun T F=>?_)
    ·
     refine ph (av 1 zu199 zs3 rfl rfl T (by decide) 1 rfl (ph (aq I 1 1 [iv d.1] zs3 rfl rfl rfl rfl rfl (mx rfl) fun w I=>pu (.string (bts d.2)) (by kernel_rfl) (aa (.inl ⟨rfl,⟨q,d.1,t,u,x,y,z,d.2,⟨rfl,rfl,rfl,rfl,rfl,trivial⟩,I.pk [0,1] rfl rfl,F⟩⟩)))))
    refine ifE F (fun U F=>?_) (fun U F=>?_)
    ·
     refine ph (av 2 zu199 zs3 rfl rfl U (by decide) 2 rfl (ph (aq I 1 1 [iv d.1] zs3 rfl rfl rfl rfl rfl (mx rfl) fun w I=>pu (.string (bts d.2)) (by kernel_rfl) (aa (.inl ⟨rfl,⟨q,s,d.1,u,x,y,z,d.2,⟨rfl,rfl,rfl,rfl,rfl,trivial⟩,I.pk [0,1] rfl rfl,F⟩⟩)))))
    refine ifE F (fun V F=>?_) (fun V F=>?_)
    ·
     refine ph (av 3 zu199 zs3 rfl rfl V (by decide) 3 rfl (ph (aq I 1 1 [iv d.1] zs3 rfl rfl rfl rfl rfl (mx rfl) fun w I=>pu (.string (bts d.2)) (by kernel_rfl) (aa (.inl ⟨rfl,⟨q,s,t,d.1,x,y,z,d.2,⟨rfl,rfl,rfl,rfl,rfl,trivial⟩,I.pk [0,1] rfl rfl,F⟩⟩)))))
    refine ifE F (fun W F=>?_) (fun W F=>?_)
    ·
     refine ph (av 4 zu199 zs3 rfl rfl W (by decide) 4 rfl (ph (aq I 1 1 [iv d.1] zs3 rfl rfl rfl rfl rfl (mx rfl) fun w I=>pu (.string (bts d.2)) (by kernel_rfl) (aa (.inl ⟨rfl,⟨q,s,t,u,d.1,y,z,d.2,⟨rfl,rfl,rfl,rfl,rfl,trivial⟩,I.pk [0,1] rfl rfl,F⟩⟩)))))
    refine ifE F (fun X F=>?_) (fun X F=>?_)
    ·
     refine ph (av 5 zu199 zs3 rfl rfl X (by decide) 5 rfl (ph (aq I 1 1 [iv d.1] zs3 rfl rfl rfl rfl rfl (mx rfl) fun w I=>pu (.string (bts d.2)) (by kernel_rfl) (aa (.inl ⟨rfl,⟨q,s,t,u,x,d.1,z,d.2,⟨rfl,rfl,rfl,rfl,rfl,trivial⟩,I.pk [0,1] rfl rfl,F⟩⟩)))))
    refine ifN F (fun Y F=>?_) (fun Y F=>?_)
    ·
     cases F
    refine ph (av 6 zu199 zs3 rfl rfl Y (by decide) 6 rfl (ph (aq I 1 1 [iv d.1] zs3 rfl rfl rfl rfl rfl (mx rfl) fun w I=>pu (.string (bts d.2)) (by kernel_rfl) (aa (.inl ⟨rfl,⟨q,s,t,u,x,y,d.1,d.2,⟨rfl,rfl,rfl,rfl,rfl,trivial⟩,I.pk [0,1] rfl rfl,F⟩⟩)))))
   cases F
   refine lp (fun ch ρ w'=>IsP ch∧Inv [] w0 w' [(some D,blk [iv 0,iv 0,iv 0,iv 0,iv 0,iv 0,iv 0,.string (bts [])] 25),(some f,blk [iv q,iv s,iv t,iv u,iv x,iv y,iv z] 199)]) (by kernel_rfl) ?_ ?_
   ·
    refine sd_c (kl (iv A) (by kernel_rfl) (sd_c (kl (.string (bts C)) (by kernel_rfl) (sd_d (fun _ h=>by cases h) (dies_call 144 [.string (bts C)] (by kernel_rfl) (DoesP.diesI (L144 _ C (hG.up I) _ a2) I))))))
   exact fun ch ρ w h=>⟨rfl,h.1,h.2.below⟩
  intro ρ w hJ
  obtain ⟨E,G,H,J,K,L,M,O,hag,I,F⟩:=hJ
  obtain ⟨ρ,rfl⟩:=hag.form; clear hag
  unfold nh at F
  refine rgn (by kernel_rfl) (ckE F (fun a3 F=>ph (cj rfl rfl a3 (pu (iv (A+1)) (by kernel_rfl) (aa (⟨rfl,m2,Nat.lt_succ_self _,⟨E,G,H,J,K,L,M,O,A+1,m2,⟨rfl,rfl,rfl,rfl,rfl,trivial⟩,I.pk [0,1] rfl rfl,F,rfl⟩⟩))))))
 intro ρ w hJ
 obtain ⟨g,i,l,o,p,j,k,B,hag,I,F⟩:=hJ
 obtain ⟨ρ,rfl⟩:=hag.form; clear hag
 unfold F72j1 at F
 refine ab (rgn (by kernel_rfl) (pu (pt f) (by kernel_rfl) (ph (ag I 1 (iv g) zi3 rfl rfl rfl (pu (.pointer (some ⟨f,1,none⟩)) (by kernel_rfl) (ph (ag I 1 (iv i) zi3 rfl rfl rfl (pu2 (.agg #[iv g,iv i]) (.pointer (some ⟨f,2,none⟩)) (by kernel_rfl) (ph (ag I 1 (iv l) zi3 rfl rfl rfl (pu (.pointer (some ⟨f,3,none⟩)) (by kernel_rfl) (ph (ag I 1 (iv o) zi3 rfl rfl rfl (pu (.pointer (some ⟨f,4,none⟩)) (by kernel_rfl) (ph (ag I 1 (iv p) zi3 rfl rfl rfl (pu (.pointer (some ⟨f,5,none⟩)) (by kernel_rfl) (ph (ag I 1 (iv j) zi3 rfl rfl rfl (pu (.pointer (some ⟨f,6,none⟩)) (by kernel_rfl) (ph (ag I 1 (iv k) zi3 rfl rfl rfl (pu3 (.agg #[iv j,iv k]) (.string (bts B)) (.agg #[iv g,iv i,iv l,iv o,iv p,iv j,iv k,.string (bts B)]) (by kernel_rfl) (ph (bh I _ zeroValue25 rfl fun Z w I=>ph (mb I 0 _ md rfl rfl rfl rfl rfl rfl fun w I=>aa (ab (ab (rgn (by kernel_rfl) (ph (ma I 0 mh md rfl rfl rfl (bt F (fun a7 a4 F=>ph (bg I 17 _ _ (by kernel_rfl) (L17 _ (⟨g,i,l,o,p,j,k,B⟩:Rc) N _ a4) fun w I=>ifN F (fun Q F=>?_) (fun Q F=>?_)))))))))))))))))))))))))))))))))))
 ·
  refine ph (de rfl rfl (fun _=>?_) (fun h=>absurd h Q))
  refine pu bT (by kernel_rfl) (sf 4 (by kernel_rfl) (pu bT (by kernel_rfl) (aa (ah rfl ?_))))
  cases F
  refine lp (fun ch ρ w'=>IsP ch∧Inv [] w0 w' [(some Z,blk [iv g,iv i,iv l,iv o,iv p,iv j,iv k,.string (bts B)] 25),(some D,blk [iv 0,iv 0,iv 0,iv 0,iv 0,iv 0,iv 0,.string (bts [])] 25),(some f,blk [iv g,iv i,iv l,iv o,iv p,iv j,iv k] 199)]) (by kernel_rfl) ?_ ?_
  ·
   refine sd_c (kl ((.iface 26 (iv 5))) (by kernel_rfl) (sd_d (fun _ h=>by cases h) (dies_panic (v:=(.iface 26 (iv 5))) (by kernel_rfl) ⟨⟨_,_,rfl⟩,I⟩)))
  exact fun ch ρ w h=>⟨rfl,h.1,h.2.below⟩

 refine ph (de rfl rfl (fun h=>absurd Q h) (fun _=>pu bF (by kernel_rfl) (aw (by kernel_rfl) (ma I 0 mh md rfl rfl rfl (bt F (fun a0 a5 F=>aw (by kernel_rfl) (bg I 69 _ _ (by kernel_rfl) (L69 _ (⟨g,i,l,o,p,j,k,B⟩:Rc) (hG.up I) N _ a5) fun w I=>pup (.string (bts e)) (by kernel_rfl) (ifE F (fun R F=>?_) (fun R F=>?_)))))))))
 ·
  refine aw (by kernel_rfl) (s_strNe (a:=a0) (b:=e) rfl rfl (fun h=>absurd R h) (fun _=>pu bF (by kernel_rfl) (aa (ai rfl (ak (ab (rgn (by kernel_rfl) (ph (ma I 0 mh md rfl rfl rfl (ph (mb I 1 _ md rfl rfl rfl rfl rfl rfl fun w I=>aa (aj ?_))))))))))))
  cases F
  exact ⟨_,Ret.c rfl rfl (ce I 1 8 [iv g,iv i,iv l,iv o,iv p,iv j,iv k,.string (bts B)] mh md rfl rfl rfl),⟨rfl,I.below⟩⟩
 refine aw (by kernel_rfl) (s_strNe (a:=a0) (b:=e) rfl rfl (fun _=>?_) (fun h=>absurd h R))
 refine pu bT (by kernel_rfl) (aa (ah rfl ?_))
 cases F
 refine lp (fun ch ρ w'=>IsP ch∧Inv [] w0 w' [(some Z,blk [iv g,iv i,iv l,iv o,iv p,iv j,iv k,.string (bts B)] 25),(some D,blk [iv 0,iv 0,iv 0,iv 0,iv 0,iv 0,iv 0,.string (bts [])] 25),(some f,blk [iv g,iv i,iv l,iv o,iv p,iv j,iv k] 199)]) (by kernel_rfl) ?_ ?_
 ·
  refine sd_c (kl ((.iface 26 (iv 5))) (by kernel_rfl) (sd_d (fun _ h=>by cases h) (dies_panic (v:=(.iface 26 (iv 5))) (by kernel_rfl) ⟨⟨_,_,rfl⟩,I⟩)))
 exact fun ch ρ w h=>⟨rfl,h.1,h.2.below⟩
theorem L15 (w0:World) (a:Str) (hG:Gl w0) (N:Nat) (r:(Int × Int × Int × Int × Int × Int × Int × Str × Int)) (F:F15 N a=some r):bn Tryz.prog 15 [.string (bts a)] w0 fun v w=>v=.tuple #[.agg #[iv r.1,iv r.2.1,iv r.2.2.1,iv r.2.2.2.1,iv r.2.2.2.2.1,iv r.2.2.2.2.2.1,iv r.2.2.2.2.2.2.1,.string (bts r.2.2.2.2.2.2.2.1)],iv r.2.2.2.2.2.2.2.2]∧Below w0.heap.size w0 w:=by
  unfold F15 at F
  refine bindSE F (fun x hx F=>?_) (fun x hx F=>?_)
  · cases F; exact dec_ok w0 a _ _ _ _ _ _ _ _ fun w L I=>DoesP.ok (L72 w a (hG.up I) N (.inl x) hx)
  cases F; exact dec_no w0 a fun w L I=>L72 w a (hG.up I) N (.inr x) hx


theorem L146 (w0:World) (e:Option Addr) (f:Nat) (a:List Int) (k:bi w0 e (al eInt a)) (t:a.length≤9223372036854775807) (u:a.length≤f) (N:Nat) (r:Int) (F:F146 N a=some r):bn Tryz.prog 146 [.slice e a.length f] w0 fun v w=>v=iv r∧Below w0.heap.size w0 w:=by
 refine az (n:=18) func146 rfl ntmps146 rfl ?_
 have I:=Inv.start w0
 unfold F146 at F
 refine ab (rgn (by kernel_rfl) (pu (iv 0) (by kernel_rfl) (aa (ab (rgn (by kernel_rfl) (pu (iv 0) (by kernel_rfl) (aa (ab (ab (rgn (by kernel_rfl) (pu3 (.slice e a.length f) (iv ((a.length:Nat):Int)) (iv 0) (by kernel_rfl) (aa (au (cb (fun m ρ w=>∃ (b:Int) (mm:Nat),cd ρ [(3,iv 0),(6,.slice e a.length f),(7,iv (a.length:Int)),(8,iv b)]∧Inv [] w0 w []∧F146l1 a mm b=some r∧mm=m) (m:=N) ⟨0,N,⟨rfl,rfl,rfl,rfl,trivial⟩,I.pk [] rfl rfl,F,rfl⟩ ?_))))))))))))))
 rintro m ρ w ⟨b,mm,hag,I,F,hm⟩
 subst hm; obtain ⟨ρ,rfl⟩:=hag.form; clear hag
 obtain _ | m1:=mm
 ·cases (show (none:Option Int)=some r from F)
 replace F:F146b1 a (F146l1 a m1) b=some r:=F; unfold F146b1 at F
 refine ab (rgn (by kernel_rfl) (ifN F (fun g F=>?_) (fun g F=>?_)))
 ·
  refine ph (cm rfl rfl (fun h=>absurd h g) (fun _=>aa (ab (ai rfl (bw (ab (rgn (by kernel_rfl) (pu2 (iv 0) (iv 0) (by kernel_rfl) (aa (aj ?_))))))))))
  cases F
  exact ⟨_,Ret.r1 rfl rfl,⟨rfl,I.below⟩⟩


 refine ph (cm rfl rfl (fun _=>?_) (fun h=>absurd g h))
 refine aa (ab (ah rfl (ak (ab (au (ab (rgn (by kernel_rfl) (gdE F (fun l F=>bt F (fun d j F=>?_))))))))))
 obtain ⟨x,y,o,p,q⟩:=k.at_ eInt_len (by decide) j
 refine ph (cn (b).toNat zu202 zs26 rfl o rfl (Int.toNat_of_nonneg l).symm (fa j rfl) (ph (dj I (iv d) zi26 rfl p (by simp) (q 0 _ rfl) (pu (iv d) (by kernel_rfl) (aa (ab (rgn (by kernel_rfl) (pu2 (iv d) (iv 0) (by kernel_rfl) (ifN F (fun i F=>?_) (fun i F=>?_))))))))))
 ·
  refine ph (de rfl rfl (fun _=>?_) (fun h=>absurd h i))
  refine aa (ah rfl (ab (rgn (by kernel_rfl) (pu2 (iv d) (iv d) (by kernel_rfl) (aa (aj ?_))))))
  cases F
  exact ⟨_,Ret.r1 rfl rfl,⟨rfl,I.below⟩⟩
 refine ph (de rfl rfl (fun h=>absurd i h) (fun _=>aa (ai rfl (ak (rgn (by kernel_rfl) (ckE F (fun s F=>ph (cj rfl rfl s (pu (iv (b+1)) (by kernel_rfl) (aa (⟨rfl,m1,Nat.lt_succ_self _,⟨b+1,m1,⟨rfl,rfl,rfl,rfl,trivial⟩,I.pk [] rfl rfl,F,rfl⟩⟩)))))))))))
theorem L86 (w0:World) (b:Option Addr) (d:Nat) (a:List Int) (e:bi w0 b (al eInt a)) (f:a.length≤9223372036854775807) (g:a.length≤d) (N:Nat) (r:Int) (F:F86 N a=some r):bn Tryz.prog 86 [.slice b a.length d] w0 fun v w=>v=iv r∧Below w0.heap.size w0 w:=by
 refine az (n:=5) func86 rfl ntmps86 rfl ?_
 have I:=Inv.start w0
 unfold F86 at F
 refine ab (rgn (by kernel_rfl) (pu (iv 0) (by kernel_rfl) (aa (ab (rgn (by kernel_rfl) (pu (.slice b a.length d) (by kernel_rfl) (bt F (fun y7 hy8 F=>ph (bg I 146 _ _ (by kernel_rfl) (L146 _ b d a (e.inv0 I) f g N _ hy8) fun w I=>pu (iv y7) (by kernel_rfl) (aa (aj ?_)))))))))))
 cases F
 exact ⟨_,Ret.r1 rfl rfl,⟨rfl,I.below⟩⟩


theorem L87 (w0:World) (a:Int) (r:Bool) (F:F87 a=some r):bn Tryz.prog 87 [iv a] w0 fun v w=>v=.bool r∧Below w0.heap.size w0 w:=by
 refine az (n:=5) func87 rfl ntmps87 rfl ?_
 have I:=Inv.start w0
 unfold F87 at F
 refine ab (rgn (by kernel_rfl) (pu bF (by kernel_rfl) (aa (ab (rgn (by kernel_rfl) (pu (iv a) (by kernel_rfl) (bt F (fun y7 hy8 F=>ph (bg I 76 _ _ (by kernel_rfl) (L76 _ a 0 59 _ hy8) fun w I=>pu (.bool y7) (by kernel_rfl) (aa (aj ?_)))))))))))
 cases F
 exact ⟨_,Ret.r1 rfl rfl,⟨rfl,I.below⟩⟩


theorem L147 (w0:World) (a:Int) (b:Int) (r:Int) (F:F147 a b=some r):bn Tryz.prog 147 [.int .u8 a,.int .u8 b] w0 fun v w=>v=.int .u8 r∧Below w0.heap.size w0 w:=by
 refine az (n:=12) func147 rfl ntmps147 rfl ?_
 have I:=Inv.start w0
 unfold F147 at F
 refine ab (rgn (by kernel_rfl) (pu (.int .u8 0) (by kernel_rfl) (aa (ab (rgn (by kernel_rfl) (pu (.int .u8 a) (by kernel_rfl) (ph (s_sub8 rfl rfl (pu (.int .u8 b) (by kernel_rfl) (ph (s_add8 rfl rfl (ph (s_sub8 rfl rfl (ph (s_rem8 rfl rfl (by decide) (ph (s_add8 rfl rfl (pu (.int .u8 (w8 (32+((w8 ((w8 ((w8 (a - 32))+b)) - 32)).tmod 95)))) (by kernel_rfl) (aa (aj ?_))))))))))))))))))))
 cases F
 exact ⟨_,Ret.r1 rfl rfl,⟨rfl,I.below⟩⟩


theorem L88 (w0:World) (A:Rc) (f:Int) (hG:Gl w0) (N:Nat) (r:List Sp3) (F:F88 N A f=some r):bn Tryz.prog 88 [.agg (qg A).toArray,iv f] w0 fun v w=>∃ (z0:Option Nat) (z1:Nat) (z2:List Value),v=slv z0 r.length z1∧Inv [] w0 w [(z0,blk z2 35)]∧Row 3 z0 r.length z1 z2 (al bb r):=by
 refine az (n:=65) func88 rfl ntmps88 rfl ?_
 have I:=Inv.start w0
 unfold F88 at F
 refine ab (rgn (by kernel_rfl) (ph (ca I _ rfl fun aG w I=>pu (.slice none 0 0) (by kernel_rfl) (aa (ab (rgn (by kernel_rfl) (ph (ma I 0 mh md rfl rfl rfl (bt F (fun e a6 F=>ph (bg I 69 _ _ (by kernel_rfl) (L69 _ A (hG.up I) N _ a6) fun w I=>pu (.string (bts e)) (by kernel_rfl) (aa (ab (rgn (by kernel_rfl) (pu3 (.string (bts e)) (iv (e.length:Int)) (iv (e.length:Int)) (by kernel_rfl) (aa (dn (fun ρ w=>∃ (y:Str),cd ρ [(1,iv f),(5,.string (bts y)),(6,iv (e.length:Int))]∧Inv [] w0 w []∧F88j1 f N e y=some r) ?_ ?_)))))))))))))))))
 ·
  refine ab (rgn (by kernel_rfl) (pu (iv (e.length:Int)) (by kernel_rfl) (ph (s_rem rfl rfl (by decide) (ifN F (fun K F=>?_) (fun K F=>?_))))))
  ·
   refine ph (di rfl rfl (fun h=>absurd h K) (fun _=>aa (ai rfl (ak (.inl ⟨rfl,⟨e,⟨rfl,rfl,rfl,trivial⟩,I.pk [] rfl rfl,F⟩⟩)))))
  refine ph (di rfl rfl (fun _=>?_) (fun h=>absurd K h))
  refine aa (ah rfl (rgn (by kernel_rfl) (pu (.string (bts e)) (by kernel_rfl) (gdE F (fun a7 F=>ph (s_strCat (a:=e) rfl rfl a7 (pu (.string (bts (e++[32]))) (by kernel_rfl) (aa (.inl ⟨rfl,⟨e++[32],⟨rfl,rfl,rfl,trivial⟩,I.pk [] rfl rfl,F⟩⟩)))))))))
 intro ρ w hJ
 obtain ⟨y,hag,I,F⟩:=hJ
 obtain ⟨ρ,rfl⟩:=hag.form; clear hag
 unfold F88j1 at F
 refine ab (rgn (by kernel_rfl) (pu3 (.slice none 0 0) (.slice none 0 0) (.slice none 0 0) (by kernel_rfl) (aa (ab (ab (rgn (by kernel_rfl) (pu (iv 0) (by kernel_rfl) (aa (au ?_)))))))))
 have I:=I.nilRow 5
 have I:=I.nilRow 5
 have I:=I.nilRow 5
 refine cb (fun m ρ w=>∃ (C:Option Nat) (G:Nat) (L:List Value) (D:Option Nat) (H:Nat) (M:List Value) (E:Option Nat) (J:Nat) (O:List Value) (g:List Int) (i:List Int) (o:List Int) (q:Int) (mm:Nat),cd ρ [(1,iv f),(5,.string (bts y)),(6,iv (e.length:Int)),(7,slv C g.length G),(8,slv D i.length H),(9,slv E o.length J),(10,iv q)]∧Inv [] w0 w [(C,blk L 5),(D,blk M 5),(E,blk O 5)]∧(Row 1 C (g.length) G L (al eB g))∧(Row 1 D (i.length) H M (al eB i))∧(Row 1 E (o.length) J O (al eB o))∧F88l2 f e y mm g i o q=some r∧mm=m) (m:=N) ⟨none,0,[],none,0,[],none,0,[],[],[],[],0,N,⟨rfl,rfl,rfl,rfl,rfl,rfl,rfl,trivial⟩,I.pk [0,1,2] rfl rfl,(Row.nil_ 1),(Row.nil_ 1),(Row.nil_ 1),F,rfl⟩ ?_
 rintro m ρ w ⟨C,G,L,D,H,M,E,J,O,g,i,o,q,mm,hag,I,a0,a1,a2,F,hm⟩
 subst hm; obtain ⟨ρ,rfl⟩:=hag.form; clear hag
 obtain _ | m2:=mm
 ·cases (show (none:Option (List Sp3))=some r from F)
 replace F:F88b2 f e y (F88l2 f e y m2) g i o q=some r:=F; unfold F88b2 at F
 refine ab (ab (rgn (by kernel_rfl) (pu3 (iv q) (.string (bts y)) (iv (y.length:Int)) (by kernel_rfl) (ifN F (fun P F=>?_) (fun P F=>?_)))))
 ·
  refine ph (cm rfl rfl (fun h=>absurd h P) (fun _=>aa (ai rfl (bw (ab (rgn (by kernel_rfl) (pu3 (iv f) (iv (e.length:Int)) (slv C g.length G) (by kernel_rfl) (ph (s_convBS (l:=g) mg zu5 zu9 rfl rfl (I.rowCells 0 rfl a0) (pu3 (.agg #[iv f,iv (e.length:Int),.string (bts (bl g))]) (iv f) (iv (e.length:Int)) (by kernel_rfl) (pu (slv D i.length H) (by kernel_rfl) (ph (s_convBS (l:=i) mg zu5 zu9 rfl rfl (I.rowCells 1 rfl a1) (pu3 (.agg #[iv f,iv (e.length:Int),.string (bts (bl i))]) (iv f) (iv (e.length:Int)) (by kernel_rfl) (pu (slv E o.length J) (by kernel_rfl) (ph (s_convBS (l:=o) mg zu5 zu9 rfl rfl (I.rowCells 2 rfl a2) (pu (.agg #[iv f,iv (e.length:Int),.string (bts (bl o))]) (by kernel_rfl) (ph (fu I [iv f,iv (e.length:Int),.string (bts (bl g)),iv f,iv (e.length:Int),.string (bts (bl i)),iv f,iv (e.length:Int),.string (bts (bl o))] 35 (fun b=>slv (some b) 3 3) (by kernel_rfl) fun Q w I=>pu (.slice (some ⟨Q,0,none⟩) 3 3) (by kernel_rfl) (aa (aj ?_))))))))))))))))))))))
  have a8:Row 3 (some Q) 3 3 [iv f,iv (e.length:Int),.string (bts (bl g)),iv f,iv (e.length:Int),.string (bts (bl i)),iv f,iv (e.length:Int),.string (bts (bl o))] (al bb [(⟨f,(e.length:Int),bl g⟩:Sp3),(⟨f,(e.length:Int),bl i⟩:Sp3),(⟨f,(e.length:Int),bl o⟩:Sp3)]):=Row.lit bk (l:=[(⟨f,(e.length:Int),bl g⟩:Sp3),(⟨f,(e.length:Int),bl i⟩:Sp3),(⟨f,(e.length:Int),bl o⟩:Sp3)]) rfl (mx rfl)
  cases F
  exact ⟨_,Ret.r1 rfl rfl,⟨some Q,3,[iv f,iv (e.length:Int),.string (bts (bl g)),iv f,iv (e.length:Int),.string (bts (bl i)),iv f,iv (e.length:Int),.string (bts (bl o))],(by first | rfl | exact slv_n (Row.n_eq (by assumption) ew (by decide)) | (exact slv_n (Row.n_eq (by assumption) bx (by decide))) | (simp only [srtRc_len,List.length_set,sortI_len] <;> rfl)),I.pk [0] rfl rfl,a8.to rfl rfl⟩⟩


 refine ph (cm rfl rfl (fun _=>?_) (fun h=>absurd P h))
 refine aa (ah rfl (ak (ab (au (ab (gm 9 I (by kernel_rfl) (zp2 (.string (bts y)) (iv q) (fun _=>(by kernel_rfl)) (gdE F (fun a9 F=>bt F (fun s aA F=>zc (.int .u8 (nb s)) (fun w I=>s_strIdx (q).toNat zu9 rfl rfl (Int.toNat_of_nonneg a9).symm aA br) (zp2 (.string (bts y)) (iv q) (fun _=>(by kernel_rfl)) (ckE F (fun aB F=>zc (iv (q+1)) (fun w I=>cj rfl rfl aB br) (gdE F (fun aC F=>bt F (fun x aD F=>zc (.int .u8 (nb x)) (fun w I=>s_strIdx ((q+1).toNat) zu9 rfl rfl (Int.toNat_of_nonneg aC).symm aD br) (zp2 (.int .u8 (nb s)) (.int .u8 (nb x)) (fun _=>(by kernel_rfl)) (zh (fun w I=>aa (ab (rgn (by kernel_rfl) (pu2 (slv C g.length G) (.int .u8 (nb s)) (by kernel_rfl) (ph (fu I [.int .u8 (nb s)] 5 (fun b=>slv (some b) 1 1) (by kernel_rfl) fun aH w I=>gdE F (fun aI F=>ph (ks I mg (z:=.int .u8 0) (k:=1) (bytes:=1) (by kernel_rfl) rfl rfl 1 rfl rfl a0 [.int .u8 (nb s)] rfl rfl (I.cells 0 (off:=0) rfl (fun j u h=>by rw [Nat.zero_add]; exact h)) (by simp [Value.oneCell']) (by omega) (by omega) (n2:=(g++[nb s]).length) (kr rfl rfl) ?_))))))))))))))))))))))))))
 intro R S a3 w I T
 have T:Row 1 R ((g++[nb s]).length) S a3 (al eB (g++[nb s])):=T.snoc _ rfl
 refine pu (slv R ((g++[nb s]).length) S) (by kernel_rfl) (aa (ab (rgn (by kernel_rfl) (pu2 (slv D i.length H) (.int .u8 (nb x)) (by kernel_rfl) (ph (fu I [.int .u8 (nb x)] 5 (fun b=>slv (some b) 1 1) (by kernel_rfl) fun aJ w I=>gdE F (fun aK F=>ph (ks I mg (z:=.int .u8 0) (k:=1) (bytes:=1) (by kernel_rfl) rfl rfl 3 rfl rfl a1 [.int .u8 (nb x)] rfl rfl (I.cells 0 (off:=0) rfl (fun j u h=>by rw [Nat.zero_add]; exact h)) (by simp [Value.oneCell']) (by omega) (by omega) (n2:=(i++[nb x]).length) (kr rfl rfl) ?_))))))))
 intro U V a4 w I W
 have W:Row 1 U ((i++[nb x]).length) V a4 (al eB (i++[nb x])):=W.snoc _ rfl
 refine pu (slv U ((i++[nb x]).length) V) (by kernel_rfl) (aa (rgn (by kernel_rfl) (pu3 (slv E o.length J) (.int .u8 (nb s)) (.int .u8 (nb x)) (by kernel_rfl) (bt F (fun B aE F=>ph (bg I 147 _ _ (by kernel_rfl) (L147 _ (nb s) (nb x) _ aE) fun w I=>ph (fu I [.int .u8 B] 5 (fun b=>slv (some b) 1 1) (by kernel_rfl) fun aL w I=>gdE F (fun aM F=>ph (ks I mg (z:=.int .u8 0) (k:=1) (bytes:=1) (by kernel_rfl) rfl rfl 5 rfl rfl a2 [.int .u8 B] rfl rfl (I.cells 0 (off:=0) rfl (fun j u h=>by rw [Nat.zero_add]; exact h)) (by simp [Value.oneCell']) (by omega) (by omega) (n2:=(o++[B]).length) (kr rfl rfl) ?_)))))))))
 intro X Y a5 w I Z
 have Z:Row 1 X ((o++[B]).length) Y a5 (al eB (o++[B])):=Z.snoc _ rfl
 refine pu (slv X ((o++[B]).length) Y) (by kernel_rfl) (aa (rgn (by kernel_rfl) (pu (iv q) (by kernel_rfl) (ckE F (fun aF F=>ph (cj rfl rfl aF (pu (iv (q+2)) (by kernel_rfl) (aa (⟨rfl,m2,Nat.lt_succ_self _,⟨R,S,a3,U,V,a4,X,Y,a5,g++[nb s],i++[nb x],o++[B],q+2,m2,⟨rfl,rfl,rfl,rfl,rfl,rfl,rfl,trivial⟩,I.pk [3,4,5] rfl rfl,(T.to rfl rfl),(W.to rfl rfl),(Z.to rfl rfl),F,rfl⟩⟩)))))))))
theorem L20 (w0:World) (a:Rc) (e:Int) (hG:Gl w0) (N:Nat) (r:(List Sp3 × Int)) (F:F20 N a e=some r):bn Tryz.prog 20 [.agg (qg a).toArray,iv e] w0 fun v w=>∃ (z0:Option Nat) (z1:Nat) (z2:List Value),v=.tuple #[slv z0 r.1.length z1,iv r.2]∧Inv [] w0 w [(z0,blk z2 35)]∧Row 3 z0 r.1.length z1 z2 (al bb r.1):=by
 refine az (n:=20) func20 rfl ntmps20 rfl ?_
 have I:=Inv.start w0
 unfold F20 at F
 refine ab (rgn (by kernel_rfl) (ph (ca I _ rfl fun E w I=>pu2 (.slice none 0 0) (iv 0) (by kernel_rfl) (aa (ab (ab (rgn (by kernel_rfl) (ph (ma I 0 mh md rfl rfl rfl (bt F (fun g o F=>ph (bg I 17 _ _ (by kernel_rfl) (L17 _ a N _ o) fun w I=>pu (iv e) (by kernel_rfl) (bt F (fun q s F=>ph (bg I 87 _ _ (by kernel_rfl) (L87 _ e _ s) fun w I=>bt F (fun i x F=>ph (bg I 78 _ _ (by kernel_rfl) (L78 _ q 1 _ x) fun w I=>ph (fu I [iv g,iv i] 26 (fun b=>slv (some b) 2 2) (by kernel_rfl) fun y w I=>bt F (fun f z F=>ph (bg I 86 _ _ (by kernel_rfl) (L86 _ (some ⟨y,0,none⟩) 2 [g,i] (I.cells 0 (off:=0) rfl (fun j u h=>by rw [Nat.zero_add]; exact h)) (mx rfl) (Nat.le_refl _) N _ z) fun w I=>pu (iv f) (by kernel_rfl) (aa (ab (rgn (by kernel_rfl) (pu (iv f) (by kernel_rfl) (ifN F (fun h8 F=>?_) (fun h8 F=>?_))))))))))))))))))))))))))
 ·
  refine ph (de rfl rfl (fun _=>?_) (fun h=>absurd h h8))
  refine aa (ah rfl (ab (rgn (by kernel_rfl) (pu3 (iv f) (.slice none 0 0) (iv f) (by kernel_rfl) (aa (aj ?_))))))
  have I:=I.nilRow 35
  cases F
  exact ⟨_,Ret.r2 rfl rfl rfl,⟨none,0,[],rfl,I.pk [0] rfl rfl,Row.nil_ 3⟩⟩


 refine ph (de rfl rfl (fun h=>absurd h8 h) (fun _=>aa (ai rfl (ak (ab (rgn (by kernel_rfl) (ph (ma I 1 mh md rfl rfl rfl (pu (iv e) (by kernel_rfl) (bt F (fun A B F=>ph (co 88 _ (by kernel_rfl) (L88 _ a e (hG.up I) N _ B) ?_))))))))))))
 rintro v w ⟨l,m,C,rfl,hN,D⟩
 have I:=I.join hN; clear hN
 refine pu2 (slv l A.length m) (iv 0) (by kernel_rfl) (aa (aj ?_))
 cases F
 exact ⟨_,Ret.r2 rfl rfl rfl,⟨l,m,C,rfl,I.pk [0] rfl rfl,D.to rfl rfl⟩⟩
theorem L90 (w0:World) (a:Int) (r:Bool) (F:F90 a=some r):bn Tryz.prog 90 [iv a] w0 fun v w=>v=.bool r∧Below w0.heap.size w0 w:=by
 refine az (n:=5) func90 rfl ntmps90 rfl ?_
 have I:=Inv.start w0
 unfold F90 at F
 refine ab (rgn (by kernel_rfl) (pu bF (by kernel_rfl) (aa (ab (rgn (by kernel_rfl) (pu (iv a) (by kernel_rfl) (bt F (fun y7 hy8 F=>ph (bg I 76 _ _ (by kernel_rfl) (L76 _ a 0 2 _ hy8) fun w I=>pu (.bool y7) (by kernel_rfl) (aa (aj ?_)))))))))))
 cases F
 exact ⟨_,Ret.r1 rfl rfl,⟨rfl,I.below⟩⟩


theorem L91 (w0:World) (e:Int) (a:Sp3) (N:Nat) (r:Bool) (F:F91 N e a=some r):bn Tryz.prog 91 [iv e,.agg (qh a).toArray] w0 fun v w=>v=.bool r∧Below w0.heap.size w0 w:=by
 refine az (n:=52) func91 rfl ntmps91 rfl ?_
 have I:=Inv.start w0
 unfold F91 at F
 refine ab (rgn (by kernel_rfl) (ph (ca I _ rfl fun b w I=>pu bF (by kernel_rfl) (aa (ab (ab (rgn (by kernel_rfl) (pu (pt b) (by kernel_rfl) (ph (ag I 0 (iv a.no) zi3 rfl rfl rfl (bt F (fun z o F=>ifN F (fun f F=>?_) (fun f F=>?_)))))))))))))
 ·
  refine ph (bg I 87 _ _ (by kernel_rfl) (bn.mono (L87 _ a.no _ o) (fun v' w' h=>⟨h.1.trans (congrArg Value.bool (Bool.eq_false_iff.2 f)),h.2⟩)) fun w I=>pu2 bT bT (by kernel_rfl) (sf 4 (by kernel_rfl) (pu2 bT bT (by kernel_rfl) (sf 8 (by kernel_rfl) (pu2 bT bT (by kernel_rfl) (sf 4 (by kernel_rfl) (pu bT (by kernel_rfl) (aa (ah rfl (ab (rgn (by kernel_rfl) (pu bF (by kernel_rfl) (aa (aj ?_))))))))))))))
  cases F
  exact ⟨_,Ret.r1 rfl rfl,⟨rfl,I.below⟩⟩


 refine ph (bg I 87 _ _ (by kernel_rfl) (bn.mono (L87 _ a.no _ o) (fun v' w' h=>⟨h.1.trans (congrArg Value.bool f),h.2⟩)) fun w I=>pu2 bF bF (by kernel_rfl) (pup (.pointer (some ⟨b,1,none⟩)) (by kernel_rfl) (aw (by kernel_rfl) (ag I 0 (iv a.sz) zi3 rfl rfl rfl (bt F (fun A p F=>ifN F (fun g F=>?_) (fun g F=>?_)))))))
 ·
  refine aw (by kernel_rfl) (bg I 76 _ _ (by kernel_rfl) (bn.mono (L76 _ a.sz 14 240 _ p) (fun v' w' h=>⟨h.1.trans (congrArg Value.bool (Bool.eq_false_iff.2 g)),h.2⟩)) fun w I=>pup bT (by kernel_rfl) (pu2 bT bT (by kernel_rfl) (sf 8 (by kernel_rfl) (pu2 bT bT (by kernel_rfl) (sf 4 (by kernel_rfl) (pu bT (by kernel_rfl) (aa (ah rfl (ab (rgn (by kernel_rfl) (pu bF (by kernel_rfl) (aa (aj ?_)))))))))))))
  cases F
  exact ⟨_,Ret.r1 rfl rfl,⟨rfl,I.below⟩⟩
 refine aw (by kernel_rfl) (bg I 76 _ _ (by kernel_rfl) (bn.mono (L76 _ a.sz 14 240 _ p) (fun v' w' h=>⟨h.1.trans (congrArg Value.bool g),h.2⟩)) fun w I=>pup bF (by kernel_rfl) (pu2 bF bF (by kernel_rfl) (pup (.pointer (some ⟨b,2,none⟩)) (by kernel_rfl) (aw (by kernel_rfl) (ag I 0 (.string (bts a.t)) zi9 rfl rfl rfl (pup (iv (a.t.length:Int)) (by kernel_rfl) (pup (.pointer (some ⟨b,1,none⟩)) (by kernel_rfl) (aw (by kernel_rfl) (ag I 0 (iv a.sz) zi3 rfl rfl rfl (ckE F (fun q F=>aw (by kernel_rfl) (cj rfl rfl q (aw (by kernel_rfl) (s_quo rfl rfl (by decide) q (ifN F (fun i F=>?_) (fun i F=>?_))))))))))))))))
 ·
  refine aw (by kernel_rfl) (de rfl rfl (fun _=>?_) (fun h=>absurd h i))
  refine pu2 bT bT (by kernel_rfl) (sf 4 (by kernel_rfl) (pu bT (by kernel_rfl) (aa (ah rfl (ab (rgn (by kernel_rfl) (pu bF (by kernel_rfl) (aa (aj ?_)))))))))
  cases F
  exact ⟨_,Ret.r1 rfl rfl,⟨rfl,I.below⟩⟩
 refine aw (by kernel_rfl) (de rfl rfl (fun h=>absurd i h) (fun _=>pu2 bF bF (by kernel_rfl) (pup (.pointer (some ⟨b,2,none⟩)) (by kernel_rfl) (aw (by kernel_rfl) (ag I 0 (.string (bts a.t)) zi9 rfl rfl rfl (bt F (fun B s F=>ifN F (fun j F=>?_) (fun j F=>?_))))))))
 ·
  refine aw (by kernel_rfl) (bg I 145 _ _ (by kernel_rfl) (bn.mono (L145 _ a.t N _ s) (fun v' w' h=>⟨h.1.trans (congrArg Value.bool (Bool.eq_false_iff.2 j)),h.2⟩)) fun w I=>pup bT (by kernel_rfl) (pu bT (by kernel_rfl) (aa (ah rfl (ab (rgn (by kernel_rfl) (pu bF (by kernel_rfl) (aa (aj ?_)))))))))
  cases F
  exact ⟨_,Ret.r1 rfl rfl,⟨rfl,I.below⟩⟩
 refine aw (by kernel_rfl) (bg I 145 _ _ (by kernel_rfl) (bn.mono (L145 _ a.t N _ s) (fun v' w' h=>⟨h.1.trans (congrArg Value.bool j),h.2⟩)) fun w I=>pup bF (by kernel_rfl) (pu bF (by kernel_rfl) (aa (ai rfl (ak (dn (fun ρ w=>∃ (d:Bool),cd ρ [(3,pt b),(5,.bool d)]∧Inv [] w0 w [(some b,blk (qh a) 35)]∧F91j1 a d=some r) ?_ ?_))))))
 ·
  refine rgn (by kernel_rfl) (pu (iv e) (by kernel_rfl) (ifN F (fun k F=>?_) (fun k F=>?_)))
  ·
   refine ph (di rfl rfl (fun h=>absurd h k) (fun _=>pu bF (by kernel_rfl) (sf 4 (by kernel_rfl) (pu2 bF bF (by kernel_rfl) (aa (.inl ⟨rfl,⟨false,⟨rfl,rfl,trivial⟩,I.pk [0] rfl rfl,F⟩⟩))))))
  refine ph (di rfl rfl (fun _=>?_) (fun h=>absurd k h))
  refine pu bT (by kernel_rfl) (pup (.pointer (some ⟨b,1,none⟩)) (by kernel_rfl) (aw (by kernel_rfl) (ag I 0 (iv a.sz) zi3 rfl rfl rfl (aw (by kernel_rfl) (s_rem rfl rfl (by decide) (ifE F (fun l F=>?_) (fun l F=>?_)))))))
  ·
   refine aw (by kernel_rfl) (di rfl rfl (fun _=>?_) (fun h=>absurd l h))
   refine pu2 bT bT (by kernel_rfl) (aa (.inl ⟨rfl,⟨true,⟨rfl,rfl,trivial⟩,I.pk [0] rfl rfl,F⟩⟩))
  refine aw (by kernel_rfl) (di rfl rfl (fun h=>absurd h l) (fun _=>pu2 bF bF (by kernel_rfl) (aa (.inl ⟨rfl,⟨false,⟨rfl,rfl,trivial⟩,I.pk [0] rfl rfl,F⟩⟩))))
 intro ρ w hJ
 obtain ⟨d,hag,I,F⟩:=hJ
 obtain ⟨ρ,rfl⟩:=hag.form; clear hag
 unfold F91j1 at F
 refine ab ?_
 have hG:=F; rcases Bool.eq_false_or_eq_true d with rfl | rfl
 ·
  have F:=hG; clear hG
  refine ifE F (fun _ F=>?_) (fun h=>absurd rfl h)
  refine rgn (by kernel_rfl) (pu3 bT bF bF (by kernel_rfl) (pup (.pointer (some ⟨b,2,none⟩)) (by kernel_rfl) (aw (by kernel_rfl) (ag I 0 (.string (bts a.t)) zi9 rfl rfl rfl (pup (.pointer (some ⟨b,2,none⟩)) (by kernel_rfl) (aw (by kernel_rfl) (ag I 0 (.string (bts a.t)) zi9 rfl rfl rfl (pup (iv (a.t.length:Int)) (by kernel_rfl) (ckE F (fun u F=>aw (by kernel_rfl) (s_sub rfl rfl u (gdE F (fun x F=>bt F (fun C y F=>aw (by kernel_rfl) (s_strIdx (((a.t.length:Int) - 1).toNat) zu9 rfl rfl (Int.toNat_of_nonneg x).symm y (ifE F (fun m F=>?_) (fun m F=>?_)))))))))))))))))
  ·
   refine aw (by kernel_rfl) (s_eql8 rfl rfl (fun _=>?_) (fun h=>absurd m h))
   refine pu2 bT bT (by kernel_rfl) (aa (aj ?_))
   cases F
   exact ⟨_,Ret.r1 rfl rfl,⟨rfl,I.below⟩⟩
  refine aw (by kernel_rfl) (s_eql8 rfl rfl (fun h=>absurd h m) (fun _=>pu2 bF bF (by kernel_rfl) (aa (aj ?_))))
  cases F
  exact ⟨_,Ret.r1 rfl rfl,⟨rfl,I.below⟩⟩
 have F:=hG; clear hG
 refine ifE F (fun h=>absurd h (by decide)) (fun _ F=>rgn (by kernel_rfl) (pu3 bF bT bT (by kernel_rfl) (sf 8 (by kernel_rfl) (pu2 bT bT (by kernel_rfl) (aa (aj ?_))))))
 cases F
 exact ⟨_,Ret.r1 rfl rfl,⟨rfl,I.below⟩⟩
theorem L92 (w0:World) (a:Sp3) (r:List Int) (F:F92 a=some r):bn Tryz.prog 92 [.agg (qh a).toArray] w0 fun v w=>∃ (z0:Option Nat) (z1:Nat) (z2:List Value),v=slv z0 r.length z1∧Inv [] w0 w [(z0,blk z2 5)]∧Row 1 z0 r.length z1 z2 (al eB r):=by
 refine az (n:=13) func92 rfl ntmps92 rfl ?_
 have I:=Inv.start w0
 unfold F92 at F
 refine ab (rgn (by kernel_rfl) (ph (ca I _ rfl fun d w I=>pu (.slice none 0 0) (by kernel_rfl) (aa (ab (rgn (by kernel_rfl) (pu (.pointer (some ⟨d,2,none⟩)) (by kernel_rfl) (ph (ag I 0 (.string (bts a.t)) zi9 rfl rfl rfl (pu (iv (a.t.length:Int)) (by kernel_rfl) (gdE F (fun h9 F=>gdE F (fun i F=>ph (s_makeRowN I (enc:=eB) ew (by decide) ((0:Int)) mg (z:=.int .u8 0) (k:=1) (bytes:=1) (by kernel_rfl) rfl ((a.t.length:Int)).toNat (congrArg (Value.int .i64) (Int.toNat_of_nonneg h9).symm) (congrArg (Value.int .i64) (Int.toNat_of_nonneg h9).symm) (by omega) (by decide) fun b j w I f=>pu (slv (some b) ((List.replicate ((a.t.length:Int)).toNat (0:Int)).length) (((a.t.length:Int)).toNat)) (by kernel_rfl) (aa (ab (rgn (by kernel_rfl) (pu2 (slv (some b) ((List.replicate ((a.t.length:Int)).toNat (0:Int)).length) (((a.t.length:Int)).toNat)) (.pointer (some ⟨d,2,none⟩)) (by kernel_rfl) (ph (ag I 1 (.string (bts a.t)) zi9 rfl rfl rfl (gdE F (fun g F=>ph (s_copyStr I (s:=a.t) mg zs5 0 rfl rfl f rfl g fun h w I e=>aa (ab (rgn (by kernel_rfl) (pu2 (slv (some b) ((List.replicate ((a.t.length:Int)).toNat (0:Int)).length) (((a.t.length:Int)).toNat)) (slv (some b) ((List.replicate ((a.t.length:Int)).toNat (0:Int)).length) (((a.t.length:Int)).toNat)) (by kernel_rfl) (aa (aj ?_))))))))))))))))))))))))))))
 cases F
 exact ⟨_,Ret.r1 rfl rfl,⟨some b,((a.t.length:Int)).toNat,h,(by first | rfl | exact slv_n (Row.n_eq (by assumption) ew (by decide)) | (exact slv_n (Row.n_eq (by assumption) bx (by decide))) | (simp only [srtRc_len,List.length_set,sortI_len] <;> rfl)),I.pk [0] rfl rfl,e.to rfl (e.n_eq ew (by decide))⟩⟩


theorem L165 (w0:World) (a:Int) (b:Int) (r:Int) (F:F165 a b=some r):bn Tryz.prog 165 [.int .u8 a,.int .u8 b] w0 fun v w=>v=.int .u8 r∧Below w0.heap.size w0 w:=by
 refine az (n:=11) func165 rfl ntmps165 rfl ?_
 have I:=Inv.start w0
 unfold F165 at F
 refine ab (rgn (by kernel_rfl) (pu (.int .u8 0) (by kernel_rfl) (aa (ab (rgn (by kernel_rfl) (pu (.int .u8 a) (by kernel_rfl) (ph (s_add8 rfl rfl (pu (.int .u8 b) (by kernel_rfl) (ph (s_sub8 rfl rfl (ph (s_rem8 rfl rfl (by decide) (ph (s_add8 rfl rfl (pu (.int .u8 (w8 (32+((w8 ((w8 (a+95)) - b)).tmod 95)))) (by kernel_rfl) (aa (aj ?_))))))))))))))))))
 cases F
 exact ⟨_,Ret.r1 rfl rfl,⟨rfl,I.below⟩⟩


theorem L149 (w0:World) (o:Option Addr) (p:Nat) (d:List Int) (q:Option Addr) (s:Nat) (f:List Int) (L:bi w0 o (al eB d)) (W:d.length≤9223372036854775807) (X:d.length≤p) (M:bi w0 q (al eB f)) (Y:f.length≤9223372036854775807) (Z:f.length≤s) (N:Nat) (r:List Int) (F:F149 N d f=some r):bn Tryz.prog 149 [.slice o d.length p,.slice q f.length s] w0 fun v w=>∃ (z0:Option Nat) (z1:Nat) (z2:List Value),v=slv z0 r.length z1∧Inv [] w0 w [(z0,blk z2 5)]∧Row 1 z0 r.length z1 z2 (al eB r):=by
 refine az (n:=26) func149 rfl ntmps149 rfl ?_
 have I:=Inv.start w0
 unfold F149 at F
 refine ab (rgn (by kernel_rfl) (pu (.slice none 0 0) (by kernel_rfl) (aa (ab (rgn (by kernel_rfl) (pu (.slice none 0 0) (by kernel_rfl) (aa (ab (ab (rgn (by kernel_rfl) (pu3 (.slice o d.length p) (iv ((d.length:Nat):Int)) (iv 0) (by kernel_rfl) (aa (au ?_)))))))))))))
 have I:=I.nilRow 5
 refine cb (fun m ρ w=>∃ (g:Option Nat) (i:Nat) (t:List Value) (a:List Int) (e:Int) (mm:Nat),cd ρ [(1,.slice q f.length s),(5,slv g a.length i),(8,.slice o d.length p),(9,iv (d.length:Int)),(10,iv e)]∧Inv [] w0 w [(g,blk t 5)]∧(Row 1 g (a.length) i t (al eB a))∧F149l1 d f mm a e=some r∧mm=m) (m:=N) ⟨none,0,[],[],0,N,⟨rfl,rfl,rfl,rfl,rfl,trivial⟩,I.pk [0] rfl rfl,(Row.nil_ 1),F,rfl⟩ ?_
 rintro m ρ w ⟨g,i,t,a,e,mm,hag,I,D,F,hm⟩
 subst hm; obtain ⟨ρ,rfl⟩:=hag.form; clear hag
 obtain _ | m1:=mm
 ·cases (show (none:Option (List Int))=some r from F)
 replace F:F149b1 d f (F149l1 d f m1) a e=some r:=F; unfold F149b1 at F
 refine ab (rgn (by kernel_rfl) (ifN F (fun y F=>?_) (fun y F=>?_)))
 ·
  refine ph (cm rfl rfl (fun h=>absurd h y) (fun _=>aa (ab (ai rfl (bw (ab (rgn (by kernel_rfl) (pu2 (slv g a.length i) (slv g a.length i) (by kernel_rfl) (aa (aj ?_))))))))))
  cases F
  exact ⟨_,Ret.r1 rfl rfl,⟨g,i,t,rfl,I.pk [0] rfl rfl,D.to rfl rfl⟩⟩


 refine ph (cm rfl rfl (fun _=>?_) (fun h=>absurd y h))
 refine aa (ab (ah rfl (ak (ab (au (ab (rgn (by kernel_rfl) (pu (iv e) (by kernel_rfl) (gdE F (fun E F=>bt F (fun x G F=>?_)))))))))))
 obtain ⟨a0,a1,O,P,Q⟩:=L.at_ ew (by decide) G
 refine ph (cn (e).toNat mg zs5 rfl O rfl (Int.toNat_of_nonneg E).symm (fa G rfl) (ph (dj I (.int .u8 x) zi5 rfl P (by simp) (Q 0 _ rfl) (pu2 (iv e) (.int .u8 x) (by kernel_rfl) (aa (rgn (by kernel_rfl) (pu3 (slv g a.length i) (.int .u8 x) (.slice q f.length s) (by kernel_rfl) (pu (iv e) (by kernel_rfl) (bt F (fun H J F=>?_))))))))))
 obtain ⟨a2,a3,R,S,T⟩:=M.at_ ew (by decide) J
 refine ph (cn (e).toNat mg zs5 rfl R rfl (Int.toNat_of_nonneg E).symm (fa J rfl) (ph (dj I (.int .u8 H) zi5 rfl S (by simp) (T 0 _ rfl) (bt F (fun l U F=>ph (bg I 165 _ _ (by kernel_rfl) (L165 _ x H _ U) fun w I=>ph (fu I [.int .u8 l] 5 (fun b=>slv (some b) 1 1) (by kernel_rfl) fun a4 w I=>gdE F (fun a5 F=>ph (ks I mg (z:=.int .u8 0) (k:=1) (bytes:=1) (by kernel_rfl) rfl rfl 1 rfl rfl D [.int .u8 l] rfl rfl (I.cells 0 (off:=0) rfl (fun j u h=>by rw [Nat.zero_add]; exact h)) (by simp [Value.oneCell']) (by omega) (by omega) (n2:=(a++[l]).length) (kr rfl rfl) ?_)))))))))
 intro A B K w I C
 have C:Row 1 A ((a++[l]).length) B K (al eB (a++[l])):=C.snoc _ rfl
 refine pu (slv A ((a++[l]).length) B) (by kernel_rfl) (aa (rgn (by kernel_rfl) (ckE F (fun V F=>ph (cj rfl rfl V (pu (iv (e+1)) (by kernel_rfl) (aa (⟨rfl,m1,Nat.lt_succ_self _,⟨A,B,K,a++[l],e+1,m1,⟨rfl,rfl,rfl,rfl,rfl,trivial⟩,I.pk [1] rfl rfl,(C.to rfl rfl),F,rfl⟩⟩))))))))
theorem L93 (w0:World) (G:Option Addr) (H:Nat) (d:List Int) (zp0_0:Bool) (J:Option Addr) (K:Nat) (f:List Int) (zp0_1:Bool) (R:Option Addr) (S:Nat) (Q:List Int) (zp0_2:Bool) (b7:bi w0 G (al eB d)) (cH:d.length≤9223372036854775807) (cI:d.length≤H) (hzp0_0:G.isNone=zp0_0) (b8:bi w0 J (al eB f)) (cJ:f.length≤9223372036854775807) (cK:f.length≤K) (hzp0_1:J.isNone=zp0_1) (b9:bi w0 R (al eB Q)) (bA:Q.length≤9223372036854775807) (bB:Q.length≤S) (hzp0_2:R.isNone=zp0_2) (N:Nat) (r:Str) (F:F93 N d zp0_0 f zp0_1 Q zp0_2=some r):bn Tryz.prog 93 [.agg #[.slice G d.length H,.slice J f.length K,.slice R Q.length S]] w0 fun v w=>v=.string (bts r)∧Below w0.heap.size w0 w:=by
 refine az (n:=43) func93 rfl ntmps93 rfl ?_
 have I:=Inv.start w0
 unfold F93 at F
 refine ab (rgn (by kernel_rfl) (ph (ca I _ rfl fun bC w I=>pu (.string (bts [])) (by kernel_rfl) (aa (ab (gm 9 I (by kernel_rfl) (zp (pt bC) (fun _=>(by kernel_rfl)) (zc (.slice G d.length H) (fun w I=>ag I 0 (.slice G d.length H) zi148 rfl rfl rfl br) (zp (.pointer (some ⟨bC,1,none⟩)) (fun _=>(by kernel_rfl)) (zc (.slice J f.length K) (fun w I=>ag I 0 (.slice J f.length K) zi148 rfl rfl rfl br) (zp (.pointer (some ⟨bC,2,none⟩)) (fun _=>(by kernel_rfl)) (zc (.slice R Q.length S) (fun w I=>ag I 0 (.slice R Q.length S) zi148 rfl rfl rfl br) (zp2 (.slice G d.length H) (.slice J f.length K) (fun _=>(by kernel_rfl)) (zp (.slice R Q.length S) (fun _=>(by kernel_rfl)) (zh (fun w I=>aa (ab (ab (rgn (by kernel_rfl) (pu (.slice G d.length H) (by kernel_rfl) (ifN F (fun bD F=>?_) (fun bD F=>?_))))))))))))))))))))))
 ·
  refine ph (s_eqnil mg rfl rfl (fun h=>absurd h (isN_f hzp0_0 bD)) (fun _=>aa (ai rfl (ak (ab (ab (rgn (by kernel_rfl) (pu (.slice J f.length K) (by kernel_rfl) (ifN F (fun bE F=>?_) (fun bE F=>?_))))))))))
  ·
   refine ph (s_eqnil mg rfl rfl (fun h=>absurd h (isN_f hzp0_1 bE)) (fun _=>aa (ai rfl (ak (ab (rgn (by kernel_rfl) (pu (.slice none 0 0) (by kernel_rfl) (aa (ab (ab (rgn (by kernel_rfl) (pu3 (.slice G d.length H) (iv ((d.length:Nat):Int)) (iv 0) (by kernel_rfl) (aa (au ?_))))))))))))))
   have I:=I.nilRow 5
   refine cb (fun m ρ w=>∃ (V:Option Nat) (aE:Nat) (aN:List Value) (i:List Int) (L:Int) (mm:Nat),cd ρ [(3,.slice G d.length H),(4,.slice J f.length K),(6,slv V i.length aE),(25,iv (d.length:Int)),(26,iv L)]∧Inv [] w0 w [(V,blk aN 5)]∧(Row 1 V (i.length) aE aN (al eB i))∧F93l4 d f mm i L=some r∧mm=m) (m:=N) ⟨none,0,[],[],0,N,⟨rfl,rfl,rfl,rfl,rfl,trivial⟩,I.pk [0] rfl rfl,(Row.nil_ 1),F,rfl⟩ ?_
   rintro m ρ w ⟨V,aE,aN,i,L,mm,hag,I,bL,F,hm⟩
   subst hm; obtain ⟨ρ,rfl⟩:=hag.form; clear hag
   obtain _ | m4:=mm
   ·cases (show (none:Option Str)=some r from F)
   replace F:F93b4 d f (F93l4 d f m4) i L=some r:=F; unfold F93b4 at F
   refine ab (rgn (by kernel_rfl) (ifN F (fun bG F=>?_) (fun bG F=>?_)))
   ·
    refine ph (cm rfl rfl (fun h=>absurd h bG) (fun _=>aa (ab (ai rfl (bw (ab (rgn (by kernel_rfl) (pu (slv V i.length aE) (by kernel_rfl) (ph (s_convBS (l:=i) mg zu5 zu9 rfl rfl (I.rowCells 0 rfl bL) (pu (.string (bts (bl i))) (by kernel_rfl) (aa (aj ?_)))))))))))))
    cases F
    exact ⟨_,Ret.r1 rfl rfl,⟨rfl,I.below⟩⟩


   refine ph (cm rfl rfl (fun _=>?_) (fun h=>absurd bG h))
   refine aa (ab (ah rfl (ak (ab (au (ab (rgn (by kernel_rfl) (pu2 (iv L) (iv L) (by kernel_rfl) (aa (gdE F (fun bM F=>bt F (fun s bN F=>bt F (fun t bO F=>gdE F (fun dK F=>?_))))))))))))))
   obtain ⟨cL,cM,cN,cO,cP⟩:=b7.at_ ew (by decide) bN
   obtain ⟨cQ,cR,cS,cT,cU⟩:=b8.at_ ew (by decide) bO
   refine kx [tv (fun _=>(slv V i.length aE)),tv (fun _=>(.slice G d.length H)),tv (fun _=>(iv L)),tr (fun _=>(.pointer (some ⟨cL,cM+(L).toNat * 1,none⟩))) [],tr (fun _=>(.int .u8 s)) [],tv (fun _=>(.slice J f.length K)),tv (fun _=>(iv L)),tr (fun _=>(.pointer (some ⟨cQ,cR+(L).toNat * 1,none⟩))) [],tr (fun _=>(.int .u8 t)) [],⟨fun y=>(.slice (some ⟨(y 9).b,0,none⟩) 2 2),fun y=>[(some (y 9).b,blk [.int .u8 s,.int .u8 t] 5)],fun _=>True,[],[]⟩,⟨fun y=>(slv ((y 10).g 0) ((i++[s,t]).length) ((y 10).c 0)),fun y=>[(((y 10).g 0),blk ((y 10).cl 0) 5)],fun y=>(Row 1 ((y 10).g 0) ((i++[s,t]).length) ((y 10).c 0) ((y 10).cl 0) (al eB (i++[s,t]))),[12],[9]⟩,tv (fun y=>(slv ((y 10).g 0) ((i++[s,t]).length) ((y 10).c 0)))] (fun y=>[(3,.slice G d.length H),(4,.slice J f.length K),(6,slv ((y 10).g 0) ((i++[s,t]).length) ((y 10).c 0)),(25,iv (d.length:Int)),(26,iv L)]) (fun y=>[(some (y 9).b,blk [.int .u8 s,.int .u8 t] 5),(((y 10).g 0),blk ((y 10).cl 0) 5)]) I (by kernel_rfl) (fun y=>⟨(by kernel_rfl),(by kernel_rfl)⟩) (fun y=>?_) ?_
   ·
    refine tp rfl (fun _=>(by kernel_rfl)) (tp rfl (fun _=>(by kernel_rfl)) (tp rfl (fun _=>(by kernel_rfl)) (tl0 rfl (fun X w I=>cn (L).toNat mg zs5 rfl cN rfl (Int.toNat_of_nonneg bM).symm (fa bN rfl) br) (tl0 rfl (fun X w I=>dj I (.int .u8 s) zi5 rfl cO (by simp) (cP 0 _ rfl) br) (tp rfl (fun _=>(by kernel_rfl)) (tp rfl (fun _=>(by kernel_rfl)) (tl0 rfl (fun X w I=>cn (L).toNat mg zs5 rfl cS rfl (Int.toNat_of_nonneg bM).symm (fa bO rfl) br) (tl0 rfl (fun X w I=>dj I (.int .u8 t) zi5 rfl cT (by simp) (cU 0 _ rfl) br) (tg (.slice (some ⟨(y 9).b,0,none⟩) 2 2) [] [] rfl ⟨(by kernel_rfl),(by kernel_rfl),(by kernel_rfl)⟩ ?_ ?_)))))))))
    ·intro hp X w I
     refine fu I [.int .u8 s,.int .u8 t] 5 (fun b=>slv (some b) 2 2) (by kernel_rfl) fun bP w I=>⟨wit bP [] [] [] [],(by kernel_rfl),trivial,I.castL (by kernel_rfl)⟩
    refine tg (slv ((y 10).g 0) ((i++[s,t]).length) ((y 10).c 0)) [(V,blk aN 5),(some (y 9).b,blk [.int .u8 s,.int .u8 t] 5)] [(some (y 9).b,blk [.int .u8 s,.int .u8 t] 5)] rfl ⟨(by kernel_rfl),(by kernel_rfl),(by kernel_rfl)⟩ ?_ ?_
    ·intro hp X w I
     refine ks I mg (z:=.int .u8 0) (k:=1) (bytes:=1) (by kernel_rfl) rfl rfl 0 rfl rfl bL [.int .u8 s,.int .u8 t] rfl rfl (I.cells 1 (off:=0) rfl (fun j u h=>by rw [Nat.zero_add]; exact h)) (by simp [Value.oneCell']) (by omega) (by omega) (n2:=(i++[s,t]).length) (kr rfl rfl) ?_
     intro aO aP aQ w I aF
     have aF:Row 1 aO ((i++[s,t]).length) aP aQ (al eB (i++[s,t])):=aF.more
     exact ⟨wit 0 [aO] [aP] [aQ] [],(by kernel_rfl),Eq.mp (by kernel_rfl) aF,I.castL (by kernel_rfl)⟩
    refine tpv (slv ((y 10).g 0) ((i++[s,t]).length) ((y 10).c 0)) rfl ⟨(by kernel_rfl),fun _=>(by kernel_rfl)⟩ (tn)
   intro y hp ρ w hag I
   have aF:Row 1 ((y 10).g 0) ((i++[s,t]).length) ((y 10).c 0) ((y 10).cl 0) (al eB (i++[s,t])):=pgl hp (k:=10) (by decide) (by kernel_rfl)
   clear hp
   generalize (y 9).b=bP at *
   generalize (y 10).g 0=aO at *
   generalize (y 10).c 0=aP at *
   generalize (y 10).cl 0=aQ at *
   obtain ⟨ρ,rfl⟩:=hag.form; clear hag
   refine rgn (by kernel_rfl) (ckE F (fun cV F=>ph (cj rfl rfl cV (pu (iv (L+1)) (by kernel_rfl) (aa (⟨rfl,m4,Nat.lt_succ_self _,⟨aO,aP,aQ,i++[s,t],L+1,m4,⟨rfl,rfl,rfl,rfl,rfl,trivial⟩,I.pk [1] rfl rfl,(aF.to rfl rfl),F,rfl⟩⟩))))))
  refine ph (s_eqnil mg rfl rfl (fun _=>?_) (fun h=>absurd (isN_t hzp0_1 bE) (by obtain ⟨a,ha⟩:=h; rw [ha]; simp)))
  refine aa (ah rfl (rgn (by kernel_rfl) (pu2 (.slice R Q.length S) (.slice G d.length H) (by kernel_rfl) (bt F (fun T cW F=>ph (co 149 _ (by kernel_rfl) (L149 _ R S Q G H d (b9.inv0 I) bA bB (b7.inv0 I) cH cI N _ cW) ?_))))))
  rintro v w ⟨bQ,bR,cX,rfl,hN,cY⟩
  have I:=I.join hN; clear hN
  refine pu (slv bQ T.length bR) (by kernel_rfl) (aa (ab (rgn (by kernel_rfl) (pu (.slice none 0 0) (by kernel_rfl) (aa (ab (ab (rgn (by kernel_rfl) (pu3 (.slice G d.length H) (iv ((d.length:Nat):Int)) (iv 0) (by kernel_rfl) (aa (au ?_)))))))))))
  have I:=I.nilRow 5
  refine cb (fun m ρ w=>∃ (aR:Option Nat) (a2:Nat) (a3:List Value) (W:Option Nat) (aG:Nat) (aS:List Value) (o:List Int) (M:Int) (mm:Nat),cd ρ [(3,.slice G d.length H),(4,slv aR T.length a2),(6,slv W o.length aG),(25,iv (d.length:Int)),(26,iv M)]∧Inv [] w0 w [(aR,blk a3 5),(W,blk aS 5)]∧(Row 1 aR (T.length) a2 a3 (al eB T))∧(Row 1 W (o.length) aG aS (al eB o))∧F93l3 d T mm o M=some r∧mm=m) (m:=N) ⟨bQ,bR,cX,none,0,[],[],0,N,⟨rfl,rfl,rfl,rfl,rfl,trivial⟩,I.pk [1,0] rfl rfl,(cY.to rfl rfl),(Row.nil_ 1),F,rfl⟩ ?_
  rintro m ρ w ⟨aR,a2,a3,W,aG,aS,o,M,mm,hag,I,bS,bU,F,hm⟩
  subst hm; obtain ⟨ρ,rfl⟩:=hag.form; clear hag
  obtain _ | m3:=mm
  ·cases (show (none:Option Str)=some r from F)
  replace F:F93b3 d T (F93l3 d T m3) o M=some r:=F; unfold F93b3 at F
  refine ab (rgn (by kernel_rfl) (ifN F (fun bH F=>?_) (fun bH F=>?_)))
  ·
   refine ph (cm rfl rfl (fun h=>absurd h bH) (fun _=>aa (ab (ai rfl (bw (ab (rgn (by kernel_rfl) (pu (slv W o.length aG) (by kernel_rfl) (ph (s_convBS (l:=o) mg zu5 zu9 rfl rfl (I.rowCells 1 rfl bU) (pu (.string (bts (bl o))) (by kernel_rfl) (aa (aj ?_)))))))))))))
   cases F
   exact ⟨_,Ret.r1 rfl rfl,⟨rfl,I.below⟩⟩
  refine ph (cm rfl rfl (fun _=>?_) (fun h=>absurd bH h))
  refine aa (ab (ah rfl (ak (ab (au (ab (rgn (by kernel_rfl) (pu2 (iv M) (iv M) (by kernel_rfl) (aa (gdE F (fun bV F=>bt F (fun x bW F=>bt F (fun A bX F=>gdE F (fun dL F=>?_))))))))))))))
  obtain ⟨a4,rfl,cZ⟩:=bS.at_ ew (by decide) bX
  obtain ⟨d0,d1,d2,d3,d4⟩:=b7.at_ ew (by decide) bW
  refine kx [tv (fun _=>(slv W o.length aG)),tv (fun _=>(.slice G d.length H)),tv (fun _=>(iv M)),tr (fun _=>(.pointer (some ⟨d0,d1+(M).toNat * 1,none⟩))) [],tr (fun _=>(.int .u8 x)) [],tv (fun _=>(slv (some a4) T.length a2)),tv (fun _=>(iv M)),tr (fun _=>(.pointer (some ⟨a4,(M).toNat * 1,none⟩))) [],tr (fun _=>(.int .u8 A)) [12],⟨fun y=>(.slice (some ⟨(y 9).b,0,none⟩) 2 2),fun y=>[(some (y 9).b,blk [.int .u8 x,.int .u8 A] 5)],fun _=>True,[],[]⟩,⟨fun y=>(slv ((y 10).g 0) ((o++[x,A]).length) ((y 10).c 0)),fun y=>[(((y 10).g 0),blk ((y 10).cl 0) 5)],fun y=>(Row 1 ((y 10).g 0) ((o++[x,A]).length) ((y 10).c 0) ((y 10).cl 0) (al eB (o++[x,A]))),[13],[9]⟩,tv (fun y=>(slv ((y 10).g 0) ((o++[x,A]).length) ((y 10).c 0)))] (fun y=>[(3,.slice G d.length H),(4,slv (some a4) T.length a2),(6,slv ((y 10).g 0) ((o++[x,A]).length) ((y 10).c 0)),(25,iv (d.length:Int)),(26,iv M)]) (fun y=>[(some (y 9).b,blk [.int .u8 x,.int .u8 A] 5),(((y 10).g 0),blk ((y 10).cl 0) 5),(some a4,blk a3 5)]) I (by kernel_rfl) (fun y=>⟨(by kernel_rfl),(by kernel_rfl)⟩) (fun y=>?_) ?_
  ·
   refine tp rfl (fun _=>(by kernel_rfl)) (tp rfl (fun _=>(by kernel_rfl)) (tp rfl (fun _=>(by kernel_rfl)) (tl0 rfl (fun X w I=>cn (M).toNat mg zs5 rfl d2 rfl (Int.toNat_of_nonneg bV).symm (fa bW rfl) br) (tl0 rfl (fun X w I=>dj I (.int .u8 x) zi5 rfl d3 (by simp) (d4 0 _ rfl) br) (tp rfl (fun _=>(by kernel_rfl)) (tp rfl (fun _=>(by kernel_rfl)) (tl0 rfl (fun X w I=>be (M).toNat mg zs5 rfl rfl (Int.toNat_of_nonneg bV).symm (fa bX rfl) br) (tl1 [(some a4,blk a3 5)] rfl (by kernel_rfl) (fun X w I=>s_loadR1 I 0 (.int .u8 A) zi5 rfl rfl (cZ 0 _ rfl) br) (tg (.slice (some ⟨(y 9).b,0,none⟩) 2 2) [] [] rfl ⟨(by kernel_rfl),(by kernel_rfl),(by kernel_rfl)⟩ ?_ ?_)))))))))
   ·intro hp X w I
    refine fu I [.int .u8 x,.int .u8 A] 5 (fun b=>slv (some b) 2 2) (by kernel_rfl) fun bY w I=>⟨wit bY [] [] [] [],(by kernel_rfl),trivial,I.castL (by kernel_rfl)⟩
   refine tg (slv ((y 10).g 0) ((o++[x,A]).length) ((y 10).c 0)) [(W,blk aS 5),(some (y 9).b,blk [.int .u8 x,.int .u8 A] 5)] [(some (y 9).b,blk [.int .u8 x,.int .u8 A] 5)] rfl ⟨(by kernel_rfl),(by kernel_rfl),(by kernel_rfl)⟩ ?_ ?_
   ·intro hp X w I
    refine ks I mg (z:=.int .u8 0) (k:=1) (bytes:=1) (by kernel_rfl) rfl rfl 0 rfl rfl bU [.int .u8 x,.int .u8 A] rfl rfl (I.cells 1 (off:=0) rfl (fun j u h=>by rw [Nat.zero_add]; exact h)) (by simp [Value.oneCell']) (by omega) (by omega) (n2:=(o++[x,A]).length) (kr rfl rfl) ?_
    intro aT aU aV w I aH
    have aH:Row 1 aT ((o++[x,A]).length) aU aV (al eB (o++[x,A])):=aH.more
    exact ⟨wit 0 [aT] [aU] [aV] [],(by kernel_rfl),Eq.mp (by kernel_rfl) aH,I.castL (by kernel_rfl)⟩
   refine tpv (slv ((y 10).g 0) ((o++[x,A]).length) ((y 10).c 0)) rfl ⟨(by kernel_rfl),fun _=>(by kernel_rfl)⟩ (tn)
  intro y hp ρ w hag I
  have aH:Row 1 ((y 10).g 0) ((o++[x,A]).length) ((y 10).c 0) ((y 10).cl 0) (al eB (o++[x,A])):=pgl hp (k:=10) (by decide) (by kernel_rfl)
  clear hp
  generalize (y 9).b=bY at *
  generalize (y 10).g 0=aT at *
  generalize (y 10).c 0=aU at *
  generalize (y 10).cl 0=aV at *
  obtain ⟨ρ,rfl⟩:=hag.form; clear hag
  refine rgn (by kernel_rfl) (ckE F (fun d5 F=>ph (cj rfl rfl d5 (pu (iv (M+1)) (by kernel_rfl) (aa (⟨rfl,m3,Nat.lt_succ_self _,⟨some a4,a2,a3,aT,aU,aV,o++[x,A],M+1,m3,⟨rfl,rfl,rfl,rfl,rfl,trivial⟩,I.pk [2,1] rfl rfl,(bS.to rfl rfl),(aH.to rfl rfl),F,rfl⟩⟩))))))
 refine ph (s_eqnil mg rfl rfl (fun _=>?_) (fun h=>absurd (isN_t hzp0_0 bD) (by obtain ⟨a,ha⟩:=h; rw [ha]; simp)))
 refine aa (ah rfl (rgn (by kernel_rfl) (pu2 (.slice R Q.length S) (.slice J f.length K) (by kernel_rfl) (bt F (fun e d6 F=>ph (co 149 _ (by kernel_rfl) (L149 _ R S Q J K f (b9.inv0 I) bA bB (b8.inv0 I) cJ cK N _ d6) ?_))))))
 rintro v w ⟨Y,Z,bZ,rfl,hN,aI⟩
 have I:=I.join hN; clear hN
 refine pu (slv Y e.length Z) (by kernel_rfl) (aa (ab (ab (rgn (by kernel_rfl) (pu (.slice J f.length K) (by kernel_rfl) (ifN F (fun bI F=>?_) (fun bI F=>?_)))))))
 ·
  refine ph (s_eqnil mg rfl rfl (fun h=>absurd h (isN_f hzp0_1 bI)) (fun _=>aa (ai rfl (ak (ab (rgn (by kernel_rfl) (pu (.slice none 0 0) (by kernel_rfl) (aa (ab (ab (rgn (by kernel_rfl) (pu3 (slv Y e.length Z) (iv ((e.length:Nat):Int)) (iv 0) (by kernel_rfl) (aa (au ?_))))))))))))))
  have I:=I.nilRow 5
  refine cb (fun m ρ w=>∃ (aW:Option Nat) (a5:Nat) (a6:List Value) (a0:Option Nat) (aJ:Nat) (aX:List Value) (p:List Int) (O:Int) (mm:Nat),cd ρ [(3,slv aW e.length a5),(4,.slice J f.length K),(6,slv a0 p.length aJ),(25,iv (e.length:Int)),(26,iv O)]∧Inv [] w0 w [(aW,blk a6 5),(a0,blk aX 5)]∧(Row 1 aW (e.length) a5 a6 (al eB e))∧(Row 1 a0 (p.length) aJ aX (al eB p))∧F93l2 f e mm p O=some r∧mm=m) (m:=N) ⟨Y,Z,bZ,none,0,[],[],0,N,⟨rfl,rfl,rfl,rfl,rfl,trivial⟩,I.pk [1,0] rfl rfl,(aI.to rfl rfl),(Row.nil_ 1),F,rfl⟩ ?_
  rintro m ρ w ⟨aW,a5,a6,a0,aJ,aX,p,O,mm,hag,I,c0,c1,F,hm⟩
  subst hm; obtain ⟨ρ,rfl⟩:=hag.form; clear hag
  obtain _ | m2:=mm
  ·cases (show (none:Option Str)=some r from F)
  replace F:F93b2 f e (F93l2 f e m2) p O=some r:=F; unfold F93b2 at F
  refine ab (rgn (by kernel_rfl) (ifN F (fun bJ F=>?_) (fun bJ F=>?_)))
  ·
   refine ph (cm rfl rfl (fun h=>absurd h bJ) (fun _=>aa (ab (ai rfl (bw (ab (rgn (by kernel_rfl) (pu (slv a0 p.length aJ) (by kernel_rfl) (ph (s_convBS (l:=p) mg zu5 zu9 rfl rfl (I.rowCells 1 rfl c1) (pu (.string (bts (bl p))) (by kernel_rfl) (aa (aj ?_)))))))))))))
   cases F
   exact ⟨_,Ret.r1 rfl rfl,⟨rfl,I.below⟩⟩
  refine ph (cm rfl rfl (fun _=>?_) (fun h=>absurd bJ h))
  refine aa (ab (ah rfl (ak (ab (au (ab (rgn (by kernel_rfl) (pu2 (iv O) (iv O) (by kernel_rfl) (aa (gdE F (fun c2 F=>bt F (fun B c4 F=>bt F (fun C c5 F=>gdE F (fun dM F=>?_))))))))))))))
  obtain ⟨a7,rfl,d7⟩:=c0.at_ ew (by decide) c4
  obtain ⟨d8,d9,dA,dB,dC⟩:=b8.at_ ew (by decide) c5
  refine kx [tv (fun _=>(slv a0 p.length aJ)),tv (fun _=>(slv (some a7) e.length a5)),tv (fun _=>(iv O)),tr (fun _=>(.pointer (some ⟨a7,(O).toNat * 1,none⟩))) [],tr (fun _=>(.int .u8 B)) [12],tv (fun _=>(.slice J f.length K)),tv (fun _=>(iv O)),tr (fun _=>(.pointer (some ⟨d8,d9+(O).toNat * 1,none⟩))) [],tr (fun _=>(.int .u8 C)) [],⟨fun y=>(.slice (some ⟨(y 9).b,0,none⟩) 2 2),fun y=>[(some (y 9).b,blk [.int .u8 B,.int .u8 C] 5)],fun _=>True,[],[]⟩,⟨fun y=>(slv ((y 10).g 0) ((p++[B,C]).length) ((y 10).c 0)),fun y=>[(((y 10).g 0),blk ((y 10).cl 0) 5)],fun y=>(Row 1 ((y 10).g 0) ((p++[B,C]).length) ((y 10).c 0) ((y 10).cl 0) (al eB (p++[B,C]))),[13],[9]⟩,tv (fun y=>(slv ((y 10).g 0) ((p++[B,C]).length) ((y 10).c 0)))] (fun y=>[(3,slv (some a7) e.length a5),(4,.slice J f.length K),(6,slv ((y 10).g 0) ((p++[B,C]).length) ((y 10).c 0)),(25,iv (e.length:Int)),(26,iv O)]) (fun y=>[(some (y 9).b,blk [.int .u8 B,.int .u8 C] 5),(((y 10).g 0),blk ((y 10).cl 0) 5),(some a7,blk a6 5)]) I (by kernel_rfl) (fun y=>⟨(by kernel_rfl),(by kernel_rfl)⟩) (fun y=>?_) ?_
  ·
   refine tp rfl (fun _=>(by kernel_rfl)) (tp rfl (fun _=>(by kernel_rfl)) (tp rfl (fun _=>(by kernel_rfl)) (tl0 rfl (fun X w I=>be (O).toNat mg zs5 rfl rfl (Int.toNat_of_nonneg c2).symm (fa c4 rfl) br) (tl1 [(some a7,blk a6 5)] rfl (by kernel_rfl) (fun X w I=>s_loadR1 I 0 (.int .u8 B) zi5 rfl rfl (d7 0 _ rfl) br) (tp rfl (fun _=>(by kernel_rfl)) (tp rfl (fun _=>(by kernel_rfl)) (tl0 rfl (fun X w I=>cn (O).toNat mg zs5 rfl dA rfl (Int.toNat_of_nonneg c2).symm (fa c5 rfl) br) (tl0 rfl (fun X w I=>dj I (.int .u8 C) zi5 rfl dB (by simp) (dC 0 _ rfl) br) (tg (.slice (some ⟨(y 9).b,0,none⟩) 2 2) [] [] rfl ⟨(by kernel_rfl),(by kernel_rfl),(by kernel_rfl)⟩ ?_ ?_)))))))))
   ·intro hp X w I
    refine fu I [.int .u8 B,.int .u8 C] 5 (fun b=>slv (some b) 2 2) (by kernel_rfl) fun c6 w I=>⟨wit c6 [] [] [] [],(by kernel_rfl),trivial,I.castL (by kernel_rfl)⟩
   refine tg (slv ((y 10).g 0) ((p++[B,C]).length) ((y 10).c 0)) [(a0,blk aX 5),(some (y 9).b,blk [.int .u8 B,.int .u8 C] 5)] [(some (y 9).b,blk [.int .u8 B,.int .u8 C] 5)] rfl ⟨(by kernel_rfl),(by kernel_rfl),(by kernel_rfl)⟩ ?_ ?_
   ·intro hp X w I
    refine ks I mg (z:=.int .u8 0) (k:=1) (bytes:=1) (by kernel_rfl) rfl rfl 0 rfl rfl c1 [.int .u8 B,.int .u8 C] rfl rfl (I.cells 1 (off:=0) rfl (fun j u h=>by rw [Nat.zero_add]; exact h)) (by simp [Value.oneCell']) (by omega) (by omega) (n2:=(p++[B,C]).length) (kr rfl rfl) ?_
    intro aY aZ b0 w I aK
    have aK:Row 1 aY ((p++[B,C]).length) aZ b0 (al eB (p++[B,C])):=aK.more
    exact ⟨wit 0 [aY] [aZ] [b0] [],(by kernel_rfl),Eq.mp (by kernel_rfl) aK,I.castL (by kernel_rfl)⟩
   refine tpv (slv ((y 10).g 0) ((p++[B,C]).length) ((y 10).c 0)) rfl ⟨(by kernel_rfl),fun _=>(by kernel_rfl)⟩ (tn)
  intro y hp ρ w hag I
  have aK:Row 1 ((y 10).g 0) ((p++[B,C]).length) ((y 10).c 0) ((y 10).cl 0) (al eB (p++[B,C])):=pgl hp (k:=10) (by decide) (by kernel_rfl)
  clear hp
  generalize (y 9).b=c6 at *
  generalize (y 10).g 0=aY at *
  generalize (y 10).c 0=aZ at *
  generalize (y 10).cl 0=b0 at *
  obtain ⟨ρ,rfl⟩:=hag.form; clear hag
  refine rgn (by kernel_rfl) (ckE F (fun dD F=>ph (cj rfl rfl dD (pu (iv (O+1)) (by kernel_rfl) (aa (⟨rfl,m2,Nat.lt_succ_self _,⟨some a7,a5,a6,aY,aZ,b0,p++[B,C],O+1,m2,⟨rfl,rfl,rfl,rfl,rfl,trivial⟩,I.pk [2,1] rfl rfl,(c0.to rfl rfl),(aK.to rfl rfl),F,rfl⟩⟩))))))
 refine ph (s_eqnil mg rfl rfl (fun _=>?_) (fun h=>absurd (isN_t hzp0_1 bI) (by obtain ⟨a,ha⟩:=h; rw [ha]; simp)))
 refine aa (ah rfl (rgn (by kernel_rfl) (pu2 (.slice R Q.length S) (slv Y e.length Z) (by kernel_rfl) (bt F (fun U dE F=>ph (co 149 _ (by kernel_rfl) (L149 _ R S Q (Y.map fun b=>⟨b,0,none⟩) Z e (b9.inv0 I) bA bB (I.rowCells 0 rfl aI) (am rfl aI.big) (am rfl aI.cap) N _ dE) ?_))))))
 rintro v w ⟨c7,c8,dF,rfl,hN,dG⟩
 have I:=I.join hN; clear hN
 refine pu (slv c7 U.length c8) (by kernel_rfl) (aa (ab (rgn (by kernel_rfl) (pu (.slice none 0 0) (by kernel_rfl) (aa (ab (ab (rgn (by kernel_rfl) (pu3 (slv Y e.length Z) (iv ((e.length:Nat):Int)) (iv 0) (by kernel_rfl) (aa (au ?_)))))))))))
 have I:=I.nilRow 5
 refine cb (fun m ρ w=>∃ (b1:Option Nat) (a8:Nat) (a9:List Value) (b2:Option Nat) (aA:Nat) (aB:List Value) (a1:Option Nat) (aL:Nat) (b3:List Value) (q:List Int) (P:Int) (mm:Nat),cd ρ [(3,slv b1 e.length a8),(4,slv b2 U.length aA),(6,slv a1 q.length aL),(25,iv (e.length:Int)),(26,iv P)]∧Inv [] w0 w [(b1,blk a9 5),(b2,blk aB 5),(a1,blk b3 5)]∧(Row 1 b1 (e.length) a8 a9 (al eB e))∧(Row 1 b2 (U.length) aA aB (al eB U))∧(Row 1 a1 (q.length) aL b3 (al eB q))∧F93l1 e U mm q P=some r∧mm=m) (m:=N) ⟨Y,Z,bZ,c7,c8,dF,none,0,[],[],0,N,⟨rfl,rfl,rfl,rfl,rfl,trivial⟩,I.pk [2,1,0] rfl rfl,(aI.to rfl rfl),(dG.to rfl rfl),(Row.nil_ 1),F,rfl⟩ ?_
 rintro m ρ w ⟨b1,a8,a9,b2,aA,aB,a1,aL,b3,q,P,mm,hag,I,cA,cB,cC,F,hm⟩
 subst hm; obtain ⟨ρ,rfl⟩:=hag.form; clear hag
 obtain _ | m1:=mm
 ·cases (show (none:Option Str)=some r from F)
 replace F:F93b1 e U (F93l1 e U m1) q P=some r:=F; unfold F93b1 at F
 refine ab (rgn (by kernel_rfl) (ifN F (fun bK F=>?_) (fun bK F=>?_)))
 ·
  refine ph (cm rfl rfl (fun h=>absurd h bK) (fun _=>aa (ab (ai rfl (bw (ab (rgn (by kernel_rfl) (pu (slv a1 q.length aL) (by kernel_rfl) (ph (s_convBS (l:=q) mg zu5 zu9 rfl rfl (I.rowCells 2 rfl cC) (pu (.string (bts (bl q))) (by kernel_rfl) (aa (aj ?_)))))))))))))
  cases F
  exact ⟨_,Ret.r1 rfl rfl,⟨rfl,I.below⟩⟩
 refine ph (cm rfl rfl (fun _=>?_) (fun h=>absurd bK h))
 refine aa (ab (ah rfl (ak (ab (au (ab (rgn (by kernel_rfl) (pu2 (iv P) (iv P) (by kernel_rfl) (aa (gdE F (fun cD F=>bt F (fun D cE F=>bt F (fun E cF F=>gdE F (fun dN F=>?_))))))))))))))
 obtain ⟨aC,rfl,dH⟩:=cA.at_ ew (by decide) cE
 obtain ⟨aD,rfl,dI⟩:=cB.at_ ew (by decide) cF
 refine kx [tv (fun _=>(slv a1 q.length aL)),tv (fun _=>(slv (some aC) e.length a8)),tv (fun _=>(iv P)),tr (fun _=>(.pointer (some ⟨aC,(P).toNat * 1,none⟩))) [],tr (fun _=>(.int .u8 D)) [12],tv (fun _=>(slv (some aD) U.length aA)),tv (fun _=>(iv P)),tr (fun _=>(.pointer (some ⟨aD,(P).toNat * 1,none⟩))) [],tr (fun _=>(.int .u8 E)) [13],⟨fun y=>(.slice (some ⟨(y 9).b,0,none⟩) 2 2),fun y=>[(some (y 9).b,blk [.int .u8 D,.int .u8 E] 5)],fun _=>True,[],[]⟩,⟨fun y=>(slv ((y 10).g 0) ((q++[D,E]).length) ((y 10).c 0)),fun y=>[(((y 10).g 0),blk ((y 10).cl 0) 5)],fun y=>(Row 1 ((y 10).g 0) ((q++[D,E]).length) ((y 10).c 0) ((y 10).cl 0) (al eB (q++[D,E]))),[14],[9]⟩,tv (fun y=>(slv ((y 10).g 0) ((q++[D,E]).length) ((y 10).c 0)))] (fun y=>[(3,slv (some aC) e.length a8),(4,slv (some aD) U.length aA),(6,slv ((y 10).g 0) ((q++[D,E]).length) ((y 10).c 0)),(25,iv (e.length:Int)),(26,iv P)]) (fun y=>[(some (y 9).b,blk [.int .u8 D,.int .u8 E] 5),(((y 10).g 0),blk ((y 10).cl 0) 5),(some aC,blk a9 5),(some aD,blk aB 5)]) I (by kernel_rfl) (fun y=>⟨(by kernel_rfl),(by kernel_rfl)⟩) (fun y=>?_) ?_
 ·
  refine tp rfl (fun _=>(by kernel_rfl)) (tp rfl (fun _=>(by kernel_rfl)) (tp rfl (fun _=>(by kernel_rfl)) (tl0 rfl (fun X w I=>be (P).toNat mg zs5 rfl rfl (Int.toNat_of_nonneg cD).symm (fa cE rfl) br) (tl1 [(some aC,blk a9 5)] rfl (by kernel_rfl) (fun X w I=>s_loadR1 I 0 (.int .u8 D) zi5 rfl rfl (dH 0 _ rfl) br) (tp rfl (fun _=>(by kernel_rfl)) (tp rfl (fun _=>(by kernel_rfl)) (tl0 rfl (fun X w I=>be (P).toNat mg zs5 rfl rfl (Int.toNat_of_nonneg cD).symm (fa cF rfl) br) (tl1 [(some aD,blk aB 5)] rfl (by kernel_rfl) (fun X w I=>s_loadR1 I 0 (.int .u8 E) zi5 rfl rfl (dI 0 _ rfl) br) (tg (.slice (some ⟨(y 9).b,0,none⟩) 2 2) [] [] rfl ⟨(by kernel_rfl),(by kernel_rfl),(by kernel_rfl)⟩ ?_ ?_)))))))))
  ·intro hp X w I
   refine fu I [.int .u8 D,.int .u8 E] 5 (fun b=>slv (some b) 2 2) (by kernel_rfl) fun cG w I=>⟨wit cG [] [] [] [],(by kernel_rfl),trivial,I.castL (by kernel_rfl)⟩
  refine tg (slv ((y 10).g 0) ((q++[D,E]).length) ((y 10).c 0)) [(a1,blk b3 5),(some (y 9).b,blk [.int .u8 D,.int .u8 E] 5)] [(some (y 9).b,blk [.int .u8 D,.int .u8 E] 5)] rfl ⟨(by kernel_rfl),(by kernel_rfl),(by kernel_rfl)⟩ ?_ ?_
  ·intro hp X w I
   refine ks I mg (z:=.int .u8 0) (k:=1) (bytes:=1) (by kernel_rfl) rfl rfl 0 rfl rfl cC [.int .u8 D,.int .u8 E] rfl rfl (I.cells 1 (off:=0) rfl (fun j u h=>by rw [Nat.zero_add]; exact h)) (by simp [Value.oneCell']) (by omega) (by omega) (n2:=(q++[D,E]).length) (kr rfl rfl) ?_
   intro b4 b5 b6 w I aM
   have aM:Row 1 b4 ((q++[D,E]).length) b5 b6 (al eB (q++[D,E])):=aM.more
   exact ⟨wit 0 [b4] [b5] [b6] [],(by kernel_rfl),Eq.mp (by kernel_rfl) aM,I.castL (by kernel_rfl)⟩
  refine tpv (slv ((y 10).g 0) ((q++[D,E]).length) ((y 10).c 0)) rfl ⟨(by kernel_rfl),fun _=>(by kernel_rfl)⟩ (tn)
 intro y hp ρ w hag I
 have aM:Row 1 ((y 10).g 0) ((q++[D,E]).length) ((y 10).c 0) ((y 10).cl 0) (al eB (q++[D,E])):=pgl hp (k:=10) (by decide) (by kernel_rfl)
 clear hp
 generalize (y 9).b=cG at *
 generalize (y 10).g 0=b4 at *
 generalize (y 10).c 0=b5 at *
 generalize (y 10).cl 0=b6 at *
 obtain ⟨ρ,rfl⟩:=hag.form; clear hag
 refine rgn (by kernel_rfl) (ckE F (fun dJ F=>ph (cj rfl rfl dJ (pu (iv (P+1)) (by kernel_rfl) (aa (⟨rfl,m1,Nat.lt_succ_self _,⟨some aC,a8,a9,some aD,aA,aB,b4,b5,b6,q++[D,E],P+1,m1,⟨rfl,rfl,rfl,rfl,rfl,trivial⟩,I.pk [2,3,1] rfl rfl,(cA.to rfl rfl),(cB.to rfl rfl),(aM.to rfl rfl),F,rfl⟩⟩))))))
end Go.K
