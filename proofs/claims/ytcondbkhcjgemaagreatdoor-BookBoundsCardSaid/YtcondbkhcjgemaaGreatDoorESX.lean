/- Se, Sd, Sc. -/
import Derived.Test.YtcondbkhcjgemaaGreatDoorProg
import Derived.Shelf.SlSortCmp.QuietGrown
import Derived.Lib.Small
import Derived.WalkKit
import Derived.Deep.RegionWith
import Derived.RowKit
import Derived.Deep.RegionHeld3
import Derived.StillTailTactics
import Derived.Shelf.RegionOpenPlain
import Derived.Test.YtcondbkhcjgemaaGreatDoorED
set_option linter.unusedVariables false
set_option linter.unusedSimpArgs false
section
namespace Go.Proofs
open Go.RowKit Go.Sort Go.Lib
theorem cmp168 (x:Int) (w:World):Calls Tryz.prog 168 #[.int .i64 x] w fun e w'=>e=.returned (.bool false)∧w'=w:=by
  go_enter Tryz.func168,Tryz.ntmps168
  go_wp2
  go_ret
  exact ⟨by simp,rfl⟩
set_option maxHeartbeats 1000000 in
theorem cmp153 (x y:Int) (w:World):Calls Tryz.prog 153 #[.int .i64 x,.int .i64 y] w fun e w'=>e=.returned (.int .i64 (Lib.compareInt x y))∧w'=w:=by
  have e168:∀ args w,(callFunc 168 args).run Tryz.prog w=.ok (.enter 168 args) w:=enters_of Tryz.func168 (by kernel_rfl) rfl
  go_enter Tryz.func153,Tryz.ntmps153
  go_wp2_with (go_at_fn 168; refine (cmp168 _ _).mono ?_; rintro e w' ⟨rfl,hw⟩; rw [hw])
  all_goals (go_ret; refine ⟨?_,rfl⟩; unfold Lib.compareInt; (repeat' split) <;> first | rfl | (exfalso; omega))
set_option maxHeartbeats 1000000 in
theorem cmp152 (a b:Int) (blk:Nat) (w:World) (h0:w.cell? ⟨blk,0,none⟩=some (.int .i64 a)) (h1:w.cell? ⟨blk,1,none⟩=some (.int .i64 b)) :
    Calls Tryz.prog 152 #[.slice (some ⟨blk,0,none⟩) 2 2] w fun e w'=>e=.returned (.int .i64 (if a=0 then b else a))∧w'=w:=by
  go_enter Tryz.func152,Tryz.ntmps152
  go_wp2
  go_loopw [8] (fun v w2=>∃ i:Nat,v=.int .i64 i∧i≤2∧w2=w∧(1≤i→a=0)∧(2≤i→b=0)) (fun v _=>(2 - intOf v).toNat)
  case atStart=>exact ⟨0,rfl,by omega,rfl,by omega,by omega⟩
  case round =>
    obtain ⟨i,rfl,hi,rfl,ha,hb⟩:=hrel
    have:i=0∨i=1∨i=2:=by omega
    rcases this with rfl | rfl | rfl
    · by_cases h:a=0
      · go_wp2
        exact ⟨⟨1,rfl,by omega,trivial,fun _=>h,by omega⟩,by simp [intOf]⟩
      go_wp2
      go_ret
      exact ⟨by simp,rfl⟩
    · have h9:=ha (by omega)
      by_cases h:b=0
      · go_wp2
        exact ⟨⟨2,rfl,by omega,trivial,fun _=>h9,fun _=>h⟩,by simp [intOf]⟩
      go_wp2
      go_ret
      exact ⟨by simp,rfl⟩
    have h9:=ha (by omega)
    have h8:=hb (by omega)
    go_wp2
    all_goals (go_ret; exact ⟨by simp,rfl⟩)
end Go.Proofs
end
section
namespace Go.Proofs
open Go.RowKit Go.Sort Go.Lib
theorem twocell0 {w:World} {a b:Array Value} {t u:TypeId} {x y:Value} (h0:a[0]?=some x) (h1:a[1]?=some y):((w.alloc (.cells a t)).alloc (.cells b u)).cell? ⟨w.heap.size,0,none⟩=some x∧((w.alloc (.cells a t)).alloc (.cells b u)).cell? ⟨w.heap.size,1,none⟩=some y:=by
  have e:((w.alloc (.cells a t)).alloc (.cells b u)).heap[w.heap.size]?=some (.cells a t):=by
    show ((w.heap.push _).push _)[_]?=_
    simp [Array.getElem?_push]
  unfold World.cell?
  rw [e]
  exact ⟨by simpa using h0,by simpa using h1⟩
theorem twocell1 {w:World} {a b:Array Value} {t u:TypeId} {x y:Value} (h0:b[0]?=some x) (h1:b[1]?=some y):((w.alloc (.cells a t)).alloc (.cells b u)).cell? ⟨w.heap.size+1,0,none⟩=some x∧((w.alloc (.cells a t)).alloc (.cells b u)).cell? ⟨w.heap.size+1,1,none⟩=some y:=by
  have e:=heap_alloc_new (w.alloc (.cells a t)) (.cells b u)
  rw [World.size_alloc] at e
  unfold World.cell?
  rw [e]
  exact ⟨by simpa using h0,by simpa using h1⟩
theorem grow2 (w:World) (a b:Obj):(w.alloc a).alloc b=Go.Sort.grow w #[a,b]:=congrArg (fun h=>({ w with heap:=h }:World)) (show (w.heap.push a).push b=w.heap ++ #[a,b] by rw [← Array.toList_inj]; simp)
theorem grow3 (w:World) (os:Array Obj) (c:Obj):((Go.Sort.grow w os).alloc c).drew=Go.Sort.grow (w.drewN 1) (os.push c):=congrArg (fun h=>({ w with heap:=h,drawn:=w.drawn+1 }:World)) (show (w.heap++os).push c=w.heap++os.push c by simp)
theorem newcell2 {w:World} {cs:Array Value} {t:TypeId} {j:Nat} {v:Value} (h:cs[j]?=some v):(w.alloc (.cells cs t)).cell? ⟨w.heap.size,j,none⟩=some v:=by
  unfold World.cell?
  rw [heap_alloc_new]
  simpa using h
set_option maxHeartbeats 4000000 in
theorem cmp107q (x0 x1 x2 x3 x4 x5 x6 y0 y1 y2 y3 y4 y5 y6:Int) (x7 y7:ByteArray) (w:World):Calls Tryz.prog 107 #[.agg #[.int .i64 x0,.int .i64 x1,.int .i64 x2,.int .i64 x3,.int .i64 x4,.int .i64 x5,.int .i64 x6,.string x7],.agg #[.int .i64 y0,.int .i64 y1,.int .i64 y2,.int .i64 y3,.int .i64 y4,.int .i64 y5,.int .i64 y6,.string y7]] w
    fun e w'=>e=.returned (.int .i64 (if Lib.compareInt x0 y0=0 then Lib.compareInt x1 y1 else Lib.compareInt x0 y0))∧∃ q os,w'=Go.Sort.grow (w.drewN q) os:=by
  have e153:∀ args w,(callFunc 153 args).run Tryz.prog w=.ok (.enter 153 args) w:=enters_of Tryz.func153 (by kernel_rfl) rfl
  have e152:∀ args w,(callFunc 152 args).run Tryz.prog w=.ok (.enter 152 args) w:=enters_of Tryz.func152 (by kernel_rfl) rfl
  have c152:=fun blk W=>cmp152 (Lib.compareInt x0 y0) (Lib.compareInt x1 y1) blk W
  generalize hr:(if Lib.compareInt x0 y0=0 then Lib.compareInt x1 y1 else Lib.compareInt x0 y0)=r at c152 ⊢
  have mixed:Tryz.prog.follows .mixedOrders=true:=by kernel_rfl
  go_enter Tryz.func107,Tryz.ntmps107
  go_wp2_with fail
  have g0:((w.alloc (.cells #[.int .i64 x0,.int .i64 x1,.int .i64 x2,.int .i64 x3,.int .i64 x4,.int .i64 x5,.int .i64 x6,.string x7] 25)).alloc (.cells #[.int .i64 y0,.int .i64 y1,.int .i64 y2,.int .i64 y3,.int .i64 y4,.int .i64 y5,.int .i64 y6,.string y7] 25)).cell? ⟨w.heap.size,0,none⟩=some (.int .i64 x0)∧((w.alloc (.cells #[.int .i64 x0,.int .i64 x1,.int .i64 x2,.int .i64 x3,.int .i64 x4,.int .i64 x5,.int .i64 x6,.string x7] 25)).alloc (.cells #[.int .i64 y0,.int .i64 y1,.int .i64 y2,.int .i64 y3,.int .i64 y4,.int .i64 y5,.int .i64 y6,.string y7] 25)).cell? ⟨w.heap.size,1,none⟩=some (.int .i64 x1):=twocell0 rfl rfl
  have g1:((w.alloc (.cells #[.int .i64 x0,.int .i64 x1,.int .i64 x2,.int .i64 x3,.int .i64 x4,.int .i64 x5,.int .i64 x6,.string x7] 25)).alloc (.cells #[.int .i64 y0,.int .i64 y1,.int .i64 y2,.int .i64 y3,.int .i64 y4,.int .i64 y5,.int .i64 y6,.string y7] 25)).cell? ⟨w.heap.size+1,0,none⟩=some (.int .i64 y0)∧((w.alloc (.cells #[.int .i64 x0,.int .i64 x1,.int .i64 x2,.int .i64 x3,.int .i64 x4,.int .i64 x5,.int .i64 x6,.string x7] 25)).alloc (.cells #[.int .i64 y0,.int .i64 y1,.int .i64 y2,.int .i64 y3,.int .i64 y4,.int .i64 y5,.int .i64 y6,.string y7] 25)).cell? ⟨w.heap.size+1,1,none⟩=some (.int .i64 y1):=twocell1 rfl rfl
  have g2:∃ os,(w.alloc (.cells #[.int .i64 x0,.int .i64 x1,.int .i64 x2,.int .i64 x3,.int .i64 x4,.int .i64 x5,.int .i64 x6,.string x7] 25)).alloc (.cells #[.int .i64 y0,.int .i64 y1,.int .i64 y2,.int .i64 y3,.int .i64 y4,.int .i64 y5,.int .i64 y6,.string y7] 25)=Go.Sort.grow w os:=⟨_,grow2 _ _ _⟩
  generalize (w.alloc (.cells #[.int .i64 x0,.int .i64 x1,.int .i64 x2,.int .i64 x3,.int .i64 x4,.int .i64 x5,.int .i64 x6,.string x7] 25)).alloc (.cells #[.int .i64 y0,.int .i64 y1,.int .i64 y2,.int .i64 y3,.int .i64 y4,.int .i64 y5,.int .i64 y6,.string y7] 25)=W at g0 g1 g2 ⊢
  obtain ⟨h1,h2⟩:=g0
  obtain ⟨h3,h4⟩:=g1
  go_region_held3 (fun w'=>w'.cell? ⟨w.heap.size,0,none⟩=some (.int .i64 x0)∧w'.cell? ⟨w.heap.size,1,none⟩=some (.int .i64 x1)∧w'.cell? ⟨w.heap.size+1,0,none⟩=some (.int .i64 y0)∧w'.cell? ⟨w.heap.size+1,1,none⟩=some (.int .i64 y1)) (go_keep)
    (first | (go_at_fn 153; refine (cmp153 _ _ _).mono ?_; rintro e w' ⟨rfl,rfl⟩) | (go_at_fn 152; refine Calls.mono (c152 _ _ ?_ ?_) ?_; exact newcell2 rfl; exact newcell2 rfl; rintro e w' ⟨rfl,rfl⟩))
  go_wp2
  go_ret
  obtain ⟨os,rfl⟩:=g2
  exact ⟨rfl,1,_,grow3 _ _ _⟩
end Go.Proofs
end
section
namespace Go.K
open Go.Proofs Go.RowKit
theorem cmp_two (a b c d:Int):(if Lib.compareInt a b=0 then Lib.compareInt c d else Lib.compareInt a b)=(if a < b then -1 else if b < a then 1 else if c < d then -1 else if d < c then 1 else 0):=by
  unfold Lib.compareInt
  by_cases h1:a < b <;> by_cases h2:b < a <;> by_cases h3:c < d <;> by_cases h4:d < c <;> simp [h1,h2,h3,h4]
theorem cmp107 (w:World) (x y:Rc):Calls Tryz.prog 107 #[.agg (eRc x).toArray,.agg (eRc y).toArray] w fun e w'=>e=.returned (.int .i64 (ls x y))∧∃ q os,w'=Go.Sort.grow (w.drewN q) os:=by
  refine Calls.mono (cmp107q x.p x.n x.k x.d x.kn x.op x.on y.p y.n y.k y.d y.kn y.op y.on (bts x.t) (bts y.t) w) ?_
  rintro e w' ⟨rfl,h⟩
  refine ⟨?_,h⟩
  rw [cmp_two]; rfl
end Go.K
end
