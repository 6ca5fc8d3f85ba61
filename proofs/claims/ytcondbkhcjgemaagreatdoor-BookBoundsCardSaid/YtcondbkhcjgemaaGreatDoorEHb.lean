import Derived.Test.YtcondbkhcjgemaaGreatDoorEKK3
import Derived.Test.YtcondbkhcjgemaaGreatDoorESh
import Derived.Lib.AppendIntMem
namespace Go.K
open Go.Proofs Go.RowKit
structure Gl (w:World):Prop where
  tab:Lib.TabIs Tryz.prog w nmPow .u64 Lib.pow10Tab
  syn:∃ t p,w.var? Tryz.prog "strconv.ErrSyntax" = some #[.iface t p]
  ran:∃ t p,w.var? Tryz.prog "strconv.ErrRange" = some #[.iface t p]
theorem var_up {P:Program} {w0 w:World} {L:List (Option Nat × Obj)} (hI:Inv [] w0 w L) {n:String} {cs:Array Value} (h:w0.var? P n=some cs):w.var? P n=some cs:=by
  unfold World.var? at *
  cases hg:P.globalNamed n with
  | none=>rw [hg] at h; cases h
  | some g =>
    rw [hg] at h
    simp only [Option.bind_some] at h ⊢
    cases hb:w0.heap[g]? with
    | none=>rw [hb] at h; cases h
    | some o=>rw [hI.at0 hb]; rw [hb] at h; exact h
theorem Gl.up {w0 w:World} {L:List (Option Nat × Obj)} (h:Gl w0) (hI:Inv [] w0 w L):Gl w:=by
  obtain ⟨t1,p1,h1⟩:=h.syn
  obtain ⟨t2,p2,h2⟩:=h.ran
  exact ⟨var_up hI h.tab,⟨t1,p1,var_up hI h1⟩,⟨t2,p2,var_up hI h2⟩⟩
theorem below_grown (w:World) (k:Nat) (os:Array Obj):Below w.heap.size w (Go.Sort.grow (w.drewN k) os):=.of_kit (Lib.below_grow _ w (Nat.le_refl _) k os) (DLe.of (Nat.le_add_right _ _))
theorem Below.kitted {B:Nat} {w w':World} (h:RowKit.Below B w w'):Below B w w':=.of_kit h trivial
theorem itoa_c (w:World) (n:Int) (hG:Gl w) (hn:InR n):bn Tryz.prog 142 [.int .i64 n] w fun v w'=>v=.string (bts (Lib.itoa n))∧Below w.heap.size w w' :=
  (Tryz.strconv_Itoa n hn.1 hn.2 w hG.tab).mono fun e w' ⟨h1,k,os,h2⟩=>⟨_,h1,rfl,by rw [h2]; exact below_grown w k os⟩
#print axioms itoa_c
end Go.K
