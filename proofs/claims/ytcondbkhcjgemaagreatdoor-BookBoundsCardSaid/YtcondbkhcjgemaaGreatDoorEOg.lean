import Derived.Test.YtcondbkhcjgemaaGreatDoorEHb
import Derived.Test.YtcondbkhcjgemaaGreatDoorRows
import Derived.Lib.LaidU8
import Derived.LaidMore
import Derived.MakeChecks
import Derived.Stop.Joined
namespace Go.K
open Go.Proofs Go.RowKit
abbrev laidR:List (String × DataW Unit):=YtcondbkhcjgemaaGreatDoor.Rows.bookTextsRow.laid
theorem iface_of_trod {H:Type} {enc:TypeId × Value→H} {P:Program} {w:World} {base:Nat} {sp:Nat→Bool} {held:Bool} {t:TypeId} {ms:Array (String × TypeId)} (ht:P.underlying t=some (.interface ms)) :
    ∀ {fuel:Nat} {cs:List Value} {d:DataW H} {p:List MemPlace},DataW.trod enc P w base sp held fuel t cs=some (d,p)→d≠.nil→∃ u x,cs=[.iface u x]
  | 0,cs,d,p,h,_=>by simp [DataW.trod] at h
  | fuel+1,cs,d,p,h,hd=>by
    unfold DataW.trod at h
    rw [ht] at h
    match cs,h with
    | [.nilIface],h=>simp at h; exact absurd h.1.symm hd
    | [.iface u x],h=>exact ⟨u,x,rfl⟩
theorem isErr (n0:Nat) {n:String} (e1:Tryz.prog.globalNamed n=some n0) (e2:(Tryz.prog.globals[n0]?).map (·.type)=some 218) (g:Nat) (t:TypeId) (h1:Tryz.prog.globalNamed n=some g) (h2:(Tryz.prog.globals[g]?).map (·.type)=some t):∃ ms,Tryz.prog.underlying t=some (.interface ms):=by
  obtain rfl:=Option.some.inj (e1.symm.trans h1)
  obtain rfl:=Option.some.inj (e2.symm.trans h2)
  exact ⟨_,Tryz.underlying218⟩
theorem gl_of {W:World} (h:laidMetH Tryz.prog laidR W):Gl W:=by
  rw [MakeChecks.laidMetH_plain _ _ _ (by kernel_rfl)] at h
  obtain ⟨ps,hl,_⟩:=h
  have hr:=Lib.LaidVars_reads hl
  have hi:∀ n d,(n,d)∈laidR→(∀ g t,Tryz.prog.globalNamed n=some g→(Tryz.prog.globals[g]?).map (·.type)=some t→∃ ms,Tryz.prog.underlying t=some (.interface ms))→d≠.nil→∃ t p,W.var? Tryz.prog n=some #[.iface t p]:=fun n d hm ht hd=>by
    obtain ⟨g,t,cs,fuel,p,h1,h2,h3,h4⟩:=hr n d hm
    obtain ⟨ms,hu⟩:=ht g t h1 h2
    obtain ⟨u,x,hx⟩:=iface_of_trod hu h4 hd
    obtain ⟨l⟩:=cs
    have:l=[.iface u x]:=hx
    subst this
    exact ⟨u,x,h3⟩
  refine ⟨?_,?_,?_⟩
  · obtain ⟨g,t,cs,fuel,p,h1,h2,h3,h4⟩:=hr nmPow (Lib.tabData .u64 Lib.pow10Tab) (.tail _ (.tail _ (.head _)))
    unfold Lib.TabIs
    have e1:Tryz.prog.globalNamed nmPow=some 0:=by kernel_rfl
    obtain rfl:=Option.some.inj (e1.symm.trans h1)
    have e2:(Tryz.prog.globals[0]?).map (·.type)=some 256:=by kernel_rfl
    obtain rfl:=Option.some.inj (e2.symm.trans h2)
    rw [h3,← Lib.cells_of_tab Tryz.underlying256 Tryz.underlying236 (by kernel_rfl) (by kernel_rfl) h4]
  · exact hi _ _ (.tail _ (.tail _ (.tail _ (.tail _ (.head _))))) (isErr 2 (by kernel_rfl) (by kernel_rfl)) (by intro h; cases h)
  exact hi _ _ (.tail _ (.tail _ (.tail _ (.head _)))) (isErr 3 (by kernel_rfl) (by kernel_rfl)) (by intro h; cases h)
end Go.K
