import Derived.Test.YtcondbkhcjgemaaGreatDoorProg
import Derived.Test.YtcondbkhcjgemaaGreatDoorEKK3
import Derived.Test.YtcondbkhcjgemaaGreatDoorEKK1
import Derived.Test.YtcondbkhcjgemaaGreatDoorEHb
import Derived.RecoverIn
import Derived.Tactics2
namespace Go.K
open Go.Proofs.Tryz
open Go.Proofs Go.RowKit
set_option linter.unusedVariables false
set_option linter.unusedSimpArgs false
set_option maxRecDepth 100000

theorem catch_panicking (p:Addr) (x:Int) (u:TypeId) (pv:Value) (older:List PanicEntry) (w:World) (hc:w.cell? p=some (.int .i64 x)) (hz:w.frozen? p=false) :
    CallsDIn (fen none) 0 Tryz.prog 71 #[.pointer (some p)] (.panicking ({ v:=.iface u pv,recovered:=false } :: older)) w fun e u' w' =>
      e=.returned (.tuple #[])∧u'=.panicking ({ v:=.iface u pv,recovered:=true } :: older)∧w'=w.setCell p (.int .i64 5):=by
  refine callsDIn_of_wpSIn func71 rfl (by simp [fen,Fence.wide]) fun c₀ cs hu=>?_
  apply wpSIn_seq
  apply wpSIn_region
  simp [wpOpsSIn,go_sem,recoverD,hu,ntmps71,Exit.thenS,fen,Fence.wide]
  refine wpSIn_cond (t:=true) (by simp [Act.eval,Array.replicate]) ?_
  simp only [if_true]
  apply wpSIn_region
  simp [wpOpsSIn,go_sem,hc,hz,bodyPostS,results,Tryz.results71]
theorem catch_idle (p:Addr) (w:World) :
    CallsDIn (fen none) 0 Tryz.prog 71 #[.pointer (some p)] .returning w fun e u' w'=>e=.returned (.tuple #[])∧u'=.returning∧w'=w:=by
  refine callsDIn_of_wpSIn func71 rfl (by simp [fen,Fence.wide]) fun c₀ cs hu=>?_
  apply wpSIn_seq
  apply wpSIn_region
  simp [wpOpsSIn,go_sem,recoverD,hu,ntmps71,Exit.thenS,fen,Fence.wide]
  refine wpSIn_cond (t:=false) (by simp [Act.eval,Array.replicate]) ?_
  simp only [Bool.false_eq_true,if_false]
  refine wpSIn_of_wpIn rfl (wpIn_skip ?_)
  cases c₀
  simp_all [bodyPostS,results,Tryz.results71]

attribute [local irreducible] Seq cw cx fl opX
theorem dec_ok (w0:World) (t:Str) (p n k d kn op on:Int) (tx:Str) (h:∀ (w:World) (L:List (Option Nat × Obj)),Inv [] w0 w L→bn Tryz.prog 72 [.string (bts t)] w fun v w'=>v=.agg #[iv p,iv n,iv k,iv d,iv kn,iv op,iv on,.string (bts tx)]∧Below w.heap.size w w') :
    bn Tryz.prog 15 [.string (bts t)] w0 fun v w=>v=.tuple #[.agg #[iv p,iv n,iv k,iv d,iv kn,iv op,iv on,.string (bts tx)],.int .i64 0]∧Below w0.heap.size w0 w:=by
  refine calls_ofM (n:=7) func15 rfl ntmps15 rfl ?_
  have hI:=Inv.start w0
  refine ab (rgn (by kernel_rfl) (ph (bh hI [iv 0,iv 0,iv 0,iv 0,iv 0,iv 0,iv 0,.string (bts [])] zeroValue25 rfl ?_)))
  intro b2 w hI
  refine ph (bh hI [iv 0] zeroValue26 rfl ?_)
  intro b3 w hI
  refine aa (ab (wp_region_defer (by kernel_rfl) (sf_c (kl (.func (.func 71) #[] #[.pointer (some ⟨b3,0,none⟩)]) (by kernel_rfl) ?_))))
  refine sf_d { target:=.fn (.func 71) #[.pointer (some ⟨b3,0,none⟩)],args := #[] } (by kernel_rfl) ?_
  refine ab (rgn (by kernel_rfl) (pu (.string (bts t)) (by kernel_rfl) (ph (bg hI 72 [.string (bts t)] (.agg #[iv p,iv n,iv k,iv d,iv kn,iv op,iv on,.string (bts tx)]) (by kernel_rfl) (h _ _ hI) ?_))))
  intro w hI
  refine ph (aq hI 1 8 [iv p,iv n,iv k,iv d,iv kn,iv op,iv on,.string (bts tx)] sizeOf25 rfl rfl rfl rfl rfl (Nat.le_of_ble_eq_true rfl) ?_)
  intro w hI
  refine ph (aq hI 0 1 [iv 0] sizeOf26 rfl rfl rfl rfl rfl (Nat.le_of_ble_eq_true rfl) ?_)
  intro w hI
  refine aa (aj ?_)
  intro tmps ht
  refine leaves_one rfl (by simp) (f:=71) (args := #[.pointer (some ⟨b3,0,none⟩)]) (by kernel_rfl) ((catch_idle _ w).mono ?_)
  rintro e u' w' ⟨rfl,rfl,rfl⟩
  refine ⟨⟨_,rfl⟩,?_⟩
  refine ⟨_,Ret.cc rfl rfl (ce hI 1 8 [iv p,iv n,iv k,iv d,iv kn,iv op,iv on,.string (bts tx)] isAgg25 sizeOf25 rfl rfl rfl) rfl (bv (hI.cell (i:=0) rfl rfl) isAgg26) tmps ht,_,rfl,rfl,hI.below⟩
theorem dec_no (w0:World) (t:Str) (h:∀ (w:World) (L:List (Option Nat × Obj)),Inv [] w0 w L→DoesP Tryz.prog 72 [.string (bts t)] w (fun _ _=>False) fun ch w'=>IsP ch∧Below w.heap.size w w') :
    bn Tryz.prog 15 [.string (bts t)] w0 fun v w=>v=.tuple #[.agg #[iv 0,iv 0,iv 0,iv 0,iv 0,iv 0,iv 0,.string (bts [])],.int .i64 5]∧Below w0.heap.size w0 w:=by
  refine calls_ofM (n:=7) func15 rfl ntmps15 rfl ?_
  have hI:=Inv.start w0
  refine ab (rgn (by kernel_rfl) (ph (bh hI [iv 0,iv 0,iv 0,iv 0,iv 0,iv 0,iv 0,.string (bts [])] zeroValue25 rfl ?_)))
  intro b2 w hI
  refine ph (bh hI [iv 0] zeroValue26 rfl ?_)
  intro b3 w hI
  refine aa (ab (wp_region_defer (by kernel_rfl) (sf_c (kl (.func (.func 71) #[] #[.pointer (some ⟨b3,0,none⟩)]) (by kernel_rfl) ?_))))
  refine sf_d { target:=.fn (.func 71) #[.pointer (some ⟨b3,0,none⟩)],args := #[] } (by kernel_rfl) ?_
  refine ab (lp (fun ch ρ w'=>(ρ 2=.pointer (some ⟨b2,0,none⟩)∧ρ 3=.pointer (some ⟨b3,0,none⟩))∧IsP ch∧Inv [] w0 w' [(some b3,blk [iv 0] 26),(some b2,blk [iv 0,iv 0,iv 0,iv 0,iv 0,iv 0,iv 0,.string (bts [])] 25)]) (by kernel_rfl) ?_ ?_)
  · refine sd_c (kl (.string (bts t)) (by kernel_rfl) ?_)
    exact sd_d (fun _ h=>by cases h) (dies_call 72 [.string (bts t)] (by kernel_rfl) (Calls.mono (DoesP.diesI (h _ _ hI) hI) fun e w' ⟨ch,he,hh⟩=>⟨ch,he,⟨rfl,rfl⟩,hh⟩))
  rintro ch ρ w ⟨⟨h2,h3⟩,⟨ty,pv,rfl⟩,hI⟩
  intro tmps ht
  refine leaves_one rfl (by simp) (f:=71) (args := #[.pointer (some ⟨b3,0,none⟩)]) (by kernel_rfl) ((catch_panicking _ 0 ty pv [] w (hI.cell (i:=0) rfl rfl) (by simp [World.frozen?,(hI.has 0 b3 _ rfl).1])).mono ?_)
  rintro e u' w' ⟨rfl,rfl,rfl⟩
  have hI:Inv [] w0 (w.setCell ⟨b3,0,none⟩ (.int .i64 5)) [(some b3,blk [iv 5] 26),(some b2,blk [iv 0,iv 0,iv 0,iv 0,iv 0,iv 0,iv 0,.string (bts [])] 25)]:=hI.setCell0 0 rfl
  refine ⟨⟨_,rfl⟩,?_⟩
  refine ⟨_,Ret.cc rfl h2 (ce hI 1 8 [iv 0,iv 0,iv 0,iv 0,iv 0,iv 0,iv 0,.string (bts [])] isAgg25 sizeOf25 rfl rfl rfl) h3 (bv (hI.cell (i:=0) rfl rfl) isAgg26) tmps ht,_,rfl,rfl,hI.below⟩
#print axioms dec_ok
#print axioms dec_no
end Go.K
