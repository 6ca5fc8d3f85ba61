/- What true numbers are asked for. -/
import Derived.Test.YtinkdlmimiefaaaGreatProg
import Derived.Test.YtinkdlmimiefaaaGreatPM35
namespace Go.K
open Go.Proofs Go.RowKit
set_option linter.unusedVariables false
set_option linter.unusedSimpArgs false
set_option maxRecDepth 100000
attribute [local irreducible] Seq Step CallV AnyE opX

/-- Numbers are true on a scene. -/
structure TrueAt (q : Pl) (cs : List Ld) (s : Int) (ts : List Int) (N : Int → Int) : Prop where
  len : ts.length = q.loads.length
  s0 : 0 ≤ s ∧ s ≤ 10000
  cin : ∀ x ∈ cs, x ∈ q.loads
  nb : ∀ x ∈ cs, 0 ≤ N x.src ∧ N x.src ≤ 10000
  nt : ∀ (i : Nat) (x : Ld) (t : Int), q.loads[i]? = some x → ts[i]? = some t → N x.src = t
  sown : inB s q.lo q.hi = true
  ld : ∀ (i : Nat) (x : Ld) (t : Int), q.loads[i]? = some x → ts[i]? = some t → inB t x.lo x.hi = true
  st : ∀ x ∈ q.stands, inB (leftF cs N s x.hr) x.lo x.hi = true
  mx : 0 ≤ leftF cs N s 99999
theorem s_callTruth {P : Program} {ρ : Env} {B : Option Nat} {w w0 : World} {L : List (Option Nat × Obj)} {R : Value → World → Prop} (hI : Inv B w0 w L) {o : Oper} (f : FuncId) (args : List Value) {sc : List Value} {s : Int} {l : List Ld} {N : Int → Int} (h : (execOp (ev ρ) o).run P w = .ok (.enter f args.toArray) w)
    (hc : Does P f args w fun v w' => GivesTruth sc s l N w v w') (kk : ∀ (mb : Nat) (es : List En) (ck : Nat) (M : Int → Int) w', Inv B w0 w' ((some mb, mobj es ck) :: L) → (∀ j, (mget es j).getD (.int .i64 0) = .int .i64 (M j)) → (∀ x ∈ l, M x.src = N x.src) → R (.tuple #[.agg (sc ++ [Value.int .i64 s, Value.map (some mb)]).toArray, .bool true]) w') : Step P o ρ w R :=
  s_call f args h hc fun v w' ⟨mb, es, ck, M, hv, hN, h1, h2⟩ => by
    subst hv
    exact kk mb es ck M w' (hI.join hN) h1 h2
def trulyF (q : Pl) (cs : List Ld) (N : Int → Int) (s h : Int) : Bool := if shutF q h || decide (0 < leftF cs N s h) then false else !(geeseF q h).2 || decide (0 < leftF cs N s (geeseF q h).1)

set_option maxHeartbeats 1600000 in
theorem CheckCarting_c (w0 : World) (pl : Pl) (pA1 : Option Addr) (pn1 pc1 : Nat) (pA2 : Option Addr) (pn2 pc2 : Nat) (pA3 : Option Addr) (pn3 pc3 : Nat) (hP : PlotIn w0 pl pA1 pn1 pA2 pn2 pA3 pn3) (dy : Int) (hn19 : pl.loads.length < 20) (hday : dayI pl dy = 0) (s : Int) (tA : Option Addr) (tn tc : Nat) (ts : List Int) (hT : Cells w0 tA (flat eInt ts)) (htn : tn = ts.length) (N : Int → Int) (hTA : TrueAt (scnF pl dy) (crtF pl dy) s ts N) : Does Tryz.prog 42 [.agg #[.int .i64 pl.lo, .int .i64 pl.hi, .slice pA1 pn1 pc1, .slice pA2 pn2 pc2, .slice pA3 pn3 pc3, .int .i64 pl.geese], .int .i64 dy, .agg #[.int .i64 s, .slice tA tn tc]] w0 fun v w => v = .int .i64 0 ∧ Below w0.heap.size w0 w := by
 have hm1 := hP.m1; have hm2 := hP.m2; have hm3 := hP.m3
 have hln := hTA.len
 refine calls_of (n := 26) Tryz.func42 rfl Tryz.ntmps42 rfl ?_
 have hI := Inv.start w0
 refine wp_seq (rgn (by kernel_rfl) (seq_c (s_boxI hI [iv pl.lo, iv pl.hi, .slice pA1 pn1 pc1, .slice pA2 pn2 pc2, .slice pA3 pn3 pc3, iv pl.geese] rfl ?_)))
 intro b1 w hI
 refine seq_c (s_boxI hI [iv s, .slice tA tn tc] rfl ?_)
 intro b2 w hI
 refine pu (iv 0) (by kernel_rfl) (seq_nil (wp_seq (wp_seq (rgn (by kernel_rfl) (seq_c (s_loadK hI 1 6 [iv pl.lo, iv pl.hi, .slice pA1 pn1 pc1, .slice pA2 pn2 pc2, .slice pA3 pn3 pc3, iv pl.geese] Tryz.isAgg28 Tryz.sizeOf28 rfl rfl rfl rfl ?_))))))
 refine pu (iv dy) (by kernel_rfl) (seq_c (s_callv hI 85 [.agg #[iv pl.lo, iv pl.hi, .slice pA1 pn1 pc1, .slice pA2 pn2 pc2, .slice pA3 pn3 pc3, iv pl.geese], iv dy] (iv (dayI pl dy)) (by kernel_rfl) (checkDay_c _ pl pA1 pn1 pc1 pA2 pn2 pc2 pA3 pn3 pc3 (hP.inv0 hI) dy) ?_))
 intro w hI
 refine pu (iv (dayI pl dy)) (by kernel_rfl) (seq_nil (wp_seq (rgn (by kernel_rfl) (pu (iv (dayI pl dy)) (by kernel_rfl) (seq_c (s_neq rfl rfl ?_ ?_))))))
 ·intro h1
  refine seq_nil (wp_condT rfl (wp_seq (rgn (by kernel_rfl) (pu (iv (dayI pl dy)) (by kernel_rfl) (pu (iv (dayI pl dy)) (by kernel_rfl) (seq_nil (wp_ret ?_)))))))
  exact ⟨iv (dayI pl dy), Ret.r1 rfl rfl, (absurd hday h1)⟩
 ·intro h2
  refine seq_nil (wp_condF rfl (wp_skip (wp_seq (wp_seq (wp_drawn2 hI [0, 1] (by decide) rfl (by kernel_rfl) (by kernel_rfl) ?_)))))
  intro hsub
  refine al_light 0 (.agg #[iv pl.lo, iv pl.hi, .slice pA1 pn1 pc1, .slice pA2 pn2 pc2, .slice pA3 pn3 pc3, iv pl.geese]) hsub rfl (by kernel_rfl) (fun w hI => s_loadK hI 1 6 [iv pl.lo, iv pl.hi, .slice pA1 pn1 pc1, .slice pA2 pn2 pc2, .slice pA3 pn3 pc3, iv pl.geese] Tryz.isAgg28 Tryz.sizeOf28 rfl rfl rfl rfl ⟨rfl, Below.refl _ _⟩) ?_
  refine alp 1 (iv dy) hsub rfl (by kernel_rfl) (fun _ => (by kernel_rfl)) ?_
  refine al_light 3 (.agg #[iv s, .slice tA tn tc]) hsub rfl (by kernel_rfl) (fun w hI => s_loadK hI 0 2 [iv s, .slice tA tn tc] Tryz.isAgg57 Tryz.sizeOf57 rfl rfl rfl rfl ⟨rfl, Below.refl _ _⟩) ?_
  refine any_heavy [2, 8] (by kernel_rfl) rfl (each2 ?_ ?_)
  ·intro w hI
   have hsl := scn_len pl dy; obtain ⟨hsl1, hsl2, hsl3⟩ := hsl; have hsc := crt_len pl dy; have hok_ := plotB_small (dayI_ok hday).1; have hok1 := hok_.s1; have hok2 := hok_.s2; have hok3 := hok_.s3
   refine ol_c rfl (s_callScene hI (q := scnF pl dy) (cs := crtF pl dy) 86 [.agg #[iv pl.lo, iv pl.hi, .slice pA1 pn1 pc1, .slice pA2 pn2 pc2, .slice pA3 pn3 pc3, iv pl.geese], iv dy] (by kernel_rfl) (sceneOf_c _ pl pA1 pn1 pc1 pA2 pn2 pc2 pA3 pn3 pc3 (hP.inv0 hI) (plotB_small (dayI_ok hday).1) dy (by omega)) ?_)
   intro g3 c4 cl5 g7 c8 cl9 g11 c12 cl13 g15 c16 cl17 w hI r6 r10 r14 r18
   refine ⟨_, hI, subk (fun _ h => h.pickL [4, 5] (by decide) rfl) ?_⟩
   intro hsub
   refine any_heavy [4, 8] (by kernel_rfl) rfl (each2 ?_ ?_)
   ·intro w hI
    refine ol_c rfl (s_callTruth hI (sc := [iv (scnF pl dy).lo, iv (scnF pl dy).hi, slv g3 (scnF pl dy).loads.length c4, slv g7 (scnF pl dy).stands.length c8, slv g11 (scnF pl dy).spells.length c12, iv (scnF pl dy).geese, slv g15 (crtF pl dy).length c16]) (s := s) (l := (scnF pl dy).loads) (N := N) 106 [.agg #[iv (scnF pl dy).lo, iv (scnF pl dy).hi, slv g3 (scnF pl dy).loads.length c4, slv g7 (scnF pl dy).stands.length c8, slv g11 (scnF pl dy).spells.length c12, iv (scnF pl dy).geese, slv g15 (crtF pl dy).length c16], .agg #[iv s, .slice tA tn tc]] (by kernel_rfl) (truth_c _ (scnF pl dy) (g3.map fun b => ⟨b, 0, none⟩) (scnF pl dy).loads.length c4 (g7.map fun b => ⟨b, 0, none⟩) (scnF pl dy).stands.length c8 (g11.map fun b => ⟨b, 0, none⟩) (scnF pl dy).spells.length c12 (crtF pl dy) (g15.map fun b => ⟨b, 0, none⟩) (crtF pl dy).length c16 ⟨⟨(hI.rowCells 0 rfl r6), rfl, (hI.rowCells 1 rfl r10), rfl, (hI.rowCells 2 rfl r14), rfl, (by omega), (by omega), (by omega)⟩, (hI.rowCells 3 rfl r18), rfl, r18.cap, (by omega), (by omega), (by omega), (by omega)⟩ s tA tn tc ts (hT.inv0 hI) htn (by omega) N hTA.s0 hTA.cin hTA.nb hTA.nt hTA.sown hTA.ld hTA.st hTA.mx) ?_)
    intro mb19 es20 ck21 M22 w hI hN23 hM24
    refine ⟨_, hI, subk (fun _ h => h.pickL [5, 6] (by decide) rfl) ?_⟩
    intro hsub
    refine alp 5 (.tuple #[.agg #[iv (scnF pl dy).lo, iv (scnF pl dy).hi, slv g3 (scnF pl dy).loads.length c4, slv g7 (scnF pl dy).stands.length c8, slv g11 (scnF pl dy).spells.length c12, iv (scnF pl dy).geese, slv g15 (crtF pl dy).length c16, iv s, .map (some mb19)], .bool true]) hsub rfl (by kernel_rfl) (fun _ => (by kernel_rfl)) ?_
    refine alp 6 (.agg #[iv (scnF pl dy).lo, iv (scnF pl dy).hi, slv g3 (scnF pl dy).loads.length c4, slv g7 (scnF pl dy).stands.length c8, slv g11 (scnF pl dy).spells.length c12, iv (scnF pl dy).geese, slv g15 (crtF pl dy).length c16, iv s, .map (some mb19)]) hsub rfl (by kernel_rfl) (fun _ => (by kernel_rfl)) ?_
    refine alp 7 (.bool true) hsub rfl (by kernel_rfl) (fun _ => (by kernel_rfl)) ?_
    refine any_heavy [8] (by kernel_rfl) rfl (each1 ?_)
    intro w hI
    refine ol_c rfl (s_allocI hI [iv 0, iv 0, .slice none 0 0, .slice none 0 0, .slice none 0 0, iv 0, .slice none 0 0, iv 0, .map none] Tryz.zeroValue144 rfl ?_)
    intro b25 w hI
    refine ⟨_, hI, subk (fun _ h => h.pickL [6, 7] (by decide) rfl) ?_⟩
    intro hsub
    refine any_heavy [9] (by kernel_rfl) rfl (each1 ?_)
    intro w hI
    refine ol_c rfl (s_store hI 0 9 [iv (scnF pl dy).lo, iv (scnF pl dy).hi, slv g3 (scnF pl dy).loads.length c4, slv g7 (scnF pl dy).stands.length c8, slv g11 (scnF pl dy).spells.length c12, iv (scnF pl dy).geese, slv g15 (crtF pl dy).length c16, iv s, .map (some mb19)] Tryz.sizeOf144 rfl rfl rfl rfl rfl (Nat.le_of_ble_eq_true rfl) ?_)
    intro w hI
    refine ⟨_, hI, subk (fun _ h => h.pickL [6, 7] (by decide) rfl) ?_⟩
    intro hsub
    refine alp 10 (.bool true) hsub rfl (by kernel_rfl) (fun _ => (by kernel_rfl)) ?_
    refine any_end (by kernel_rfl) (fun w hI => ?_)
    refine wp_seq (rgn (by kernel_rfl) (pu (.bool true) (by kernel_rfl) (pu (.bool false) (by kernel_rfl) (seq_nil (wp_condF rfl (wp_skip (wp_seq (rgn (by kernel_rfl) (pu (iv 0) (by kernel_rfl) ?_)))))))))
    refine seq_nil (wp_ret ?_)
    exact ⟨iv 0, Ret.r1 rfl rfl, ⟨rfl, hI.below⟩⟩
   ·intro w hI
    refine ol_c rfl (s_allocI hI [iv 0, iv 0, .slice none 0 0, .slice none 0 0, .slice none 0 0, iv 0, .slice none 0 0, iv 0, .map none] Tryz.zeroValue144 rfl ?_)
    intro b26 w hI
    refine ⟨_, hI, subk (fun _ h => h.pickL [5, 6] (by decide) rfl) ?_⟩
    intro hsub
    refine any_heavy [4] (by kernel_rfl) rfl (each1 ?_)
    intro w hI
    refine ol_c rfl (s_callTruth hI (sc := [iv (scnF pl dy).lo, iv (scnF pl dy).hi, slv g3 (scnF pl dy).loads.length c4, slv g7 (scnF pl dy).stands.length c8, slv g11 (scnF pl dy).spells.length c12, iv (scnF pl dy).geese, slv g15 (crtF pl dy).length c16]) (s := s) (l := (scnF pl dy).loads) (N := N) 106 [.agg #[iv (scnF pl dy).lo, iv (scnF pl dy).hi, slv g3 (scnF pl dy).loads.length c4, slv g7 (scnF pl dy).stands.length c8, slv g11 (scnF pl dy).spells.length c12, iv (scnF pl dy).geese, slv g15 (crtF pl dy).length c16], .agg #[iv s, .slice tA tn tc]] (by kernel_rfl) (truth_c _ (scnF pl dy) (g3.map fun b => ⟨b, 0, none⟩) (scnF pl dy).loads.length c4 (g7.map fun b => ⟨b, 0, none⟩) (scnF pl dy).stands.length c8 (g11.map fun b => ⟨b, 0, none⟩) (scnF pl dy).spells.length c12 (crtF pl dy) (g15.map fun b => ⟨b, 0, none⟩) (crtF pl dy).length c16 ⟨⟨(hI.rowCells 1 rfl r6), rfl, (hI.rowCells 2 rfl r10), rfl, (hI.rowCells 3 rfl r14), rfl, (by omega), (by omega), (by omega)⟩, (hI.rowCells 4 rfl r18), rfl, r18.cap, (by omega), (by omega), (by omega), (by omega)⟩ s tA tn tc ts (hT.inv0 hI) htn (by omega) N hTA.s0 hTA.cin hTA.nb hTA.nt hTA.sown hTA.ld hTA.st hTA.mx) ?_)
    intro mb27 es28 ck29 M30 w hI hN31 hM32
    refine ⟨_, hI, subk (fun _ h => h.pickL [6, 7] (by decide) rfl) ?_⟩
    intro hsub
    refine alp 5 (.tuple #[.agg #[iv (scnF pl dy).lo, iv (scnF pl dy).hi, slv g3 (scnF pl dy).loads.length c4, slv g7 (scnF pl dy).stands.length c8, slv g11 (scnF pl dy).spells.length c12, iv (scnF pl dy).geese, slv g15 (crtF pl dy).length c16, iv s, .map (some mb27)], .bool true]) hsub rfl (by kernel_rfl) (fun _ => (by kernel_rfl)) ?_
    refine alp 6 (.agg #[iv (scnF pl dy).lo, iv (scnF pl dy).hi, slv g3 (scnF pl dy).loads.length c4, slv g7 (scnF pl dy).stands.length c8, slv g11 (scnF pl dy).spells.length c12, iv (scnF pl dy).geese, slv g15 (crtF pl dy).length c16, iv s, .map (some mb27)]) hsub rfl (by kernel_rfl) (fun _ => (by kernel_rfl)) ?_
    refine alp 7 (.bool true) hsub rfl (by kernel_rfl) (fun _ => (by kernel_rfl)) ?_
    refine any_heavy [9] (by kernel_rfl) rfl (each1 ?_)
    intro w hI
    refine ol_c rfl (s_store hI 1 9 [iv (scnF pl dy).lo, iv (scnF pl dy).hi, slv g3 (scnF pl dy).loads.length c4, slv g7 (scnF pl dy).stands.length c8, slv g11 (scnF pl dy).spells.length c12, iv (scnF pl dy).geese, slv g15 (crtF pl dy).length c16, iv s, .map (some mb27)] Tryz.sizeOf144 rfl rfl rfl rfl rfl (Nat.le_of_ble_eq_true rfl) ?_)
    intro w hI
    refine ⟨_, hI, subk (fun _ h => h.pickL [6, 7] (by decide) rfl) ?_⟩
    intro hsub
    refine alp 10 (.bool true) hsub rfl (by kernel_rfl) (fun _ => (by kernel_rfl)) ?_
    refine any_end (by kernel_rfl) (fun w hI => ?_)
    refine wp_seq (rgn (by kernel_rfl) (pu (.bool true) (by kernel_rfl) (pu (.bool false) (by kernel_rfl) (seq_nil (wp_condF rfl (wp_skip (wp_seq (rgn (by kernel_rfl) (pu (iv 0) (by kernel_rfl) ?_)))))))))
    refine seq_nil (wp_ret ?_)
    exact ⟨iv 0, Ret.r1 rfl rfl, ⟨rfl, hI.below⟩⟩
  ·intro w hI
   refine ol_c rfl (s_allocI hI [iv 0, iv 0, .slice none 0 0, .slice none 0 0, .slice none 0 0, iv 0, .slice none 0 0, iv 0, .map none] Tryz.zeroValue144 rfl ?_)
   intro b33 w hI
   refine ⟨_, hI, subk (fun _ h => h.pickL [1, 2] (by decide) rfl) ?_⟩
   intro hsub
   refine any_heavy [2] (by kernel_rfl) rfl (each1 ?_)
   intro w hI
   have hsl := scn_len pl dy; obtain ⟨hsl1, hsl2, hsl3⟩ := hsl; have hsc := crt_len pl dy; have hok_ := plotB_small (dayI_ok hday).1; have hok1 := hok_.s1; have hok2 := hok_.s2; have hok3 := hok_.s3
   refine ol_c rfl (s_callScene hI (q := scnF pl dy) (cs := crtF pl dy) 86 [.agg #[iv pl.lo, iv pl.hi, .slice pA1 pn1 pc1, .slice pA2 pn2 pc2, .slice pA3 pn3 pc3, iv pl.geese], iv dy] (by kernel_rfl) (sceneOf_c _ pl pA1 pn1 pc1 pA2 pn2 pc2 pA3 pn3 pc3 (hP.inv0 hI) (plotB_small (dayI_ok hday).1) dy (by omega)) ?_)
   intro g34 c35 cl36 g38 c39 cl40 g42 c43 cl44 g46 c47 cl48 w hI r37 r41 r45 r49
   refine ⟨_, hI, subk (fun _ h => h.pickL [5, 6] (by decide) rfl) ?_⟩
   intro hsub
   refine any_heavy [4] (by kernel_rfl) rfl (each1 ?_)
   intro w hI
   refine ol_c rfl (s_callTruth hI (sc := [iv (scnF pl dy).lo, iv (scnF pl dy).hi, slv g34 (scnF pl dy).loads.length c35, slv g38 (scnF pl dy).stands.length c39, slv g42 (scnF pl dy).spells.length c43, iv (scnF pl dy).geese, slv g46 (crtF pl dy).length c47]) (s := s) (l := (scnF pl dy).loads) (N := N) 106 [.agg #[iv (scnF pl dy).lo, iv (scnF pl dy).hi, slv g34 (scnF pl dy).loads.length c35, slv g38 (scnF pl dy).stands.length c39, slv g42 (scnF pl dy).spells.length c43, iv (scnF pl dy).geese, slv g46 (crtF pl dy).length c47], .agg #[iv s, .slice tA tn tc]] (by kernel_rfl) (truth_c _ (scnF pl dy) (g34.map fun b => ⟨b, 0, none⟩) (scnF pl dy).loads.length c35 (g38.map fun b => ⟨b, 0, none⟩) (scnF pl dy).stands.length c39 (g42.map fun b => ⟨b, 0, none⟩) (scnF pl dy).spells.length c43 (crtF pl dy) (g46.map fun b => ⟨b, 0, none⟩) (crtF pl dy).length c47 ⟨⟨(hI.rowCells 0 rfl r37), rfl, (hI.rowCells 1 rfl r41), rfl, (hI.rowCells 2 rfl r45), rfl, (by omega), (by omega), (by omega)⟩, (hI.rowCells 3 rfl r49), rfl, r49.cap, (by omega), (by omega), (by omega), (by omega)⟩ s tA tn tc ts (hT.inv0 hI) htn (by omega) N hTA.s0 hTA.cin hTA.nb hTA.nt hTA.sown hTA.ld hTA.st hTA.mx) ?_)
   intro mb50 es51 ck52 M53 w hI hN54 hM55
   refine ⟨_, hI, subk (fun _ h => h.pickL [6, 7] (by decide) rfl) ?_⟩
   intro hsub
   refine alp 5 (.tuple #[.agg #[iv (scnF pl dy).lo, iv (scnF pl dy).hi, slv g34 (scnF pl dy).loads.length c35, slv g38 (scnF pl dy).stands.length c39, slv g42 (scnF pl dy).spells.length c43, iv (scnF pl dy).geese, slv g46 (crtF pl dy).length c47, iv s, .map (some mb50)], .bool true]) hsub rfl (by kernel_rfl) (fun _ => (by kernel_rfl)) ?_
   refine alp 6 (.agg #[iv (scnF pl dy).lo, iv (scnF pl dy).hi, slv g34 (scnF pl dy).loads.length c35, slv g38 (scnF pl dy).stands.length c39, slv g42 (scnF pl dy).spells.length c43, iv (scnF pl dy).geese, slv g46 (crtF pl dy).length c47, iv s, .map (some mb50)]) hsub rfl (by kernel_rfl) (fun _ => (by kernel_rfl)) ?_
   refine alp 7 (.bool true) hsub rfl (by kernel_rfl) (fun _ => (by kernel_rfl)) ?_
   refine any_heavy [9] (by kernel_rfl) rfl (each1 ?_)
   intro w hI
   refine ol_c rfl (s_store hI 5 9 [iv (scnF pl dy).lo, iv (scnF pl dy).hi, slv g34 (scnF pl dy).loads.length c35, slv g38 (scnF pl dy).stands.length c39, slv g42 (scnF pl dy).spells.length c43, iv (scnF pl dy).geese, slv g46 (crtF pl dy).length c47, iv s, .map (some mb50)] Tryz.sizeOf144 rfl rfl rfl rfl rfl (Nat.le_of_ble_eq_true rfl) ?_)
   intro w hI
   refine ⟨_, hI, subk (fun _ h => h.pickL [6, 7] (by decide) rfl) ?_⟩
   intro hsub
   refine alp 10 (.bool true) hsub rfl (by kernel_rfl) (fun _ => (by kernel_rfl)) ?_
   refine any_end (by kernel_rfl) (fun w hI => ?_)
   refine wp_seq (rgn (by kernel_rfl) (pu (.bool true) (by kernel_rfl) (pu (.bool false) (by kernel_rfl) (seq_nil (wp_condF rfl (wp_skip (wp_seq (rgn (by kernel_rfl) (pu (iv 0) (by kernel_rfl) ?_)))))))))
   refine seq_nil (wp_ret ?_)
   exact ⟨iv 0, Ret.r1 rfl rfl, ⟨rfl, hI.below⟩⟩

set_option maxHeartbeats 1600000 in
theorem Left_c (w0 : World) (pl : Pl) (pA1 : Option Addr) (pn1 pc1 : Nat) (pA2 : Option Addr) (pn2 pc2 : Nat) (pA3 : Option Addr) (pn3 pc3 : Nat) (hP : PlotIn w0 pl pA1 pn1 pA2 pn2 pA3 pn3) (h dy : Int) (hn19 : pl.loads.length < 20) (hhour : hourI pl h dy = 0) (s : Int) (tA : Option Addr) (tn tc : Nat) (ts : List Int) (hT : Cells w0 tA (flat eInt ts)) (htn : tn = ts.length) (N : Int → Int) (hTA : TrueAt (scnF pl dy) (crtF pl dy) s ts N) : Does Tryz.prog 40 [.agg #[.int .i64 pl.lo, .int .i64 pl.hi, .slice pA1 pn1 pc1, .slice pA2 pn2 pc2, .slice pA3 pn3 pc3, .int .i64 pl.geese], .agg #[.int .i64 s, .slice tA tn tc], .int .i64 h, .int .i64 dy] w0 fun v w => v = .tuple #[.int .i64 (leftF (crtF pl dy) N s h), .int .i64 0] ∧ Below w0.heap.size w0 w := by
 have hm1 := hP.m1; have hm2 := hP.m2; have hm3 := hP.m3
 have hln := hTA.len
 refine calls_of (n := 33) Tryz.func40 rfl Tryz.ntmps40 rfl ?_
 have hI := Inv.start w0
 refine wp_seq (rgn (by kernel_rfl) (seq_c (s_boxI hI [iv pl.lo, iv pl.hi, .slice pA1 pn1 pc1, .slice pA2 pn2 pc2, .slice pA3 pn3 pc3, iv pl.geese] rfl ?_)))
 intro b1 w hI
 refine seq_c (s_boxI hI [iv s, .slice tA tn tc] rfl ?_)
 intro b2 w hI
 refine pu (iv 0) (by kernel_rfl) (pu (iv 0) (by kernel_rfl) (seq_nil (wp_seq (wp_seq (rgn (by kernel_rfl) (seq_c (s_loadK hI 1 6 [iv pl.lo, iv pl.hi, .slice pA1 pn1 pc1, .slice pA2 pn2 pc2, .slice pA3 pn3 pc3, iv pl.geese] Tryz.isAgg28 Tryz.sizeOf28 rfl rfl rfl rfl ?_)))))))
 refine pu (iv h) (by kernel_rfl) (pu (iv dy) (by kernel_rfl) (seq_c (s_callv hI 97 [.agg #[iv pl.lo, iv pl.hi, .slice pA1 pn1 pc1, .slice pA2 pn2 pc2, .slice pA3 pn3 pc3, iv pl.geese], iv h, iv dy] (iv (hourI pl h dy)) (by kernel_rfl) (checkHour_c _ pl pA1 pn1 pc1 pA2 pn2 pc2 pA3 pn3 pc3 (hP.inv0 hI) h dy) ?_)))
 intro w hI
 refine pu (iv (hourI pl h dy)) (by kernel_rfl) (seq_nil (wp_seq (rgn (by kernel_rfl) (pu (iv (hourI pl h dy)) (by kernel_rfl) (seq_c (s_neq rfl rfl ?_ ?_))))))
 ·intro h1
  refine seq_nil (wp_condT rfl (wp_seq (rgn (by kernel_rfl) (pu (iv (hourI pl h dy)) (by kernel_rfl) (pu (iv 0) (by kernel_rfl) (pu (iv (hourI pl h dy)) (by kernel_rfl) (seq_nil (wp_ret ?_))))))))
  exact ⟨.tuple #[iv 0, iv (hourI pl h dy)], Ret.r2 rfl rfl rfl, (absurd hhour h1)⟩
 ·intro h2
  refine seq_nil (wp_condF rfl (wp_skip (wp_cut (fun ρ w => ∃ (b25 : Nat) (mb19 : Nat) (es20 : List En) (ck21 : Nat) (M22 : Int → Int) (g3 : Option Nat) (c4 : Nat) (cl5 : List Value) (g7 : Option Nat) (c8 : Nat) (cl9 : List Value) (g11 : Option Nat) (c12 : Nat) (cl13 : List Value) (g15 : Option Nat) (c16 : Nat) (cl17 : List Value), Agree ρ [(2, iv h), (11, .pointer (some ⟨b25, 0, none⟩)), (12, .bool true)] ∧ Inv none w0 w [(some b25, blk [iv (scnF pl dy).lo, iv (scnF pl dy).hi, slv g3 (scnF pl dy).loads.length c4, slv g7 (scnF pl dy).stands.length c8, slv g11 (scnF pl dy).spells.length c12, iv (scnF pl dy).geese, slv g15 (crtF pl dy).length c16, iv s, .map (some mb19)] 144), (some mb19, mobj es20 ck21), (g3, blk cl5 30), (g7, blk cl9 31), (g11, blk cl13 33), (g15, blk cl17 30), (some b2, blk [iv s, .slice tA tn tc] 57), (some b1, blk [iv pl.lo, iv pl.hi, .slice pA1 pn1 pc1, .slice pA2 pn2 pc2, .slice pA3 pn3 pc3, iv pl.geese] 28)] ∧ (∀ j, (mget es20 j).getD (iv 0) = iv (M22 j)) ∧ (∀ x ∈ (scnF pl dy).loads, M22 x.src = N x.src) ∧ (Row 6 g3 (scnF pl dy).loads.length c4 cl5 (flat eLd (scnF pl dy).loads)) ∧ (Row 6 g7 (scnF pl dy).stands.length c8 cl9 (flat eLd (scnF pl dy).stands)) ∧ (Row 6 g11 (scnF pl dy).spells.length c12 cl13 (flat eSp (scnF pl dy).spells)) ∧ (Row 6 g15 (crtF pl dy).length c16 cl17 (flat eLd (crtF pl dy)))) ?_ ?_)))
  ·
   refine wp_drawn2 hI [0, 1] (by decide) rfl (by kernel_rfl) (by kernel_rfl) ?_
   intro hsub
   refine al_light 0 (.agg #[iv pl.lo, iv pl.hi, .slice pA1 pn1 pc1, .slice pA2 pn2 pc2, .slice pA3 pn3 pc3, iv pl.geese]) hsub rfl (by kernel_rfl) (fun w hI => s_loadK hI 1 6 [iv pl.lo, iv pl.hi, .slice pA1 pn1 pc1, .slice pA2 pn2 pc2, .slice pA3 pn3 pc3, iv pl.geese] Tryz.isAgg28 Tryz.sizeOf28 rfl rfl rfl rfl ⟨rfl, Below.refl _ _⟩) ?_
   refine alp 1 (iv dy) hsub rfl (by kernel_rfl) (fun _ => (by kernel_rfl)) ?_
   refine al_light 3 (.agg #[iv s, .slice tA tn tc]) hsub rfl (by kernel_rfl) (fun w hI => s_loadK hI 0 2 [iv s, .slice tA tn tc] Tryz.isAgg57 Tryz.sizeOf57 rfl rfl rfl rfl ⟨rfl, Below.refl _ _⟩) ?_
   refine any_heavy [2, 8] (by kernel_rfl) rfl (each2 ?_ ?_)
   ·intro w hI
    have hsl := scn_len pl dy; obtain ⟨hsl1, hsl2, hsl3⟩ := hsl; have hsc := crt_len pl dy; have hok_ := plotB_small (hourI_ok hhour).1; have hok1 := hok_.s1; have hok2 := hok_.s2; have hok3 := hok_.s3
    refine ol_c rfl (s_callScene hI (q := scnF pl dy) (cs := crtF pl dy) 86 [.agg #[iv pl.lo, iv pl.hi, .slice pA1 pn1 pc1, .slice pA2 pn2 pc2, .slice pA3 pn3 pc3, iv pl.geese], iv dy] (by kernel_rfl) (sceneOf_c _ pl pA1 pn1 pc1 pA2 pn2 pc2 pA3 pn3 pc3 (hP.inv0 hI) (plotB_small (hourI_ok hhour).1) dy (by omega)) ?_)
    intro g3 c4 cl5 g7 c8 cl9 g11 c12 cl13 g15 c16 cl17 w hI r6 r10 r14 r18
    refine ⟨_, hI, subk (fun _ h => h.pickL [4, 5] (by decide) rfl) ?_⟩
    intro hsub
    refine any_heavy [4, 8] (by kernel_rfl) rfl (each2 ?_ ?_)
    ·intro w hI
     refine ol_c rfl (s_callTruth hI (sc := [iv (scnF pl dy).lo, iv (scnF pl dy).hi, slv g3 (scnF pl dy).loads.length c4, slv g7 (scnF pl dy).stands.length c8, slv g11 (scnF pl dy).spells.length c12, iv (scnF pl dy).geese, slv g15 (crtF pl dy).length c16]) (s := s) (l := (scnF pl dy).loads) (N := N) 106 [.agg #[iv (scnF pl dy).lo, iv (scnF pl dy).hi, slv g3 (scnF pl dy).loads.length c4, slv g7 (scnF pl dy).stands.length c8, slv g11 (scnF pl dy).spells.length c12, iv (scnF pl dy).geese, slv g15 (crtF pl dy).length c16], .agg #[iv s, .slice tA tn tc]] (by kernel_rfl) (truth_c _ (scnF pl dy) (g3.map fun b => ⟨b, 0, none⟩) (scnF pl dy).loads.length c4 (g7.map fun b => ⟨b, 0, none⟩) (scnF pl dy).stands.length c8 (g11.map fun b => ⟨b, 0, none⟩) (scnF pl dy).spells.length c12 (crtF pl dy) (g15.map fun b => ⟨b, 0, none⟩) (crtF pl dy).length c16 ⟨⟨(hI.rowCells 0 rfl r6), rfl, (hI.rowCells 1 rfl r10), rfl, (hI.rowCells 2 rfl r14), rfl, (by omega), (by omega), (by omega)⟩, (hI.rowCells 3 rfl r18), rfl, r18.cap, (by omega), (by omega), (by omega), (by omega)⟩ s tA tn tc ts (hT.inv0 hI) htn (by omega) N hTA.s0 hTA.cin hTA.nb hTA.nt hTA.sown hTA.ld hTA.st hTA.mx) ?_)
     intro mb19 es20 ck21 M22 w hI hN23 hM24
     refine ⟨_, hI, subk (fun _ h => h.pickL [5, 6] (by decide) rfl) ?_⟩
     intro hsub
     refine alp 5 (.tuple #[.agg #[iv (scnF pl dy).lo, iv (scnF pl dy).hi, slv g3 (scnF pl dy).loads.length c4, slv g7 (scnF pl dy).stands.length c8, slv g11 (scnF pl dy).spells.length c12, iv (scnF pl dy).geese, slv g15 (crtF pl dy).length c16, iv s, .map (some mb19)], .bool true]) hsub rfl (by kernel_rfl) (fun _ => (by kernel_rfl)) ?_
     refine alp 6 (.agg #[iv (scnF pl dy).lo, iv (scnF pl dy).hi, slv g3 (scnF pl dy).loads.length c4, slv g7 (scnF pl dy).stands.length c8, slv g11 (scnF pl dy).spells.length c12, iv (scnF pl dy).geese, slv g15 (crtF pl dy).length c16, iv s, .map (some mb19)]) hsub rfl (by kernel_rfl) (fun _ => (by kernel_rfl)) ?_
     refine alp 7 (.bool true) hsub rfl (by kernel_rfl) (fun _ => (by kernel_rfl)) ?_
     refine any_heavy [8] (by kernel_rfl) rfl (each1 ?_)
     intro w hI
     refine ol_c rfl (s_allocI hI [iv 0, iv 0, .slice none 0 0, .slice none 0 0, .slice none 0 0, iv 0, .slice none 0 0, iv 0, .map none] Tryz.zeroValue144 rfl ?_)
     intro b25 w hI
     refine ⟨_, hI, subk (fun _ h => h.pickL [6, 7] (by decide) rfl) ?_⟩
     intro hsub
     refine any_heavy [9] (by kernel_rfl) rfl (each1 ?_)
     intro w hI
     refine ol_c rfl (s_store hI 0 9 [iv (scnF pl dy).lo, iv (scnF pl dy).hi, slv g3 (scnF pl dy).loads.length c4, slv g7 (scnF pl dy).stands.length c8, slv g11 (scnF pl dy).spells.length c12, iv (scnF pl dy).geese, slv g15 (crtF pl dy).length c16, iv s, .map (some mb19)] Tryz.sizeOf144 rfl rfl rfl rfl rfl (Nat.le_of_ble_eq_true rfl) ?_)
     intro w hI
     refine ⟨_, hI, subk (fun _ h => h.pickL [6, 7] (by decide) rfl) ?_⟩
     intro hsub
     refine alp 10 (.bool true) hsub rfl (by kernel_rfl) (fun _ => (by kernel_rfl)) ?_
     refine any_end (by kernel_rfl) (fun w hI => ?_)
     exact ⟨rfl, b25, mb19, es20, ck21, M22, g3, c4, cl5, g7, c8, cl9, g11, c12, cl13, g15, c16, cl17, ⟨rfl, rfl, rfl, trivial⟩, hI.pickL [0, 1, 2, 3, 4, 5, 6, 7] (by decide) rfl, hN23, hM24, r6, r10, r14, r18⟩
    ·intro w hI
     refine ol_c rfl (s_allocI hI [iv 0, iv 0, .slice none 0 0, .slice none 0 0, .slice none 0 0, iv 0, .slice none 0 0, iv 0, .map none] Tryz.zeroValue144 rfl ?_)
     intro b26 w hI
     refine ⟨_, hI, subk (fun _ h => h.pickL [5, 6] (by decide) rfl) ?_⟩
     intro hsub
     refine any_heavy [4] (by kernel_rfl) rfl (each1 ?_)
     intro w hI
     refine ol_c rfl (s_callTruth hI (sc := [iv (scnF pl dy).lo, iv (scnF pl dy).hi, slv g3 (scnF pl dy).loads.length c4, slv g7 (scnF pl dy).stands.length c8, slv g11 (scnF pl dy).spells.length c12, iv (scnF pl dy).geese, slv g15 (crtF pl dy).length c16]) (s := s) (l := (scnF pl dy).loads) (N := N) 106 [.agg #[iv (scnF pl dy).lo, iv (scnF pl dy).hi, slv g3 (scnF pl dy).loads.length c4, slv g7 (scnF pl dy).stands.length c8, slv g11 (scnF pl dy).spells.length c12, iv (scnF pl dy).geese, slv g15 (crtF pl dy).length c16], .agg #[iv s, .slice tA tn tc]] (by kernel_rfl) (truth_c _ (scnF pl dy) (g3.map fun b => ⟨b, 0, none⟩) (scnF pl dy).loads.length c4 (g7.map fun b => ⟨b, 0, none⟩) (scnF pl dy).stands.length c8 (g11.map fun b => ⟨b, 0, none⟩) (scnF pl dy).spells.length c12 (crtF pl dy) (g15.map fun b => ⟨b, 0, none⟩) (crtF pl dy).length c16 ⟨⟨(hI.rowCells 1 rfl r6), rfl, (hI.rowCells 2 rfl r10), rfl, (hI.rowCells 3 rfl r14), rfl, (by omega), (by omega), (by omega)⟩, (hI.rowCells 4 rfl r18), rfl, r18.cap, (by omega), (by omega), (by omega), (by omega)⟩ s tA tn tc ts (hT.inv0 hI) htn (by omega) N hTA.s0 hTA.cin hTA.nb hTA.nt hTA.sown hTA.ld hTA.st hTA.mx) ?_)
     intro mb27 es28 ck29 M30 w hI hN31 hM32
     refine ⟨_, hI, subk (fun _ h => h.pickL [6, 7] (by decide) rfl) ?_⟩
     intro hsub
     refine alp 5 (.tuple #[.agg #[iv (scnF pl dy).lo, iv (scnF pl dy).hi, slv g3 (scnF pl dy).loads.length c4, slv g7 (scnF pl dy).stands.length c8, slv g11 (scnF pl dy).spells.length c12, iv (scnF pl dy).geese, slv g15 (crtF pl dy).length c16, iv s, .map (some mb27)], .bool true]) hsub rfl (by kernel_rfl) (fun _ => (by kernel_rfl)) ?_
     refine alp 6 (.agg #[iv (scnF pl dy).lo, iv (scnF pl dy).hi, slv g3 (scnF pl dy).loads.length c4, slv g7 (scnF pl dy).stands.length c8, slv g11 (scnF pl dy).spells.length c12, iv (scnF pl dy).geese, slv g15 (crtF pl dy).length c16, iv s, .map (some mb27)]) hsub rfl (by kernel_rfl) (fun _ => (by kernel_rfl)) ?_
     refine alp 7 (.bool true) hsub rfl (by kernel_rfl) (fun _ => (by kernel_rfl)) ?_
     refine any_heavy [9] (by kernel_rfl) rfl (each1 ?_)
     intro w hI
     refine ol_c rfl (s_store hI 1 9 [iv (scnF pl dy).lo, iv (scnF pl dy).hi, slv g3 (scnF pl dy).loads.length c4, slv g7 (scnF pl dy).stands.length c8, slv g11 (scnF pl dy).spells.length c12, iv (scnF pl dy).geese, slv g15 (crtF pl dy).length c16, iv s, .map (some mb27)] Tryz.sizeOf144 rfl rfl rfl rfl rfl (Nat.le_of_ble_eq_true rfl) ?_)
     intro w hI
     refine ⟨_, hI, subk (fun _ h => h.pickL [6, 7] (by decide) rfl) ?_⟩
     intro hsub
     refine alp 10 (.bool true) hsub rfl (by kernel_rfl) (fun _ => (by kernel_rfl)) ?_
     refine any_end (by kernel_rfl) (fun w hI => ?_)
     exact ⟨rfl, b26, mb27, es28, ck29, M30, g3, c4, cl5, g7, c8, cl9, g11, c12, cl13, g15, c16, cl17, ⟨rfl, rfl, rfl, trivial⟩, hI.pickL [1, 0, 2, 3, 4, 5, 6, 7] (by decide) rfl, hN31, hM32, r6, r10, r14, r18⟩
   ·intro w hI
    refine ol_c rfl (s_allocI hI [iv 0, iv 0, .slice none 0 0, .slice none 0 0, .slice none 0 0, iv 0, .slice none 0 0, iv 0, .map none] Tryz.zeroValue144 rfl ?_)
    intro b33 w hI
    refine ⟨_, hI, subk (fun _ h => h.pickL [1, 2] (by decide) rfl) ?_⟩
    intro hsub
    refine any_heavy [2] (by kernel_rfl) rfl (each1 ?_)
    intro w hI
    have hsl := scn_len pl dy; obtain ⟨hsl1, hsl2, hsl3⟩ := hsl; have hsc := crt_len pl dy; have hok_ := plotB_small (hourI_ok hhour).1; have hok1 := hok_.s1; have hok2 := hok_.s2; have hok3 := hok_.s3
    refine ol_c rfl (s_callScene hI (q := scnF pl dy) (cs := crtF pl dy) 86 [.agg #[iv pl.lo, iv pl.hi, .slice pA1 pn1 pc1, .slice pA2 pn2 pc2, .slice pA3 pn3 pc3, iv pl.geese], iv dy] (by kernel_rfl) (sceneOf_c _ pl pA1 pn1 pc1 pA2 pn2 pc2 pA3 pn3 pc3 (hP.inv0 hI) (plotB_small (hourI_ok hhour).1) dy (by omega)) ?_)
    intro g34 c35 cl36 g38 c39 cl40 g42 c43 cl44 g46 c47 cl48 w hI r37 r41 r45 r49
    refine ⟨_, hI, subk (fun _ h => h.pickL [5, 6] (by decide) rfl) ?_⟩
    intro hsub
    refine any_heavy [4] (by kernel_rfl) rfl (each1 ?_)
    intro w hI
    refine ol_c rfl (s_callTruth hI (sc := [iv (scnF pl dy).lo, iv (scnF pl dy).hi, slv g34 (scnF pl dy).loads.length c35, slv g38 (scnF pl dy).stands.length c39, slv g42 (scnF pl dy).spells.length c43, iv (scnF pl dy).geese, slv g46 (crtF pl dy).length c47]) (s := s) (l := (scnF pl dy).loads) (N := N) 106 [.agg #[iv (scnF pl dy).lo, iv (scnF pl dy).hi, slv g34 (scnF pl dy).loads.length c35, slv g38 (scnF pl dy).stands.length c39, slv g42 (scnF pl dy).spells.length c43, iv (scnF pl dy).geese, slv g46 (crtF pl dy).length c47], .agg #[iv s, .slice tA tn tc]] (by kernel_rfl) (truth_c _ (scnF pl dy) (g34.map fun b => ⟨b, 0, none⟩) (scnF pl dy).loads.length c35 (g38.map fun b => ⟨b, 0, none⟩) (scnF pl dy).stands.length c39 (g42.map fun b => ⟨b, 0, none⟩) (scnF pl dy).spells.length c43 (crtF pl dy) (g46.map fun b => ⟨b, 0, none⟩) (crtF pl dy).length c47 ⟨⟨(hI.rowCells 0 rfl r37), rfl, (hI.rowCells 1 rfl r41), rfl, (hI.rowCells 2 rfl r45), rfl, (by omega), (by omega), (by omega)⟩, (hI.rowCells 3 rfl r49), rfl, r49.cap, (by omega), (by omega), (by omega), (by omega)⟩ s tA tn tc ts (hT.inv0 hI) htn (by omega) N hTA.s0 hTA.cin hTA.nb hTA.nt hTA.sown hTA.ld hTA.st hTA.mx) ?_)
    intro mb50 es51 ck52 M53 w hI hN54 hM55
    refine ⟨_, hI, subk (fun _ h => h.pickL [6, 7] (by decide) rfl) ?_⟩
    intro hsub
    refine alp 5 (.tuple #[.agg #[iv (scnF pl dy).lo, iv (scnF pl dy).hi, slv g34 (scnF pl dy).loads.length c35, slv g38 (scnF pl dy).stands.length c39, slv g42 (scnF pl dy).spells.length c43, iv (scnF pl dy).geese, slv g46 (crtF pl dy).length c47, iv s, .map (some mb50)], .bool true]) hsub rfl (by kernel_rfl) (fun _ => (by kernel_rfl)) ?_
    refine alp 6 (.agg #[iv (scnF pl dy).lo, iv (scnF pl dy).hi, slv g34 (scnF pl dy).loads.length c35, slv g38 (scnF pl dy).stands.length c39, slv g42 (scnF pl dy).spells.length c43, iv (scnF pl dy).geese, slv g46 (crtF pl dy).length c47, iv s, .map (some mb50)]) hsub rfl (by kernel_rfl) (fun _ => (by kernel_rfl)) ?_
    refine alp 7 (.bool true) hsub rfl (by kernel_rfl) (fun _ => (by kernel_rfl)) ?_
    refine any_heavy [9] (by kernel_rfl) rfl (each1 ?_)
    intro w hI
    refine ol_c rfl (s_store hI 5 9 [iv (scnF pl dy).lo, iv (scnF pl dy).hi, slv g34 (scnF pl dy).loads.length c35, slv g38 (scnF pl dy).stands.length c39, slv g42 (scnF pl dy).spells.length c43, iv (scnF pl dy).geese, slv g46 (crtF pl dy).length c47, iv s, .map (some mb50)] Tryz.sizeOf144 rfl rfl rfl rfl rfl (Nat.le_of_ble_eq_true rfl) ?_)
    intro w hI
    refine ⟨_, hI, subk (fun _ h => h.pickL [6, 7] (by decide) rfl) ?_⟩
    intro hsub
    refine alp 10 (.bool true) hsub rfl (by kernel_rfl) (fun _ => (by kernel_rfl)) ?_
    refine any_end (by kernel_rfl) (fun w hI => ?_)
    exact ⟨rfl, b33, mb50, es51, ck52, M53, g34, c35, cl36, g38, c39, cl40, g42, c43, cl44, g46, c47, cl48, ⟨rfl, rfl, rfl, trivial⟩, hI.pickL [5, 0, 1, 2, 3, 4, 6, 7] (by decide) rfl, hN54, hM55, r37, r41, r45, r49⟩
  ·rintro ρ w ⟨b25, mb19, es20, ck21, M22, g3, c4, cl5, g7, c8, cl9, g11, c12, cl13, g15, c16, cl17, hag, hI, hN23, hM24, r6, r10, r14, r18⟩
   obtain ⟨ρ, rfl⟩ := hag.form; clear hag
   have hsl := scn_len pl dy; obtain ⟨hsl1, hsl2, hsl3⟩ := hsl; have hsc := crt_len pl dy; have hok_ := plotB_small (hourI_ok hhour).1; have hok1 := hok_.s1; have hok2 := hok_.s2; have hok3 := hok_.s3
   refine wp_seq (wp_seq (rgn (by kernel_rfl) (pu (.bool true) (by kernel_rfl) (pu (.bool false) (by kernel_rfl) (seq_nil (wp_condF rfl (wp_skip (wp_seq (rgn (by kernel_rfl) ?_)))))))))
   refine seq_c (s_loadK hI 0 9 [iv (scnF pl dy).lo, iv (scnF pl dy).hi, slv g3 (scnF pl dy).loads.length c4, slv g7 (scnF pl dy).stands.length c8, slv g11 (scnF pl dy).spells.length c12, iv (scnF pl dy).geese, slv g15 (crtF pl dy).length c16, iv s, .map (some mb19)] Tryz.isAgg144 Tryz.sizeOf144 rfl rfl rfl rfl ?_)
   refine pu (iv h) (by kernel_rfl) (seq_c (s_callv hI 107 [.agg #[iv (scnF pl dy).lo, iv (scnF pl dy).hi, slv g3 (scnF pl dy).loads.length c4, slv g7 (scnF pl dy).stands.length c8, slv g11 (scnF pl dy).spells.length c12, iv (scnF pl dy).geese, slv g15 (crtF pl dy).length c16, iv s, .map (some mb19)], iv h] (iv (leftF (crtF pl dy) M22 s h)) (by kernel_rfl) (left_c _ (scnF pl dy) (g3.map fun b => ⟨b, 0, none⟩) (scnF pl dy).loads.length c4 (g7.map fun b => ⟨b, 0, none⟩) (scnF pl dy).stands.length c8 (g11.map fun b => ⟨b, 0, none⟩) (scnF pl dy).spells.length c12 (crtF pl dy) (g15.map fun b => ⟨b, 0, none⟩) (crtF pl dy).length c16 ⟨⟨(hI.rowCells 2 rfl r6), rfl, (hI.rowCells 3 rfl r10), rfl, (hI.rowCells 4 rfl r14), rfl, (by omega), (by omega), (by omega)⟩, (hI.rowCells 5 rfl r18), rfl, r18.cap, (by omega), (by omega), (by omega), (by omega)⟩ mb19 ck21 es20 M22 (hI.has 1 _ _ rfl).1 hN23 s h hTA.s0 (fun x hx => by rw [hM24 x (hTA.cin x hx)]; exact hTA.nb x hx)) ?_))
   intro w hI
   refine pu (iv (leftF (crtF pl dy) M22 s h)) (by kernel_rfl) (pu (iv 0) (by kernel_rfl) (seq_nil (wp_ret ?_)))
   exact ⟨.tuple #[iv (leftF (crtF pl dy) M22 s h), iv 0], Ret.r2 rfl rfl rfl, ⟨by rw [leftF_same (fun x hx => hM24 x (hTA.cin x hx))], hI.below⟩⟩

end Go.K
