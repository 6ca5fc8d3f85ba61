/- The hours that a source moves. -/
import Derived.Test.YtinkdlmimiefaaaGreatProg
import Derived.Laws.StructEq
import Derived.Test.YtinkdlmimiefaaaGreatPM19
namespace Go.K
open Go.Proofs Go.RowKit
set_option linter.unusedVariables false
set_option linter.unusedSimpArgs false
set_option maxRecDepth 100000
attribute [local irreducible] Seq Step CallV AnyE opX
section steps
variable {P : Program} {ρ : Env} {B : Option Nat} {w w0 w' : World} {L N : List (Option Nat × Obj)} {R : Value → World → Prop}
theorem s_callPlotT (hI : Inv B w0 w L) {o : Oper} (f : FuncId) (args : List Value) {q : Pl} {x : Value} (h : (execOp (ev ρ) o).run P w = .ok (.enter f args.toArray) w)
    (hc : Does P f args w fun v w' => ∃ v1, v = .tuple #[v1, x] ∧ GivesPlot q w v1 w') (kk : ∀ g1 c1 cl1 g2 c2 cl2 g3 c3 cl3 w', Inv B w0 w' ((g1, blk cl1 30) :: (g2, blk cl2 31) :: (g3, blk cl3 33) :: L) → Row 6 g1 q.loads.length c1 cl1 (flat eLd q.loads) → Row 6 g2 q.stands.length c2 cl2 (flat eLd q.stands) → Row 6 g3 q.spells.length c3 cl3 (flat eSp q.spells) → R (.tuple #[plv q g1 c1 g2 c2 g3 c3, x]) w') : Step P o ρ w R :=
  s_call f args h hc fun v w' ⟨v1, hv, g1, c1, cl1, g2, c2, cl2, g3, c3, cl3, hv1, hN, r1, r2, r3⟩ => by
    subst hv; subst hv1
    exact kk g1 c1 cl1 g2 c2 cl2 g3 c3 cl3 w' (hI.join hN) r1 r2 r3
end steps
theorem eq23 (n : Nat) (a b c d : Int) (w : World) : (Op.equalIn (n + 2) 23 (.agg #[.int .i64 a, .int .i64 b]) (.agg #[.int .i64 c, .int .i64 d])).run Tryz.prog w = .ok (decide (a = c) && decide (b = d)) w := by
  have u3 := Tryz.underlying3
  have a3 := Tryz.isAgg3
  have z3 := Tryz.sizeOf3
  have hS : Tryz.prog.underlying 23 = some (.struct (Tryz.prog.fieldsOf 23)) := by kernel_rfl
  rw [show n + 2 = (n + 1) + 1 from rfl, run_equalIn_agg w (n + 1) 23 _ _ hS (by kernel_rfl)]
  simp only [Program.fieldsOf, Tryz.underlying23]
  go_simp
  by_cases h1 : a = c <;> by_cases h2 : b = d <;> simp [h1, h2]
theorem Has_c (w0 : World) (l : List Int) (A : Option Addr) (n c : Nat) (x : Int) (hn : n = l.length) (hmax : n ≤ 9223372036854775807) (hC : Cells w0 A (flat eInt l)) : Does Tryz.prog 59 [.slice A n c, .int .i64 x] w0 fun v w => v = .bool (decide (x ∈ l)) ∧ Below w0.heap.size w0 w := by
 refine calls_of (n := 18) Tryz.func59 rfl Tryz.ntmps59 rfl ?_
 have hI := Inv.start w0
 refine wp_seq (rgn (by kernel_rfl) (pu (.bool false) (by kernel_rfl) (seq_nil (wp_seq (wp_seq (rgn (by kernel_rfl) (pu (iv 0) (by kernel_rfl) (seq_nil (wp_block ?_)))))))))
 refine wp_loop (fun m ρ w => ∃ (k : Nat), Agree ρ [(0, .slice A n c), (1, iv x), (5, iv (k : Int))] ∧ Inv none w0 w [] ∧ (k ≤ n) ∧ (∀ i y, i < k → l[i]? = some y → y ≠ x) ∧ m = n - k) (m := n - 0) ⟨0, ⟨rfl, rfl, rfl, trivial⟩, hI.pickL [] (by decide) rfl, (by omega), (fun i y h => absurd h (by omega)), rfl⟩ ?_
 rintro m ρ w ⟨k, hag, hI, hk, hno, hm⟩
 obtain ⟨ρ, rfl⟩ := hag.form; clear hag
 refine wp_seq (wp_seq (rgn (by kernel_rfl) (pu (iv (k : Int)) (by kernel_rfl) (pu (.slice A n c) (by kernel_rfl) (pu (iv ((n : Nat) : Int)) (by kernel_rfl) (seq_c (s_lss rfl rfl ?_ ?_)))))))
 ·intro h1
  refine seq_nil (wp_condT rfl (wp_skip (wp_seq (wp_block ?_))))
  refine wp_seq (rgn (by kernel_rfl) (pu (.slice A n c) (by kernel_rfl) (pu (iv (k : Int)) (by kernel_rfl) ?_)))
  obtain ⟨x1, hx2⟩ := get_lt (l := l) (i := k) (by omega)
  obtain ⟨b3, o4, hA5, hb6, he7⟩ := hC.at_ eInt_len (by decide) hx2
  refine seq_c (s_indexA k Tryz.underlying41 Tryz.sizeOf3 rfl hA5 rfl rfl (by omega) ?_)
  refine seq_c (s_loadB1 hI (iv x1) Tryz.isAgg3 rfl hb6 (by simp) (he7 0 _ rfl) ?_)
  refine pu (iv x) (by kernel_rfl) (seq_c (s_eql rfl rfl ?_ ?_))
  ·intro h2
   refine seq_nil (wp_condT rfl (wp_seq (rgn (by kernel_rfl) (pu (.bool true) (by kernel_rfl) (seq_nil (wp_ret ?_))))))
   exact ⟨.bool true, Ret.r1 rfl rfl, ⟨by rw [has_yes hx2 (by assumption)], hI.below⟩⟩
  ·intro h3
   refine seq_nil (wp_condF rfl (wp_skip (rgn (by kernel_rfl) (pu (iv (k : Int)) (by kernel_rfl) (seq_c (s_add rfl rfl (by omega) ?_))))))
   refine pu (iv ((k : Int) + 1)) (by kernel_rfl) (seq_nil ?_)
   exact ⟨rfl, _, (by omega), ⟨k + 1, ⟨rfl, rfl, rfl, trivial⟩, hI.pickL [] (by decide) rfl, (by omega), (all_step (Q := fun _ y => y ≠ x) hno hx2 (by assumption)), rfl⟩⟩
 ·intro h4
  refine seq_nil (wp_condF rfl (wp_exit ?_))
  refine wp_seq (rgn (by kernel_rfl) (pu (.bool false) (by kernel_rfl) (seq_nil (wp_ret ?_))))
  exact ⟨.bool false, Ret.r1 rfl rfl, ⟨by rw [has_no hno (by omega)], hI.below⟩⟩

set_option maxHeartbeats 6400000 in
theorem Moved_c (w0 : World) (pl : Pl) (pA1 : Option Addr) (pn1 pc1 : Nat) (pA2 : Option Addr) (pn2 pc2 : Nat) (pA3 : Option Addr) (pn3 pc3 : Nat) (hP : PlotIn w0 pl pA1 pn1 pA2 pn2 pA3 pn3) (s dy : Int) (hn19 : pl.loads.length < 20) : Does Tryz.prog 55 [.agg #[.int .i64 pl.lo, .int .i64 pl.hi, .slice pA1 pn1 pc1, .slice pA2 pn2 pc2, .slice pA3 pn3 pc3, .int .i64 pl.geese], .int .i64 s, .int .i64 dy] w0 fun v w => ∃ v1, v = .tuple #[v1, .int .i64 (movedC pl s dy).2] ∧ Gives 1 3 none (movedC pl s dy).1.length (flat eInt (movedC pl s dy).1) w0 v1 w := by
 have hm1 := hP.m1; have hm2 := hP.m2; have hm3 := hP.m3
 refine calls_of (n := 80) Tryz.func55 rfl Tryz.ntmps55 rfl ?_
 have hI := Inv.start w0
 refine wp_seq (rgn (by kernel_rfl) (seq_c (s_boxI hI [iv pl.lo, iv pl.hi, .slice pA1 pn1 pc1, .slice pA2 pn2 pc2, .slice pA3 pn3 pc3, iv pl.geese] rfl ?_)))
 intro b1 w hI
 refine pu (.slice none 0 0) (by kernel_rfl) (pu (iv 0) (by kernel_rfl) (seq_nil (wp_seq (wp_seq (rgn (by kernel_rfl) (seq_c (s_loadK hI 0 6 [iv pl.lo, iv pl.hi, .slice pA1 pn1 pc1, .slice pA2 pn2 pc2, .slice pA3 pn3 pc3, iv pl.geese] Tryz.isAgg28 Tryz.sizeOf28 rfl rfl rfl rfl ?_)))))))
 refine pu (iv dy) (by kernel_rfl) (seq_c (s_callv hI 85 [.agg #[iv pl.lo, iv pl.hi, .slice pA1 pn1 pc1, .slice pA2 pn2 pc2, .slice pA3 pn3 pc3, iv pl.geese], iv dy] (iv (dayI pl dy)) (by kernel_rfl) (checkDay_c _ pl pA1 pn1 pc1 pA2 pn2 pc2 pA3 pn3 pc3 (hP.inv0 hI) dy) ?_))
 intro w hI
 refine pu (iv (dayI pl dy)) (by kernel_rfl) (seq_nil (wp_seq (rgn (by kernel_rfl) (pu (iv (dayI pl dy)) (by kernel_rfl) (seq_c (s_neq rfl rfl ?_ ?_))))))
 ·intro h1
  refine seq_nil (wp_condT rfl (wp_seq (rgn (by kernel_rfl) (pu (iv (dayI pl dy)) (by kernel_rfl) (pu (.slice none 0 0) (by kernel_rfl) (pu (iv (dayI pl dy)) (by kernel_rfl) (seq_nil (wp_ret ?_))))))))
  have hI := hI.nilRow 3
  have e : movedC pl s dy = ([], dayI pl dy) := by simp [movedC, h1]
  exact ⟨.tuple #[.slice none 0 0, iv (dayI pl dy)], Ret.r2 rfl rfl rfl, (by rw [e]; exact ⟨.slice none 0 0, rfl, none, 0, [], rfl, hI.pickL [0] (by decide) rfl, Row.nil_ 1⟩)⟩
 ·intro h2
  refine seq_nil (wp_condF rfl (wp_skip (wp_seq (rgn (by kernel_rfl) (seq_c (s_loadK hI 0 6 [iv pl.lo, iv pl.hi, .slice pA1 pn1 pc1, .slice pA2 pn2 pc2, .slice pA3 pn3 pc3, iv pl.geese] Tryz.isAgg28 Tryz.sizeOf28 rfl rfl rfl rfl ?_))))))
  refine pu (iv s) (by kernel_rfl) (seq_c (s_callPlotT hI (q := (withoutF pl s).1) 16 [.agg #[iv pl.lo, iv pl.hi, .slice pA1 pn1 pc1, .slice pA2 pn2 pc2, .slice pA3 pn3 pc3, iv pl.geese], iv s] (by kernel_rfl) (Without_c _ pl pA1 pn1 pc1 pA2 pn2 pc2 pA3 pn3 pc3 (hP.inv0 hI) s) ?_))
  intro g2 c3 cl4 g6 c7 cl8 g10 c11 cl12 w hI r5 r9 r13
  refine pu (.tuple #[.agg #[iv ((withoutF pl s).1.lo), iv ((withoutF pl s).1.hi), slv g2 ((withoutF pl s).1.loads.length) c3, slv g6 ((withoutF pl s).1.stands.length) c7, slv g10 ((withoutF pl s).1.spells.length) c11, iv ((withoutF pl s).1.geese)], iv (withoutF pl s).2]) (by kernel_rfl) (pu (.agg #[iv ((withoutF pl s).1.lo), iv ((withoutF pl s).1.hi), slv g2 ((withoutF pl s).1.loads.length) c3, slv g6 ((withoutF pl s).1.stands.length) c7, slv g10 ((withoutF pl s).1.spells.length) c11, iv ((withoutF pl s).1.geese)]) (by kernel_rfl) (pu (iv (withoutF pl s).2) (by kernel_rfl) (seq_c (s_allocI hI [iv 0, iv 0, .slice none 0 0, .slice none 0 0, .slice none 0 0, iv 0] Tryz.zeroValue28 rfl ?_))))
  intro b14 w hI
  refine seq_c (s_store hI 0 6 [iv ((withoutF pl s).1.lo), iv ((withoutF pl s).1.hi), slv g2 ((withoutF pl s).1.loads.length) c3, slv g6 ((withoutF pl s).1.stands.length) c7, slv g10 ((withoutF pl s).1.spells.length) c11, iv ((withoutF pl s).1.geese)] Tryz.sizeOf28 rfl rfl rfl rfl rfl (Nat.le_of_ble_eq_true rfl) ?_)
  intro w hI
  refine pu (iv (withoutF pl s).2) (by kernel_rfl) (seq_nil (wp_seq (wp_seq (rgn (by kernel_rfl) (pu (iv (withoutF pl s).2) (by kernel_rfl) (seq_c (s_neq rfl rfl ?_ ?_)))))))
  ·intro h3
   refine seq_nil (wp_condT rfl (wp_seq (rgn (by kernel_rfl) (pu (iv (withoutF pl s).2) (by kernel_rfl) (pu (.slice none 0 0) (by kernel_rfl) (pu (iv (withoutF pl s).2) (by kernel_rfl) (seq_nil (wp_ret ?_))))))))
   have hI := hI.nilRow 3
   have e : movedC pl s dy = ([], (withoutF pl s).2) := by simp [movedC, h2, h3]
   exact ⟨.tuple #[.slice none 0 0, iv (withoutF pl s).2], Ret.r2 rfl rfl rfl, (by rw [e]; exact ⟨.slice none 0 0, rfl, none, 0, [], rfl, hI.pickL [0] (by decide) rfl, Row.nil_ 1⟩)⟩
  ·intro h4
   refine seq_nil (wp_condF rfl (wp_skip (wp_cut (fun ρ w => ∃ (b48 : Nat) (b47 : Nat) (g31 : Option Nat) (c32 : Nat) (cl33 : List Value) (g35 : Option Nat) (c36 : Nat) (cl37 : List Value) (g39 : Option Nat) (c40 : Nat) (cl41 : List Value) (g43 : Option Nat) (c44 : Nat) (cl45 : List Value) (g15 : Option Nat) (c16 : Nat) (cl17 : List Value) (g19 : Option Nat) (c20 : Nat) (cl21 : List Value) (g23 : Option Nat) (c24 : Nat) (cl25 : List Value) (g27 : Option Nat) (c28 : Nat) (cl29 : List Value), Agree ρ [(3, .pointer (some ⟨b1, 0, none⟩)), (11, .pointer (some ⟨b47, 0, none⟩)), (12, .pointer (some ⟨b48, 0, none⟩))] ∧ Inv none w0 w [(some b48, blk [iv ((scnF (withoutF pl s).1 dy).lo), iv ((scnF (withoutF pl s).1 dy).hi), slv g31 ((scnF (withoutF pl s).1 dy).loads.length) c32, slv g35 ((scnF (withoutF pl s).1 dy).stands.length) c36, slv g39 ((scnF (withoutF pl s).1 dy).spells.length) c40, iv ((scnF (withoutF pl s).1 dy).geese), slv g43 ((crtF (withoutF pl s).1 dy).length) c44] 116), (some b47, blk [iv (scnF pl dy).lo, iv (scnF pl dy).hi, slv g15 (scnF pl dy).loads.length c16, slv g19 (scnF pl dy).stands.length c20, slv g23 (scnF pl dy).spells.length c24, iv (scnF pl dy).geese, slv g27 (crtF pl dy).length c28] 116), (g31, blk cl33 30), (g35, blk cl37 31), (g39, blk cl41 33), (g43, blk cl45 30), (g15, blk cl17 30), (g19, blk cl21 31), (g23, blk cl25 33), (g27, blk cl29 30), (some b14, blk [iv ((withoutF pl s).1.lo), iv ((withoutF pl s).1.hi), slv g2 ((withoutF pl s).1.loads.length) c3, slv g6 ((withoutF pl s).1.stands.length) c7, slv g10 ((withoutF pl s).1.spells.length) c11, iv ((withoutF pl s).1.geese)] 28), (g2, blk cl4 30), (g6, blk cl8 31), (g10, blk cl12 33), (some b1, blk [iv pl.lo, iv pl.hi, .slice pA1 pn1 pc1, .slice pA2 pn2 pc2, .slice pA3 pn3 pc3, iv pl.geese] 28)] ∧ (Row 6 g31 ((scnF (withoutF pl s).1 dy).loads.length) c32 cl33 (flat eLd ((scnF (withoutF pl s).1 dy).loads))) ∧ (Row 6 g35 ((scnF (withoutF pl s).1 dy).stands.length) c36 cl37 (flat eLd ((scnF (withoutF pl s).1 dy).stands))) ∧ (Row 6 g39 ((scnF (withoutF pl s).1 dy).spells.length) c40 cl41 (flat eSp ((scnF (withoutF pl s).1 dy).spells))) ∧ (Row 6 g43 ((crtF (withoutF pl s).1 dy).length) c44 cl45 (flat eLd (crtF (withoutF pl s).1 dy))) ∧ (Row 6 g15 (scnF pl dy).loads.length c16 cl17 (flat eLd (scnF pl dy).loads)) ∧ (Row 6 g19 (scnF pl dy).stands.length c20 cl21 (flat eLd (scnF pl dy).stands)) ∧ (Row 6 g23 (scnF pl dy).spells.length c24 cl25 (flat eSp (scnF pl dy).spells)) ∧ (Row 6 g27 (crtF pl dy).length c28 cl29 (flat eLd (crtF pl dy)))) ?_ ?_)))
   ·
    refine wp_drawn2 hI [0, 1, 2, 3, 4] (by decide) rfl (by kernel_rfl) (by kernel_rfl) ?_
    intro hsub
    refine al_light 0 (.agg #[iv pl.lo, iv pl.hi, .slice pA1 pn1 pc1, .slice pA2 pn2 pc2, .slice pA3 pn3 pc3, iv pl.geese]) hsub rfl (by kernel_rfl) (fun w hI => s_loadK hI 4 6 [iv pl.lo, iv pl.hi, .slice pA1 pn1 pc1, .slice pA2 pn2 pc2, .slice pA3 pn3 pc3, iv pl.geese] Tryz.isAgg28 Tryz.sizeOf28 rfl rfl rfl rfl ⟨rfl, Below.refl _ _⟩) ?_
    refine alp 1 (iv dy) hsub rfl (by kernel_rfl) (fun _ => (by kernel_rfl)) ?_
    refine al_light 3 (.agg #[iv ((withoutF pl s).1.lo), iv ((withoutF pl s).1.hi), slv g2 ((withoutF pl s).1.loads.length) c3, slv g6 ((withoutF pl s).1.stands.length) c7, slv g10 ((withoutF pl s).1.spells.length) c11, iv ((withoutF pl s).1.geese)]) hsub rfl (by kernel_rfl) (fun w hI => s_loadK hI 0 6 [iv ((withoutF pl s).1.lo), iv ((withoutF pl s).1.hi), slv g2 ((withoutF pl s).1.loads.length) c3, slv g6 ((withoutF pl s).1.stands.length) c7, slv g10 ((withoutF pl s).1.spells.length) c11, iv ((withoutF pl s).1.geese)] Tryz.isAgg28 Tryz.sizeOf28 rfl rfl rfl rfl ⟨rfl, Below.refl _ _⟩) ?_
    refine alp 4 (iv dy) hsub rfl (by kernel_rfl) (fun _ => (by kernel_rfl)) ?_
    refine any_heavy [2, 6, 7] (by kernel_rfl) rfl (each3 ?_ ?_ ?_)
    ·intro w hI
     have hwl := without_len pl s; have hw19 : (withoutF pl s).1.loads.length < 20 := Nat.lt_of_le_of_lt hwl hn19
     have hsl := scn_len pl dy; obtain ⟨hsl1, hsl2, hsl3⟩ := hsl; have hsc := crt_len pl dy; have hok_ := plotB_small (dayI_ok h2).1; have hok1 := hok_.s1; have hok2 := hok_.s2; have hok3 := hok_.s3
     refine ol_c rfl (s_callScene hI (q := scnF pl dy) (cs := crtF pl dy) 86 [.agg #[iv pl.lo, iv pl.hi, .slice pA1 pn1 pc1, .slice pA2 pn2 pc2, .slice pA3 pn3 pc3, iv pl.geese], iv dy] (by kernel_rfl) (sceneOf_c _ pl pA1 pn1 pc1 pA2 pn2 pc2 pA3 pn3 pc3 (hP.inv0 hI) (plotB_small (dayI_ok h2).1) dy (by omega)) ?_)
     intro g15 c16 cl17 g19 c20 cl21 g23 c24 cl25 g27 c28 cl29 w hI r18 r22 r26 r30
     refine ⟨_, hI, subk (fun _ h => h.pickL [4, 5, 6, 7, 8] (by decide) rfl) ?_⟩
     intro hsub
     refine any_heavy [5, 6, 7] (by kernel_rfl) rfl (each3 ?_ ?_ ?_)
     ·intro w hI
      have hwl := without_len pl s; have hw19 : (withoutF pl s).1.loads.length < 20 := Nat.lt_of_le_of_lt hwl hn19
      have hsl := scn_len (withoutF pl s).1 dy; obtain ⟨hsl1, hsl2, hsl3⟩ := hsl; have hsc := crt_len (withoutF pl s).1 dy; have hok_ := plotB_small (without_ok (dayI_ok h2).1 h4); have hok1 := hok_.s1; have hok2 := hok_.s2; have hok3 := hok_.s3
      refine ol_c rfl (s_callScene hI (q := scnF (withoutF pl s).1 dy) (cs := crtF (withoutF pl s).1 dy) 86 [.agg #[iv ((withoutF pl s).1.lo), iv ((withoutF pl s).1.hi), slv g2 ((withoutF pl s).1.loads.length) c3, slv g6 ((withoutF pl s).1.stands.length) c7, slv g10 ((withoutF pl s).1.spells.length) c11, iv ((withoutF pl s).1.geese)], iv dy] (by kernel_rfl) (sceneOf_c _ (withoutF pl s).1 (g2.map fun b => ⟨b, 0, none⟩) ((withoutF pl s).1.loads.length) c3 (g6.map fun b => ⟨b, 0, none⟩) ((withoutF pl s).1.stands.length) c7 (g10.map fun b => ⟨b, 0, none⟩) ((withoutF pl s).1.spells.length) c11 ⟨(hI.rowCells 5 rfl r5), rfl, (hI.rowCells 6 rfl r9), rfl, (hI.rowCells 7 rfl r13), rfl, r5.big, r9.big, r13.big⟩ (plotB_small (without_ok (dayI_ok h2).1 h4)) dy (by omega)) ?_)
      intro g31 c32 cl33 g35 c36 cl37 g39 c40 cl41 g43 c44 cl45 w hI r34 r38 r42 r46
      refine ⟨_, hI, subk (fun _ h => h.pickL [8, 9, 10, 11, 12] (by decide) rfl) ?_⟩
      intro hsub
      refine any_heavy [6, 7] (by kernel_rfl) rfl (each2 ?_ ?_)
      ·intro w hI
       refine ol_c rfl (s_allocI hI [iv 0, iv 0, .slice none 0 0, .slice none 0 0, .slice none 0 0, iv 0, .slice none 0 0] Tryz.zeroValue116 rfl ?_)
       intro b47 w hI
       refine ⟨_, hI, subk (fun _ h => h.pickL [9, 10, 11, 12, 13] (by decide) rfl) ?_⟩
       intro hsub
       refine any_heavy [7] (by kernel_rfl) rfl (each1 ?_)
       intro w hI
       refine ol_c rfl (s_allocI hI [iv 0, iv 0, .slice none 0 0, .slice none 0 0, .slice none 0 0, iv 0, .slice none 0 0] Tryz.zeroValue116 rfl ?_)
       intro b48 w hI
       refine ⟨_, hI, subk (fun _ h => h.pickL [10, 11, 12, 13, 14] (by decide) rfl) ?_⟩
       intro hsub
       refine any_heavy [8] (by kernel_rfl) rfl (each1 ?_)
       intro w hI
       refine ol_c rfl (s_store hI 1 7 [iv (scnF pl dy).lo, iv (scnF pl dy).hi, slv g15 (scnF pl dy).loads.length c16, slv g19 (scnF pl dy).stands.length c20, slv g23 (scnF pl dy).spells.length c24, iv (scnF pl dy).geese, slv g27 (crtF pl dy).length c28] Tryz.sizeOf116 rfl rfl rfl rfl rfl (Nat.le_of_ble_eq_true rfl) ?_)
       intro w hI
       refine ⟨_, hI, subk (fun _ h => h.pickL [10, 11, 12, 13, 14] (by decide) rfl) ?_⟩
       intro hsub
       refine any_heavy [9] (by kernel_rfl) rfl (each1 ?_)
       intro w hI
       refine ol_c rfl (s_store hI 0 7 [iv ((scnF (withoutF pl s).1 dy).lo), iv ((scnF (withoutF pl s).1 dy).hi), slv g31 ((scnF (withoutF pl s).1 dy).loads.length) c32, slv g35 ((scnF (withoutF pl s).1 dy).stands.length) c36, slv g39 ((scnF (withoutF pl s).1 dy).spells.length) c40, iv ((scnF (withoutF pl s).1 dy).geese), slv g43 ((crtF (withoutF pl s).1 dy).length) c44] Tryz.sizeOf116 rfl rfl rfl rfl rfl (Nat.le_of_ble_eq_true rfl) ?_)
       intro w hI
       refine ⟨_, hI, subk (fun _ h => h.pickL [10, 11, 12, 13, 14] (by decide) rfl) ?_⟩
       intro hsub
       refine any_end (by kernel_rfl) (fun w hI => ?_)
       exact ⟨rfl, b48, b47, g31, c32, cl33, g35, c36, cl37, g39, c40, cl41, g43, c44, cl45, g15, c16, cl17, g19, c20, cl21, g23, c24, cl25, g27, c28, cl29, ⟨rfl, rfl, rfl, trivial⟩, hI.pickL [0, 1, 2, 3, 4, 5, 6, 7, 8, 9, 10, 11, 12, 13, 14] (by decide) rfl, r34, r38, r42, r46, r18, r22, r26, r30⟩
      ·intro w hI
       refine ol_c rfl (s_allocI hI [iv 0, iv 0, .slice none 0 0, .slice none 0 0, .slice none 0 0, iv 0, .slice none 0 0] Tryz.zeroValue116 rfl ?_)
       intro b49 w hI
       refine ⟨_, hI, subk (fun _ h => h.pickL [9, 10, 11, 12, 13] (by decide) rfl) ?_⟩
       intro hsub
       refine any_heavy [6] (by kernel_rfl) rfl (each1 ?_)
       intro w hI
       refine ol_c rfl (s_allocI hI [iv 0, iv 0, .slice none 0 0, .slice none 0 0, .slice none 0 0, iv 0, .slice none 0 0] Tryz.zeroValue116 rfl ?_)
       intro b50 w hI
       refine ⟨_, hI, subk (fun _ h => h.pickL [10, 11, 12, 13, 14] (by decide) rfl) ?_⟩
       intro hsub
       refine any_heavy [8] (by kernel_rfl) rfl (each1 ?_)
       intro w hI
       refine ol_c rfl (s_store hI 0 7 [iv (scnF pl dy).lo, iv (scnF pl dy).hi, slv g15 (scnF pl dy).loads.length c16, slv g19 (scnF pl dy).stands.length c20, slv g23 (scnF pl dy).spells.length c24, iv (scnF pl dy).geese, slv g27 (crtF pl dy).length c28] Tryz.sizeOf116 rfl rfl rfl rfl rfl (Nat.le_of_ble_eq_true rfl) ?_)
       intro w hI
       refine ⟨_, hI, subk (fun _ h => h.pickL [10, 11, 12, 13, 14] (by decide) rfl) ?_⟩
       intro hsub
       refine any_heavy [9] (by kernel_rfl) rfl (each1 ?_)
       intro w hI
       refine ol_c rfl (s_store hI 1 7 [iv ((scnF (withoutF pl s).1 dy).lo), iv ((scnF (withoutF pl s).1 dy).hi), slv g31 ((scnF (withoutF pl s).1 dy).loads.length) c32, slv g35 ((scnF (withoutF pl s).1 dy).stands.length) c36, slv g39 ((scnF (withoutF pl s).1 dy).spells.length) c40, iv ((scnF (withoutF pl s).1 dy).geese), slv g43 ((crtF (withoutF pl s).1 dy).length) c44] Tryz.sizeOf116 rfl rfl rfl rfl rfl (Nat.le_of_ble_eq_true rfl) ?_)
       intro w hI
       refine ⟨_, hI, subk (fun _ h => h.pickL [10, 11, 12, 13, 14] (by decide) rfl) ?_⟩
       intro hsub
       refine any_end (by kernel_rfl) (fun w hI => ?_)
       exact ⟨rfl, b49, b50, g31, c32, cl33, g35, c36, cl37, g39, c40, cl41, g43, c44, cl45, g15, c16, cl17, g19, c20, cl21, g23, c24, cl25, g27, c28, cl29, ⟨rfl, rfl, rfl, trivial⟩, hI.pickL [1, 0, 2, 3, 4, 5, 6, 7, 8, 9, 10, 11, 12, 13, 14] (by decide) rfl, r34, r38, r42, r46, r18, r22, r26, r30⟩
     ·intro w hI
      refine ol_c rfl (s_allocI hI [iv 0, iv 0, .slice none 0 0, .slice none 0 0, .slice none 0 0, iv 0, .slice none 0 0] Tryz.zeroValue116 rfl ?_)
      intro b51 w hI
      refine ⟨_, hI, subk (fun _ h => h.pickL [5, 6, 7, 8, 9] (by decide) rfl) ?_⟩
      intro hsub
      refine any_heavy [5, 7] (by kernel_rfl) rfl (each2 ?_ ?_)
      ·intro w hI
       have hwl := without_len pl s; have hw19 : (withoutF pl s).1.loads.length < 20 := Nat.lt_of_le_of_lt hwl hn19
       have hsl := scn_len (withoutF pl s).1 dy; obtain ⟨hsl1, hsl2, hsl3⟩ := hsl; have hsc := crt_len (withoutF pl s).1 dy; have hok_ := plotB_small (without_ok (dayI_ok h2).1 h4); have hok1 := hok_.s1; have hok2 := hok_.s2; have hok3 := hok_.s3
       refine ol_c rfl (s_callScene hI (q := scnF (withoutF pl s).1 dy) (cs := crtF (withoutF pl s).1 dy) 86 [.agg #[iv ((withoutF pl s).1.lo), iv ((withoutF pl s).1.hi), slv g2 ((withoutF pl s).1.loads.length) c3, slv g6 ((withoutF pl s).1.stands.length) c7, slv g10 ((withoutF pl s).1.spells.length) c11, iv ((withoutF pl s).1.geese)], iv dy] (by kernel_rfl) (sceneOf_c _ (withoutF pl s).1 (g2.map fun b => ⟨b, 0, none⟩) ((withoutF pl s).1.loads.length) c3 (g6.map fun b => ⟨b, 0, none⟩) ((withoutF pl s).1.stands.length) c7 (g10.map fun b => ⟨b, 0, none⟩) ((withoutF pl s).1.spells.length) c11 ⟨(hI.rowCells 6 rfl r5), rfl, (hI.rowCells 7 rfl r9), rfl, (hI.rowCells 8 rfl r13), rfl, r5.big, r9.big, r13.big⟩ (plotB_small (without_ok (dayI_ok h2).1 h4)) dy (by omega)) ?_)
       intro g52 c53 cl54 g56 c57 cl58 g60 c61 cl62 g64 c65 cl66 w hI r55 r59 r63 r67
       refine ⟨_, hI, subk (fun _ h => h.pickL [9, 10, 11, 12, 13] (by decide) rfl) ?_⟩
       intro hsub
       refine any_heavy [7] (by kernel_rfl) rfl (each1 ?_)
       intro w hI
       refine ol_c rfl (s_allocI hI [iv 0, iv 0, .slice none 0 0, .slice none 0 0, .slice none 0 0, iv 0, .slice none 0 0] Tryz.zeroValue116 rfl ?_)
       intro b68 w hI
       refine ⟨_, hI, subk (fun _ h => h.pickL [10, 11, 12, 13, 14] (by decide) rfl) ?_⟩
       intro hsub
       refine any_heavy [8] (by kernel_rfl) rfl (each1 ?_)
       intro w hI
       refine ol_c rfl (s_store hI 5 7 [iv (scnF pl dy).lo, iv (scnF pl dy).hi, slv g15 (scnF pl dy).loads.length c16, slv g19 (scnF pl dy).stands.length c20, slv g23 (scnF pl dy).spells.length c24, iv (scnF pl dy).geese, slv g27 (crtF pl dy).length c28] Tryz.sizeOf116 rfl rfl rfl rfl rfl (Nat.le_of_ble_eq_true rfl) ?_)
       intro w hI
       refine ⟨_, hI, subk (fun _ h => h.pickL [10, 11, 12, 13, 14] (by decide) rfl) ?_⟩
       intro hsub
       refine any_heavy [9] (by kernel_rfl) rfl (each1 ?_)
       intro w hI
       refine ol_c rfl (s_store hI 0 7 [iv ((scnF (withoutF pl s).1 dy).lo), iv ((scnF (withoutF pl s).1 dy).hi), slv g52 ((scnF (withoutF pl s).1 dy).loads.length) c53, slv g56 ((scnF (withoutF pl s).1 dy).stands.length) c57, slv g60 ((scnF (withoutF pl s).1 dy).spells.length) c61, iv ((scnF (withoutF pl s).1 dy).geese), slv g64 ((crtF (withoutF pl s).1 dy).length) c65] Tryz.sizeOf116 rfl rfl rfl rfl rfl (Nat.le_of_ble_eq_true rfl) ?_)
       intro w hI
       refine ⟨_, hI, subk (fun _ h => h.pickL [10, 11, 12, 13, 14] (by decide) rfl) ?_⟩
       intro hsub
       refine any_end (by kernel_rfl) (fun w hI => ?_)
       exact ⟨rfl, b68, b51, g52, c53, cl54, g56, c57, cl58, g60, c61, cl62, g64, c65, cl66, g15, c16, cl17, g19, c20, cl21, g23, c24, cl25, g27, c28, cl29, ⟨rfl, rfl, rfl, trivial⟩, hI.pickL [0, 5, 1, 2, 3, 4, 6, 7, 8, 9, 10, 11, 12, 13, 14] (by decide) rfl, r55, r59, r63, r67, r18, r22, r26, r30⟩
      ·intro w hI
       refine ol_c rfl (s_allocI hI [iv 0, iv 0, .slice none 0 0, .slice none 0 0, .slice none 0 0, iv 0, .slice none 0 0] Tryz.zeroValue116 rfl ?_)
       intro b69 w hI
       refine ⟨_, hI, subk (fun _ h => h.pickL [6, 7, 8, 9, 10] (by decide) rfl) ?_⟩
       intro hsub
       refine any_heavy [5] (by kernel_rfl) rfl (each1 ?_)
       intro w hI
       have hwl := without_len pl s; have hw19 : (withoutF pl s).1.loads.length < 20 := Nat.lt_of_le_of_lt hwl hn19
       have hsl := scn_len (withoutF pl s).1 dy; obtain ⟨hsl1, hsl2, hsl3⟩ := hsl; have hsc := crt_len (withoutF pl s).1 dy; have hok_ := plotB_small (without_ok (dayI_ok h2).1 h4); have hok1 := hok_.s1; have hok2 := hok_.s2; have hok3 := hok_.s3
       refine ol_c rfl (s_callScene hI (q := scnF (withoutF pl s).1 dy) (cs := crtF (withoutF pl s).1 dy) 86 [.agg #[iv ((withoutF pl s).1.lo), iv ((withoutF pl s).1.hi), slv g2 ((withoutF pl s).1.loads.length) c3, slv g6 ((withoutF pl s).1.stands.length) c7, slv g10 ((withoutF pl s).1.spells.length) c11, iv ((withoutF pl s).1.geese)], iv dy] (by kernel_rfl) (sceneOf_c _ (withoutF pl s).1 (g2.map fun b => ⟨b, 0, none⟩) ((withoutF pl s).1.loads.length) c3 (g6.map fun b => ⟨b, 0, none⟩) ((withoutF pl s).1.stands.length) c7 (g10.map fun b => ⟨b, 0, none⟩) ((withoutF pl s).1.spells.length) c11 ⟨(hI.rowCells 7 rfl r5), rfl, (hI.rowCells 8 rfl r9), rfl, (hI.rowCells 9 rfl r13), rfl, r5.big, r9.big, r13.big⟩ (plotB_small (without_ok (dayI_ok h2).1 h4)) dy (by omega)) ?_)
       intro g70 c71 cl72 g74 c75 cl76 g78 c79 cl80 g82 c83 cl84 w hI r73 r77 r81 r85
       refine ⟨_, hI, subk (fun _ h => h.pickL [10, 11, 12, 13, 14] (by decide) rfl) ?_⟩
       intro hsub
       refine any_heavy [8] (by kernel_rfl) rfl (each1 ?_)
       intro w hI
       refine ol_c rfl (s_store hI 5 7 [iv (scnF pl dy).lo, iv (scnF pl dy).hi, slv g15 (scnF pl dy).loads.length c16, slv g19 (scnF pl dy).stands.length c20, slv g23 (scnF pl dy).spells.length c24, iv (scnF pl dy).geese, slv g27 (crtF pl dy).length c28] Tryz.sizeOf116 rfl rfl rfl rfl rfl (Nat.le_of_ble_eq_true rfl) ?_)
       intro w hI
       refine ⟨_, hI, subk (fun _ h => h.pickL [10, 11, 12, 13, 14] (by decide) rfl) ?_⟩
       intro hsub
       refine any_heavy [9] (by kernel_rfl) rfl (each1 ?_)
       intro w hI
       refine ol_c rfl (s_store hI 4 7 [iv ((scnF (withoutF pl s).1 dy).lo), iv ((scnF (withoutF pl s).1 dy).hi), slv g70 ((scnF (withoutF pl s).1 dy).loads.length) c71, slv g74 ((scnF (withoutF pl s).1 dy).stands.length) c75, slv g78 ((scnF (withoutF pl s).1 dy).spells.length) c79, iv ((scnF (withoutF pl s).1 dy).geese), slv g82 ((crtF (withoutF pl s).1 dy).length) c83] Tryz.sizeOf116 rfl rfl rfl rfl rfl (Nat.le_of_ble_eq_true rfl) ?_)
       intro w hI
       refine ⟨_, hI, subk (fun _ h => h.pickL [10, 11, 12, 13, 14] (by decide) rfl) ?_⟩
       intro hsub
       refine any_end (by kernel_rfl) (fun w hI => ?_)
       exact ⟨rfl, b69, b51, g70, c71, cl72, g74, c75, cl76, g78, c79, cl80, g82, c83, cl84, g15, c16, cl17, g19, c20, cl21, g23, c24, cl25, g27, c28, cl29, ⟨rfl, rfl, rfl, trivial⟩, hI.pickL [4, 5, 0, 1, 2, 3, 6, 7, 8, 9, 10, 11, 12, 13, 14] (by decide) rfl, r73, r77, r81, r85, r18, r22, r26, r30⟩
     ·intro w hI
      refine ol_c rfl (s_allocI hI [iv 0, iv 0, .slice none 0 0, .slice none 0 0, .slice none 0 0, iv 0, .slice none 0 0] Tryz.zeroValue116 rfl ?_)
      intro b86 w hI
      refine ⟨_, hI, subk (fun _ h => h.pickL [5, 6, 7, 8, 9] (by decide) rfl) ?_⟩
      intro hsub
      refine any_heavy [5, 6] (by kernel_rfl) rfl (each2 ?_ ?_)
      ·intro w hI
       have hwl := without_len pl s; have hw19 : (withoutF pl s).1.loads.length < 20 := Nat.lt_of_le_of_lt hwl hn19
       have hsl := scn_len (withoutF pl s).1 dy; obtain ⟨hsl1, hsl2, hsl3⟩ := hsl; have hsc := crt_len (withoutF pl s).1 dy; have hok_ := plotB_small (without_ok (dayI_ok h2).1 h4); have hok1 := hok_.s1; have hok2 := hok_.s2; have hok3 := hok_.s3
       refine ol_c rfl (s_callScene hI (q := scnF (withoutF pl s).1 dy) (cs := crtF (withoutF pl s).1 dy) 86 [.agg #[iv ((withoutF pl s).1.lo), iv ((withoutF pl s).1.hi), slv g2 ((withoutF pl s).1.loads.length) c3, slv g6 ((withoutF pl s).1.stands.length) c7, slv g10 ((withoutF pl s).1.spells.length) c11, iv ((withoutF pl s).1.geese)], iv dy] (by kernel_rfl) (sceneOf_c _ (withoutF pl s).1 (g2.map fun b => ⟨b, 0, none⟩) ((withoutF pl s).1.loads.length) c3 (g6.map fun b => ⟨b, 0, none⟩) ((withoutF pl s).1.stands.length) c7 (g10.map fun b => ⟨b, 0, none⟩) ((withoutF pl s).1.spells.length) c11 ⟨(hI.rowCells 6 rfl r5), rfl, (hI.rowCells 7 rfl r9), rfl, (hI.rowCells 8 rfl r13), rfl, r5.big, r9.big, r13.big⟩ (plotB_small (without_ok (dayI_ok h2).1 h4)) dy (by omega)) ?_)
       intro g87 c88 cl89 g91 c92 cl93 g95 c96 cl97 g99 c100 cl101 w hI r90 r94 r98 r102
       refine ⟨_, hI, subk (fun _ h => h.pickL [9, 10, 11, 12, 13] (by decide) rfl) ?_⟩
       intro hsub
       refine any_heavy [6] (by kernel_rfl) rfl (each1 ?_)
       intro w hI
       refine ol_c rfl (s_allocI hI [iv 0, iv 0, .slice none 0 0, .slice none 0 0, .slice none 0 0, iv 0, .slice none 0 0] Tryz.zeroValue116 rfl ?_)
       intro b103 w hI
       refine ⟨_, hI, subk (fun _ h => h.pickL [10, 11, 12, 13, 14] (by decide) rfl) ?_⟩
       intro hsub
       refine any_heavy [8] (by kernel_rfl) rfl (each1 ?_)
       intro w hI
       refine ol_c rfl (s_store hI 0 7 [iv (scnF pl dy).lo, iv (scnF pl dy).hi, slv g15 (scnF pl dy).loads.length c16, slv g19 (scnF pl dy).stands.length c20, slv g23 (scnF pl dy).spells.length c24, iv (scnF pl dy).geese, slv g27 (crtF pl dy).length c28] Tryz.sizeOf116 rfl rfl rfl rfl rfl (Nat.le_of_ble_eq_true rfl) ?_)
       intro w hI
       refine ⟨_, hI, subk (fun _ h => h.pickL [10, 11, 12, 13, 14] (by decide) rfl) ?_⟩
       intro hsub
       refine any_heavy [9] (by kernel_rfl) rfl (each1 ?_)
       intro w hI
       refine ol_c rfl (s_store hI 5 7 [iv ((scnF (withoutF pl s).1 dy).lo), iv ((scnF (withoutF pl s).1 dy).hi), slv g87 ((scnF (withoutF pl s).1 dy).loads.length) c88, slv g91 ((scnF (withoutF pl s).1 dy).stands.length) c92, slv g95 ((scnF (withoutF pl s).1 dy).spells.length) c96, iv ((scnF (withoutF pl s).1 dy).geese), slv g99 ((crtF (withoutF pl s).1 dy).length) c100] Tryz.sizeOf116 rfl rfl rfl rfl rfl (Nat.le_of_ble_eq_true rfl) ?_)
       intro w hI
       refine ⟨_, hI, subk (fun _ h => h.pickL [10, 11, 12, 13, 14] (by decide) rfl) ?_⟩
       intro hsub
       refine any_end (by kernel_rfl) (fun w hI => ?_)
       exact ⟨rfl, b86, b103, g87, c88, cl89, g91, c92, cl93, g95, c96, cl97, g99, c100, cl101, g15, c16, cl17, g19, c20, cl21, g23, c24, cl25, g27, c28, cl29, ⟨rfl, rfl, rfl, trivial⟩, hI.pickL [5, 0, 1, 2, 3, 4, 6, 7, 8, 9, 10, 11, 12, 13, 14] (by decide) rfl, r90, r94, r98, r102, r18, r22, r26, r30⟩
      ·intro w hI
       refine ol_c rfl (s_allocI hI [iv 0, iv 0, .slice none 0 0, .slice none 0 0, .slice none 0 0, iv 0, .slice none 0 0] Tryz.zeroValue116 rfl ?_)
       intro b104 w hI
       refine ⟨_, hI, subk (fun _ h => h.pickL [6, 7, 8, 9, 10] (by decide) rfl) ?_⟩
       intro hsub
       refine any_heavy [5] (by kernel_rfl) rfl (each1 ?_)
       intro w hI
       have hwl := without_len pl s; have hw19 : (withoutF pl s).1.loads.length < 20 := Nat.lt_of_le_of_lt hwl hn19
       have hsl := scn_len (withoutF pl s).1 dy; obtain ⟨hsl1, hsl2, hsl3⟩ := hsl; have hsc := crt_len (withoutF pl s).1 dy; have hok_ := plotB_small (without_ok (dayI_ok h2).1 h4); have hok1 := hok_.s1; have hok2 := hok_.s2; have hok3 := hok_.s3
       refine ol_c rfl (s_callScene hI (q := scnF (withoutF pl s).1 dy) (cs := crtF (withoutF pl s).1 dy) 86 [.agg #[iv ((withoutF pl s).1.lo), iv ((withoutF pl s).1.hi), slv g2 ((withoutF pl s).1.loads.length) c3, slv g6 ((withoutF pl s).1.stands.length) c7, slv g10 ((withoutF pl s).1.spells.length) c11, iv ((withoutF pl s).1.geese)], iv dy] (by kernel_rfl) (sceneOf_c _ (withoutF pl s).1 (g2.map fun b => ⟨b, 0, none⟩) ((withoutF pl s).1.loads.length) c3 (g6.map fun b => ⟨b, 0, none⟩) ((withoutF pl s).1.stands.length) c7 (g10.map fun b => ⟨b, 0, none⟩) ((withoutF pl s).1.spells.length) c11 ⟨(hI.rowCells 7 rfl r5), rfl, (hI.rowCells 8 rfl r9), rfl, (hI.rowCells 9 rfl r13), rfl, r5.big, r9.big, r13.big⟩ (plotB_small (without_ok (dayI_ok h2).1 h4)) dy (by omega)) ?_)
       intro g105 c106 cl107 g109 c110 cl111 g113 c114 cl115 g117 c118 cl119 w hI r108 r112 r116 r120
       refine ⟨_, hI, subk (fun _ h => h.pickL [10, 11, 12, 13, 14] (by decide) rfl) ?_⟩
       intro hsub
       refine any_heavy [8] (by kernel_rfl) rfl (each1 ?_)
       intro w hI
       refine ol_c rfl (s_store hI 4 7 [iv (scnF pl dy).lo, iv (scnF pl dy).hi, slv g15 (scnF pl dy).loads.length c16, slv g19 (scnF pl dy).stands.length c20, slv g23 (scnF pl dy).spells.length c24, iv (scnF pl dy).geese, slv g27 (crtF pl dy).length c28] Tryz.sizeOf116 rfl rfl rfl rfl rfl (Nat.le_of_ble_eq_true rfl) ?_)
       intro w hI
       refine ⟨_, hI, subk (fun _ h => h.pickL [10, 11, 12, 13, 14] (by decide) rfl) ?_⟩
       intro hsub
       refine any_heavy [9] (by kernel_rfl) rfl (each1 ?_)
       intro w hI
       refine ol_c rfl (s_store hI 5 7 [iv ((scnF (withoutF pl s).1 dy).lo), iv ((scnF (withoutF pl s).1 dy).hi), slv g105 ((scnF (withoutF pl s).1 dy).loads.length) c106, slv g109 ((scnF (withoutF pl s).1 dy).stands.length) c110, slv g113 ((scnF (withoutF pl s).1 dy).spells.length) c114, iv ((scnF (withoutF pl s).1 dy).geese), slv g117 ((crtF (withoutF pl s).1 dy).length) c118] Tryz.sizeOf116 rfl rfl rfl rfl rfl (Nat.le_of_ble_eq_true rfl) ?_)
       intro w hI
       refine ⟨_, hI, subk (fun _ h => h.pickL [10, 11, 12, 13, 14] (by decide) rfl) ?_⟩
       intro hsub
       refine any_end (by kernel_rfl) (fun w hI => ?_)
       exact ⟨rfl, b86, b104, g105, c106, cl107, g109, c110, cl111, g113, c114, cl115, g117, c118, cl119, g15, c16, cl17, g19, c20, cl21, g23, c24, cl25, g27, c28, cl29, ⟨rfl, rfl, rfl, trivial⟩, hI.pickL [5, 4, 0, 1, 2, 3, 6, 7, 8, 9, 10, 11, 12, 13, 14] (by decide) rfl, r108, r112, r116, r120, r18, r22, r26, r30⟩
    ·intro w hI
     refine ol_c rfl (s_allocI hI [iv 0, iv 0, .slice none 0 0, .slice none 0 0, .slice none 0 0, iv 0, .slice none 0 0] Tryz.zeroValue116 rfl ?_)
     intro b121 w hI
     refine ⟨_, hI, subk (fun _ h => h.pickL [1, 2, 3, 4, 5] (by decide) rfl) ?_⟩
     intro hsub
     refine any_heavy [2, 7] (by kernel_rfl) rfl (each2 ?_ ?_)
     ·intro w hI
      have hwl := without_len pl s; have hw19 : (withoutF pl s).1.loads.length < 20 := Nat.lt_of_le_of_lt hwl hn19
      have hsl := scn_len pl dy; obtain ⟨hsl1, hsl2, hsl3⟩ := hsl; have hsc := crt_len pl dy; have hok_ := plotB_small (dayI_ok h2).1; have hok1 := hok_.s1; have hok2 := hok_.s2; have hok3 := hok_.s3
      refine ol_c rfl (s_callScene hI (q := scnF pl dy) (cs := crtF pl dy) 86 [.agg #[iv pl.lo, iv pl.hi, .slice pA1 pn1 pc1, .slice pA2 pn2 pc2, .slice pA3 pn3 pc3, iv pl.geese], iv dy] (by kernel_rfl) (sceneOf_c _ pl pA1 pn1 pc1 pA2 pn2 pc2 pA3 pn3 pc3 (hP.inv0 hI) (plotB_small (dayI_ok h2).1) dy (by omega)) ?_)
      intro g122 c123 cl124 g126 c127 cl128 g130 c131 cl132 g134 c135 cl136 w hI r125 r129 r133 r137
      refine ⟨_, hI, subk (fun _ h => h.pickL [5, 6, 7, 8, 9] (by decide) rfl) ?_⟩
      intro hsub
      refine any_heavy [5, 7] (by kernel_rfl) rfl (each2 ?_ ?_)
      ·intro w hI
       have hwl := without_len pl s; have hw19 : (withoutF pl s).1.loads.length < 20 := Nat.lt_of_le_of_lt hwl hn19
       have hsl := scn_len (withoutF pl s).1 dy; obtain ⟨hsl1, hsl2, hsl3⟩ := hsl; have hsc := crt_len (withoutF pl s).1 dy; have hok_ := plotB_small (without_ok (dayI_ok h2).1 h4); have hok1 := hok_.s1; have hok2 := hok_.s2; have hok3 := hok_.s3
       refine ol_c rfl (s_callScene hI (q := scnF (withoutF pl s).1 dy) (cs := crtF (withoutF pl s).1 dy) 86 [.agg #[iv ((withoutF pl s).1.lo), iv ((withoutF pl s).1.hi), slv g2 ((withoutF pl s).1.loads.length) c3, slv g6 ((withoutF pl s).1.stands.length) c7, slv g10 ((withoutF pl s).1.spells.length) c11, iv ((withoutF pl s).1.geese)], iv dy] (by kernel_rfl) (sceneOf_c _ (withoutF pl s).1 (g2.map fun b => ⟨b, 0, none⟩) ((withoutF pl s).1.loads.length) c3 (g6.map fun b => ⟨b, 0, none⟩) ((withoutF pl s).1.stands.length) c7 (g10.map fun b => ⟨b, 0, none⟩) ((withoutF pl s).1.spells.length) c11 ⟨(hI.rowCells 6 rfl r5), rfl, (hI.rowCells 7 rfl r9), rfl, (hI.rowCells 8 rfl r13), rfl, r5.big, r9.big, r13.big⟩ (plotB_small (without_ok (dayI_ok h2).1 h4)) dy (by omega)) ?_)
       intro g138 c139 cl140 g142 c143 cl144 g146 c147 cl148 g150 c151 cl152 w hI r141 r145 r149 r153
       refine ⟨_, hI, subk (fun _ h => h.pickL [9, 10, 11, 12, 13] (by decide) rfl) ?_⟩
       intro hsub
       refine any_heavy [7] (by kernel_rfl) rfl (each1 ?_)
       intro w hI
       refine ol_c rfl (s_allocI hI [iv 0, iv 0, .slice none 0 0, .slice none 0 0, .slice none 0 0, iv 0, .slice none 0 0] Tryz.zeroValue116 rfl ?_)
       intro b154 w hI
       refine ⟨_, hI, subk (fun _ h => h.pickL [10, 11, 12, 13, 14] (by decide) rfl) ?_⟩
       intro hsub
       refine any_heavy [8] (by kernel_rfl) rfl (each1 ?_)
       intro w hI
       refine ol_c rfl (s_store hI 9 7 [iv (scnF pl dy).lo, iv (scnF pl dy).hi, slv g122 (scnF pl dy).loads.length c123, slv g126 (scnF pl dy).stands.length c127, slv g130 (scnF pl dy).spells.length c131, iv (scnF pl dy).geese, slv g134 (crtF pl dy).length c135] Tryz.sizeOf116 rfl rfl rfl rfl rfl (Nat.le_of_ble_eq_true rfl) ?_)
       intro w hI
       refine ⟨_, hI, subk (fun _ h => h.pickL [10, 11, 12, 13, 14] (by decide) rfl) ?_⟩
       intro hsub
       refine any_heavy [9] (by kernel_rfl) rfl (each1 ?_)
       intro w hI
       refine ol_c rfl (s_store hI 0 7 [iv ((scnF (withoutF pl s).1 dy).lo), iv ((scnF (withoutF pl s).1 dy).hi), slv g138 ((scnF (withoutF pl s).1 dy).loads.length) c139, slv g142 ((scnF (withoutF pl s).1 dy).stands.length) c143, slv g146 ((scnF (withoutF pl s).1 dy).spells.length) c147, iv ((scnF (withoutF pl s).1 dy).geese), slv g150 ((crtF (withoutF pl s).1 dy).length) c151] Tryz.sizeOf116 rfl rfl rfl rfl rfl (Nat.le_of_ble_eq_true rfl) ?_)
       intro w hI
       refine ⟨_, hI, subk (fun _ h => h.pickL [10, 11, 12, 13, 14] (by decide) rfl) ?_⟩
       intro hsub
       refine any_end (by kernel_rfl) (fun w hI => ?_)
       exact ⟨rfl, b154, b121, g138, c139, cl140, g142, c143, cl144, g146, c147, cl148, g150, c151, cl152, g122, c123, cl124, g126, c127, cl128, g130, c131, cl132, g134, c135, cl136, ⟨rfl, rfl, rfl, trivial⟩, hI.pickL [0, 9, 1, 2, 3, 4, 5, 6, 7, 8, 10, 11, 12, 13, 14] (by decide) rfl, r141, r145, r149, r153, r125, r129, r133, r137⟩
      ·intro w hI
       refine ol_c rfl (s_allocI hI [iv 0, iv 0, .slice none 0 0, .slice none 0 0, .slice none 0 0, iv 0, .slice none 0 0] Tryz.zeroValue116 rfl ?_)
       intro b155 w hI
       refine ⟨_, hI, subk (fun _ h => h.pickL [6, 7, 8, 9, 10] (by decide) rfl) ?_⟩
       intro hsub
       refine any_heavy [5] (by kernel_rfl) rfl (each1 ?_)
       intro w hI
       have hwl := without_len pl s; have hw19 : (withoutF pl s).1.loads.length < 20 := Nat.lt_of_le_of_lt hwl hn19
       have hsl := scn_len (withoutF pl s).1 dy; obtain ⟨hsl1, hsl2, hsl3⟩ := hsl; have hsc := crt_len (withoutF pl s).1 dy; have hok_ := plotB_small (without_ok (dayI_ok h2).1 h4); have hok1 := hok_.s1; have hok2 := hok_.s2; have hok3 := hok_.s3
       refine ol_c rfl (s_callScene hI (q := scnF (withoutF pl s).1 dy) (cs := crtF (withoutF pl s).1 dy) 86 [.agg #[iv ((withoutF pl s).1.lo), iv ((withoutF pl s).1.hi), slv g2 ((withoutF pl s).1.loads.length) c3, slv g6 ((withoutF pl s).1.stands.length) c7, slv g10 ((withoutF pl s).1.spells.length) c11, iv ((withoutF pl s).1.geese)], iv dy] (by kernel_rfl) (sceneOf_c _ (withoutF pl s).1 (g2.map fun b => ⟨b, 0, none⟩) ((withoutF pl s).1.loads.length) c3 (g6.map fun b => ⟨b, 0, none⟩) ((withoutF pl s).1.stands.length) c7 (g10.map fun b => ⟨b, 0, none⟩) ((withoutF pl s).1.spells.length) c11 ⟨(hI.rowCells 7 rfl r5), rfl, (hI.rowCells 8 rfl r9), rfl, (hI.rowCells 9 rfl r13), rfl, r5.big, r9.big, r13.big⟩ (plotB_small (without_ok (dayI_ok h2).1 h4)) dy (by omega)) ?_)
       intro g156 c157 cl158 g160 c161 cl162 g164 c165 cl166 g168 c169 cl170 w hI r159 r163 r167 r171
       refine ⟨_, hI, subk (fun _ h => h.pickL [10, 11, 12, 13, 14] (by decide) rfl) ?_⟩
       intro hsub
       refine any_heavy [8] (by kernel_rfl) rfl (each1 ?_)
       intro w hI
       refine ol_c rfl (s_store hI 9 7 [iv (scnF pl dy).lo, iv (scnF pl dy).hi, slv g122 (scnF pl dy).loads.length c123, slv g126 (scnF pl dy).stands.length c127, slv g130 (scnF pl dy).spells.length c131, iv (scnF pl dy).geese, slv g134 (crtF pl dy).length c135] Tryz.sizeOf116 rfl rfl rfl rfl rfl (Nat.le_of_ble_eq_true rfl) ?_)
       intro w hI
       refine ⟨_, hI, subk (fun _ h => h.pickL [10, 11, 12, 13, 14] (by decide) rfl) ?_⟩
       intro hsub
       refine any_heavy [9] (by kernel_rfl) rfl (each1 ?_)
       intro w hI
       refine ol_c rfl (s_store hI 4 7 [iv ((scnF (withoutF pl s).1 dy).lo), iv ((scnF (withoutF pl s).1 dy).hi), slv g156 ((scnF (withoutF pl s).1 dy).loads.length) c157, slv g160 ((scnF (withoutF pl s).1 dy).stands.length) c161, slv g164 ((scnF (withoutF pl s).1 dy).spells.length) c165, iv ((scnF (withoutF pl s).1 dy).geese), slv g168 ((crtF (withoutF pl s).1 dy).length) c169] Tryz.sizeOf116 rfl rfl rfl rfl rfl (Nat.le_of_ble_eq_true rfl) ?_)
       intro w hI
       refine ⟨_, hI, subk (fun _ h => h.pickL [10, 11, 12, 13, 14] (by decide) rfl) ?_⟩
       intro hsub
       refine any_end (by kernel_rfl) (fun w hI => ?_)
       exact ⟨rfl, b155, b121, g156, c157, cl158, g160, c161, cl162, g164, c165, cl166, g168, c169, cl170, g122, c123, cl124, g126, c127, cl128, g130, c131, cl132, g134, c135, cl136, ⟨rfl, rfl, rfl, trivial⟩, hI.pickL [4, 9, 0, 1, 2, 3, 5, 6, 7, 8, 10, 11, 12, 13, 14] (by decide) rfl, r159, r163, r167, r171, r125, r129, r133, r137⟩
     ·intro w hI
      refine ol_c rfl (s_allocI hI [iv 0, iv 0, .slice none 0 0, .slice none 0 0, .slice none 0 0, iv 0, .slice none 0 0] Tryz.zeroValue116 rfl ?_)
      intro b172 w hI
      refine ⟨_, hI, subk (fun _ h => h.pickL [2, 3, 4, 5, 6] (by decide) rfl) ?_⟩
      intro hsub
      refine any_heavy [2] (by kernel_rfl) rfl (each1 ?_)
      intro w hI
      have hwl := without_len pl s; have hw19 : (withoutF pl s).1.loads.length < 20 := Nat.lt_of_le_of_lt hwl hn19
      have hsl := scn_len pl dy; obtain ⟨hsl1, hsl2, hsl3⟩ := hsl; have hsc := crt_len pl dy; have hok_ := plotB_small (dayI_ok h2).1; have hok1 := hok_.s1; have hok2 := hok_.s2; have hok3 := hok_.s3
      refine ol_c rfl (s_callScene hI (q := scnF pl dy) (cs := crtF pl dy) 86 [.agg #[iv pl.lo, iv pl.hi, .slice pA1 pn1 pc1, .slice pA2 pn2 pc2, .slice pA3 pn3 pc3, iv pl.geese], iv dy] (by kernel_rfl) (sceneOf_c _ pl pA1 pn1 pc1 pA2 pn2 pc2 pA3 pn3 pc3 (hP.inv0 hI) (plotB_small (dayI_ok h2).1) dy (by omega)) ?_)
      intro g173 c174 cl175 g177 c178 cl179 g181 c182 cl183 g185 c186 cl187 w hI r176 r180 r184 r188
      refine ⟨_, hI, subk (fun _ h => h.pickL [6, 7, 8, 9, 10] (by decide) rfl) ?_⟩
      intro hsub
      refine any_heavy [5] (by kernel_rfl) rfl (each1 ?_)
      intro w hI
      have hwl := without_len pl s; have hw19 : (withoutF pl s).1.loads.length < 20 := Nat.lt_of_le_of_lt hwl hn19
      have hsl := scn_len (withoutF pl s).1 dy; obtain ⟨hsl1, hsl2, hsl3⟩ := hsl; have hsc := crt_len (withoutF pl s).1 dy; have hok_ := plotB_small (without_ok (dayI_ok h2).1 h4); have hok1 := hok_.s1; have hok2 := hok_.s2; have hok3 := hok_.s3
      refine ol_c rfl (s_callScene hI (q := scnF (withoutF pl s).1 dy) (cs := crtF (withoutF pl s).1 dy) 86 [.agg #[iv ((withoutF pl s).1.lo), iv ((withoutF pl s).1.hi), slv g2 ((withoutF pl s).1.loads.length) c3, slv g6 ((withoutF pl s).1.stands.length) c7, slv g10 ((withoutF pl s).1.spells.length) c11, iv ((withoutF pl s).1.geese)], iv dy] (by kernel_rfl) (sceneOf_c _ (withoutF pl s).1 (g2.map fun b => ⟨b, 0, none⟩) ((withoutF pl s).1.loads.length) c3 (g6.map fun b => ⟨b, 0, none⟩) ((withoutF pl s).1.stands.length) c7 (g10.map fun b => ⟨b, 0, none⟩) ((withoutF pl s).1.spells.length) c11 ⟨(hI.rowCells 7 rfl r5), rfl, (hI.rowCells 8 rfl r9), rfl, (hI.rowCells 9 rfl r13), rfl, r5.big, r9.big, r13.big⟩ (plotB_small (without_ok (dayI_ok h2).1 h4)) dy (by omega)) ?_)
      intro g189 c190 cl191 g193 c194 cl195 g197 c198 cl199 g201 c202 cl203 w hI r192 r196 r200 r204
      refine ⟨_, hI, subk (fun _ h => h.pickL [10, 11, 12, 13, 14] (by decide) rfl) ?_⟩
      intro hsub
      refine any_heavy [8] (by kernel_rfl) rfl (each1 ?_)
      intro w hI
      refine ol_c rfl (s_store hI 9 7 [iv (scnF pl dy).lo, iv (scnF pl dy).hi, slv g173 (scnF pl dy).loads.length c174, slv g177 (scnF pl dy).stands.length c178, slv g181 (scnF pl dy).spells.length c182, iv (scnF pl dy).geese, slv g185 (crtF pl dy).length c186] Tryz.sizeOf116 rfl rfl rfl rfl rfl (Nat.le_of_ble_eq_true rfl) ?_)
      intro w hI
      refine ⟨_, hI, subk (fun _ h => h.pickL [10, 11, 12, 13, 14] (by decide) rfl) ?_⟩
      intro hsub
      refine any_heavy [9] (by kernel_rfl) rfl (each1 ?_)
      intro w hI
      refine ol_c rfl (s_store hI 8 7 [iv ((scnF (withoutF pl s).1 dy).lo), iv ((scnF (withoutF pl s).1 dy).hi), slv g189 ((scnF (withoutF pl s).1 dy).loads.length) c190, slv g193 ((scnF (withoutF pl s).1 dy).stands.length) c194, slv g197 ((scnF (withoutF pl s).1 dy).spells.length) c198, iv ((scnF (withoutF pl s).1 dy).geese), slv g201 ((crtF (withoutF pl s).1 dy).length) c202] Tryz.sizeOf116 rfl rfl rfl rfl rfl (Nat.le_of_ble_eq_true rfl) ?_)
      intro w hI
      refine ⟨_, hI, subk (fun _ h => h.pickL [10, 11, 12, 13, 14] (by decide) rfl) ?_⟩
      intro hsub
      refine any_end (by kernel_rfl) (fun w hI => ?_)
      exact ⟨rfl, b172, b121, g189, c190, cl191, g193, c194, cl195, g197, c198, cl199, g201, c202, cl203, g173, c174, cl175, g177, c178, cl179, g181, c182, cl183, g185, c186, cl187, ⟨rfl, rfl, rfl, trivial⟩, hI.pickL [8, 9, 0, 1, 2, 3, 4, 5, 6, 7, 10, 11, 12, 13, 14] (by decide) rfl, r192, r196, r200, r204, r176, r180, r184, r188⟩
    ·intro w hI
     refine ol_c rfl (s_allocI hI [iv 0, iv 0, .slice none 0 0, .slice none 0 0, .slice none 0 0, iv 0, .slice none 0 0] Tryz.zeroValue116 rfl ?_)
     intro b205 w hI
     refine ⟨_, hI, subk (fun _ h => h.pickL [1, 2, 3, 4, 5] (by decide) rfl) ?_⟩
     intro hsub
     refine any_heavy [2, 6] (by kernel_rfl) rfl (each2 ?_ ?_)
     ·intro w hI
      have hwl := without_len pl s; have hw19 : (withoutF pl s).1.loads.length < 20 := Nat.lt_of_le_of_lt hwl hn19
      have hsl := scn_len pl dy; obtain ⟨hsl1, hsl2, hsl3⟩ := hsl; have hsc := crt_len pl dy; have hok_ := plotB_small (dayI_ok h2).1; have hok1 := hok_.s1; have hok2 := hok_.s2; have hok3 := hok_.s3
      refine ol_c rfl (s_callScene hI (q := scnF pl dy) (cs := crtF pl dy) 86 [.agg #[iv pl.lo, iv pl.hi, .slice pA1 pn1 pc1, .slice pA2 pn2 pc2, .slice pA3 pn3 pc3, iv pl.geese], iv dy] (by kernel_rfl) (sceneOf_c _ pl pA1 pn1 pc1 pA2 pn2 pc2 pA3 pn3 pc3 (hP.inv0 hI) (plotB_small (dayI_ok h2).1) dy (by omega)) ?_)
      intro g206 c207 cl208 g210 c211 cl212 g214 c215 cl216 g218 c219 cl220 w hI r209 r213 r217 r221
      refine ⟨_, hI, subk (fun _ h => h.pickL [5, 6, 7, 8, 9] (by decide) rfl) ?_⟩
      intro hsub
      refine any_heavy [5, 6] (by kernel_rfl) rfl (each2 ?_ ?_)
      ·intro w hI
       have hwl := without_len pl s; have hw19 : (withoutF pl s).1.loads.length < 20 := Nat.lt_of_le_of_lt hwl hn19
       have hsl := scn_len (withoutF pl s).1 dy; obtain ⟨hsl1, hsl2, hsl3⟩ := hsl; have hsc := crt_len (withoutF pl s).1 dy; have hok_ := plotB_small (without_ok (dayI_ok h2).1 h4); have hok1 := hok_.s1; have hok2 := hok_.s2; have hok3 := hok_.s3
       refine ol_c rfl (s_callScene hI (q := scnF (withoutF pl s).1 dy) (cs := crtF (withoutF pl s).1 dy) 86 [.agg #[iv ((withoutF pl s).1.lo), iv ((withoutF pl s).1.hi), slv g2 ((withoutF pl s).1.loads.length) c3, slv g6 ((withoutF pl s).1.stands.length) c7, slv g10 ((withoutF pl s).1.spells.length) c11, iv ((withoutF pl s).1.geese)], iv dy] (by kernel_rfl) (sceneOf_c _ (withoutF pl s).1 (g2.map fun b => ⟨b, 0, none⟩) ((withoutF pl s).1.loads.length) c3 (g6.map fun b => ⟨b, 0, none⟩) ((withoutF pl s).1.stands.length) c7 (g10.map fun b => ⟨b, 0, none⟩) ((withoutF pl s).1.spells.length) c11 ⟨(hI.rowCells 6 rfl r5), rfl, (hI.rowCells 7 rfl r9), rfl, (hI.rowCells 8 rfl r13), rfl, r5.big, r9.big, r13.big⟩ (plotB_small (without_ok (dayI_ok h2).1 h4)) dy (by omega)) ?_)
       intro g222 c223 cl224 g226 c227 cl228 g230 c231 cl232 g234 c235 cl236 w hI r225 r229 r233 r237
       refine ⟨_, hI, subk (fun _ h => h.pickL [9, 10, 11, 12, 13] (by decide) rfl) ?_⟩
       intro hsub
       refine any_heavy [6] (by kernel_rfl) rfl (each1 ?_)
       intro w hI
       refine ol_c rfl (s_allocI hI [iv 0, iv 0, .slice none 0 0, .slice none 0 0, .slice none 0 0, iv 0, .slice none 0 0] Tryz.zeroValue116 rfl ?_)
       intro b238 w hI
       refine ⟨_, hI, subk (fun _ h => h.pickL [10, 11, 12, 13, 14] (by decide) rfl) ?_⟩
       intro hsub
       refine any_heavy [8] (by kernel_rfl) rfl (each1 ?_)
       intro w hI
       refine ol_c rfl (s_store hI 0 7 [iv (scnF pl dy).lo, iv (scnF pl dy).hi, slv g206 (scnF pl dy).loads.length c207, slv g210 (scnF pl dy).stands.length c211, slv g214 (scnF pl dy).spells.length c215, iv (scnF pl dy).geese, slv g218 (crtF pl dy).length c219] Tryz.sizeOf116 rfl rfl rfl rfl rfl (Nat.le_of_ble_eq_true rfl) ?_)
       intro w hI
       refine ⟨_, hI, subk (fun _ h => h.pickL [10, 11, 12, 13, 14] (by decide) rfl) ?_⟩
       intro hsub
       refine any_heavy [9] (by kernel_rfl) rfl (each1 ?_)
       intro w hI
       refine ol_c rfl (s_store hI 9 7 [iv ((scnF (withoutF pl s).1 dy).lo), iv ((scnF (withoutF pl s).1 dy).hi), slv g222 ((scnF (withoutF pl s).1 dy).loads.length) c223, slv g226 ((scnF (withoutF pl s).1 dy).stands.length) c227, slv g230 ((scnF (withoutF pl s).1 dy).spells.length) c231, iv ((scnF (withoutF pl s).1 dy).geese), slv g234 ((crtF (withoutF pl s).1 dy).length) c235] Tryz.sizeOf116 rfl rfl rfl rfl rfl (Nat.le_of_ble_eq_true rfl) ?_)
       intro w hI
       refine ⟨_, hI, subk (fun _ h => h.pickL [10, 11, 12, 13, 14] (by decide) rfl) ?_⟩
       intro hsub
       refine any_end (by kernel_rfl) (fun w hI => ?_)
       exact ⟨rfl, b205, b238, g222, c223, cl224, g226, c227, cl228, g230, c231, cl232, g234, c235, cl236, g206, c207, cl208, g210, c211, cl212, g214, c215, cl216, g218, c219, cl220, ⟨rfl, rfl, rfl, trivial⟩, hI.pickL [9, 0, 1, 2, 3, 4, 5, 6, 7, 8, 10, 11, 12, 13, 14] (by decide) rfl, r225, r229, r233, r237, r209, r213, r217, r221⟩
      ·intro w hI
       refine ol_c rfl (s_allocI hI [iv 0, iv 0, .slice none 0 0, .slice none 0 0, .slice none 0 0, iv 0, .slice none 0 0] Tryz.zeroValue116 rfl ?_)
       intro b239 w hI
       refine ⟨_, hI, subk (fun _ h => h.pickL [6, 7, 8, 9, 10] (by decide) rfl) ?_⟩
       intro hsub
       refine any_heavy [5] (by kernel_rfl) rfl (each1 ?_)
       intro w hI
       have hwl := without_len pl s; have hw19 : (withoutF pl s).1.loads.length < 20 := Nat.lt_of_le_of_lt hwl hn19
       have hsl := scn_len (withoutF pl s).1 dy; obtain ⟨hsl1, hsl2, hsl3⟩ := hsl; have hsc := crt_len (withoutF pl s).1 dy; have hok_ := plotB_small (without_ok (dayI_ok h2).1 h4); have hok1 := hok_.s1; have hok2 := hok_.s2; have hok3 := hok_.s3
       refine ol_c rfl (s_callScene hI (q := scnF (withoutF pl s).1 dy) (cs := crtF (withoutF pl s).1 dy) 86 [.agg #[iv ((withoutF pl s).1.lo), iv ((withoutF pl s).1.hi), slv g2 ((withoutF pl s).1.loads.length) c3, slv g6 ((withoutF pl s).1.stands.length) c7, slv g10 ((withoutF pl s).1.spells.length) c11, iv ((withoutF pl s).1.geese)], iv dy] (by kernel_rfl) (sceneOf_c _ (withoutF pl s).1 (g2.map fun b => ⟨b, 0, none⟩) ((withoutF pl s).1.loads.length) c3 (g6.map fun b => ⟨b, 0, none⟩) ((withoutF pl s).1.stands.length) c7 (g10.map fun b => ⟨b, 0, none⟩) ((withoutF pl s).1.spells.length) c11 ⟨(hI.rowCells 7 rfl r5), rfl, (hI.rowCells 8 rfl r9), rfl, (hI.rowCells 9 rfl r13), rfl, r5.big, r9.big, r13.big⟩ (plotB_small (without_ok (dayI_ok h2).1 h4)) dy (by omega)) ?_)
       intro g240 c241 cl242 g244 c245 cl246 g248 c249 cl250 g252 c253 cl254 w hI r243 r247 r251 r255
       refine ⟨_, hI, subk (fun _ h => h.pickL [10, 11, 12, 13, 14] (by decide) rfl) ?_⟩
       intro hsub
       refine any_heavy [8] (by kernel_rfl) rfl (each1 ?_)
       intro w hI
       refine ol_c rfl (s_store hI 4 7 [iv (scnF pl dy).lo, iv (scnF pl dy).hi, slv g206 (scnF pl dy).loads.length c207, slv g210 (scnF pl dy).stands.length c211, slv g214 (scnF pl dy).spells.length c215, iv (scnF pl dy).geese, slv g218 (crtF pl dy).length c219] Tryz.sizeOf116 rfl rfl rfl rfl rfl (Nat.le_of_ble_eq_true rfl) ?_)
       intro w hI
       refine ⟨_, hI, subk (fun _ h => h.pickL [10, 11, 12, 13, 14] (by decide) rfl) ?_⟩
       intro hsub
       refine any_heavy [9] (by kernel_rfl) rfl (each1 ?_)
       intro w hI
       refine ol_c rfl (s_store hI 9 7 [iv ((scnF (withoutF pl s).1 dy).lo), iv ((scnF (withoutF pl s).1 dy).hi), slv g240 ((scnF (withoutF pl s).1 dy).loads.length) c241, slv g244 ((scnF (withoutF pl s).1 dy).stands.length) c245, slv g248 ((scnF (withoutF pl s).1 dy).spells.length) c249, iv ((scnF (withoutF pl s).1 dy).geese), slv g252 ((crtF (withoutF pl s).1 dy).length) c253] Tryz.sizeOf116 rfl rfl rfl rfl rfl (Nat.le_of_ble_eq_true rfl) ?_)
       intro w hI
       refine ⟨_, hI, subk (fun _ h => h.pickL [10, 11, 12, 13, 14] (by decide) rfl) ?_⟩
       intro hsub
       refine any_end (by kernel_rfl) (fun w hI => ?_)
       exact ⟨rfl, b205, b239, g240, c241, cl242, g244, c245, cl246, g248, c249, cl250, g252, c253, cl254, g206, c207, cl208, g210, c211, cl212, g214, c215, cl216, g218, c219, cl220, ⟨rfl, rfl, rfl, trivial⟩, hI.pickL [9, 4, 0, 1, 2, 3, 5, 6, 7, 8, 10, 11, 12, 13, 14] (by decide) rfl, r243, r247, r251, r255, r209, r213, r217, r221⟩
     ·intro w hI
      refine ol_c rfl (s_allocI hI [iv 0, iv 0, .slice none 0 0, .slice none 0 0, .slice none 0 0, iv 0, .slice none 0 0] Tryz.zeroValue116 rfl ?_)
      intro b256 w hI
      refine ⟨_, hI, subk (fun _ h => h.pickL [2, 3, 4, 5, 6] (by decide) rfl) ?_⟩
      intro hsub
      refine any_heavy [2] (by kernel_rfl) rfl (each1 ?_)
      intro w hI
      have hwl := without_len pl s; have hw19 : (withoutF pl s).1.loads.length < 20 := Nat.lt_of_le_of_lt hwl hn19
      have hsl := scn_len pl dy; obtain ⟨hsl1, hsl2, hsl3⟩ := hsl; have hsc := crt_len pl dy; have hok_ := plotB_small (dayI_ok h2).1; have hok1 := hok_.s1; have hok2 := hok_.s2; have hok3 := hok_.s3
      refine ol_c rfl (s_callScene hI (q := scnF pl dy) (cs := crtF pl dy) 86 [.agg #[iv pl.lo, iv pl.hi, .slice pA1 pn1 pc1, .slice pA2 pn2 pc2, .slice pA3 pn3 pc3, iv pl.geese], iv dy] (by kernel_rfl) (sceneOf_c _ pl pA1 pn1 pc1 pA2 pn2 pc2 pA3 pn3 pc3 (hP.inv0 hI) (plotB_small (dayI_ok h2).1) dy (by omega)) ?_)
      intro g257 c258 cl259 g261 c262 cl263 g265 c266 cl267 g269 c270 cl271 w hI r260 r264 r268 r272
      refine ⟨_, hI, subk (fun _ h => h.pickL [6, 7, 8, 9, 10] (by decide) rfl) ?_⟩
      intro hsub
      refine any_heavy [5] (by kernel_rfl) rfl (each1 ?_)
      intro w hI
      have hwl := without_len pl s; have hw19 : (withoutF pl s).1.loads.length < 20 := Nat.lt_of_le_of_lt hwl hn19
      have hsl := scn_len (withoutF pl s).1 dy; obtain ⟨hsl1, hsl2, hsl3⟩ := hsl; have hsc := crt_len (withoutF pl s).1 dy; have hok_ := plotB_small (without_ok (dayI_ok h2).1 h4); have hok1 := hok_.s1; have hok2 := hok_.s2; have hok3 := hok_.s3
      refine ol_c rfl (s_callScene hI (q := scnF (withoutF pl s).1 dy) (cs := crtF (withoutF pl s).1 dy) 86 [.agg #[iv ((withoutF pl s).1.lo), iv ((withoutF pl s).1.hi), slv g2 ((withoutF pl s).1.loads.length) c3, slv g6 ((withoutF pl s).1.stands.length) c7, slv g10 ((withoutF pl s).1.spells.length) c11, iv ((withoutF pl s).1.geese)], iv dy] (by kernel_rfl) (sceneOf_c _ (withoutF pl s).1 (g2.map fun b => ⟨b, 0, none⟩) ((withoutF pl s).1.loads.length) c3 (g6.map fun b => ⟨b, 0, none⟩) ((withoutF pl s).1.stands.length) c7 (g10.map fun b => ⟨b, 0, none⟩) ((withoutF pl s).1.spells.length) c11 ⟨(hI.rowCells 7 rfl r5), rfl, (hI.rowCells 8 rfl r9), rfl, (hI.rowCells 9 rfl r13), rfl, r5.big, r9.big, r13.big⟩ (plotB_small (without_ok (dayI_ok h2).1 h4)) dy (by omega)) ?_)
      intro g273 c274 cl275 g277 c278 cl279 g281 c282 cl283 g285 c286 cl287 w hI r276 r280 r284 r288
      refine ⟨_, hI, subk (fun _ h => h.pickL [10, 11, 12, 13, 14] (by decide) rfl) ?_⟩
      intro hsub
      refine any_heavy [8] (by kernel_rfl) rfl (each1 ?_)
      intro w hI
      refine ol_c rfl (s_store hI 8 7 [iv (scnF pl dy).lo, iv (scnF pl dy).hi, slv g257 (scnF pl dy).loads.length c258, slv g261 (scnF pl dy).stands.length c262, slv g265 (scnF pl dy).spells.length c266, iv (scnF pl dy).geese, slv g269 (crtF pl dy).length c270] Tryz.sizeOf116 rfl rfl rfl rfl rfl (Nat.le_of_ble_eq_true rfl) ?_)
      intro w hI
      refine ⟨_, hI, subk (fun _ h => h.pickL [10, 11, 12, 13, 14] (by decide) rfl) ?_⟩
      intro hsub
      refine any_heavy [9] (by kernel_rfl) rfl (each1 ?_)
      intro w hI
      refine ol_c rfl (s_store hI 9 7 [iv ((scnF (withoutF pl s).1 dy).lo), iv ((scnF (withoutF pl s).1 dy).hi), slv g273 ((scnF (withoutF pl s).1 dy).loads.length) c274, slv g277 ((scnF (withoutF pl s).1 dy).stands.length) c278, slv g281 ((scnF (withoutF pl s).1 dy).spells.length) c282, iv ((scnF (withoutF pl s).1 dy).geese), slv g285 ((crtF (withoutF pl s).1 dy).length) c286] Tryz.sizeOf116 rfl rfl rfl rfl rfl (Nat.le_of_ble_eq_true rfl) ?_)
      intro w hI
      refine ⟨_, hI, subk (fun _ h => h.pickL [10, 11, 12, 13, 14] (by decide) rfl) ?_⟩
      intro hsub
      refine any_end (by kernel_rfl) (fun w hI => ?_)
      exact ⟨rfl, b205, b256, g273, c274, cl275, g277, c278, cl279, g281, c282, cl283, g285, c286, cl287, g257, c258, cl259, g261, c262, cl263, g265, c266, cl267, g269, c270, cl271, ⟨rfl, rfl, rfl, trivial⟩, hI.pickL [9, 8, 0, 1, 2, 3, 4, 5, 6, 7, 10, 11, 12, 13, 14] (by decide) rfl, r276, r280, r284, r288, r260, r264, r268, r272⟩
   ·rintro ρ w ⟨b48, b47, g31, c32, cl33, g35, c36, cl37, g39, c40, cl41, g43, c44, cl45, g15, c16, cl17, g19, c20, cl21, g23, c24, cl25, g27, c28, cl29, hag, hI, r34, r38, r42, r46, r18, r22, r26, r30⟩
    obtain ⟨ρ, rfl⟩ := hag.form; clear hag
    have hwl := without_len pl s; have hw19 : (withoutF pl s).1.loads.length < 20 := Nat.lt_of_le_of_lt hwl hn19
    have hsl := scn_len pl dy; obtain ⟨hsl1, hsl2, hsl3⟩ := hsl; have hsc := crt_len pl dy; have hok_ := plotB_small (dayI_ok h2).1; have hok1 := hok_.s1; have hok2 := hok_.s2; have hok3 := hok_.s3
    have hsl := scn_len (withoutF pl s).1 dy; obtain ⟨hsl1, hsl2, hsl3⟩ := hsl; have hsc := crt_len (withoutF pl s).1 dy; have hok_ := plotB_small (without_ok (dayI_ok h2).1 h4); have hok1 := hok_.s1; have hok2 := hok_.s2; have hok3 := hok_.s3
    refine wp_seq (rgn (by kernel_rfl) (pu (.slice none 0 0) (by kernel_rfl) (seq_nil (wp_seq (wp_seq (rgn (by kernel_rfl) (pu (.pointer (some ⟨b1, 2, none⟩)) (by kernel_rfl) (seq_c (s_load1 hI 14 (.slice pA1 pn1 pc1) Tryz.isAgg24 rfl rfl rfl ?_)))))))))
    refine pu (iv ((pn1 : Nat) : Int)) (by kernel_rfl) (pu (iv 0) (by kernel_rfl) (seq_nil (wp_block ?_)))
    have hI := hI.nilRow 3
    refine wp_loop (fun m ρ w => ∃ (k : Nat) (nn : Nat) (gg : Option Nat) (cc : Nat) (ccl : List Value), Agree ρ [(11, .pointer (some ⟨b47, 0, none⟩)), (12, .pointer (some ⟨b48, 0, none⟩)), (13, slv gg nn cc), (42, .slice pA1 pn1 pc1), (43, iv (pn1 : Int)), (44, iv (k : Int))] ∧ Inv none w0 w [(gg, blk ccl 3), (some b48, blk [iv ((scnF (withoutF pl s).1 dy).lo), iv ((scnF (withoutF pl s).1 dy).hi), slv g31 ((scnF (withoutF pl s).1 dy).loads.length) c32, slv g35 ((scnF (withoutF pl s).1 dy).stands.length) c36, slv g39 ((scnF (withoutF pl s).1 dy).spells.length) c40, iv ((scnF (withoutF pl s).1 dy).geese), slv g43 ((crtF (withoutF pl s).1 dy).length) c44] 116), (some b47, blk [iv (scnF pl dy).lo, iv (scnF pl dy).hi, slv g15 (scnF pl dy).loads.length c16, slv g19 (scnF pl dy).stands.length c20, slv g23 (scnF pl dy).spells.length c24, iv (scnF pl dy).geese, slv g27 (crtF pl dy).length c28] 116), (g31, blk cl33 30), (g35, blk cl37 31), (g39, blk cl41 33), (g43, blk cl45 30), (g15, blk cl17 30), (g19, blk cl21 31), (g23, blk cl25 33), (g27, blk cl29 30), (some b14, blk [iv ((withoutF pl s).1.lo), iv ((withoutF pl s).1.hi), slv g2 ((withoutF pl s).1.loads.length) c3, slv g6 ((withoutF pl s).1.stands.length) c7, slv g10 ((withoutF pl s).1.spells.length) c11, iv ((withoutF pl s).1.geese)] 28), (g2, blk cl4 30), (g6, blk cl8 31), (g10, blk cl12 33), (some b1, blk [iv pl.lo, iv pl.hi, .slice pA1 pn1 pc1, .slice pA2 pn2 pc2, .slice pA3 pn3 pc3, iv pl.geese] 28)] ∧ (k ≤ pn1) ∧ (nn ≤ k) ∧ (Row 1 gg (nn) cc ccl (flat eInt (((pl.loads.take k).filter (movedB pl (withoutF pl s).1 dy)).map Ld.hr))) ∧ m = pn1 - k) (m := pn1 - 0) ⟨0, 0, none, 0, [], ⟨rfl, rfl, rfl, rfl, rfl, rfl, trivial⟩, hI.pickL [0, 1, 2, 3, 4, 5, 6, 7, 8, 9, 10, 11, 12, 13, 14, 15] (by decide) rfl, (by omega), (by omega), (Row.nil_ 1), rfl⟩ ?_
    rintro m ρ w ⟨k, nn, gg, cc, ccl, hag, hI, hk, hnn, hrr, hm⟩
    obtain ⟨ρ, rfl⟩ := hag.form; clear hag
    refine wp_seq (rgn (by kernel_rfl) (seq_c (s_lss rfl rfl ?_ ?_)))
    ·intro h5
     refine seq_nil (wp_seq (wp_condT rfl (wp_skip (wp_seq (wp_block ?_)))))
     refine wp_seq (rgn (by kernel_rfl) ?_)
     obtain ⟨x289, hx290⟩ := get_lt (l := pl.loads) (i := k) (by omega)
     obtain ⟨b291, o292, hA293, hb294, he295⟩ := hP.c1.at_ eLd_len (by decide) hx290
     refine seq_c (s_indexA k Tryz.underlying24 Tryz.sizeOf30 rfl hA293 rfl rfl (by omega) ?_)
     refine seq_c (s_loadBK hI [iv x289.src, iv x289.hr, iv x289.lo, iv x289.hi, iv x289.kn, iv x289.un] Tryz.isAgg30 Tryz.sizeOf30 rfl rfl hb294 (by simp) he295 ?_)
     refine seq_c (s_allocI hI [iv 0, iv 0, iv 0, iv 0, iv 0, iv 0] Tryz.zeroValue30 rfl ?_)
     intro b296 w hI
     refine seq_c (s_store hI 0 6 [iv x289.src, iv x289.hr, iv x289.lo, iv x289.hi, iv x289.kn, iv x289.un] Tryz.sizeOf30 rfl rfl rfl rfl rfl (Nat.le_of_ble_eq_true rfl) ?_)
     intro w hI
     refine seq_nil (wp_seq (rgn (by kernel_rfl) (seq_c (s_loadK hI 3 7 [iv (scnF pl dy).lo, iv (scnF pl dy).hi, slv g15 (scnF pl dy).loads.length c16, slv g19 (scnF pl dy).stands.length c20, slv g23 (scnF pl dy).spells.length c24, iv (scnF pl dy).geese, slv g27 (crtF pl dy).length c28] Tryz.isAgg116 Tryz.sizeOf116 rfl rfl rfl rfl ?_))))
     refine pu (.pointer (some ⟨b296, 1, none⟩)) (by kernel_rfl) (seq_c (s_load1 hI 0 (iv x289.hr) Tryz.isAgg3 rfl rfl rfl ?_))
     rcases Bool.eq_false_or_eq_true ((stoodAtF (scnF pl dy) (crtF pl dy) x289.hr).2) with h6 | h6
     ·
      refine seq_c (s_callv hI 98 [.agg #[iv (scnF pl dy).lo, iv (scnF pl dy).hi, slv g15 (scnF pl dy).loads.length c16, slv g19 (scnF pl dy).stands.length c20, slv g23 (scnF pl dy).spells.length c24, iv (scnF pl dy).geese, slv g27 (crtF pl dy).length c28], iv x289.hr] (.tuple #[.agg #[iv ((stoodAtF (scnF pl dy) (crtF pl dy) x289.hr).1.lo), iv ((stoodAtF (scnF pl dy) (crtF pl dy) x289.hr).1.hi)], .bool true]) (by kernel_rfl) (Does.mono (stoodAt_c _ (scnF pl dy) (g15.map fun b => ⟨b, 0, none⟩) (scnF pl dy).loads.length c16 (g19.map fun b => ⟨b, 0, none⟩) (scnF pl dy).stands.length c20 (g23.map fun b => ⟨b, 0, none⟩) (scnF pl dy).spells.length c24 (crtF pl dy) (g27.map fun b => ⟨b, 0, none⟩) (crtF pl dy).length c28 ⟨⟨(hI.rowCells 8 rfl r18), rfl, (hI.rowCells 9 rfl r22), rfl, (hI.rowCells 10 rfl r26), rfl, (by omega), (by omega), (by omega)⟩, (hI.rowCells 11 rfl r30), rfl, r30.cap, (by omega), (by omega), (by omega), (by omega)⟩ (scn_ok (dayI_ok h2).1 dy) x289.hr) (fun v w' h => ⟨h.1.trans (by first | (rw [h6]; done) | (rw [h6]; rfl)), h.2⟩)) ?_)
      intro w hI
      refine pu (.tuple #[.agg #[iv ((stoodAtF (scnF pl dy) (crtF pl dy) x289.hr).1.lo), iv ((stoodAtF (scnF pl dy) (crtF pl dy) x289.hr).1.hi)], .bool true]) (by kernel_rfl) (pu (.agg #[iv ((stoodAtF (scnF pl dy) (crtF pl dy) x289.hr).1.lo), iv ((stoodAtF (scnF pl dy) (crtF pl dy) x289.hr).1.hi)]) (by kernel_rfl) (pu (.bool true) (by kernel_rfl) (seq_c (s_allocI hI [iv 0, iv 0] Tryz.zeroValue23 rfl ?_))))
      intro b297 w hI
      refine seq_c (s_store hI 0 2 [iv ((stoodAtF (scnF pl dy) (crtF pl dy) x289.hr).1.lo), iv ((stoodAtF (scnF pl dy) (crtF pl dy) x289.hr).1.hi)] Tryz.sizeOf23 rfl rfl rfl rfl rfl (Nat.le_of_ble_eq_true rfl) ?_)
      intro w hI
      refine pu (.bool true) (by kernel_rfl) (seq_nil (wp_seq (rgn (by kernel_rfl) (seq_c (s_loadK hI 3 7 [iv ((scnF (withoutF pl s).1 dy).lo), iv ((scnF (withoutF pl s).1 dy).hi), slv g31 ((scnF (withoutF pl s).1 dy).loads.length) c32, slv g35 ((scnF (withoutF pl s).1 dy).stands.length) c36, slv g39 ((scnF (withoutF pl s).1 dy).spells.length) c40, iv ((scnF (withoutF pl s).1 dy).geese), slv g43 ((crtF (withoutF pl s).1 dy).length) c44] Tryz.isAgg116 Tryz.sizeOf116 rfl rfl rfl rfl ?_)))))
      refine pu (.pointer (some ⟨b296, 1, none⟩)) (by kernel_rfl) (seq_c (s_load1 hI 1 (iv x289.hr) Tryz.isAgg3 rfl rfl rfl ?_))
      rcases Bool.eq_false_or_eq_true ((stoodAtF (scnF (withoutF pl s).1 dy) (crtF (withoutF pl s).1 dy) x289.hr).2) with h7 | h7
      ·
       refine seq_c (s_callv hI 98 [.agg #[iv ((scnF (withoutF pl s).1 dy).lo), iv ((scnF (withoutF pl s).1 dy).hi), slv g31 ((scnF (withoutF pl s).1 dy).loads.length) c32, slv g35 ((scnF (withoutF pl s).1 dy).stands.length) c36, slv g39 ((scnF (withoutF pl s).1 dy).spells.length) c40, iv ((scnF (withoutF pl s).1 dy).geese), slv g43 ((crtF (withoutF pl s).1 dy).length) c44], iv x289.hr] (.tuple #[.agg #[iv ((stoodAtF (scnF (withoutF pl s).1 dy) (crtF (withoutF pl s).1 dy) x289.hr).1.lo), iv ((stoodAtF (scnF (withoutF pl s).1 dy) (crtF (withoutF pl s).1 dy) x289.hr).1.hi)], .bool true]) (by kernel_rfl) (Does.mono (stoodAt_c _ (scnF (withoutF pl s).1 dy) (g31.map fun b => ⟨b, 0, none⟩) ((scnF (withoutF pl s).1 dy).loads.length) c32 (g35.map fun b => ⟨b, 0, none⟩) ((scnF (withoutF pl s).1 dy).stands.length) c36 (g39.map fun b => ⟨b, 0, none⟩) ((scnF (withoutF pl s).1 dy).spells.length) c40 (crtF (withoutF pl s).1 dy) (g43.map fun b => ⟨b, 0, none⟩) ((crtF (withoutF pl s).1 dy).length) c44 ⟨⟨(hI.rowCells 5 rfl r34), rfl, (hI.rowCells 6 rfl r38), rfl, (hI.rowCells 7 rfl r42), rfl, (by omega), (by omega), (by omega)⟩, (hI.rowCells 8 rfl r46), rfl, r46.cap, (by omega), (by omega), (by omega), (by omega)⟩ (scn_ok (without_ok (dayI_ok h2).1 h4) dy) x289.hr) (fun v w' h => ⟨h.1.trans (by first | (rw [h7]; done) | (rw [h7]; rfl)), h.2⟩)) ?_)
       intro w hI
       refine pu (.tuple #[.agg #[iv ((stoodAtF (scnF (withoutF pl s).1 dy) (crtF (withoutF pl s).1 dy) x289.hr).1.lo), iv ((stoodAtF (scnF (withoutF pl s).1 dy) (crtF (withoutF pl s).1 dy) x289.hr).1.hi)], .bool true]) (by kernel_rfl) (pu (.agg #[iv ((stoodAtF (scnF (withoutF pl s).1 dy) (crtF (withoutF pl s).1 dy) x289.hr).1.lo), iv ((stoodAtF (scnF (withoutF pl s).1 dy) (crtF (withoutF pl s).1 dy) x289.hr).1.hi)]) (by kernel_rfl) (pu (.bool true) (by kernel_rfl) (seq_c (s_allocI hI [iv 0, iv 0] Tryz.zeroValue23 rfl ?_))))
       intro b298 w hI
       refine seq_c (s_store hI 0 2 [iv ((stoodAtF (scnF (withoutF pl s).1 dy) (crtF (withoutF pl s).1 dy) x289.hr).1.lo), iv ((stoodAtF (scnF (withoutF pl s).1 dy) (crtF (withoutF pl s).1 dy) x289.hr).1.hi)] Tryz.sizeOf23 rfl rfl rfl rfl rfl (Nat.le_of_ble_eq_true rfl) ?_)
       intro w hI
       refine pu (.bool true) (by kernel_rfl) (seq_nil (wp_seq (rgn (by kernel_rfl) (seq_c (s_loadK hI 1 2 [iv ((stoodAtF (scnF pl dy) (crtF pl dy) x289.hr).1.lo), iv ((stoodAtF (scnF pl dy) (crtF pl dy) x289.hr).1.hi)] Tryz.isAgg23 Tryz.sizeOf23 rfl rfl rfl rfl ?_)))))
       refine seq_c (s_loadK hI 0 2 [iv ((stoodAtF (scnF (withoutF pl s).1 dy) (crtF (withoutF pl s).1 dy) x289.hr).1.lo), iv ((stoodAtF (scnF (withoutF pl s).1 dy) (crtF (withoutF pl s).1 dy) x289.hr).1.hi)] Tryz.isAgg23 Tryz.sizeOf23 rfl rfl rfl rfl ?_)
       refine seq_c (s_neqA (b := decide ((stoodAtF (scnF pl dy) (crtF pl dy) x289.hr).1.lo = (stoodAtF (scnF (withoutF pl s).1 dy) (crtF (withoutF pl s).1 dy) x289.hr).1.lo) && decide ((stoodAtF (scnF pl dy) (crtF pl dy) x289.hr).1.hi = (stoodAtF (scnF (withoutF pl s).1 dy) (crtF (withoutF pl s).1 dy) x289.hr).1.hi)) rfl rfl (by kernel_rfl) (fun w => eq23 _ ((stoodAtF (scnF pl dy) (crtF pl dy) x289.hr).1.lo) ((stoodAtF (scnF pl dy) (crtF pl dy) x289.hr).1.hi) ((stoodAtF (scnF (withoutF pl s).1 dy) (crtF (withoutF pl s).1 dy) x289.hr).1.lo) ((stoodAtF (scnF (withoutF pl s).1 dy) (crtF (withoutF pl s).1 dy) x289.hr).1.hi) w) ?_ ?_)
       ·intro h8
        refine pu (.bool true) (by kernel_rfl) (of_ (by kernel_rfl) (of_ (by kernel_rfl) (of_ (by kernel_rfl) (pu (.bool true) (by kernel_rfl) (seq_nil (wp_condT rfl (rgn (by kernel_rfl) (pu (slv gg nn cc) (by kernel_rfl) (pu (.pointer (some ⟨b296, 1, none⟩)) (by kernel_rfl) ?_)))))))))
        refine seq_c (s_load1 hI 2 (iv x289.hr) Tryz.isAgg3 rfl rfl rfl ?_)
        refine seq_c (s_new hI [iv x289.hr] 3 (fun b => slv (some b) 1 1) (by kernel_rfl) ?_)
        intro b299 w hI
        refine seq_c (s_app hI Tryz.underlying41 (z := iv 0) (k := 1) (bytes := 8) (by kernel_rfl) rfl rfl 4 rfl rfl hrr [iv x289.hr] rfl rfl (hI.cells 0 (off := 0) rfl (fun j u h => by rw [Nat.zero_add]; exact h)) (by simp [Value.oneCell']) (by omega) (by omega) ?_)
        intro g300 c301 cl302 w hI r303
        have r303 : Row 1 g300 (nn + 1) c301 cl302 (flat eInt ((((pl.loads.take k).filter (movedB pl (withoutF pl s).1 dy)).map Ld.hr) ++ [x289.hr])) := r303.snoc _ rfl
        refine pu (slv g300 (nn + 1) c301) (by kernel_rfl) (seq_nil (rgn (by kernel_rfl) (seq_c (s_add rfl rfl (by omega) ?_))))
        refine pu (iv ((k : Int) + 1)) (by kernel_rfl) (seq_nil ?_)
        exact ⟨rfl, _, (by omega), ⟨k + 1, nn + 1, g300, c301, cl302, ⟨rfl, rfl, rfl, rfl, rfl, rfl, trivial⟩, hI.pickL [4, 5, 6, 7, 8, 9, 10, 11, 12, 13, 14, 15, 16, 17, 18, 19] (by decide) rfl, (by omega), (by omega), (r303.to (by rw [moved_step hx290]; simp [movedB, *]) rfl), rfl⟩⟩
       ·intro h9
        refine pu (.bool false) (by kernel_rfl) (puo (.bool true) ⟨(by kernel_rfl), (by kernel_rfl)⟩ (puo (.bool true) ⟨(by kernel_rfl), (by kernel_rfl)⟩ (puo (.bool false) ⟨(by kernel_rfl), (by kernel_rfl)⟩ (pu (.bool false) (by kernel_rfl) (seq_nil (wp_condF rfl (wp_skip (rgn (by kernel_rfl) (seq_c (s_add rfl rfl (by omega) ?_))))))))))
        refine pu (iv ((k : Int) + 1)) (by kernel_rfl) (seq_nil ?_)
        exact ⟨rfl, _, (by omega), ⟨k + 1, nn, gg, cc, ccl, ⟨rfl, rfl, rfl, rfl, rfl, rfl, trivial⟩, hI.pickL [3, 4, 5, 6, 7, 8, 9, 10, 11, 12, 13, 14, 15, 16, 17, 18] (by decide) rfl, (by omega), (by omega), (hrr.to (by rw [moved_step hx290]; simp [movedB, *]) rfl), rfl⟩⟩
      ·
       refine seq_c (s_callv hI 98 [.agg #[iv ((scnF (withoutF pl s).1 dy).lo), iv ((scnF (withoutF pl s).1 dy).hi), slv g31 ((scnF (withoutF pl s).1 dy).loads.length) c32, slv g35 ((scnF (withoutF pl s).1 dy).stands.length) c36, slv g39 ((scnF (withoutF pl s).1 dy).spells.length) c40, iv ((scnF (withoutF pl s).1 dy).geese), slv g43 ((crtF (withoutF pl s).1 dy).length) c44], iv x289.hr] (.tuple #[.agg #[iv ((stoodAtF (scnF (withoutF pl s).1 dy) (crtF (withoutF pl s).1 dy) x289.hr).1.lo), iv ((stoodAtF (scnF (withoutF pl s).1 dy) (crtF (withoutF pl s).1 dy) x289.hr).1.hi)], .bool false]) (by kernel_rfl) (Does.mono (stoodAt_c _ (scnF (withoutF pl s).1 dy) (g31.map fun b => ⟨b, 0, none⟩) ((scnF (withoutF pl s).1 dy).loads.length) c32 (g35.map fun b => ⟨b, 0, none⟩) ((scnF (withoutF pl s).1 dy).stands.length) c36 (g39.map fun b => ⟨b, 0, none⟩) ((scnF (withoutF pl s).1 dy).spells.length) c40 (crtF (withoutF pl s).1 dy) (g43.map fun b => ⟨b, 0, none⟩) ((crtF (withoutF pl s).1 dy).length) c44 ⟨⟨(hI.rowCells 5 rfl r34), rfl, (hI.rowCells 6 rfl r38), rfl, (hI.rowCells 7 rfl r42), rfl, (by omega), (by omega), (by omega)⟩, (hI.rowCells 8 rfl r46), rfl, r46.cap, (by omega), (by omega), (by omega), (by omega)⟩ (scn_ok (without_ok (dayI_ok h2).1 h4) dy) x289.hr) (fun v w' h => ⟨h.1.trans (by first | (rw [h7]; done) | (rw [h7]; rfl)), h.2⟩)) ?_)
       intro w hI
       refine pu (.tuple #[.agg #[iv ((stoodAtF (scnF (withoutF pl s).1 dy) (crtF (withoutF pl s).1 dy) x289.hr).1.lo), iv ((stoodAtF (scnF (withoutF pl s).1 dy) (crtF (withoutF pl s).1 dy) x289.hr).1.hi)], .bool false]) (by kernel_rfl) (pu (.agg #[iv ((stoodAtF (scnF (withoutF pl s).1 dy) (crtF (withoutF pl s).1 dy) x289.hr).1.lo), iv ((stoodAtF (scnF (withoutF pl s).1 dy) (crtF (withoutF pl s).1 dy) x289.hr).1.hi)]) (by kernel_rfl) (pu (.bool false) (by kernel_rfl) (seq_c (s_allocI hI [iv 0, iv 0] Tryz.zeroValue23 rfl ?_))))
       intro b304 w hI
       refine seq_c (s_store hI 0 2 [iv ((stoodAtF (scnF (withoutF pl s).1 dy) (crtF (withoutF pl s).1 dy) x289.hr).1.lo), iv ((stoodAtF (scnF (withoutF pl s).1 dy) (crtF (withoutF pl s).1 dy) x289.hr).1.hi)] Tryz.sizeOf23 rfl rfl rfl rfl rfl (Nat.le_of_ble_eq_true rfl) ?_)
       intro w hI
       refine pu (.bool false) (by kernel_rfl) (seq_nil (wp_seq (rgn (by kernel_rfl) (seq_c (s_loadK hI 1 2 [iv ((stoodAtF (scnF pl dy) (crtF pl dy) x289.hr).1.lo), iv ((stoodAtF (scnF pl dy) (crtF pl dy) x289.hr).1.hi)] Tryz.isAgg23 Tryz.sizeOf23 rfl rfl rfl rfl ?_)))))
       refine seq_c (s_loadK hI 0 2 [iv ((stoodAtF (scnF (withoutF pl s).1 dy) (crtF (withoutF pl s).1 dy) x289.hr).1.lo), iv ((stoodAtF (scnF (withoutF pl s).1 dy) (crtF (withoutF pl s).1 dy) x289.hr).1.hi)] Tryz.isAgg23 Tryz.sizeOf23 rfl rfl rfl rfl ?_)
       refine seq_c (s_neqA (b := decide ((stoodAtF (scnF pl dy) (crtF pl dy) x289.hr).1.lo = (stoodAtF (scnF (withoutF pl s).1 dy) (crtF (withoutF pl s).1 dy) x289.hr).1.lo) && decide ((stoodAtF (scnF pl dy) (crtF pl dy) x289.hr).1.hi = (stoodAtF (scnF (withoutF pl s).1 dy) (crtF (withoutF pl s).1 dy) x289.hr).1.hi)) rfl rfl (by kernel_rfl) (fun w => eq23 _ ((stoodAtF (scnF pl dy) (crtF pl dy) x289.hr).1.lo) ((stoodAtF (scnF pl dy) (crtF pl dy) x289.hr).1.hi) ((stoodAtF (scnF (withoutF pl s).1 dy) (crtF (withoutF pl s).1 dy) x289.hr).1.lo) ((stoodAtF (scnF (withoutF pl s).1 dy) (crtF (withoutF pl s).1 dy) x289.hr).1.hi) w) ?_ ?_)
       ·intro h10
        refine pu (.bool true) (by kernel_rfl) (of_ (by kernel_rfl) (of_ (by kernel_rfl) (of_ (by kernel_rfl) (pu (.bool true) (by kernel_rfl) (seq_nil (wp_condT rfl (rgn (by kernel_rfl) (pu (slv gg nn cc) (by kernel_rfl) (pu (.pointer (some ⟨b296, 1, none⟩)) (by kernel_rfl) ?_)))))))))
        refine seq_c (s_load1 hI 2 (iv x289.hr) Tryz.isAgg3 rfl rfl rfl ?_)
        refine seq_c (s_new hI [iv x289.hr] 3 (fun b => slv (some b) 1 1) (by kernel_rfl) ?_)
        intro b305 w hI
        refine seq_c (s_app hI Tryz.underlying41 (z := iv 0) (k := 1) (bytes := 8) (by kernel_rfl) rfl rfl 4 rfl rfl hrr [iv x289.hr] rfl rfl (hI.cells 0 (off := 0) rfl (fun j u h => by rw [Nat.zero_add]; exact h)) (by simp [Value.oneCell']) (by omega) (by omega) ?_)
        intro g306 c307 cl308 w hI r309
        have r309 : Row 1 g306 (nn + 1) c307 cl308 (flat eInt ((((pl.loads.take k).filter (movedB pl (withoutF pl s).1 dy)).map Ld.hr) ++ [x289.hr])) := r309.snoc _ rfl
        refine pu (slv g306 (nn + 1) c307) (by kernel_rfl) (seq_nil (rgn (by kernel_rfl) (seq_c (s_add rfl rfl (by omega) ?_))))
        refine pu (iv ((k : Int) + 1)) (by kernel_rfl) (seq_nil ?_)
        exact ⟨rfl, _, (by omega), ⟨k + 1, nn + 1, g306, c307, cl308, ⟨rfl, rfl, rfl, rfl, rfl, rfl, trivial⟩, hI.pickL [4, 5, 6, 7, 8, 9, 10, 11, 12, 13, 14, 15, 16, 17, 18, 19] (by decide) rfl, (by omega), (by omega), (r309.to (by rw [moved_step hx290]; simp [movedB, *]) rfl), rfl⟩⟩
       ·intro h11
        refine pu (.bool false) (by kernel_rfl) (puo (.bool true) ⟨(by kernel_rfl), (by kernel_rfl)⟩ (puo (.bool false) ⟨(by kernel_rfl), (by kernel_rfl)⟩ (puo (.bool true) ⟨(by kernel_rfl), (by kernel_rfl)⟩ (pu (.bool true) (by kernel_rfl) (seq_nil (wp_condT rfl (rgn (by kernel_rfl) (pu (slv gg nn cc) (by kernel_rfl) (pu (.pointer (some ⟨b296, 1, none⟩)) (by kernel_rfl) ?_)))))))))
        refine seq_c (s_load1 hI 2 (iv x289.hr) Tryz.isAgg3 rfl rfl rfl ?_)
        refine seq_c (s_new hI [iv x289.hr] 3 (fun b => slv (some b) 1 1) (by kernel_rfl) ?_)
        intro b310 w hI
        refine seq_c (s_app hI Tryz.underlying41 (z := iv 0) (k := 1) (bytes := 8) (by kernel_rfl) rfl rfl 4 rfl rfl hrr [iv x289.hr] rfl rfl (hI.cells 0 (off := 0) rfl (fun j u h => by rw [Nat.zero_add]; exact h)) (by simp [Value.oneCell']) (by omega) (by omega) ?_)
        intro g311 c312 cl313 w hI r314
        have r314 : Row 1 g311 (nn + 1) c312 cl313 (flat eInt ((((pl.loads.take k).filter (movedB pl (withoutF pl s).1 dy)).map Ld.hr) ++ [x289.hr])) := r314.snoc _ rfl
        refine pu (slv g311 (nn + 1) c312) (by kernel_rfl) (seq_nil (rgn (by kernel_rfl) (seq_c (s_add rfl rfl (by omega) ?_))))
        refine pu (iv ((k : Int) + 1)) (by kernel_rfl) (seq_nil ?_)
        exact ⟨rfl, _, (by omega), ⟨k + 1, nn + 1, g311, c312, cl313, ⟨rfl, rfl, rfl, rfl, rfl, rfl, trivial⟩, hI.pickL [4, 5, 6, 7, 8, 9, 10, 11, 12, 13, 14, 15, 16, 17, 18, 19] (by decide) rfl, (by omega), (by omega), (r314.to (by rw [moved_step hx290]; simp [movedB, *]) rfl), rfl⟩⟩
     ·
      refine seq_c (s_callv hI 98 [.agg #[iv (scnF pl dy).lo, iv (scnF pl dy).hi, slv g15 (scnF pl dy).loads.length c16, slv g19 (scnF pl dy).stands.length c20, slv g23 (scnF pl dy).spells.length c24, iv (scnF pl dy).geese, slv g27 (crtF pl dy).length c28], iv x289.hr] (.tuple #[.agg #[iv ((stoodAtF (scnF pl dy) (crtF pl dy) x289.hr).1.lo), iv ((stoodAtF (scnF pl dy) (crtF pl dy) x289.hr).1.hi)], .bool false]) (by kernel_rfl) (Does.mono (stoodAt_c _ (scnF pl dy) (g15.map fun b => ⟨b, 0, none⟩) (scnF pl dy).loads.length c16 (g19.map fun b => ⟨b, 0, none⟩) (scnF pl dy).stands.length c20 (g23.map fun b => ⟨b, 0, none⟩) (scnF pl dy).spells.length c24 (crtF pl dy) (g27.map fun b => ⟨b, 0, none⟩) (crtF pl dy).length c28 ⟨⟨(hI.rowCells 8 rfl r18), rfl, (hI.rowCells 9 rfl r22), rfl, (hI.rowCells 10 rfl r26), rfl, (by omega), (by omega), (by omega)⟩, (hI.rowCells 11 rfl r30), rfl, r30.cap, (by omega), (by omega), (by omega), (by omega)⟩ (scn_ok (dayI_ok h2).1 dy) x289.hr) (fun v w' h => ⟨h.1.trans (by first | (rw [h6]; done) | (rw [h6]; rfl)), h.2⟩)) ?_)
      intro w hI
      refine pu (.tuple #[.agg #[iv ((stoodAtF (scnF pl dy) (crtF pl dy) x289.hr).1.lo), iv ((stoodAtF (scnF pl dy) (crtF pl dy) x289.hr).1.hi)], .bool false]) (by kernel_rfl) (pu (.agg #[iv ((stoodAtF (scnF pl dy) (crtF pl dy) x289.hr).1.lo), iv ((stoodAtF (scnF pl dy) (crtF pl dy) x289.hr).1.hi)]) (by kernel_rfl) (pu (.bool false) (by kernel_rfl) (seq_c (s_allocI hI [iv 0, iv 0] Tryz.zeroValue23 rfl ?_))))
      intro b315 w hI
      refine seq_c (s_store hI 0 2 [iv ((stoodAtF (scnF pl dy) (crtF pl dy) x289.hr).1.lo), iv ((stoodAtF (scnF pl dy) (crtF pl dy) x289.hr).1.hi)] Tryz.sizeOf23 rfl rfl rfl rfl rfl (Nat.le_of_ble_eq_true rfl) ?_)
      intro w hI
      refine pu (.bool false) (by kernel_rfl) (seq_nil (wp_seq (rgn (by kernel_rfl) (seq_c (s_loadK hI 3 7 [iv ((scnF (withoutF pl s).1 dy).lo), iv ((scnF (withoutF pl s).1 dy).hi), slv g31 ((scnF (withoutF pl s).1 dy).loads.length) c32, slv g35 ((scnF (withoutF pl s).1 dy).stands.length) c36, slv g39 ((scnF (withoutF pl s).1 dy).spells.length) c40, iv ((scnF (withoutF pl s).1 dy).geese), slv g43 ((crtF (withoutF pl s).1 dy).length) c44] Tryz.isAgg116 Tryz.sizeOf116 rfl rfl rfl rfl ?_)))))
      refine pu (.pointer (some ⟨b296, 1, none⟩)) (by kernel_rfl) (seq_c (s_load1 hI 1 (iv x289.hr) Tryz.isAgg3 rfl rfl rfl ?_))
      rcases Bool.eq_false_or_eq_true ((stoodAtF (scnF (withoutF pl s).1 dy) (crtF (withoutF pl s).1 dy) x289.hr).2) with h12 | h12
      ·
       refine seq_c (s_callv hI 98 [.agg #[iv ((scnF (withoutF pl s).1 dy).lo), iv ((scnF (withoutF pl s).1 dy).hi), slv g31 ((scnF (withoutF pl s).1 dy).loads.length) c32, slv g35 ((scnF (withoutF pl s).1 dy).stands.length) c36, slv g39 ((scnF (withoutF pl s).1 dy).spells.length) c40, iv ((scnF (withoutF pl s).1 dy).geese), slv g43 ((crtF (withoutF pl s).1 dy).length) c44], iv x289.hr] (.tuple #[.agg #[iv ((stoodAtF (scnF (withoutF pl s).1 dy) (crtF (withoutF pl s).1 dy) x289.hr).1.lo), iv ((stoodAtF (scnF (withoutF pl s).1 dy) (crtF (withoutF pl s).1 dy) x289.hr).1.hi)], .bool true]) (by kernel_rfl) (Does.mono (stoodAt_c _ (scnF (withoutF pl s).1 dy) (g31.map fun b => ⟨b, 0, none⟩) ((scnF (withoutF pl s).1 dy).loads.length) c32 (g35.map fun b => ⟨b, 0, none⟩) ((scnF (withoutF pl s).1 dy).stands.length) c36 (g39.map fun b => ⟨b, 0, none⟩) ((scnF (withoutF pl s).1 dy).spells.length) c40 (crtF (withoutF pl s).1 dy) (g43.map fun b => ⟨b, 0, none⟩) ((crtF (withoutF pl s).1 dy).length) c44 ⟨⟨(hI.rowCells 5 rfl r34), rfl, (hI.rowCells 6 rfl r38), rfl, (hI.rowCells 7 rfl r42), rfl, (by omega), (by omega), (by omega)⟩, (hI.rowCells 8 rfl r46), rfl, r46.cap, (by omega), (by omega), (by omega), (by omega)⟩ (scn_ok (without_ok (dayI_ok h2).1 h4) dy) x289.hr) (fun v w' h => ⟨h.1.trans (by first | (rw [h12]; done) | (rw [h12]; rfl)), h.2⟩)) ?_)
       intro w hI
       refine pu (.tuple #[.agg #[iv ((stoodAtF (scnF (withoutF pl s).1 dy) (crtF (withoutF pl s).1 dy) x289.hr).1.lo), iv ((stoodAtF (scnF (withoutF pl s).1 dy) (crtF (withoutF pl s).1 dy) x289.hr).1.hi)], .bool true]) (by kernel_rfl) (pu (.agg #[iv ((stoodAtF (scnF (withoutF pl s).1 dy) (crtF (withoutF pl s).1 dy) x289.hr).1.lo), iv ((stoodAtF (scnF (withoutF pl s).1 dy) (crtF (withoutF pl s).1 dy) x289.hr).1.hi)]) (by kernel_rfl) (pu (.bool true) (by kernel_rfl) (seq_c (s_allocI hI [iv 0, iv 0] Tryz.zeroValue23 rfl ?_))))
       intro b316 w hI
       refine seq_c (s_store hI 0 2 [iv ((stoodAtF (scnF (withoutF pl s).1 dy) (crtF (withoutF pl s).1 dy) x289.hr).1.lo), iv ((stoodAtF (scnF (withoutF pl s).1 dy) (crtF (withoutF pl s).1 dy) x289.hr).1.hi)] Tryz.sizeOf23 rfl rfl rfl rfl rfl (Nat.le_of_ble_eq_true rfl) ?_)
       intro w hI
       refine pu (.bool true) (by kernel_rfl) (seq_nil (wp_seq (rgn (by kernel_rfl) (seq_c (s_loadK hI 1 2 [iv ((stoodAtF (scnF pl dy) (crtF pl dy) x289.hr).1.lo), iv ((stoodAtF (scnF pl dy) (crtF pl dy) x289.hr).1.hi)] Tryz.isAgg23 Tryz.sizeOf23 rfl rfl rfl rfl ?_)))))
       refine seq_c (s_loadK hI 0 2 [iv ((stoodAtF (scnF (withoutF pl s).1 dy) (crtF (withoutF pl s).1 dy) x289.hr).1.lo), iv ((stoodAtF (scnF (withoutF pl s).1 dy) (crtF (withoutF pl s).1 dy) x289.hr).1.hi)] Tryz.isAgg23 Tryz.sizeOf23 rfl rfl rfl rfl ?_)
       refine seq_c (s_neqA (b := decide ((stoodAtF (scnF pl dy) (crtF pl dy) x289.hr).1.lo = (stoodAtF (scnF (withoutF pl s).1 dy) (crtF (withoutF pl s).1 dy) x289.hr).1.lo) && decide ((stoodAtF (scnF pl dy) (crtF pl dy) x289.hr).1.hi = (stoodAtF (scnF (withoutF pl s).1 dy) (crtF (withoutF pl s).1 dy) x289.hr).1.hi)) rfl rfl (by kernel_rfl) (fun w => eq23 _ ((stoodAtF (scnF pl dy) (crtF pl dy) x289.hr).1.lo) ((stoodAtF (scnF pl dy) (crtF pl dy) x289.hr).1.hi) ((stoodAtF (scnF (withoutF pl s).1 dy) (crtF (withoutF pl s).1 dy) x289.hr).1.lo) ((stoodAtF (scnF (withoutF pl s).1 dy) (crtF (withoutF pl s).1 dy) x289.hr).1.hi) w) ?_ ?_)
       ·intro h13
        refine pu (.bool true) (by kernel_rfl) (of_ (by kernel_rfl) (of_ (by kernel_rfl) (of_ (by kernel_rfl) (pu (.bool true) (by kernel_rfl) (seq_nil (wp_condT rfl (rgn (by kernel_rfl) (pu (slv gg nn cc) (by kernel_rfl) (pu (.pointer (some ⟨b296, 1, none⟩)) (by kernel_rfl) ?_)))))))))
        refine seq_c (s_load1 hI 2 (iv x289.hr) Tryz.isAgg3 rfl rfl rfl ?_)
        refine seq_c (s_new hI [iv x289.hr] 3 (fun b => slv (some b) 1 1) (by kernel_rfl) ?_)
        intro b317 w hI
        refine seq_c (s_app hI Tryz.underlying41 (z := iv 0) (k := 1) (bytes := 8) (by kernel_rfl) rfl rfl 4 rfl rfl hrr [iv x289.hr] rfl rfl (hI.cells 0 (off := 0) rfl (fun j u h => by rw [Nat.zero_add]; exact h)) (by simp [Value.oneCell']) (by omega) (by omega) ?_)
        intro g318 c319 cl320 w hI r321
        have r321 : Row 1 g318 (nn + 1) c319 cl320 (flat eInt ((((pl.loads.take k).filter (movedB pl (withoutF pl s).1 dy)).map Ld.hr) ++ [x289.hr])) := r321.snoc _ rfl
        refine pu (slv g318 (nn + 1) c319) (by kernel_rfl) (seq_nil (rgn (by kernel_rfl) (seq_c (s_add rfl rfl (by omega) ?_))))
        refine pu (iv ((k : Int) + 1)) (by kernel_rfl) (seq_nil ?_)
        exact ⟨rfl, _, (by omega), ⟨k + 1, nn + 1, g318, c319, cl320, ⟨rfl, rfl, rfl, rfl, rfl, rfl, trivial⟩, hI.pickL [4, 5, 6, 7, 8, 9, 10, 11, 12, 13, 14, 15, 16, 17, 18, 19] (by decide) rfl, (by omega), (by omega), (r321.to (by rw [moved_step hx290]; simp [movedB, *]) rfl), rfl⟩⟩
       ·intro h14
        refine pu (.bool false) (by kernel_rfl) (puo (.bool false) ⟨(by kernel_rfl), (by kernel_rfl)⟩ (puo (.bool true) ⟨(by kernel_rfl), (by kernel_rfl)⟩ (puo (.bool true) ⟨(by kernel_rfl), (by kernel_rfl)⟩ (pu (.bool true) (by kernel_rfl) (seq_nil (wp_condT rfl (rgn (by kernel_rfl) (pu (slv gg nn cc) (by kernel_rfl) (pu (.pointer (some ⟨b296, 1, none⟩)) (by kernel_rfl) ?_)))))))))
        refine seq_c (s_load1 hI 2 (iv x289.hr) Tryz.isAgg3 rfl rfl rfl ?_)
        refine seq_c (s_new hI [iv x289.hr] 3 (fun b => slv (some b) 1 1) (by kernel_rfl) ?_)
        intro b322 w hI
        refine seq_c (s_app hI Tryz.underlying41 (z := iv 0) (k := 1) (bytes := 8) (by kernel_rfl) rfl rfl 4 rfl rfl hrr [iv x289.hr] rfl rfl (hI.cells 0 (off := 0) rfl (fun j u h => by rw [Nat.zero_add]; exact h)) (by simp [Value.oneCell']) (by omega) (by omega) ?_)
        intro g323 c324 cl325 w hI r326
        have r326 : Row 1 g323 (nn + 1) c324 cl325 (flat eInt ((((pl.loads.take k).filter (movedB pl (withoutF pl s).1 dy)).map Ld.hr) ++ [x289.hr])) := r326.snoc _ rfl
        refine pu (slv g323 (nn + 1) c324) (by kernel_rfl) (seq_nil (rgn (by kernel_rfl) (seq_c (s_add rfl rfl (by omega) ?_))))
        refine pu (iv ((k : Int) + 1)) (by kernel_rfl) (seq_nil ?_)
        exact ⟨rfl, _, (by omega), ⟨k + 1, nn + 1, g323, c324, cl325, ⟨rfl, rfl, rfl, rfl, rfl, rfl, trivial⟩, hI.pickL [4, 5, 6, 7, 8, 9, 10, 11, 12, 13, 14, 15, 16, 17, 18, 19] (by decide) rfl, (by omega), (by omega), (r326.to (by rw [moved_step hx290]; simp [movedB, *]) rfl), rfl⟩⟩
      ·
       refine seq_c (s_callv hI 98 [.agg #[iv ((scnF (withoutF pl s).1 dy).lo), iv ((scnF (withoutF pl s).1 dy).hi), slv g31 ((scnF (withoutF pl s).1 dy).loads.length) c32, slv g35 ((scnF (withoutF pl s).1 dy).stands.length) c36, slv g39 ((scnF (withoutF pl s).1 dy).spells.length) c40, iv ((scnF (withoutF pl s).1 dy).geese), slv g43 ((crtF (withoutF pl s).1 dy).length) c44], iv x289.hr] (.tuple #[.agg #[iv ((stoodAtF (scnF (withoutF pl s).1 dy) (crtF (withoutF pl s).1 dy) x289.hr).1.lo), iv ((stoodAtF (scnF (withoutF pl s).1 dy) (crtF (withoutF pl s).1 dy) x289.hr).1.hi)], .bool false]) (by kernel_rfl) (Does.mono (stoodAt_c _ (scnF (withoutF pl s).1 dy) (g31.map fun b => ⟨b, 0, none⟩) ((scnF (withoutF pl s).1 dy).loads.length) c32 (g35.map fun b => ⟨b, 0, none⟩) ((scnF (withoutF pl s).1 dy).stands.length) c36 (g39.map fun b => ⟨b, 0, none⟩) ((scnF (withoutF pl s).1 dy).spells.length) c40 (crtF (withoutF pl s).1 dy) (g43.map fun b => ⟨b, 0, none⟩) ((crtF (withoutF pl s).1 dy).length) c44 ⟨⟨(hI.rowCells 5 rfl r34), rfl, (hI.rowCells 6 rfl r38), rfl, (hI.rowCells 7 rfl r42), rfl, (by omega), (by omega), (by omega)⟩, (hI.rowCells 8 rfl r46), rfl, r46.cap, (by omega), (by omega), (by omega), (by omega)⟩ (scn_ok (without_ok (dayI_ok h2).1 h4) dy) x289.hr) (fun v w' h => ⟨h.1.trans (by first | (rw [h12]; done) | (rw [h12]; rfl)), h.2⟩)) ?_)
       intro w hI
       refine pu (.tuple #[.agg #[iv ((stoodAtF (scnF (withoutF pl s).1 dy) (crtF (withoutF pl s).1 dy) x289.hr).1.lo), iv ((stoodAtF (scnF (withoutF pl s).1 dy) (crtF (withoutF pl s).1 dy) x289.hr).1.hi)], .bool false]) (by kernel_rfl) (pu (.agg #[iv ((stoodAtF (scnF (withoutF pl s).1 dy) (crtF (withoutF pl s).1 dy) x289.hr).1.lo), iv ((stoodAtF (scnF (withoutF pl s).1 dy) (crtF (withoutF pl s).1 dy) x289.hr).1.hi)]) (by kernel_rfl) (pu (.bool false) (by kernel_rfl) (seq_c (s_allocI hI [iv 0, iv 0] Tryz.zeroValue23 rfl ?_))))
       intro b327 w hI
       refine seq_c (s_store hI 0 2 [iv ((stoodAtF (scnF (withoutF pl s).1 dy) (crtF (withoutF pl s).1 dy) x289.hr).1.lo), iv ((stoodAtF (scnF (withoutF pl s).1 dy) (crtF (withoutF pl s).1 dy) x289.hr).1.hi)] Tryz.sizeOf23 rfl rfl rfl rfl rfl (Nat.le_of_ble_eq_true rfl) ?_)
       intro w hI
       refine pu (.bool false) (by kernel_rfl) (seq_nil (wp_seq (rgn (by kernel_rfl) (seq_c (s_loadK hI 1 2 [iv ((stoodAtF (scnF pl dy) (crtF pl dy) x289.hr).1.lo), iv ((stoodAtF (scnF pl dy) (crtF pl dy) x289.hr).1.hi)] Tryz.isAgg23 Tryz.sizeOf23 rfl rfl rfl rfl ?_)))))
       refine seq_c (s_loadK hI 0 2 [iv ((stoodAtF (scnF (withoutF pl s).1 dy) (crtF (withoutF pl s).1 dy) x289.hr).1.lo), iv ((stoodAtF (scnF (withoutF pl s).1 dy) (crtF (withoutF pl s).1 dy) x289.hr).1.hi)] Tryz.isAgg23 Tryz.sizeOf23 rfl rfl rfl rfl ?_)
       refine seq_c (s_neqA (b := decide ((stoodAtF (scnF pl dy) (crtF pl dy) x289.hr).1.lo = (stoodAtF (scnF (withoutF pl s).1 dy) (crtF (withoutF pl s).1 dy) x289.hr).1.lo) && decide ((stoodAtF (scnF pl dy) (crtF pl dy) x289.hr).1.hi = (stoodAtF (scnF (withoutF pl s).1 dy) (crtF (withoutF pl s).1 dy) x289.hr).1.hi)) rfl rfl (by kernel_rfl) (fun w => eq23 _ ((stoodAtF (scnF pl dy) (crtF pl dy) x289.hr).1.lo) ((stoodAtF (scnF pl dy) (crtF pl dy) x289.hr).1.hi) ((stoodAtF (scnF (withoutF pl s).1 dy) (crtF (withoutF pl s).1 dy) x289.hr).1.lo) ((stoodAtF (scnF (withoutF pl s).1 dy) (crtF (withoutF pl s).1 dy) x289.hr).1.hi) w) ?_ ?_)
       ·intro h15
        refine pu (.bool true) (by kernel_rfl) (of_ (by kernel_rfl) (of_ (by kernel_rfl) (of_ (by kernel_rfl) (pu (.bool true) (by kernel_rfl) (seq_nil (wp_condT rfl (rgn (by kernel_rfl) (pu (slv gg nn cc) (by kernel_rfl) (pu (.pointer (some ⟨b296, 1, none⟩)) (by kernel_rfl) ?_)))))))))
        refine seq_c (s_load1 hI 2 (iv x289.hr) Tryz.isAgg3 rfl rfl rfl ?_)
        refine seq_c (s_new hI [iv x289.hr] 3 (fun b => slv (some b) 1 1) (by kernel_rfl) ?_)
        intro b328 w hI
        refine seq_c (s_app hI Tryz.underlying41 (z := iv 0) (k := 1) (bytes := 8) (by kernel_rfl) rfl rfl 4 rfl rfl hrr [iv x289.hr] rfl rfl (hI.cells 0 (off := 0) rfl (fun j u h => by rw [Nat.zero_add]; exact h)) (by simp [Value.oneCell']) (by omega) (by omega) ?_)
        intro g329 c330 cl331 w hI r332
        have r332 : Row 1 g329 (nn + 1) c330 cl331 (flat eInt ((((pl.loads.take k).filter (movedB pl (withoutF pl s).1 dy)).map Ld.hr) ++ [x289.hr])) := r332.snoc _ rfl
        refine pu (slv g329 (nn + 1) c330) (by kernel_rfl) (seq_nil (rgn (by kernel_rfl) (seq_c (s_add rfl rfl (by omega) ?_))))
        refine pu (iv ((k : Int) + 1)) (by kernel_rfl) (seq_nil ?_)
        exact ⟨rfl, _, (by omega), ⟨k + 1, nn + 1, g329, c330, cl331, ⟨rfl, rfl, rfl, rfl, rfl, rfl, trivial⟩, hI.pickL [4, 5, 6, 7, 8, 9, 10, 11, 12, 13, 14, 15, 16, 17, 18, 19] (by decide) rfl, (by omega), (by omega), (r332.to (by rw [moved_step hx290]; simp [movedB, *]) rfl), rfl⟩⟩
       ·intro h16
        refine pu (.bool false) (by kernel_rfl) (puo (.bool false) ⟨(by kernel_rfl), (by kernel_rfl)⟩ (puo (.bool false) ⟨(by kernel_rfl), (by kernel_rfl)⟩ (puo (.bool false) ⟨(by kernel_rfl), (by kernel_rfl)⟩ (pu (.bool false) (by kernel_rfl) (seq_nil (wp_condF rfl (wp_skip (rgn (by kernel_rfl) (seq_c (s_add rfl rfl (by omega) ?_))))))))))
        refine pu (iv ((k : Int) + 1)) (by kernel_rfl) (seq_nil ?_)
        exact ⟨rfl, _, (by omega), ⟨k + 1, nn, gg, cc, ccl, ⟨rfl, rfl, rfl, rfl, rfl, rfl, trivial⟩, hI.pickL [3, 4, 5, 6, 7, 8, 9, 10, 11, 12, 13, 14, 15, 16, 17, 18] (by decide) rfl, (by omega), (by omega), (hrr.to (by rw [moved_step hx290]; simp [movedB, *]) rfl), rfl⟩⟩
    ·intro h17
     refine seq_nil (wp_seq (wp_condF rfl (wp_exit ?_)))
     refine wp_seq (rgn (by kernel_rfl) (pu (slv gg nn cc) (by kernel_rfl) (seq_c (s_callTurns hI 69 [slv gg nn cc] 0 rfl (by kernel_rfl) (Sort_c _ gg nn cc ccl (((pl.loads.take k).filter (movedB pl (withoutF pl s).1 dy)).map Ld.hr) (hI.hasg 0 rfl) hrr (by omega)) ?_))))
     intro cl333 w hI r334
     have r334 : Row 1 gg (nn) cc cl333 (flat eInt (sortI (((pl.loads.take k).filter (movedB pl (withoutF pl s).1 dy)).map Ld.hr))) := r334
     refine seq_nil (wp_seq (rgn (by kernel_rfl) (pu (slv gg nn cc) (by kernel_rfl) (seq_c (s_callGivesIn hI 70 [slv gg nn cc] 0 rfl (by kernel_rfl) (Compact_c _ gg nn cc cl333 (sortI (((pl.loads.take k).filter (movedB pl (withoutF pl s).1 dy)).map Ld.hr)) (hI.hasg 0 rfl) r334 (by omega)) ?_)))))
     intro cl335 w hI r336
     refine pu (slv gg ((compactI (sortI (((pl.loads.take k).filter (movedB pl (withoutF pl s).1 dy)).map Ld.hr))).length) cc) (by kernel_rfl) (pu (iv 0) (by kernel_rfl) (seq_nil (wp_ret ?_)))
     have ha : pl.loads.take k = pl.loads := List.take_of_length_le (by omega)
     have e : movedC pl s dy = (compactI (sortI (((pl.loads.take k).filter (movedB pl (withoutF pl s).1 dy)).map Ld.hr)), 0) := by rw [ha]; simp [movedC, h2, h4, hrr]
     exact ⟨.tuple #[slv gg ((compactI (sortI (((pl.loads.take k).filter (movedB pl (withoutF pl s).1 dy)).map Ld.hr))).length) cc, iv 0], Ret.r2 rfl rfl rfl, (by rw [e]; exact ⟨slv gg ((compactI (sortI (((pl.loads.take k).filter (movedB pl (withoutF pl s).1 dy)).map Ld.hr))).length) cc, rfl, gg, cc, cl335, rfl, hI.pickL [0] (by decide) rfl, r336⟩)⟩

end Go.K
