/- What is told of plots. -/
import Derived.Test.YtinkdlmimiefaaaGreatProg
import Derived.Test.YtinkdlmimiefaaaGreatPM15
namespace Go.K
open Go.Proofs Go.RowKit
set_option linter.unusedVariables false
set_option linter.unusedSimpArgs false
set_option maxRecDepth 100000
attribute [local irreducible] Seq Step CallV AnyE opX

def stoodC (p : Pl) (h dy : Int) : Rg × Int := if hourI p h dy = 0 then if (stoodAtF (scnF p dy) (crtF p dy) h).2 then ((stoodAtF (scnF p dy) (crtF p dy) h).1, 0) else (⟨0, 0⟩, 14) else (⟨0, 0⟩, hourI p h dy)
def cartedC (p : Pl) (s dy : Int) : Rg × Int :=
  if dayI p dy = 0 then
    if (placeF (crtF p dy) s).2 then
      if (stoodF (scnF p dy) (crtF p dy)).2 then
        let at_ := (placeF (crtF p dy) s).1.toNat
        let b := (stoodF (scnF p dy) (crtF p dy)).1.getD at_ ⟨0, 0⟩
        let a := (stoodF (scnF p dy) (crtF p dy)).1.getD (at_ + 1) ⟨0, 0⟩
        let x := (crtF p dy).getD at_ ⟨0, 0, 0, 0, 0, 0⟩
        (meetF ⟨x.lo, x.hi⟩ ⟨b.lo - a.hi, b.hi - a.lo⟩, 0)
      else (⟨0, 0⟩, 14)
    else (⟨0, 0⟩, 17)
  else (⟨0, 0⟩, dayI p dy)
def clearC (p : Pl) (h dy : Int) : Int × Int := if (stoodC p h dy).2 = 0 then (answerI (decide ((stoodC p h dy).1.lo = 0)) (decide ((stoodC p h dy).1.hi = 0)), 0) else (0, (stoodC p h dy).2)
def shutC (p : Pl) (h dy : Int) : Bool × Int := if hourI p h dy = 0 then (shutF (scnF p dy) h, 0) else (false, hourI p h dy)
def openC (p : Pl) (h dy : Int) : Int × Int :=
  if hourI p h dy = 0 then
    if (stoodF (scnF p dy) (crtF p dy)).2 then
      if shutF (scnF p dy) h then (0, 0) else
        if (geeseF (scnF p dy) h).2 then
          (answerI (stoodF (withF (withF (scnF p dy) h 0 0) (geeseF (scnF p dy) h).1 1 10000) (crtF p dy)).2 (!((stoodF (withF (scnF p dy) h 1 10000) (crtF p dy)).2 || (stoodF (withF (scnF p dy) (geeseF (scnF p dy) h).1 0 0) (crtF p dy)).2)), 0)
        else (answerI (stoodF (withF (scnF p dy) h 0 0) (crtF p dy)).2 (!(stoodF (withF (scnF p dy) h 1 10000) (crtF p dy)).2), 0)
    else (0, 14)
  else (0, hourI p h dy)
theorem Stood_c (w0 : World) (pl : Pl) (pA1 : Option Addr) (pn1 pc1 : Nat) (pA2 : Option Addr) (pn2 pc2 : Nat) (pA3 : Option Addr) (pn3 pc3 : Nat) (hP : PlotIn w0 pl pA1 pn1 pA2 pn2 pA3 pn3) (h dy : Int) (hn19 : pl.loads.length < 20) : Does Tryz.prog 36 [.agg #[.int .i64 pl.lo, .int .i64 pl.hi, .slice pA1 pn1 pc1, .slice pA2 pn2 pc2, .slice pA3 pn3 pc3, .int .i64 pl.geese], .int .i64 h, .int .i64 dy] w0 fun v w => v = .tuple #[.agg (eRg (stoodC pl h dy).1).toArray, .int .i64 (stoodC pl h dy).2] ∧ Below w0.heap.size w0 w := by
 have hm1 := hP.m1; have hm2 := hP.m2; have hm3 := hP.m3
 refine calls_of (n := 31) Tryz.func36 rfl Tryz.ntmps36 rfl ?_
 have hI := Inv.start w0
 refine wp_seq (rgn (by kernel_rfl) (seq_c (s_boxI hI [iv pl.lo, iv pl.hi, .slice pA1 pn1 pc1, .slice pA2 pn2 pc2, .slice pA3 pn3 pc3, iv pl.geese] rfl ?_)))
 intro b1 w hI
 refine seq_c (s_allocI hI [iv 0, iv 0] Tryz.zeroValue23 rfl ?_)
 intro b2 w hI
 refine pu (iv 0) (by kernel_rfl) (seq_nil (wp_seq (wp_seq (rgn (by kernel_rfl) (seq_c (s_loadK hI 1 6 [iv pl.lo, iv pl.hi, .slice pA1 pn1 pc1, .slice pA2 pn2 pc2, .slice pA3 pn3 pc3, iv pl.geese] Tryz.isAgg28 Tryz.sizeOf28 rfl rfl rfl rfl ?_))))))
 refine pu (iv h) (by kernel_rfl) (pu (iv dy) (by kernel_rfl) (seq_c (s_callv hI 97 [.agg #[iv pl.lo, iv pl.hi, .slice pA1 pn1 pc1, .slice pA2 pn2 pc2, .slice pA3 pn3 pc3, iv pl.geese], iv h, iv dy] (iv (hourI pl h dy)) (by kernel_rfl) (checkHour_c _ pl pA1 pn1 pc1 pA2 pn2 pc2 pA3 pn3 pc3 (hP.inv0 hI) h dy) ?_)))
 intro w hI
 refine pu (iv (hourI pl h dy)) (by kernel_rfl) (seq_nil (wp_seq (rgn (by kernel_rfl) (pu (iv (hourI pl h dy)) (by kernel_rfl) (seq_c (s_neq rfl rfl ?_ ?_))))))
 ·intro h1
  refine seq_nil (wp_condT rfl (wp_seq (rgn (by kernel_rfl) (pu (.agg #[iv 0, iv 0]) (by kernel_rfl) (pu (iv (hourI pl h dy)) (by kernel_rfl) (seq_c (s_store hI 0 2 [iv 0, iv 0] Tryz.sizeOf23 rfl rfl rfl rfl rfl (Nat.le_of_ble_eq_true rfl) ?_)))))))
  intro w hI
  refine pu (iv (hourI pl h dy)) (by kernel_rfl) (seq_nil (wp_ret ?_))
  exact ⟨.tuple #[.agg #[iv 0, iv 0], iv (hourI pl h dy)], Ret.ct rfl rfl (run_loadK hI 0 2 [iv 0, iv 0] Tryz.isAgg23 Tryz.sizeOf23 rfl rfl rfl) rfl, ⟨by simp [stoodC, eRg, h1], hI.below⟩⟩
 ·intro h2
  refine seq_nil (wp_condF rfl (wp_skip (wp_seq (rgn (by kernel_rfl) (seq_c (s_loadK hI 1 6 [iv pl.lo, iv pl.hi, .slice pA1 pn1 pc1, .slice pA2 pn2 pc2, .slice pA3 pn3 pc3, iv pl.geese] Tryz.isAgg28 Tryz.sizeOf28 rfl rfl rfl rfl ?_))))))
  refine pu (iv dy) (by kernel_rfl) ?_
  have hsl := scn_len pl dy; obtain ⟨hsl1, hsl2, hsl3⟩ := hsl; have hsc := crt_len pl dy; have hok_ := plotB_small (hourI_ok h2).1; have hok1 := hok_.s1; have hok2 := hok_.s2; have hok3 := hok_.s3
  refine seq_c (s_callScene hI (q := scnF pl dy) (cs := crtF pl dy) 86 [.agg #[iv pl.lo, iv pl.hi, .slice pA1 pn1 pc1, .slice pA2 pn2 pc2, .slice pA3 pn3 pc3, iv pl.geese], iv dy] (by kernel_rfl) (sceneOf_c _ pl pA1 pn1 pc1 pA2 pn2 pc2 pA3 pn3 pc3 (hP.inv0 hI) (plotB_small (hourI_ok h2).1) dy (by omega)) ?_)
  intro g3 c4 cl5 g7 c8 cl9 g11 c12 cl13 g15 c16 cl17 w hI r6 r10 r14 r18
  refine pu (iv h) (by kernel_rfl) ?_
  rcases Bool.eq_false_or_eq_true ((stoodAtF (scnF pl dy) (crtF pl dy) h).2) with h3 | h3
  ·
   refine seq_c (s_callv hI 98 [.agg #[iv (scnF pl dy).lo, iv (scnF pl dy).hi, slv g3 (scnF pl dy).loads.length c4, slv g7 (scnF pl dy).stands.length c8, slv g11 (scnF pl dy).spells.length c12, iv (scnF pl dy).geese, slv g15 (crtF pl dy).length c16], iv h] (.tuple #[.agg #[iv ((stoodAtF (scnF pl dy) (crtF pl dy) h).1.lo), iv ((stoodAtF (scnF pl dy) (crtF pl dy) h).1.hi)], .bool true]) (by kernel_rfl) (Does.mono (stoodAt_c _ (scnF pl dy) (g3.map fun b => ⟨b, 0, none⟩) (scnF pl dy).loads.length c4 (g7.map fun b => ⟨b, 0, none⟩) (scnF pl dy).stands.length c8 (g11.map fun b => ⟨b, 0, none⟩) (scnF pl dy).spells.length c12 (crtF pl dy) (g15.map fun b => ⟨b, 0, none⟩) (crtF pl dy).length c16 ⟨⟨(hI.rowCells 0 rfl r6), rfl, (hI.rowCells 1 rfl r10), rfl, (hI.rowCells 2 rfl r14), rfl, (by omega), (by omega), (by omega)⟩, (hI.rowCells 3 rfl r18), rfl, r18.cap, (by omega), (by omega), (by omega), (by omega)⟩ (scn_ok (hourI_ok h2).1 dy) h) (fun v w' h => ⟨h.1.trans (by first | (rw [h3]; done) | (rw [h3]; rfl)), h.2⟩)) ?_)
   intro w hI
   refine pu (.tuple #[.agg #[iv ((stoodAtF (scnF pl dy) (crtF pl dy) h).1.lo), iv ((stoodAtF (scnF pl dy) (crtF pl dy) h).1.hi)], .bool true]) (by kernel_rfl) (pu (.agg #[iv ((stoodAtF (scnF pl dy) (crtF pl dy) h).1.lo), iv ((stoodAtF (scnF pl dy) (crtF pl dy) h).1.hi)]) (by kernel_rfl) (pu (.bool true) (by kernel_rfl) (seq_c (s_allocI hI [iv 0, iv 0] Tryz.zeroValue23 rfl ?_))))
   intro b19 w hI
   refine seq_c (s_store hI 0 2 [iv ((stoodAtF (scnF pl dy) (crtF pl dy) h).1.lo), iv ((stoodAtF (scnF pl dy) (crtF pl dy) h).1.hi)] Tryz.sizeOf23 rfl rfl rfl rfl rfl (Nat.le_of_ble_eq_true rfl) ?_)
   intro w hI
   refine pu (.bool true) (by kernel_rfl) (seq_nil (wp_seq (wp_seq (rgn (by kernel_rfl) (pu (.bool true) (by kernel_rfl) (pu (.bool false) (by kernel_rfl) (seq_nil (wp_condF rfl (wp_skip ?_)))))))))
   refine wp_seq (rgn (by kernel_rfl) (seq_c (s_loadK hI 0 2 [iv ((stoodAtF (scnF pl dy) (crtF pl dy) h).1.lo), iv ((stoodAtF (scnF pl dy) (crtF pl dy) h).1.hi)] Tryz.isAgg23 Tryz.sizeOf23 rfl rfl rfl rfl ?_)))
   refine seq_c (s_store hI 5 2 [iv ((stoodAtF (scnF pl dy) (crtF pl dy) h).1.lo), iv ((stoodAtF (scnF pl dy) (crtF pl dy) h).1.hi)] Tryz.sizeOf23 rfl rfl rfl rfl rfl (Nat.le_of_ble_eq_true rfl) ?_)
   intro w hI
   refine pu (iv 0) (by kernel_rfl) (seq_nil (wp_ret ?_))
   exact ⟨.tuple #[.agg #[iv ((stoodAtF (scnF pl dy) (crtF pl dy) h).1.lo), iv ((stoodAtF (scnF pl dy) (crtF pl dy) h).1.hi)], iv 0], Ret.ct rfl rfl (run_loadK hI 5 2 [iv ((stoodAtF (scnF pl dy) (crtF pl dy) h).1.lo), iv ((stoodAtF (scnF pl dy) (crtF pl dy) h).1.hi)] Tryz.isAgg23 Tryz.sizeOf23 rfl rfl rfl) rfl, ⟨by simp [stoodC, eRg, h2, h3], hI.below⟩⟩
  ·
   refine seq_c (s_callv hI 98 [.agg #[iv (scnF pl dy).lo, iv (scnF pl dy).hi, slv g3 (scnF pl dy).loads.length c4, slv g7 (scnF pl dy).stands.length c8, slv g11 (scnF pl dy).spells.length c12, iv (scnF pl dy).geese, slv g15 (crtF pl dy).length c16], iv h] (.tuple #[.agg #[iv ((stoodAtF (scnF pl dy) (crtF pl dy) h).1.lo), iv ((stoodAtF (scnF pl dy) (crtF pl dy) h).1.hi)], .bool false]) (by kernel_rfl) (Does.mono (stoodAt_c _ (scnF pl dy) (g3.map fun b => ⟨b, 0, none⟩) (scnF pl dy).loads.length c4 (g7.map fun b => ⟨b, 0, none⟩) (scnF pl dy).stands.length c8 (g11.map fun b => ⟨b, 0, none⟩) (scnF pl dy).spells.length c12 (crtF pl dy) (g15.map fun b => ⟨b, 0, none⟩) (crtF pl dy).length c16 ⟨⟨(hI.rowCells 0 rfl r6), rfl, (hI.rowCells 1 rfl r10), rfl, (hI.rowCells 2 rfl r14), rfl, (by omega), (by omega), (by omega)⟩, (hI.rowCells 3 rfl r18), rfl, r18.cap, (by omega), (by omega), (by omega), (by omega)⟩ (scn_ok (hourI_ok h2).1 dy) h) (fun v w' h => ⟨h.1.trans (by first | (rw [h3]; done) | (rw [h3]; rfl)), h.2⟩)) ?_)
   intro w hI
   refine pu (.tuple #[.agg #[iv ((stoodAtF (scnF pl dy) (crtF pl dy) h).1.lo), iv ((stoodAtF (scnF pl dy) (crtF pl dy) h).1.hi)], .bool false]) (by kernel_rfl) (pu (.agg #[iv ((stoodAtF (scnF pl dy) (crtF pl dy) h).1.lo), iv ((stoodAtF (scnF pl dy) (crtF pl dy) h).1.hi)]) (by kernel_rfl) (pu (.bool false) (by kernel_rfl) (seq_c (s_allocI hI [iv 0, iv 0] Tryz.zeroValue23 rfl ?_))))
   intro b20 w hI
   refine seq_c (s_store hI 0 2 [iv ((stoodAtF (scnF pl dy) (crtF pl dy) h).1.lo), iv ((stoodAtF (scnF pl dy) (crtF pl dy) h).1.hi)] Tryz.sizeOf23 rfl rfl rfl rfl rfl (Nat.le_of_ble_eq_true rfl) ?_)
   intro w hI
   refine pu (.bool false) (by kernel_rfl) (seq_nil (wp_seq (wp_seq (rgn (by kernel_rfl) (pu (.bool false) (by kernel_rfl) (pu (.bool true) (by kernel_rfl) (seq_nil (wp_condT rfl (wp_seq ?_)))))))))
   refine rgn (by kernel_rfl) (pu (.agg #[iv 0, iv 0]) (by kernel_rfl) (seq_c (s_store hI 5 2 [iv 0, iv 0] Tryz.sizeOf23 rfl rfl rfl rfl rfl (Nat.le_of_ble_eq_true rfl) ?_)))
   intro w hI
   refine pu (iv 14) (by kernel_rfl) (seq_nil (wp_ret ?_))
   exact ⟨.tuple #[.agg #[iv 0, iv 0], iv 14], Ret.ct rfl rfl (run_loadK hI 5 2 [iv 0, iv 0] Tryz.isAgg23 Tryz.sizeOf23 rfl rfl rfl) rfl, ⟨by simp [stoodC, eRg, h2, h3], hI.below⟩⟩


theorem Clear_c (w0 : World) (pl : Pl) (pA1 : Option Addr) (pn1 pc1 : Nat) (pA2 : Option Addr) (pn2 pc2 : Nat) (pA3 : Option Addr) (pn3 pc3 : Nat) (hP : PlotIn w0 pl pA1 pn1 pA2 pn2 pA3 pn3) (h dy : Int) (hn19 : pl.loads.length < 20) : Does Tryz.prog 45 [.agg #[.int .i64 pl.lo, .int .i64 pl.hi, .slice pA1 pn1 pc1, .slice pA2 pn2 pc2, .slice pA3 pn3 pc3, .int .i64 pl.geese], .int .i64 h, .int .i64 dy] w0 fun v w => v = .tuple #[.int .i64 (clearC pl h dy).1, .int .i64 (clearC pl h dy).2] ∧ Below w0.heap.size w0 w := by
 have hm1 := hP.m1; have hm2 := hP.m2; have hm3 := hP.m3
 refine calls_of (n := 27) Tryz.func45 rfl Tryz.ntmps45 rfl ?_
 have hI := Inv.start w0
 refine wp_seq (rgn (by kernel_rfl) (seq_c (s_boxI hI [iv pl.lo, iv pl.hi, .slice pA1 pn1 pc1, .slice pA2 pn2 pc2, .slice pA3 pn3 pc3, iv pl.geese] rfl ?_)))
 intro b1 w hI
 refine pu (iv 0) (by kernel_rfl) (pu (iv 0) (by kernel_rfl) (seq_nil (wp_seq (rgn (by kernel_rfl) (seq_c (s_loadK hI 0 6 [iv pl.lo, iv pl.hi, .slice pA1 pn1 pc1, .slice pA2 pn2 pc2, .slice pA3 pn3 pc3, iv pl.geese] Tryz.isAgg28 Tryz.sizeOf28 rfl rfl rfl rfl ?_))))))
 refine pu (iv h) (by kernel_rfl) (pu (iv dy) (by kernel_rfl) (seq_c (s_callv hI 36 [.agg #[iv pl.lo, iv pl.hi, .slice pA1 pn1 pc1, .slice pA2 pn2 pc2, .slice pA3 pn3 pc3, iv pl.geese], iv h, iv dy] (.tuple #[.agg #[iv (stoodC pl h dy).1.lo, iv (stoodC pl h dy).1.hi], iv (stoodC pl h dy).2]) (by kernel_rfl) (Stood_c _ pl pA1 pn1 pc1 pA2 pn2 pc2 pA3 pn3 pc3 (hP.inv0 hI) h dy (by omega)) ?_)))
 intro w hI
 refine pu (.tuple #[.agg #[iv (stoodC pl h dy).1.lo, iv (stoodC pl h dy).1.hi], iv (stoodC pl h dy).2]) (by kernel_rfl) (pu (.agg #[iv (stoodC pl h dy).1.lo, iv (stoodC pl h dy).1.hi]) (by kernel_rfl) (pu (iv (stoodC pl h dy).2) (by kernel_rfl) (seq_c (s_allocI hI [iv 0, iv 0] Tryz.zeroValue23 rfl ?_))))
 intro b2 w hI
 refine seq_c (s_store hI 0 2 [iv (stoodC pl h dy).1.lo, iv (stoodC pl h dy).1.hi] Tryz.sizeOf23 rfl rfl rfl rfl rfl (Nat.le_of_ble_eq_true rfl) ?_)
 intro w hI
 refine pu (iv (stoodC pl h dy).2) (by kernel_rfl) (seq_nil (wp_seq (wp_seq (rgn (by kernel_rfl) (pu (iv (stoodC pl h dy).2) (by kernel_rfl) (seq_c (s_neq rfl rfl ?_ ?_)))))))
 ·intro h1
  refine seq_nil (wp_condT rfl (wp_seq (rgn (by kernel_rfl) (pu (iv (stoodC pl h dy).2) (by kernel_rfl) (pu (iv 0) (by kernel_rfl) (pu (iv (stoodC pl h dy).2) (by kernel_rfl) (seq_nil (wp_ret ?_))))))))
  exact ⟨.tuple #[iv 0, iv (stoodC pl h dy).2], Ret.r2 rfl rfl rfl, ⟨by simp [clearC, h1], hI.below⟩⟩
 ·intro h2
  refine seq_nil (wp_condF rfl (wp_skip (wp_seq (rgn (by kernel_rfl) (pu (.pointer (some ⟨b2, 0, none⟩)) (by kernel_rfl) (seq_c (s_load1 hI 0 (iv (stoodC pl h dy).1.lo) Tryz.isAgg3 rfl rfl rfl ?_)))))))
  refine seq_c (s_eql rfl rfl ?_ ?_)
  ·intro h3
   refine pu (.pointer (some ⟨b2, 1, none⟩)) (by kernel_rfl) (seq_c (s_load1 hI 0 (iv (stoodC pl h dy).1.hi) Tryz.isAgg3 rfl rfl rfl ?_))
   refine seq_c (s_eql rfl rfl ?_ ?_)
   ·intro h4
    refine seq_c (s_callv hI 112 [.bool true, .bool true] (iv (answerI true true)) (by kernel_rfl) (answer_c true true _) ?_)
    intro w hI
    refine pu (iv (answerI true true)) (by kernel_rfl) (pu (iv 0) (by kernel_rfl) (seq_nil (wp_ret ?_)))
    exact ⟨.tuple #[iv (answerI true true), iv 0], Ret.r2 rfl rfl rfl, ⟨by simp [clearC, h2, h3, h4], hI.below⟩⟩
   ·intro h5
    refine seq_c (s_callv hI 112 [.bool true, .bool false] (iv (answerI true false)) (by kernel_rfl) (answer_c true false _) ?_)
    intro w hI
    refine pu (iv (answerI true false)) (by kernel_rfl) (pu (iv 0) (by kernel_rfl) (seq_nil (wp_ret ?_)))
    exact ⟨.tuple #[iv (answerI true false), iv 0], Ret.r2 rfl rfl rfl, ⟨by simp [clearC, h2, h3, h5], hI.below⟩⟩
  ·intro h6
   refine pu (.pointer (some ⟨b2, 1, none⟩)) (by kernel_rfl) (seq_c (s_load1 hI 0 (iv (stoodC pl h dy).1.hi) Tryz.isAgg3 rfl rfl rfl ?_))
   refine seq_c (s_eql rfl rfl ?_ ?_)
   ·intro h7
    refine seq_c (s_callv hI 112 [.bool false, .bool true] (iv (answerI false true)) (by kernel_rfl) (answer_c false true _) ?_)
    intro w hI
    refine pu (iv (answerI false true)) (by kernel_rfl) (pu (iv 0) (by kernel_rfl) (seq_nil (wp_ret ?_)))
    exact ⟨.tuple #[iv (answerI false true), iv 0], Ret.r2 rfl rfl rfl, ⟨by simp [clearC, h2, h6, h7], hI.below⟩⟩
   ·intro h8
    refine seq_c (s_callv hI 112 [.bool false, .bool false] (iv (answerI false false)) (by kernel_rfl) (answer_c false false _) ?_)
    intro w hI
    refine pu (iv (answerI false false)) (by kernel_rfl) (pu (iv 0) (by kernel_rfl) (seq_nil (wp_ret ?_)))
    exact ⟨.tuple #[iv (answerI false false), iv 0], Ret.r2 rfl rfl rfl, ⟨by simp [clearC, h2, h6, h8], hI.below⟩⟩


end Go.K
